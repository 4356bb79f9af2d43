import PyProof.Rows.All
import Wide.All
import OpenK.AllK
import Wide.FinOn
import HandS.Codes
import HandS.Conv
import HandS.Defaults
import HandS.DictComp
import HandS.EndOwn
import HandS.Evl
import HandS.ExcField
import HandS.ExcIs
import HandS.ExcOwn
import HandS.ForExc
import HandS.ForMost
import HandS.Gcd
import HandS.IsInst
import HandS.Lambda
import HandS.List
import HandS.MakeKwOnly
import HandS.More
import HandS.OwnEq
import HandS.Set
import HandS.SetFor
import HandS.SetTxt0
import HandS.SortKw
import HandS.Star
import HandS.StrMore
import HandS.Strs
import HandS.Style
import HandS.TryMany
import HandS.TupAny
import HandS.Wide
import HandS.WordsExc
import HandS.Zip
import KE.DatumOrd
import KE.GoesEnum
import KE.GoesMore
import KE.KDictDisplayH
import KE.KExcInit
import KE.KExcIs
import PyProof.CallFns
import PyProof.Rows.SortShellAny
import PySem.Challenge.RW_curvebells_k88_whole_blame_of_least_pric
set_option Elab.async false
set_option linter.all false
set_option maxRecDepth 100000
set_option maxHeartbeats 8000000
namespace Hb
open PySem PySem.Spec PyProof.Rows L2
/-! ### heaps -/
theorem same_new {H : Hp} {p : Addr} (h : H p = none) (o : HO) : Same H (upd H p o) := fun b u q => by
  rw [upd_ne (ne_of_none q h)]
  exact q
/-- a new object -/
theorem new_at {H : Hp} {p : Addr} {o : HO} {G : Hp → Prop} (h : H p = none) (k : ∀ H', Same H H' → H' p = some o → G H') : G (upd H p o) := k _ (same_new h o) upd_same
/-- a new tuple, a new list as the value of a display -/
theorem tup_at {H : Hp} {xs : List V} {Q : VK} (hl : xs.length ≤ 1000) (k : ∀ p H', H p = none → Same H H' → H' p = some (.tup xs) → Q (.ref p) H') : xs.length ≤ sizeLine ∧ ∀ p, H p = none → Q (.ref p) (upd H p (.tup xs)) :=
  ⟨Nat.le_trans hl (by decide), fun p hp => k p _ hp (same_new hp _) upd_same⟩
theorem lst_at {H : Hp} {xs : List V} {Q : VK} (hl : xs.length ≤ 1000) (k : ∀ p H', H p = none → Same H H' → H' p = some (.lst xs) → Q (.ref p) H') : xs.length ≤ sizeLine ∧ ∀ p, H p = none → Q (.ref p) (upd H p (.lst xs)) :=
  ⟨Nat.le_trans hl (by decide), fun p hp => k p _ hp (same_new hp _) upd_same⟩
/-- all but the object at p is as it was -/
def Kept (p : Addr) (H H' : Hp) : Prop := ∀ b o, H b = some o → b ≠ p → H' b = some o
theorem Same.kept {H H' : Hp} {p : Addr} (h : Same H H') : Kept p H H' := fun b o e _ => h b o e
theorem Kept.refl (p : Addr) (H : Hp) : Kept p H H := fun _ _ h _ => h
theorem Kept.trans {p : Addr} {H H1 H2 : Hp} (a : Kept p H H1) (b : Kept p H1 H2) : Kept p H H2 := fun c o h n => b c o (a c o h n) n
theorem kept_upd {p : Addr} {H : Hp} {o : HO} : Kept p H (upd H p o) := fun b u e n => by rw [upd_ne n]; exact e
/-- a tuple stays where the list at p changes -/
theorem Kept.tup {p t : Addr} {H H' : Hp} {xs ys : List V} (k : Kept p H H') (hp : H p = some (.lst ys)) (h : H t = some (.tup xs)) : H' t = some (.tup xs) := k t _ h (ne_of h hp (by intro z; cases z))

/-! ### tests -/
theorem iteD {c A B : Prop} [Decidable c] (h1 : c → A) (h2 : ¬ c → B) : if decide c = true then A else B := by
  by_cases h : c
  · rw [decide_eq_true h]
    exact iteT (h1 h)
  · rw [decide_eq_false h]
    exact iteF (h2 h)
theorem iteN {c A B : Prop} [Decidable c] (h1 : ¬ c → A) (h2 : c → B) : if (!decide c) = true then A else B := by
  by_cases h : c
  · rw [decide_eq_true h]
    exact iteF (h2 h)
  · rw [decide_eq_false h]
    exact iteT (h1 h)
theorem divw {i j : Int} (h0 : 0 < j) (h : j < 2 ^ 100) : CDivW i j := wide_div (b := 100) h0 (by omega) (by decide) (by decide)

/-! ### the defs of a text, by their promises -/
structure Cl (P : Program) (w : World) (K : PySem.W.Frag) (mg : Str → Option Value) (base : Heap) (x : Str) (ps : List Str) (dvs : List V) (lv : Nat) (sp : Sp) : Prop where
  ex : ∃ (f : Addr) (fd : FuncData) (ds : List Value), FnOk P w K mg base CX0 lv f fd ps sp ∧ mg x = some (.ref f) ∧ PySem.W.keepIn K (.ref f) = true ∧ Binds K fd ps ds ∧ Vals dvs ds
section
variable {X : Cx} {ps : List Str} {dvs : List V} {lv : Nat} {sp : Sp} {x : Str} {p pos : Pos} {e : Expr} {es : List Expr} {t : TA}
theorem pe_use (C : Cl X.prog X.w X.K X.mg X.base x ps dvs lv sp) (hr : Room lv X.A) (hg : Gl X x) (ha : PA X (e :: es) t) (hdb : (x == ("__debug__" : Str)) = false := by decide)
    (he : starEach (e :: es) X.env = (false, eval e X.env) :: starEach es X.env := by rfl) (hpl : (backTo pos (starEach es X.env)).any (·.1) = false := by rfl) : PE X (.Call (.Name x p) (e :: es) [] pos) (tCall sp dvs E0 t) := by
  obtain ⟨f, fd, ds, F, hm, hk, hb, hd⟩ := C.ex
  exact pe_call F hr hg hm hk hb hd pass0 ha hdb he hpl
theorem pe_use0 (C : Cl X.prog X.w X.K X.mg X.base x ps dvs lv sp) (hr : Room lv X.A) (hg : Gl X x) (hdb : (x == ("__debug__" : Str)) = false := by decide) : PE X (.Call (.Name x p) [] [] pos) (tCall sp dvs E0 tNil) := by
  obtain ⟨f, fd, ds, F, hm, hk, hb, hd⟩ := C.ex
  exact pe_call0 F hr hg hm hk hb hd pass0 hdb
end
/-- f(k = v, ..) without a value by place -/
structure ClK (P : Program) (w : World) (K : PySem.W.Frag) (mg : Str → Option Value) (base : Heap) (x : Str) (ps : List Str) (n : Nat) (ks : List Str) (gV : List V → List V → List V) (lv : Nat) (sp : Sp) : Prop where
  ex : ∃ (f : Addr) (fd : FuncData) (g : List Value → List Value → List Value), FnOk P w K mg base CX0 lv f fd ps sp ∧ mg x = some (.ref f) ∧ PySem.W.keepIn K (.ref f) = true ∧ KBn K fd ps n ks g gV
section
variable {X : Cx} {ps ks : List Str} {n : Nat} {gV : List V → List V → List V} {lv : Nat} {sp : Sp} {x : Str} {p pos : Pos} {e : Expr} {es : List Expr} {t tk : TA} {kws : List Keyword}
theorem pe_useK0 (C : ClK X.prog X.w X.K X.mg X.base x ps 0 ks gV lv sp) (hr : Room lv X.A) (hg : Gl X x) (hkw : PK X kws tk) (hall : (backToKw pos (keywordEach kws X.env)).all (·.1.isSome) = true := by rfl) (hks : (backToKw pos (keywordEach kws X.env)).filterMap (·.1) = ks := by rfl)
    (hdb : (x == ("__debug__" : Str)) = false := by decide) (hpl : ((backTo pos (starEach [] X.env)).any (·.1) || (backToKw pos (keywordEach kws X.env)).any (·.1.isNone)) = false := by rfl) :
    PE X (.Call (.Name x p) [] kws pos) (tCallN 0 ks.length sp gV E0 tNil tk) := by
  obtain ⟨f, fd, g, F, hm, hk, hb⟩ := C.ex
  refine ⟨fun pins s σ H Q I h => ?_⟩
  refine wpAny_Call_Name_kw (ld_glob I hg hm ?_ hdb)
  refine PySem.W.callWith_KW0 (h₀ := X.base) I.ok.mod.kin hk hall ?_ hpl
  refine thn (hkw.run pos pins s σ H _ I h) fun ws s2 ⟨zs, H2, I2, rz, l1, l2, q2⟩ => ⟨I2.kIn, ?_⟩
  rw [hks]
  exact run_fnN (us := []) (vs := []) F hr hb pass0 I2 .nil rz rfl l2 q2
theorem pe_useK (C : ClK X.prog X.w X.K X.mg X.base x ps n ks gV lv sp) (hr : Room lv X.A) (hg : Gl X x) (ha : PA X (e :: es) t) (hkw : PK X kws tk) (hall : (backToKw pos (keywordEach kws X.env)).all (·.1.isSome) = true := by rfl)
    (hks : (backToKw pos (keywordEach kws X.env)).filterMap (·.1) = ks := by rfl)
    (hdb : (x == ("__debug__" : Str)) = false := by decide) (he : starEach (e :: es) X.env = (false, eval e X.env) :: starEach es X.env := by rfl)
    (hpl : ((backTo pos (starEach (e :: es) X.env)).any (·.1) || (backToKw pos (keywordEach kws X.env)).any (·.1.isNone)) = false := by rfl) :
    PE X (.Call (.Name x p) (e :: es) kws pos) (tCallN n ks.length sp gV E0 t tk) := by
  obtain ⟨f, fd, g, F, hm, hk, hb⟩ := C.ex
  exact pe_callN F hr hg hm hk hb pass0 ha hkw hall hks hdb he hpl
end
/-- positional and keyword arguments that fill all parameters of a def with defaults -/
theorem kb_full {K : PySem.W.Frag} {x qual : Str} {params : Arguments} {body : List Stmt} {scope : Scope} {dvs : List V} {f : Addr} {fd : FuncData} {ps : List Str} (F : FunD K x qual params body scope dvs [] f fd) (n : Nat) (ks : List Str) (g : {α : Type} → List α → List α → List α → List α) (hd : dvs ≠ [])
    (hrel : ∀ {vs ds zs : List V} {us its ws : List Value}, Vals vs us → Vals ds its → Vals zs ws → Vals (g vs ds zs) (g us its ws))
    (h : ∀ (T : Addr) (kV doc pm : Value) (an : Option Addr) (cdv ct : Value) (us its ws : List Value), us.length = n → its.length = dvs.length → ws.length = ks.length →
      ∃ k, bindArgs (PySem.W.fnOf x qual params body scope (.ref T) kV doc pm an cdv ct) ⟨us, ks.zip ws⟩ = seqItems? (.ref T) >>= k ∧ k (some its.toArray) = pure (ps.zip (g us its ws))) :
    ∃ its : List Value, KBn K fd ps n ks (fun us ws => g us its ws) (fun vs zs => g vs dvs zs) := by
  obtain ⟨oc, od, dV, kV, doc, pm, an, cdv, ct, osl, rfl, lk, hcd, hD, hK⟩ := F.ex
  rcases hD with ⟨e, _⟩ | ⟨_, T, o, its, m, rfl, lT, oT, rT⟩
  · exact absurd e hd
  · refine ⟨its, ⟨fun s us ws X l1 l2 => ?_, fun r1 r2 => hrel r1 rT r2⟩⟩
    obtain ⟨k, e1, e2⟩ := h T kV doc pm an cdv ct us its ws l1 rT.length.symm l2
    refine BindsTo.of_looks fun M => ?_
    rw [e1]
    exact looks_items X lT oT (.of_pure e2)
end Hb

/-! enumerate of a tuple -/
namespace En
open PySem PySem.Spec PyProof.Rows L2
set_option maxHeartbeats 1000000 in
theorem new_one {v : Value} {it : Obj} {Z : Heap → Prop} (B : Begins v it Z) : Meets (Builtin.«enumerate.__new__» ⟨[.type "enumerate", v], []⟩) (fun _ R z => Z z.heap ∧
    R (.ok (.ret (.ref (z.heap.push it).objs.size))) { z with heap := (z.heap.push it).push { cls := .type "enumerate", data := .fields #[.none, .bool false, .ref z.heap.objs.size, rawInt 0, .none, .none] } }) :=
  .of_wp fun prog w A R z hz => by
    obtain ⟨hp, gs, dr, nt, oss⟩ := z
    obtain ⟨hZ, hR⟩ := hz
    have isub := sub_enumerate
    have begun : ∀ {A' : Around} {E : Value → Shared → Prop} {Q : Value → Shared → Prop}, Q (.ref hp.objs.size) ⟨hp.push it, gs, dr, nt, oss⟩ → wpAny (model prog w) A' (pyIter v) Q E ⟨hp, gs, dr, nt, oss⟩ :=
      fun qq => B.iter prog w _ _ ⟨hp, gs, dr, nt, oss⟩ _ hZ qq
    wp_walk using begun
    refine wpAny_stack_any fun _ => wpAny_pure ?_
    split
    · rename_i cl _ _ _ _ _
      cases (cl == Value.type "enumerate") <;> (wp_walk using begun; exact ⟨_, rfl, hR⟩)
    · wp_walk using begun
      exact ⟨_, rfl, hR⟩
section
variable {prog : Program} {w : World} {A : Around} {E : Value → Shared → Prop} {s : Shared}
theorem call_one {v : Value} {it : Obj} {Z : Heap → Prop} {Q : Value → Shared → Prop} (B : Begins v it Z) (hZ : Z s.heap)
    (fin : ∀ h', IsEnum h' (s.heap.objs.size + 1) s.heap.objs.size 0 .none → h'.get? s.heap.objs.size = some it → (∀ b o, s.heap.get? b = some o → h'.get? b = some o) → Q (.ref (s.heap.objs.size + 1)) { s with heap := h' }) :
    wpAny (model prog w) A (call (.type "enumerate") [v]) Q E s := by
  refine callType_new F.called_enumerate (by decide) (F.typeCall_enumerate_1 v) (F.newCall_enumerate_1 v) (fun self => F.args_object_init_2 self v) F.entry_enumerate_new (new_one B) ⟨hZ, ?_⟩
  have size1 : (s.heap.push it).objs.size = s.heap.objs.size + 1 := Heap.size_push ..
  show _ ∧ _
  rw [size1]
  have at1 : IsEnum ((s.heap.push it).push { cls := .type "enumerate", data := .fields #[.none, .bool false, .ref s.heap.objs.size, rawInt 0, .none, .none] }) (s.heap.objs.size + 1) s.heap.objs.size 0 .none := by
    have z := Heap.get?_push_size (s.heap.push it) (o := { cls := .type "enumerate", data := .fields #[.none, .bool false, .ref s.heap.objs.size, rawInt 0, .none, .none] }) rfl
    rw [size1] at z
    exact z
  exact ⟨⟨_, at1, rfl⟩, fin _ at1 (Heap.get?_push_of_some _ (Heap.get?_push_size _ B.free)) fun b o y => Heap.get?_push_of_some _ (Heap.get?_push_of_some _ y)⟩
end
def IteT (K : PySem.W.Frag) (a : Addr) : It where
  go i H := ∃ (xs : List V) (x : V), SqT K H a xs ∧ xs[i]? = some x
  yld i H v H' := ∃ T x, v = .ref T ∧ H T = none ∧ H' = upd H T (.tup [.int (i : Nat), x]) ∧ ∀ xs, SqT K H a xs → xs[i]? = some x
  stop i H := ∃ xs : List V, SqT K H a xs ∧ xs.length ≤ i
theorem tup_ne {h : Heap} {a it : Addr} {k : Nat} {items : Array Value} (h1 : h.IsTuple a items) (h2 : h.IsTupleIter it a k) : a ≠ it := by
  intro e
  obtain ⟨o, ho, hc, _⟩ := h1
  obtain ⟨o2, ho2, hc2, _⟩ := h2
  rw [← e, ho] at ho2
  cases ho2
  exact absurd (Value.type.inj (hc.symm.trans hc2)) (by decide)
theorem turn_enumT {P : Program} {w : World} {K : PySem.W.Frag} {elts : List Expr} {kk : Nat} {tpos : Pos} (a e it : Addr) :
    Turn P w K (.Tuple elts kk tpos) (IteT K a) [e, it] e (fun i h => (∃ old, IsEnum h e it ((i : Nat) : Int) old) ∧ h.IsTupleIter it a i ∧ e ≠ it) where
  mem := by simp
  obj i h st b hb := by
    obtain ⟨⟨old, hen⟩, ⟨o, ho, _, hd⟩, _⟩ := st
    rcases (show b = e ∨ b = it by simpa using hb) with z | z
    · exact ⟨_, by rw [z]; exact hen, fun v q => by cases (show Data.fields _ = Data.cell v from q)⟩
    · exact ⟨o, by rw [z]; exact ho, fun v q => by rw [hd] at q; cases q⟩
  keep i h h' st k := by
    obtain ⟨⟨old, hen⟩, hti, ne⟩ := st
    exact ⟨⟨old, k e (by simp) _ hen⟩, hti.at fun o q => k it (by simp) o q, ne⟩
  item := by
    intro X hP hw hK hc i pins s σ H E I hf st hg
    subst hP hw hK
    obtain ⟨⟨old, hen⟩, hti, ne⟩ := st
    obtain ⟨xs, x, hq, hx⟩ := hg
    obtain ⟨its, rel, pt, _⟩ := I.tuple hq
    obtain ⟨u, hu, ru⟩ := rel.get hx
    have lt1 : e < s.heap.objs.size := Heap.lt_size hen
    have lt2 : it < s.heap.objs.size := by obtain ⟨_, y, _⟩ := hti; exact Heap.lt_size y
    have ane := tup_ne pt hti
    have elt : ∀ b ∈ [e, it], b < s.heap.objs.size := fun b hb => by
      rcases (show b = e ∨ b = it by simpa using hb) with z | z <;> rw [z] <;> assumption
    have ena : e ≠ a := fun z => by
      obtain ⟨o, ho, hcl, _⟩ := pt
      have q : s.heap.get? e = _ := hen
      rw [z, ho] at q
      cases q
      exact absurd (Value.type.inj hcl) (by decide)
    have hh : X.A.in1.handled = none := I.ok.hd hc
    refine wpAny_pyNext_enum_itemD (Draws.tuple hh it a ane its.toArray) hen ⟨hti, pt⟩ (show i < its.toArray.size by rw [List.size_toArray]; exact (List.getElem?_eq_some_iff.mp hu).1) ne (by simp [ne, ena]) fun y h' tk hy out st' hT hsz hk => ?_
    have hyu : y = u := by
      have : its[i]? = some y := by simpa using hy
      rw [hu] at this
      exact (Option.some.inj this).symm
    subst hyu
    refine ⟨_, rfl, wpAny_letOwnedTupleGo_enum (s := { s with heap := h', toks := tk + 1 }) out fun h2 hen2 sb => ?_⟩
    have t2 : h2.get? s.heap.objs.size = some { cls := .type "tuple", data := .seq #[.int i tk, y] } := (sb.2 _ (Nat.ne_of_gt lt1)).trans hT
    have newT : ObjOk X.prog X.w (upd H s.heap.objs.size (.tup [.int (i : Nat), x])) h2 s.heap.objs.size (.tup [.int (i : Nat), x]) :=
      ⟨by show 2 ≤ sizeLine; decide, [.int i tk, y], .cons ⟨_, rfl⟩ (.cons ru .nil), ⟨_, t2, rfl, _, rfl⟩⟩
    have J : Inv X pins σ (upd H s.heap.objs.size (.tup [.int (i : Nat), x])) { s with heap := h2, toks := tk + 1 } :=
      I.turnedNew (t' := tk + 1) (ch := [e, it]) (fun b ob hb q => (sb.2 b (fun z => hb (by simp [z]))).trans (hk b ob (fun z => hb (by simp [z])) (fun z => hb (by simp [z])) q)) hf (Nat.le_refl _) newT
    refine ⟨.ref s.heap.objs.size, _, J, rfl, ⟨_, x, rfl, I.hok.fresh (Nat.le_refl _), rfl, fun ys hys => by rw [I.tuple_inj hys hq]; exact hx⟩, ⟨⟨y, ?_⟩, st'.1.at fun o q => (sb.2 it (Ne.symm ne)).trans q, ne⟩, fun b hb => ?_⟩
    · rw [show ((i + 1 : Nat) : Int) = (i : Int) + 1 by omega]
      exact hen2
    · rw [upd_ne (Nat.ne_of_lt (elt b hb))]
      exact (hf b hb).1
  done := by
    intro X hP hw hK hc i pins s σ H E I hf st hg
    subst hP hw hK
    obtain ⟨⟨old, hen⟩, hti, ne⟩ := st
    obtain ⟨xs, hq, hx⟩ := hg
    obtain ⟨its, rel, pt, _⟩ := I.tuple hq
    obtain ⟨g0, g1, g2, g3, g4, g5⟩ := hf it (by simp)
    have hl := rel.length
    have hh : X.A.in1.handled = none := I.ok.hd hc
    have T : Draws X.prog X.w X.A.in1 it [it, a] i (fun i v => its.toArray[i]? = some v) (fun k h => k = i ∧ h.IsTupleIter it a i ∧ h.IsTuple a its.toArray) := {
      live := fun _ _ sj => let ⟨o, ho, _⟩ := sj.2.1; ⟨o, ho⟩
      frame := fun _ _ _ sj k => ⟨sj.1, sj.2.1.at fun o q => k it (by simp) o q, sj.2.2.at fun o q => k a (by simp) o q⟩
      item := fun j z Q' E' hj sj hQ => absurd sj.1 (Nat.ne_of_lt hj)
      done := fun z Q' E' sj hE => wpAny_nextOf_tuple_end hh sj.2.1 sj.2.2 (by simp; omega) hE }
    exact wpAny_pyNext_enum_endD T hen ⟨rfl, hti, pt⟩ fun h' eb => ⟨rfl, I.turned (t' := s.toks) (fun b o hb q => eb b o hb q) g0 g1 g3 g4 g5⟩
  self A i s Q E st h := by
    obtain ⟨⟨_, hen⟩, _⟩ := st
    exact wpAny_pyIter_enum hen h
def iEnumT (K : PySem.W.Frag) (ta : TA) : TI := fun σ H R => ta σ H fun vs H1 => ∃ a, vs = [.ref a] ∧ (∃ xs, SqT K H1 a xs) ∧ R (IteT K a) H1
theorem pi_enumT {X : Cx} {e : Expr} {ta : TA} {p pos tpos : Pos} {elts : List Expr} {kk : Nat} (hg : Gl X "enumerate") (hm : X.mg "enumerate" = none) (ha : PA X [e] ta) (hs : starEach [e] X.env = [(false, eval e X.env)] := by rfl) :
    PI X (.Tuple elts kk tpos) (.Call (.Name "enumerate" p) [e] [] pos) (iEnumT X.K ta) := by
  refine ⟨fun pins s σ H R I h => Call_ (ld_blt I hg hm boot_enumerate (PyProof.Rows.callWith_type1 (thn (ha.run pos pins s σ H _ I h) fun us s1 gone => ?_) hs rfl))⟩
  obtain ⟨vs, H1, I1, rel, a, rfl, ⟨xs, hq⟩, qq⟩ := gone
  match us, rel with
  | [_], .cons r .nil =>
    cases r
    obtain ⟨its, _, pt, _⟩ := I1.tuple hq
    refine call_one (begins_tuple a its.toArray) pt fun h' hen hit hk => wpAny_pyIter_enum hen ?_
    have J : Inv X pins σ H1 { s1 with heap := h' } := I1.kept (t' := s1.toks) hk
    refine ⟨s1.heap.objs.size + 1, [s1.heap.objs.size + 1, s1.heap.objs.size], _, _, H1, rfl, J, turn_enumT a (s1.heap.objs.size + 1) s1.heap.objs.size, ⟨⟨.none, hen⟩, ⟨_, hit, rfl, rfl⟩, Nat.succ_ne_self _⟩, fun b hb => ?_, qq⟩
    have le : s1.heap.objs.size ≤ b := by
      rcases (show b = s1.heap.objs.size + 1 ∨ b = s1.heap.objs.size by simpa using hb) with z | z
      · rw [z]; exact Nat.le_succ _
      · rw [z]; exact Nat.le_refl _
    exact I1.fpOk le (I1.hok.fresh le)
/-- for i, x in enumerate(t) -/
theorem for_enumT {K : PySem.W.Frag} {a : Addr} {xs : List V} {g : TG} {tb : TS} {D : Ends} {σ : L2.St} {H : Hp} (Pv : Nat → L2.St → Hp → Prop) (h0 : Pv 0 σ H) (hl : ∀ i σ H, Pv i σ H → SqT K H a xs)
    (hs : ∀ (i : Nat) (x : V) (T : Addr) (σ : L2.St) (H : Hp), xs[i]? = some x → Pv i σ H → H T = none → g (.ref T) σ (upd H T (.tup [.int (i : Nat), x])) fun σ2 H2 => tb { D with nx := Pv (i + 1), ct := Pv (i + 1), bk := D.nx } σ2 H2)
    (hd : ∀ σ H, Pv xs.length σ H → D.nx σ H) :
    ∃ W : Nat → Nat → L2.St → Hp → Prop, (∃ m, W 0 m σ H) ∧ ∀ i m σ H, W i m σ H →
      ((IteT K a).stop i H ∧ D.nx σ H) ∨ ((IteT K a).go i H ∧ ∃ N : L2.St → Hp → Prop, (∀ σ' H', N σ' H' → ∃ m', m' < m ∧ W (i + 1) m' σ' H') ∧ ∀ v H', (IteT K a).yld i H v H' → g v σ H' fun σ2 H2 => tb { D with nx := N, ct := N, bk := D.nx } σ2 H2) := by
  refine ⟨fun i m σ H => m + i = xs.length ∧ Pv i σ H, ⟨xs.length, rfl, h0⟩, fun i m σ H ⟨e, p⟩ => ?_⟩
  have q := hl i σ H p
  cases m with
  | zero => exact .inl ⟨⟨xs, q, by omega⟩, hd σ H (by rw [show xs.length = i by omega]; exact p)⟩
  | succ m =>
    have hlt : i < xs.length := by omega
    refine .inr ⟨⟨xs, xs[i], q, List.getElem?_eq_getElem hlt⟩, Pv (i + 1), fun σ' H' p' => ⟨m, Nat.lt_succ_self m, by omega, p'⟩, fun v H' y => ?_⟩
    obtain ⟨T, x, rfl, hT, rfl, hx⟩ := y
    exact hs i x T σ H (hx xs q) p hT
end En

/-! sets of texts, made of a list or tuple; sorted of them -/
namespace St
open PySem PySem.Spec PyProof.Rows L2 PySem.Froz
section
variable {P : Program} {w : World} {A : Around} {E : Value → Shared → Prop} {s : Shared}
/-- the order of a set's walk is known to be some order -/
def Led (w : World) (t : SetTable) : Prop := w.params.followText "set-order" = true ∨ t.led = true
/-- the set of the texts l stands at a -/
def TS (P : Program) (w : World) (h : Heap) (a : Addr) (l : List Str) : Prop := ∃ D, h.get? a = some (sObj "set" D) ∧ TxOk P w D l ∧ Ris D.2.2.place.toList ∧ Led w D.2.2 ∧ l.Nodup
theorem TS.at {h h' : Heap} {a : Addr} {l : List Str} (R : TS P w h a l) (k : ∀ o, h.get? a = some o → h'.get? a = some o) : TS P w h' a l := let ⟨D, e, r⟩ := R; ⟨D, k _ e, r⟩
theorem tail_ris {es : Array (Int × Value)} {t : SetTable} {ep : Nat} {wd : Bool} (r : Ris t.place.toList) : Ris (tailTx ep es t wd).2.2.place.toList := by
  unfold tailTx
  by_cases c : (!wd && t.tooFull) = true
  · rw [if_pos c]; exact relayAll_ris _ _ _
  · rw [if_neg c]; exact r
theorem tail_led {es : Array (Int × Value)} {t : SetTable} {ep : Nat} {wd : Bool} (r : t.led = true) : (tailTx ep es t wd).2.2.led = true := by
  unfold tailTx
  by_cases c : (!wd && t.tooFull) = true
  · rw [if_pos c]; exact (relayAll_led _ _ _).trans r
  · rw [if_neg c]; exact r
theorem addTx_ris {D : SD} {n : Int} {v : Value} (r : Ris D.2.2.place.toList) : Ris (addTx n v D).2.2.place.toList := by
  have r1 := layNew_ris D.2.2 D.1 n v r
  unfold addTx
  refine tail_ris ?_
  by_cases c : (layNew D.2.2 D.1 n v).2.1.plain = true
  · rw [if_pos c]; exact r1
  · rw [if_neg c]; exact r1
theorem addTx_led {D : SD} {n : Int} {v : Value} (r : Led w D.2.2) : Led w (addTx n v D).2.2 := by
  rcases r with r | r
  · exact .inl r
  · have l1 : (layNew D.2.2 D.1 n v).2.1.led = true := (layNew_led _ _ _ _).trans r
    refine .inr ?_
    unfold addTx
    refine tail_led ?_
    by_cases c : (layNew D.2.2 D.1 n v).2.1.plain = true
    · rw [if_pos c]; exact l1
    · rw [if_neg c]; exact l1
/-- add of a text that is in already -/
theorem had_x {a : Addr} {D : SD} {l : List Str} {k : Str} {u : Tok} {Q : Bool → Shared → Prop} (ho : s.heap.get? a = some (sObj "set" D)) (F : TxOk P w D l) (hk : k ∈ l) (hb : l.length < scanBound)
    (q : Q false s) : wpAny (model P w) A (setAddHashed a (.str k u) (hashStr w k)) Q E s := by
  obtain ⟨es, ep, t⟩ := D
  have small : es.size < scanBound := by rw [show es.size = l.length from F.sz]; exact hb
  obtain ⟨e, he, ie⟩ := (F.mem k).mp hk
  unfold setAddHashed setAddHashedIn
  refine wpAny_holding (wpAny_bind (wpAny_setState_of ho (rfl : (sObj "set" (es, ep, t)).data = .set es ep t) F.fit ?_)); dsimp only
  rw [byScan_of rfl small F.el, if_pos rfl]; unfold setAddByScan
  refine wpAny_bind (wpAny_bind (wpAny_rule (wpAny_bind (wpAny_setScan_of (knd := strKind P w) (is_str k u) ho rfl F.fit F.el ?_))))
  cases hr : es.toList.findIdx? (fun e => (strKind P w).is k e.2) with
  | some j => exact wpAny_pure (wpAny_pure q)
  | none => exact absurd ie (by rw [List.findIdx?_eq_none_iff.mp hr e he]; decide)
theorem ts_add {a : Addr} {l : List Str} {k : Str} {u : Tok} {Q : Bool → Shared → Prop} (R : TS P w s.heap a l) (hb : l.length + 1 < scanBound)
    (q : ∀ h' b, Heap.SameBut a s.heap h' → TS P w h' a (if k ∈ l then l else k :: l) → Q b { s with heap := h' }) : wpAny (model P w) A (setAddHashed a (.str k u) (hashStr w k)) Q E s := by
  obtain ⟨D, e, F, r, ld, nd⟩ := R
  by_cases hk : k ∈ l
  · exact had_x e F hk (by omega) (q s.heap false (Heap.SameBut.refl a s.heap) ⟨D, e, by rw [if_pos hk]; exact F, r, ld, by rw [if_pos hk]; exact nd⟩)
  · refine add_x e F hk hb (q _ true (Heap.SameBut.update s.heap a _) ⟨_, get_upd _ e rfl, ?_, addTx_ris r, addTx_led ld, ?_⟩)
    · rw [if_neg hk]; exact add_ok u F
    · rw [if_neg hk]; exact List.nodup_cons.mpr ⟨hk, nd⟩
/-- S.update(it), texts -/
theorem upd_texts {I : Addr} {fp wr : List Addr} {G : Array GenState → Array GenState → Prop} {n : Nat} {Pv : Nat → Value → Prop} {St : Nat → Shared → Prop} {R : Result → Shared → Prop}
    (W : WalksS P w A.in1 I fp wr G n Pv St) {S : Addr} (hS : S ∉ fp) {xs : List Str} (hn : n = xs.length) (hb : xs.length + 1 < scanBound) (hv : ∀ i v, Pv i v → ∃ x t, xs[i]? = some x ∧ v = .str x t) :
    ∀ (k i : Nat) (s : Shared) (l : List Str), n - i = k → i ≤ n → St i s → TS P w s.heap S l → l.length ≤ i → (∀ x, x ∈ l ↔ x ∈ xs.take i) →
      (∀ s' m, Moved (S :: wr) G s s' → TS P w s'.heap S m → m.length ≤ n → (∀ x, x ∈ m ↔ x ∈ xs) → R (.ok (.ret .none)) s') →
      codeAny (model P w) A (.builtin "set.update.loop" ⟨[.ref S, .ref I], []⟩) R s := by
  have sw : S ∉ wr := fun z => hS (W.sub S z)
  have wide : ∀ {s s' : Shared}, Moved wr G s s' → Moved (S :: wr) G s s' := fun m => m.mono fun b z => List.mem_cons_of_mem S z
  intro k
  induction k with
  | zero =>
    intro i s l e1 e2 st hT hl hm q
    obtain rfl : i = n := by omega
    refine codeAny_builtin F.entry_set_update_loop ?_
    rw [Around.under_plainId F.plain_set_update_loop _]
    refine wpAny_bind (m := pyNext (.ref I)) (W.done s _ _ st fun s' mv => ?_)
    refine wpAny_pure (q s' l (wide mv) (hT.at fun o e => mv.heap S o sw e) hl fun x => ?_)
    rw [hm x, List.take_of_length_le (by omega)]
  | succ k ih =>
    intro i s l e1 e2 st hT hl hm q
    have hi : i < n := by omega
    refine codeAny_builtin F.entry_set_update_loop ?_
    rw [Around.under_plainId F.plain_set_update_loop _]
    refine wpAny_bind (m := pyNext (.ref I)) (W.item i s _ _ hi st fun v s1 pv st1 mv => ?_)
    obtain ⟨x, t, ex, rfl⟩ := hv i v pv
    refine wpAny_bind (m := holding [Value.str x t] (setAdd S (.str x t))) (wpAny_holding ?_)
    unfold setAdd
    refine wpAny_holding (wpAny_bind ((strKind P w).pyHash (is_str (P := P) (w := w) x t) ?_))
    refine ts_add (s := { s1 with toks := s1.toks + 1 }) (hT.at fun o e => mv.heap S o sw e) (by omega) fun h' _ sb hT' => ?_
    have back : ∀ b o, b ≠ S → s1.heap.get? b = some o → h'.get? b = some o := fun b o ne e => (sb.2 b ne).trans e
    refine wpAny_pure ⟨plainId_quiet F.plain_set_update_loop _, ih (i + 1) _ _ (by omega) hi (W.frame _ s1 _ _ st1 (Nat.le_succ _) fun b z o e => back b o (fun y => hS (y ▸ z)) e) hT' ?_ (fun y => ?_) fun s2 m mv2 hT2 hl2 hm2 => ?_⟩
    · split
      · omega
      · rw [List.length_cons]; omega
    · rw [List.take_add_one, ex, List.mem_append, ← hm y]
      show _ ↔ _ ∨ y ∈ [x]
      rw [List.mem_singleton]
      split
      · exact ⟨.inl, fun z => z.elim id fun z => z ▸ (by assumption)⟩
      · rw [List.mem_cons]; exact Or.comm
    · exact q s2 m (Moved.trans W.gtrans ((wide mv).then_heap (Nat.le_succ _) fun b o z e => back b o (fun y => z (y ▸ List.mem_cons_self)) e) mv2) hT2 hl2 hm2
end
end St

namespace St
open PySem PySem.Spec PyProof.Rows L2 PySem.Froz
/-- a new set -/
abbrev S0 (w : World) : Obj := { cls := .type "set", dict := none, data := .set #[] 0 (.fresh 0 0 (!w.params.followText "set-order")) }
section
variable {P : Program} {w : World} {A : Around} {E : Value → Shared → Prop} {s : Shared}
set_option maxHeartbeats 8000000 in
/-- set(x), x a list or a tuple at l: its loop told by `loop` -/
theorem set_call {l : Addr} {T : String} {ol itO : Obj} {Res : Heap → Prop} {Q : Value → Shared → Prop} (hh : A.handled = none) (hol : s.heap.get? l = some ol) (hcl : ol.cls = .type T)
    (n1 : isSubtype (.type T) (.type "set") = pure false) (n2 : isSubtype (.type T) (.type "frozenset") = pure false) (n3 : (Value.type T == Value.type "dict") = false)
    (itr : ∀ {A : Around} {E : Value → Shared → Prop} {s1 : Shared} {Q : Value → Shared → Prop}, s1.heap.get? l = some ol → Q (.ref s1.heap.objs.size) { s1 with heap := s1.heap.push itO } → wpAny (model P w) A (pyIter (.ref l)) Q E s1)
    (loop : ∀ (A' : Around) (R : Result → Shared → Prop) (tk : Tok), A'.handled = none →
      (∀ h' tk', Res h' → (∀ b o, s.heap.get? b = some o → h'.get? b = some o) → R (.ok (.ret .none)) { s with heap := h', toks := tk' }) →
      codeAny (model P w) A' (.builtin "set.update.loop" ⟨[.ref s.heap.objs.size, .ref (s.heap.push (S0 w)).objs.size], []⟩) R { s with heap := (s.heap.push (S0 w)).push itO, toks := tk })
    (q : ∀ h' tk, Res h' → (∀ b o, s.heap.get? b = some o → h'.get? b = some o) → Q (.ref s.heap.objs.size) { s with heap := h', toks := tk }) :
    wpAny (model P w) A (call (.type "set") [.ref l]) Q E s := by
  obtain ⟨_, _, mro⟩ := F.called_set.mro; have made := F.called_set.made; have sub := F.called_set.sub; have k1 := F.called_set.notType; have k2 := F.called_set.canCreate; have ct := F.typeCall_set_1 (.ref l)
  refine wpAny_call (codeAny_of_tree ?_); show wpAny _ _ (callAny (.type "set") _) _ _ _
  refine wpAny_pure ⟨Code.quiet_builtin _ (by decide +kernel), codeAny_builtin F.entry_type_call ?_⟩; rw [Around.under_plain (weight_type_call_type "set" [.ref l] []) rfl]
  repeat any_goals first | assumption | wp_step
  refine codeAny_mono (code_set_led1 (.ref l) (E := E) (Q₁ := fun o s1 => o = .ref s.heap.objs.size ∧ s1 = { s with heap := s.heap.push (S0 w) }) ⟨rfl, rfl⟩) fun r s1 hr => ?_
  rcases r with e | (_ | _ | _ | o)
  · exact hr
  · exact hr.elim
  · exact hr.elim
  · exact hr.elim
  · obtain ⟨rfl, rfl⟩ := hr
    have hS : (s.heap.push (S0 w)).get? s.heap.objs.size = some (S0 w) := Heap.get?_push_size _ rfl
    have hT : Shared.TypeIs { s with heap := s.heap.push (S0 w) } (.ref s.heap.objs.size) "set" := ⟨_, hS, rfl⟩
    have il := F.called_set.init.lookup; have ib := F.called_set.init.bind (.ref s.heap.objs.size)
    repeat any_goals first | assumption | wp_step
    refine codeAny_mono (codeAny_call_builtin (R := wants (fun r s2 => r = .none ∧ ∃ h' tk, s2 = { s with heap := h', toks := tk } ∧ Res h' ∧ (∀ b o, s.heap.get? b = some o → h'.get? b = some o)) E) F.called_set.init.plain F.entry_set_init (check_set_init_1 hT ?_)) fun r2 s2 h2 => ?_
    · have e1 : (s.heap.push (S0 w)).get? l = some ol := Heap.get?_push_of_some _ hol
      have hTl : Shared.TypeIs { s with heap := s.heap.push (S0 w) } (.ref l) T := ⟨ol, e1, hcl⟩
      unfold Builtin.«set.__init__» noKeywords Builtin.Frozenset.updateFrom
      generalize hI : pyIter = PI
      obtain ⟨c, d, da, sl⟩ := ol
      dsimp only at hcl
      subst hcl
      wp_walk
      subst hI
      refine itr e1 (wpAny_bind (wpAny_runValue (loop _ _ _ (by simp [hh]) fun h' tk r k => ?_)))
      exact wpAny_pure (wpAny_pure ⟨rfl, h', tk, rfl, r, k⟩)
    · rcases r2 with e | (_ | _ | _ | o)
      · exact h2
      · exact h2.elim
      · exact h2.elim
      · exact h2.elim
      · obtain ⟨rfl, h', tk, rfl, r, k⟩ := h2
        repeat any_goals first | assumption | wp_step
        exact q _ _ r k
end
end St

namespace St
open PySem PySem.Spec PyProof.Rows L2 PySem.Froz
section
variable {P : Program} {w : World} {A : Around} {E : Value → Shared → Prop} {s : Shared}
theorem lkp {h : Heap} {o o' : Obj} {b : Addr} {u : Obj} (e : h.get? b = some u) : ((h.push o).push o').get? b = some u := Heap.get?_push_of_some _ (Heap.get?_push_of_some _ e)
/-- what the loop of the update leaves -/
theorem moved_end {s s' : Shared} {h1 : Heap} {tk : Tok} {S I : Addr} (hS : S = s.heap.objs.size) (hI : s.heap.objs.size ≤ I) (old : ∀ b o, s.heap.get? b = some o → h1.get? b = some o)
    (m : Moved [S, I] (fun a b => b = a) { s with heap := h1, toks := tk } s') : s' = { s with heap := s'.heap, toks := s'.toks } ∧ ∀ b o, s.heap.get? b = some o → s'.heap.get? b = some o := by
  refine ⟨?_, fun b o e => m.heap b o (fun z => ?_) (old b o e)⟩
  · have g := m.gens
    have d := m.drawn
    have os := m.os
    cases s'
    dsimp only at g d os ⊢
    rw [g, d, os]
  · have lt := Heap.lt_size e
    rcases List.mem_cons.mp z with z | z
    · exact absurd lt (by rw [z, hS]; exact Nat.lt_irrefl _)
    · exact absurd lt (by rw [List.mem_singleton.mp z]; exact Nat.not_lt_of_le hI)
theorem places {l : Addr} (lt : l < s.heap.objs.size) : l ≠ (s.heap.push (S0 w)).objs.size ∧ s.heap.objs.size ∉ [(s.heap.push (S0 w)).objs.size, l] ∧ s.heap.objs.size ≤ (s.heap.push (S0 w)).objs.size := by
  rw [Heap.size_push]
  refine ⟨Nat.ne_of_lt (Nat.lt_succ_of_lt lt), fun z => ?_, Nat.le_succ _⟩
  rcases List.mem_cons.mp z with z | z
  · exact absurd z (Nat.ne_of_lt (Nat.lt_succ_self _))
  · exact absurd (List.mem_singleton.mp z) (Nat.ne_of_gt lt)
/-- set(x), texts, x a list or a tuple -/
theorem set_texts {l : Addr} {its : Array Value} {xs : List Str} {Q : Value → Shared → Prop} (hh : A.handled = none) (hl : s.heap.IsList l its ∨ s.heap.IsTuple l its) (hx : StrsAre its.toList xs) (hb : xs.length + 1 < scanBound)
    (q : ∀ h' tk m, TS P w h' s.heap.objs.size m → m.length ≤ xs.length → (∀ x, x ∈ m ↔ x ∈ xs) → (∀ b o, s.heap.get? b = some o → h'.get? b = some o) → Q (.ref s.heap.objs.size) { s with heap := h', toks := tk }) :
    wpAny (model P w) A (call (.type "set") [.ref l]) Q E s := by
  have len : its.size = xs.length := by rw [← Array.length_toList]; exact hx.len_eq
  have val : ∀ i v, its[i]? = some v → ∃ x t, xs[i]? = some x ∧ v = Value.str x t := fun i v e => by
    rw [← Array.getElem?_toList] at e
    have hi : i < xs.length := by rw [← hx.len_eq]; exact (List.getElem?_eq_some_iff.mp e).1
    obtain ⟨t, et⟩ := hx.at (List.getElem?_eq_getElem hi)
    exact ⟨xs[i], t, List.getElem?_eq_getElem hi, Option.some.inj (e.symm.trans et)⟩
  have fin : ∀ (I : Addr), I = (s.heap.push (S0 w)).objs.size → I = s.heap.objs.size + 1 := fun I e => e.trans (Heap.size_push ..)
  have start : ∀ o', TS P w ((s.heap.push (S0 w)).push o') s.heap.objs.size [] := fun o' =>
    ⟨(#[], 0, .fresh 0 0 (!w.params.followText "set-order")), Heap.get?_push_of_some _ (Heap.get?_push_size _ rfl), TxOk.nil rfl, List.Pairwise.nil, by
      show _ ∨ (!w.params.followText "set-order") = true
      cases w.params.followText "set-order" <;> simp, List.nodup_nil⟩
  rcases hl with ⟨ol, e, c, n, d⟩ | ⟨ol, e, c, n, d⟩
  · refine set_call (Res := fun h' => ∃ m, TS P w h' s.heap.objs.size m ∧ m.length ≤ xs.length ∧ ∀ x, x ∈ m ↔ x ∈ xs) hh e c F.sub_list_set F.sub_list_frozenset (by decide) (fun {_ _ s1 _} e1 h => wpAny_pyIter_list (s := s1) ⟨ol, e1, c, n, d⟩ h) (fun A' R tk ha hR => ?_) fun h' tk ⟨m, r1, r2, r3⟩ k => q h' tk m r1 r2 r3 k
    have lt := Heap.lt_size e
    obtain ⟨ne, nin, up⟩ := places (w := w) lt
    refine upd_texts (s := { s with heap := (s.heap.push (S0 w)).push _, toks := tk }) ((Walks.list (A := A'.in1) (by simpa using ha) _ l ne its).toS) (S := s.heap.objs.size) nin len hb val (its.size - 0) 0 [] (by omega) (Nat.zero_le _)
      ⟨⟨_, Heap.get?_push_size _ rfl, rfl, rfl⟩, ⟨ol, lkp e, c, n, d⟩⟩ (start _) (Nat.zero_le _) (fun x => by simp) fun s' m mv r1 r2 r3 => ?_
    obtain ⟨es, k⟩ := moved_end rfl up (fun b o z => lkp z) mv
    rw [es]
    exact hR _ _ ⟨m, r1, by omega, r3⟩ k
  · refine set_call (Res := fun h' => ∃ m, TS P w h' s.heap.objs.size m ∧ m.length ≤ xs.length ∧ ∀ x, x ∈ m ↔ x ∈ xs) hh e c F.sub_tuple_set F.sub_tuple_frozenset (by decide) (fun {_ _ s1 _} e1 h => wpAny_pyIter_tuple (s := s1) ⟨ol, e1, c, n, d⟩ h) (fun A' R tk ha hR => ?_) fun h' tk ⟨m, r1, r2, r3⟩ k => q h' tk m r1 r2 r3 k
    have lt := Heap.lt_size e
    obtain ⟨ne, nin, up⟩ := places (w := w) lt
    refine upd_texts (s := { s with heap := (s.heap.push (S0 w)).push _, toks := tk }) ((Walks.tuple (A := A'.in1) (by simpa using ha) _ l ne its).toS) (S := s.heap.objs.size) nin len hb val (its.size - 0) 0 [] (by omega) (Nat.zero_le _)
      ⟨⟨_, Heap.get?_push_size _ rfl, rfl, rfl⟩, ⟨ol, lkp e, c, n, d⟩⟩ (start _) (Nat.zero_le _) (fun x => by simp) fun s' m mv r1 r2 r3 => ?_
    obtain ⟨es, k⟩ := moved_end rfl up (fun b o z => lkp z) mv
    rw [es]
    exact hR _ _ ⟨m, r1, by omega, r3⟩ k
/-- set(x), ints, x a list or a tuple -/
theorem set_ints {l : Addr} {its : Array Value} {xs : List Int} {Q : Value → Shared → Prop} (hh : A.handled = none) (hl : s.heap.IsList l its ∨ s.heap.IsTuple l its) (hx : IntsAre its.toList xs) (hb : xs.length + 1 < scanBound)
    (q : ∀ h' tk c, SetR w h' s.heap.objs.size (fun j => decide (j ∈ xs)) c → c ≤ xs.length → (∀ b o, s.heap.get? b = some o → h'.get? b = some o) → Q (.ref s.heap.objs.size) { s with heap := h', toks := tk }) :
    wpAny (model P w) A (call (.type "set") [.ref l]) Q E s := by
  have len : its.size = xs.length := by rw [← Array.length_toList]; exact hx.length
  have val : ∀ i v, its[i]? = some v → ∃ k t, xs[i]? = some k ∧ v = Value.int k t := fun i v e => by
    have hi : i < xs.length := by rw [← len]; exact (Array.getElem?_eq_some_iff.mp e).1
    obtain ⟨t, et⟩ := IntsAre.int_at hx i v (by rw [Array.getElem?_toList]; exact e)
    exact ⟨xs[i], t, List.getElem?_eq_getElem hi, by rw [et, List.getD_eq_getElem?_getD, List.getElem?_eq_getElem hi] <;> rfl⟩
  have start : ∀ o', SetR w ((s.heap.push (S0 w)).push o') s.heap.objs.size (fun j => decide (j ∈ xs.take 0)) 0 := fun o' => setR_new_at (Heap.get?_push_of_some _ (Heap.get?_push_size _ rfl))
  rcases hl with ⟨ol, e, c, n, d⟩ | ⟨ol, e, c, n, d⟩
  · refine set_call (Res := fun h' => ∃ c, SetR w h' s.heap.objs.size (fun j => decide (j ∈ xs)) c ∧ c ≤ xs.length) hh e c F.sub_list_set F.sub_list_frozenset (by decide) (fun {_ _ s1 _} e1 h => wpAny_pyIter_list (s := s1) ⟨ol, e1, c, n, d⟩ h) (fun A' R tk ha hR => ?_) fun h' tk ⟨m, r1, r2⟩ k => q h' tk m r1 r2 k
    have lt := Heap.lt_size e
    obtain ⟨ne, nin, up⟩ := places (w := w) lt
    refine set_update_ints (s := { s with heap := (s.heap.push (S0 w)).push _, toks := tk }) ((Walks.list (A := A'.in1) (by simpa using ha) _ l ne its).toS) s.heap.objs.size nin xs len hb val (its.size - 0) 0 (by omega) (Nat.zero_le _)
      ⟨⟨_, Heap.get?_push_size _ rfl, rfl, rfl⟩, ⟨ol, lkp e, c, n, d⟩⟩ ⟨0, Nat.le_refl 0, start _⟩ fun s' c' mv r2 r1 => ?_
    obtain ⟨es, k⟩ := moved_end rfl up (fun b o z => lkp z) mv
    rw [es]
    exact hR _ _ ⟨c', r1, by omega⟩ k
  · refine set_call (Res := fun h' => ∃ c, SetR w h' s.heap.objs.size (fun j => decide (j ∈ xs)) c ∧ c ≤ xs.length) hh e c F.sub_tuple_set F.sub_tuple_frozenset (by decide) (fun {_ _ s1 _} e1 h => wpAny_pyIter_tuple (s := s1) ⟨ol, e1, c, n, d⟩ h) (fun A' R tk ha hR => ?_) fun h' tk ⟨m, r1, r2⟩ k => q h' tk m r1 r2 k
    have lt := Heap.lt_size e
    obtain ⟨ne, nin, up⟩ := places (w := w) lt
    refine set_update_ints (s := { s with heap := (s.heap.push (S0 w)).push _, toks := tk }) ((Walks.tuple (A := A'.in1) (by simpa using ha) _ l ne its).toS) s.heap.objs.size nin xs len hb val (its.size - 0) 0 (by omega) (Nat.zero_le _)
      ⟨⟨_, Heap.get?_push_size _ rfl, rfl, rfl⟩, ⟨ol, lkp e, c, n, d⟩⟩ ⟨0, Nat.le_refl 0, start _⟩ fun s' c' mv r2 r1 => ?_
    obtain ⟨es, k⟩ := moved_end rfl up (fun b o z => lkp z) mv
    rw [es]
    exact hR _ _ ⟨c', r1, by omega⟩ k
end
end St

namespace St
open PySem PySem.Spec PyProof.Rows L2 PySem.Froz
/-- the set of the texts m -/
def SetT (P : Program) (w : World) (a : Addr) (m : List Str) : HO := .ext fun h => TS P w h a m
theorem setT_new {P : Program} {w : World} {H : Hp} {h : Heap} {a : Addr} {m : List Str} (R : TS P w h a m) : ObjOk P w H h a (SetT P w a m) := by
  have ⟨D, e, _⟩ := R
  exact ⟨R, ⟨_, e⟩, fun h1 h2 p k => TS.at p k⟩
section
variable {X : Cx}
/-- what a list or a tuple holds -/
def SqX (K : PySem.W.Frag) (H : Hp) (a : Addr) (xs : List V) : Prop := SqL K H a xs ∨ SqT K H a xs
theorem inv_any {pins : List (Addr × Obj)} {σ : L2.St} {H : Hp} {s : Shared} {a : Addr} {xs : List V} (I : Inv X pins σ H s) (h : SqX X.K H a xs) : ∃ its : List Value, Vals xs its ∧ (s.heap.IsList a its.toArray ∨ s.heap.IsTuple a its.toArray) := by
  rcases h with h | h
  · obtain ⟨its, r, l, _⟩ := I.list h
    exact ⟨its, r, .inl l.isList⟩
  · obtain ⟨its, r, l, _⟩ := I.tuple h
    exact ⟨its, r, .inr l⟩
def rSetT (K : PySem.W.Frag) (P : Program) (w : World) : List V → Hp → VK → Prop := fun xs H Q => ∃ (l : Addr) (ns : List Str), xs = [.ref l] ∧ SqX K H l (ns.map V.str) ∧ ns.length ≤ 1000 ∧
  ∀ a m, H a = none → m.Nodup → m.length ≤ ns.length → (∀ x, x ∈ m ↔ x ∈ ns) → Q (.ref a) (upd H a (SetT P w a m))
theorem cr_setT (hc : X.calm = true) : CallR X (.type "set") (rSetT X.K X.prog X.w) := by
  intro pins s σ H xs us Q I r h
  obtain ⟨l, ns, rfl, hl, hb, q⟩ := h
  rw [Vals.ref1 r]
  obtain ⟨its, rv, hi⟩ := inv_any I hl
  refine set_texts (xs := ns) (I.ok.hd hc) hi (by simpa using rv.strs) (Nat.lt_of_le_of_lt (Nat.succ_le_succ hb) (by decide)) fun h' tk m R ml mm k => ?_
  obtain ⟨D, e, F, a3, a4, nd⟩ := id R
  exact ⟨.ref s.heap.objs.size, _, I.laid (t' := tk) k (Nat.le_refl _) (setT_new R), rfl, q _ m (I.hok.fresh (Nat.le_refl _)) nd ml mm⟩
def rSetI (K : PySem.W.Frag) (w : World) : List V → Hp → VK → Prop := fun xs H Q => ∃ (l : Addr) (ns : List Int), xs = [.ref l] ∧ SqX K H l (ns.map V.int) ∧ ns.length ≤ 1000 ∧
  ∀ a c, H a = none → c ≤ ns.length → Q (.ref a) (upd H a (SetO w a (fun j => decide (j ∈ ns)) c))
theorem cr_setI (hc : X.calm = true) : CallR X (.type "set") (rSetI X.K X.w) := by
  intro pins s σ H xs us Q I r h
  obtain ⟨l, ns, rfl, hl, hb, q⟩ := h
  rw [Vals.ref1 r]
  obtain ⟨its, rv, hi⟩ := inv_any I hl
  refine set_ints (xs := ns) (I.ok.hd hc) hi (by simpa using ints_of_vals rv) (Nat.lt_of_le_of_lt (Nat.succ_le_succ hb) (by decide)) fun h' tk c R cl k => ?_
  exact ⟨.ref s.heap.objs.size, _, I.laid (t' := tk) k (Nat.le_refl _) (setO_new R), rfl, q _ c (I.hok.fresh (Nat.le_refl _)) cl⟩
/-- sorted of a set of texts -/
def rSortT (P : Program) (w : World) : List V → Hp → VK → Prop := fun xs H Q => ∃ (a : Addr) (m : List Str), xs = [.ref a] ∧ H a = some (SetT P w a m) ∧ m.length ≤ 1000 ∧
  ∀ ys p, ys.Perm m → sortedS ys = true → H p = none → Q (.ref p) (upd H p (.lst (ys.map V.str)))
theorem strs_of : ∀ l : List Value, (∀ v ∈ l, ∃ x t, v = Value.str x t) → ∃ xs, StrsAre l xs
  | [], _ => ⟨[], .nil⟩
  | v :: l, h => by
    obtain ⟨x, t, rfl⟩ := h v List.mem_cons_self
    obtain ⟨xs, r⟩ := strs_of l fun u hu => h u (List.mem_cons_of_mem _ hu)
    exact ⟨x :: xs, .cons x t r⟩
theorem strs_vals : ∀ {l : List Value} {xs : List Str}, StrsAre l xs → ∀ x, x ∈ xs ↔ ∃ t, Value.str x t ∈ l
  | _, _, .nil => fun x => by simp
  | _, _, .cons y t r => fun x => by
    rw [List.mem_cons, strs_vals r x]
    constructor
    · rintro (rfl | ⟨u, hu⟩)
      · exact ⟨t, List.mem_cons_self⟩
      · exact ⟨u, List.mem_cons_of_mem _ hu⟩
    · rintro ⟨u, hu⟩
      rcases List.mem_cons.mp hu with z | z
      · cases z; exact .inl rfl
      · exact .inr ⟨u, z⟩
theorem perm_of : ∀ {b a : List Str}, b.Nodup → a.length = b.length → (∀ x, x ∈ b → x ∈ a) → a.Perm b
  | [], a, _, hl, _ => by
    obtain rfl : a = [] := List.length_eq_zero_iff.mp hl
    exact .refl _
  | x :: b, a, nd, hl, h => by
    obtain ⟨n1, n2⟩ := List.nodup_cons.mp nd
    have hx : x ∈ a := h x List.mem_cons_self
    have pe := List.perm_cons_erase hx
    refine pe.trans (.cons x (perm_of n2 ?_ fun y hy => ?_))
    · have := pe.length_eq
      rw [List.length_cons] at this hl
      omega
    · have ne : y ≠ x := fun z => n1 (z ▸ hy)
      exact (List.mem_erase_of_ne ne).mpr (h y (List.mem_cons_of_mem _ hy))
theorem cr_sortT (hc : X.calm = true) : CallR X (.builtin "sorted") (rSortT X.prog X.w) := by
  intro pins s σ H xs us Q I r h
  obtain ⟨a, m, rfl, ha, hb, q⟩ := h
  rw [Vals.ref1 r]
  obtain ⟨⟨es, ep, t⟩, e, F, ris, led, nd⟩ := id (show TS X.prog X.w s.heap a m from (I.hok a _ ha).1)
  have sz : es.size = m.length := F.sz
  have room : es.size < scanBound := by rw [sz]; exact Nat.lt_of_le_of_lt hb (by decide)
  refine Calls.call_function_entry kind_sorted plain_sorted entry_sorted (args_sorted1 _) ?_; unfold Builtin.«sorted»
  refine wpAny_bind (m := checkCount "sorted" 1 1 _) (wpAny_pure (wpAny_bind (collect_set (A := X.A.in1) (I.ok.hd hc) ⟨_, e, rfl, rfl⟩ F.fit room ris led fun s1 vs k1 z1 g1 o1 pm => ?_)))
  have vl : vs.length = m.length := by rw [pm.length_eq, List.length_map, Array.length_toList, sz]
  obtain ⟨ss, hS⟩ := strs_of vs fun v hv => by
    obtain ⟨x, hx, rfl⟩ := List.mem_map.mp (pm.mem_iff.mp hv)
    obtain ⟨⟨k, hk, _⟩, _⟩ := F.el x hx
    obtain ⟨u, hu⟩ := Value.isStrOf_shape (show Value.isStrOf k x.2 = true from hk)
    exact ⟨k, u, hu⟩
  have sm : ss.Perm m := perm_of nd (by rw [← hS.len_eq, vl]) fun x hx => by
    obtain ⟨y, hy, hk⟩ := (F.mem x).mp hx
    obtain ⟨u, hu⟩ := Value.isStrOf_shape (show Value.isStrOf x y.2 = true from hk)
    exact (strs_vals hS x).mpr ⟨u, hu ▸ pm.mem_iff.mpr (List.mem_map.mpr ⟨y, hy, rfl⟩)⟩
  have line : vs.length ≤ sizeLine := by rw [vl, sizeLine_eq]; omega
  refine wpAny_bind (wpAny_newList ?_ line)
  have hoL : (s1.heap.push (seqObj "list" vs.toArray 0)).get? s1.heap.objs.size = some (seqObj "list" vs.toArray 0) := Heap.get?_push_size _ rfl
  refine wpAny_bind (wpAny_holding (wpAny_call_entry PyProof.Rows.slot_list_sort ⟨_, hoL, rfl⟩ PyProof.Rows.entry_list_sort (list_sort_treeKAny strKind_oneLt hoL hS.keysOf (fun v1 v2 rest z => keyKind_strs (by rw [← z]; exact hS)) line fun st hp hs => ⟨_, rfl, ?_⟩) (PyProof.Rows.args_list_sort _)))
  obtain ⟨ys, y1, y2, y3⟩ := sorted_out_str hS hp hs
  obtain ⟨c, hcx⟩ := sortedHeap_at (vs := vs) (out := (arrOf st).map (·.2)) hoL
  have old : ∀ b u, s.heap.get? b = some u → (sortedHeap (s1.heap.push (seqObj "list" vs.toArray 0)) s1.heap.objs.size vs ((arrOf st).map (·.2))).get? b = some u := fun b u eb => by
    have q1 := k1 b u eb
    rw [sortedHeap_old (Nat.ne_of_lt (Heap.lt_size q1)) (by rw [size_push']; exact Nat.lt_succ_of_lt (Heap.lt_size q1))]
    exact Heap.get?_push_of_some _ q1
  have zl : (ys.map V.str).length ≤ sizeLine := by rw [List.length_map, (y2.trans sm).length_eq, sizeLine_eq]; omega
  have hn : H s1.heap.objs.size = none := I.hok.fresh z1
  have J : Inv X pins σ (upd H s1.heap.objs.size (.lst (ys.map V.str))) { s with heap := sortedHeap (s1.heap.push (seqObj "list" vs.toArray 0)) s1.heap.objs.size vs ((arrOf st).map (·.2)), gens := s1.gens, drawn := s1.drawn, toks := s1.toks } :=
    I.call (ch := []) (Un.laid old z1 hn) (I.hok.laid old z1 ⟨zl, ((arrOf st).map (·.2)).toList, c, vals_of_strs y1, hcx⟩) (by rw [g1]; exact I.bare) (fun _ z => nomatch z)
  refine wpAny_pure ⟨_, rfl, .ref s1.heap.objs.size, _, ?_, rfl, q ys _ (y2.trans sm) y3 hn⟩
  cases s1; cases s; dsimp only at o1; subst o1
  exact J
end
end St

namespace St
open PySem PySem.Spec PyProof.Rows L2 PySem.Froz
/-! ### lots: what sorted(set(..)) is -/
def sLt (a b : Str) : Prop := a.cps.toList < b.cps.toList
instance (a b : Str) : Decidable (sLt a b) := inferInstanceAs (Decidable (_ < _))
theorem sLt_irr (a : Str) : ¬ sLt a a := List.lt_irrefl _
theorem sLt_tr {a b c : Str} (h : sLt a b) (k : sLt b c) : sLt a c := List.lt_trans h k
theorem sLt_as {a b : Str} (h : sLt a b) : ¬ sLt b a := fun k => sLt_irr a (sLt_tr h k)
theorem sLt_eq {a b : Str} (h : ¬ sLt a b) (k : ¬ sLt b a) : a = b := by
  have e : a.cps.toList = b.cps.toList := List.le_antisymm (List.not_lt.mp k) (List.not_lt.mp h)
  cases a; cases b
  exact congrArg Str.mk (Array.toList_inj.mp e)
section
variable {α : Type} (lt : α → α → Prop) [DecidableRel lt] [DecidableEq α]
def ins (x : α) : List α → List α
  | [] => [x]
  | y :: r => if x = y then y :: r else if lt x y then x :: y :: r else y :: ins x r
def lotBy : List α → List α
  | [] => []
  | x :: r => ins lt x (lotBy r)
theorem mem_ins {x y : α} : ∀ {l : List α}, y ∈ ins lt x l ↔ y = x ∨ y ∈ l
  | [] => by simp [ins]
  | z :: r => by
    unfold ins
    split
    · rename_i h; subst h; simp
    · split
      · simp
      · rw [List.mem_cons, mem_ins (l := r), List.mem_cons]
        exact ⟨fun h => h.elim (fun h => .inr (.inl h)) fun h => h.elim .inl fun h => .inr (.inr h), fun h => h.elim (fun h => .inr (.inl h)) fun h => h.elim .inl fun h => .inr (.inr h)⟩
theorem mem_lotBy {y : α} : ∀ {l : List α}, y ∈ lotBy lt l ↔ y ∈ l
  | [] => Iff.rfl
  | x :: r => by rw [lotBy, mem_ins, mem_lotBy (l := r), List.mem_cons]
theorem asc_ins (tri : ∀ a b, ¬ lt a b → ¬ a = b → lt b a) (tr : ∀ a b c, lt a b → lt b c → lt a c) {x : α} : ∀ {l : List α}, l.Pairwise lt → (ins lt x l).Pairwise lt
  | [], _ => List.pairwise_singleton _ _
  | y :: r, h => by
    obtain ⟨h1, h2⟩ := List.pairwise_cons.mp h
    unfold ins
    split
    · exact h
    · rename_i ne
      split
      · rename_i lxy
        exact List.pairwise_cons.mpr ⟨fun z hz => (List.mem_cons.mp hz).elim (fun e => e ▸ lxy) fun hz => tr _ _ _ lxy (h1 z hz), h⟩
      · rename_i nl
        refine List.pairwise_cons.mpr ⟨fun z hz => ?_, asc_ins tri tr h2⟩
        rcases (mem_ins lt).mp hz with rfl | hz
        · exact tri _ _ nl ne
        · exact h1 z hz
theorem asc_lotBy (tri : ∀ a b, ¬ lt a b → ¬ a = b → lt b a) (tr : ∀ a b c, lt a b → lt b c → lt a c) : ∀ l : List α, (lotBy lt l).Pairwise lt
  | [] => .nil
  | x :: r => asc_ins lt tri tr (asc_lotBy tri tr r)
theorem len_ins (x : α) : ∀ l : List α, (ins lt x l).length ≤ l.length + 1
  | [] => Nat.le_refl _
  | y :: r => by
    unfold ins
    split
    · exact Nat.le_succ _
    · split
      · exact Nat.le_refl _
      · exact Nat.succ_le_succ (len_ins x r)
theorem len_lotBy : ∀ l : List α, (lotBy lt l).length ≤ l.length
  | [] => Nat.le_refl _
  | x :: r => Nat.le_trans (len_ins lt x _) (Nat.succ_le_succ (len_lotBy r))
theorem asc_eq (irr : ∀ a, ¬ lt a a) (tr : ∀ a b c, lt a b → lt b c → lt a c) : ∀ {l m : List α}, l.Pairwise lt → m.Pairwise lt → (∀ x, x ∈ l ↔ x ∈ m) → l = m
  | [], [], _, _, _ => rfl
  | [], y :: m, _, _, h => absurd ((h y).mpr List.mem_cons_self) (by simp)
  | x :: l, [], _, _, h => absurd ((h x).mp List.mem_cons_self) (by simp)
  | x :: l, y :: m, hl, hm, h => by
    obtain ⟨l1, l2⟩ := List.pairwise_cons.mp hl
    obtain ⟨m1, m2⟩ := List.pairwise_cons.mp hm
    have e : x = y := by
      rcases List.mem_cons.mp ((h x).mp List.mem_cons_self) with z | z
      · exact z
      · rcases List.mem_cons.mp ((h y).mpr List.mem_cons_self) with u | u
        · exact u.symm
        · exact absurd (tr _ _ _ (m1 x z) (l1 y u)) (irr _)
    subst e
    rw [asc_eq irr tr l2 m2 fun z => ?_]
    constructor
    · intro hz
      rcases List.mem_cons.mp ((h z).mp (List.mem_cons_of_mem _ hz)) with e | e
      · subst e; exact absurd (l1 z hz) (irr z)
      · exact e
    · intro hz
      rcases List.mem_cons.mp ((h z).mpr (List.mem_cons_of_mem _ hz)) with e | e
      · subst e; exact absurd (m1 z hz) (irr z)
      · exact e
end
/-- the lot of texts, of ints -/
def lotS (l : List Str) : List Str := lotBy sLt l
def lotI (l : List Int) : List Int := lotBy (· < ·) l
theorem mem_lotS {x : Str} {l : List Str} : x ∈ lotS l ↔ x ∈ l := mem_lotBy _
theorem mem_lotI {x : Int} {l : List Int} : x ∈ lotI l ↔ x ∈ l := mem_lotBy _
theorem asc_lotS (l : List Str) : (lotS l).Pairwise sLt := asc_lotBy _ (fun a b h k => Decidable.byContradiction fun z => k (sLt_eq h z)) (fun _ _ _ => sLt_tr) l
theorem asc_lotI (l : List Int) : (lotI l).Pairwise (· < ·) := asc_lotBy _ (fun a b h k => (Int.lt_trichotomy a b).elim (absurd · h) fun z => z.elim (absurd · k) id) (fun _ _ _ => Int.lt_trans) l
theorem len_lotS (l : List Str) : (lotS l).length ≤ l.length := len_lotBy _ l
theorem len_lotI (l : List Int) : (lotI l).length ≤ l.length := len_lotBy _ l
theorem lotS_eq {ys l : List Str} (h : ys.Pairwise sLt) (m : ∀ x, x ∈ ys ↔ x ∈ l) : ys = lotS l := asc_eq sLt sLt_irr (fun _ _ _ => sLt_tr) h (asc_lotS l) fun x => (m x).trans mem_lotS.symm
theorem lotI_eq {ys l : List Int} (h : ys.Pairwise (· < ·)) (m : ∀ x, x ∈ ys ↔ x ∈ l) : ys = lotI l := asc_eq (· < ·) (fun _ => Int.lt_irrefl _) (fun _ _ _ => Int.lt_trans) h (asc_lotI l) fun x => (m x).trans mem_lotI.symm
theorem lotS_congr {l m : List Str} (h : ∀ x, x ∈ l ↔ x ∈ m) : lotS l = lotS m := lotS_eq (asc_lotS l) fun x => mem_lotS.trans (h x)
theorem lotI_congr {l m : List Int} (h : ∀ x, x ∈ l ↔ x ∈ m) : lotI l = lotI m := lotI_eq (asc_lotI l) fun x => mem_lotI.trans (h x)
theorem lotS_idem (l : List Str) : lotS (lotS l) = lotS l := lotS_congr fun _ => mem_lotS
theorem asc_nodupS {l : List Str} (h : l.Pairwise sLt) : l.Nodup := List.Pairwise.imp (S := (· ≠ ·)) (fun {a b} (k : sLt a b) (z : a = b) => sLt_irr b (z ▸ k)) h
theorem ris_asc : ∀ {l : List Str} {p : Str}, risingS p l = true → (p :: l).Nodup → (p :: l).Pairwise sLt
  | [], p, _, _ => List.pairwise_singleton _ _
  | x :: r, p, h, nd => by
    obtain ⟨h1, h2⟩ := Bool.and_eq_true_iff.mp (show (!ltCps x.cps.toList p.cps.toList && risingS x r) = true from h)
    obtain ⟨n1, n2⟩ := List.nodup_cons.mp nd
    have a := ris_asc h2 n2
    rw [ltCps_eq, Bool.not_eq_true'] at h1
    have nl : ¬ sLt x p := of_decide_eq_false h1
    have lp : sLt p x := Decidable.byContradiction fun z => n1 (by rw [sLt_eq z nl]; exact List.mem_cons_self)
    exact List.pairwise_cons.mpr ⟨fun z hz => (List.mem_cons.mp hz).elim (fun e => e ▸ lp) fun hz => sLt_tr lp ((List.pairwise_cons.mp a).1 z hz), a⟩
theorem sorted_asc {l : List Str} (h : sortedS l = true) (nd : l.Nodup) : l.Pairwise sLt := match l, h, nd with
  | [], _, _ => .nil
  | _ :: _, h, nd => ris_asc h nd
/-! ### the rules of tuple(sorted(set(x))) -/
section
variable {X : Cx}
theorem cr_or {f : Value} {r1 r2 : List V → Hp → VK → Prop} (a : CallR X f r1) (b : CallR X f r2) : CallR X f (fun xs H Q => r1 xs H Q ∨ r2 xs H Q) := fun pins s σ H xs us Q I r h => h.elim (a pins s σ H xs us Q I r) (b pins s σ H xs us Q I r)
@[irreducible] def rSet (K : PySem.W.Frag) (P : Program) (w : World) : List V → Hp → VK → Prop := fun xs H Q => rSetT K P w xs H Q ∨ rSetI K w xs H Q
@[irreducible] def rSorted2 (P : Program) (w : World) : List V → Hp → VK → Prop := fun xs H Q => rSortT P w xs H Q ∨ rSortedSet w xs H Q
theorem cr_set (hc : X.calm = true) : CallR X (.type "set") (rSet X.K X.prog X.w) := by unfold rSet; exact cr_or (cr_setT hc) (cr_setI hc)
theorem cr_sorted2 (hc : X.calm = true) : CallR X (.builtin "sorted") (rSorted2 X.prog X.w) := by unfold rSorted2; exact cr_or (cr_sortT hc) (cr_sortedSet hc)
end
/-- the reading of tuple(sorted(set(x))) -/
theorem rd_lotS {K : PySem.W.Frag} {P : Program} {w : World} {H : Hp} {a : Addr} {ns : List Str} {Q : VK} (h : SqX K H a (ns.map V.str)) (hl : ns.length ≤ 1000) (q : ∀ p H', Same H H' → H' p = some (.tup ((lotS ns).map V.str)) → Q (.ref p) H') :
    rSet K P w [.ref a] H fun u H1 => rSorted2 P w [u] H1 fun z H2 => ∃ p ys, [z] = [V.ref p] ∧ ((SqL K H2 p ys ∧ ∀ l, H2 l = none → Q (.ref l) (upd H2 l (.tup ys))) ∨ (SqT K H2 p ys ∧ Q (.ref p) H2)) := by
  unfold rSet
  refine .inl ⟨a, ns, rfl, h, hl, fun b m hb nd ml mm => ?_⟩
  unfold rSorted2
  refine .inl ⟨b, m, rfl, upd_same, Nat.le_trans ml hl, fun ys p pm so hp => ⟨p, ys.map V.str, rfl, .inl ⟨SqL.of upd_same, fun l hn => ?_⟩⟩⟩
  have e : ys = lotS ns := lotS_eq (sorted_asc so (pm.nodup_iff.mpr nd)) fun x => pm.mem_iff.trans (mm x)
  rw [e] at hn ⊢
  have s1 : Same H (upd H b (SetT P w b m)) := fun c o e => by rw [upd_ne (ne_of_none e hb)]; exact e
  have s2 : Same (upd H b (SetT P w b m)) (upd (upd H b (SetT P w b m)) p (.lst ((lotS ns).map V.str))) := fun c o e => by rw [upd_ne (ne_of_none e hp)]; exact e
  have s3 : Same (upd (upd H b (SetT P w b m)) p (.lst ((lotS ns).map V.str))) (upd (upd (upd H b (SetT P w b m)) p (.lst ((lotS ns).map V.str))) l (.tup ((lotS ns).map V.str))) := fun c o e => by rw [upd_ne (ne_of_none e hn)]; exact e
  exact q l _ (fun c o e => s3 c o (s2 c o (s1 c o e))) upd_same
theorem rd_lotI {K : PySem.W.Frag} {P : Program} {w : World} {H : Hp} {a : Addr} {ns : List Int} {Q : VK} (h : SqX K H a (ns.map V.int)) (hl : ns.length < 64) (q : ∀ p H', Same H H' → H' p = some (.tup ((lotI ns).map V.int)) → Q (.ref p) H') :
    rSet K P w [.ref a] H fun u H1 => rSorted2 P w [u] H1 fun z H2 => ∃ p ys, [z] = [V.ref p] ∧ ((SqL K H2 p ys ∧ ∀ l, H2 l = none → Q (.ref l) (upd H2 l (.tup ys))) ∨ (SqT K H2 p ys ∧ Q (.ref p) H2)) := by
  unfold rSet
  refine .inr ⟨a, ns, rfl, h, Nat.le_trans (Nat.le_of_lt hl) (by decide), fun b c hb cl => ?_⟩
  unfold rSorted2
  refine .inr ⟨b, _, c, rfl, upd_same, Nat.lt_of_le_of_lt cl hl, fun ys p so mm _ hp => ⟨p, ys.map V.int, rfl, .inl ⟨SqL.of upd_same, fun l hn => ?_⟩⟩⟩
  have e : ys = lotI ns := lotI_eq so fun x => (mm x).trans decide_eq_true_iff
  rw [e] at hn ⊢
  have s1 : Same H (upd H b (SetO w b (fun j => decide (j ∈ ns)) c)) := fun d o e => by rw [upd_ne (ne_of_none e hb)]; exact e
  refine q l _ (fun d o e => ?_) upd_same
  have e1 := s1 d o e
  rw [upd_ne (ne_of_none (by rw [upd_ne (ne_of_none e1 hp)]; exact e1) hn), upd_ne (ne_of_none e1 hp)]
  exact e1
end St

/-! own classes of the text: made, their methods, their == -/
namespace Ow
open PySem PySem.Spec PyProof.Rows L2 Hb
/-- a class of the text, made by its __init__'s promise -/
structure Cm (P : Program) (w : World) (K : PySem.W.Frag) (mg : Str → Option Value) (base : Heap) (x : Str) (C : Addr) (ps : List Str) (lv : Nat) (sp : Sp) : Prop where
  ex : ∃ (f : Addr) (fd : FuncData), Mk K C f ∧ FnOk P w K mg base CX0 lv f fd ps sp ∧ mg x = some (.ref C) ∧ Binds K fd ps []
/-- a class made by keywords alone: its parameters behind self in the order of gV -/
structure CmK (P : Program) (w : World) (K : PySem.W.Frag) (mg : Str → Option Value) (base : Heap) (x : Str) (C : Addr) (ps ks : List Str) (gV : List V → List V → List V) (lv : Nat) (sp : Sp) : Prop where
  ex : ∃ (f : Addr) (fd : FuncData) (g : List Value → List Value → List Value), Mk K C f ∧ FnOk P w K mg base CX0 lv f fd ps sp ∧ mg x = some (.ref C) ∧ KBn K fd ps 1 ks g gV
/-- a method of an own class -/
structure Ch (P : Program) (w : World) (K : PySem.W.Frag) (mg : Str → Option Value) (base : Heap) (C : Addr) (m : Str) (ps : List Str) (dvs : List V) (lv : Nat) (sp : Sp) : Prop where
  ex : ∃ (f : Addr) (fd : FuncData) (ds : List Value), Meth K C m f ∧ FnOk P w K mg base CX0 lv f fd ps sp ∧ Binds K fd ps ds ∧ Vals dvs ds
structure ChK (P : Program) (w : World) (K : PySem.W.Frag) (mg : Str → Option Value) (base : Heap) (C : Addr) (m : Str) (ps ks : List Str) (gV : List V → List V → List V) (lv : Nat) (sp : Sp) : Prop where
  ex : ∃ (f : Addr) (fd : FuncData) (g : List Value → List Value → List Value), Meth K C m f ∧ FnOk P w K mg base CX0 lv f fd ps sp ∧ KBn K fd ps 1 ks g gV
section
variable {X : Cx} {C : Addr} {ps ks : List Str} {gV : List V → List V → List V} {dvs : List V} {lv : Nat} {sp : Sp} {x m : Str} {p pos apos : Pos} {e o : Expr} {es : List Expr} {kws : List Keyword} {t tk : TA} {ta : TE}
theorem pe_new (M : Cm X.prog X.w X.K X.mg X.base x C ps lv sp) (hr : Room (lv + 1) X.A) (hg : Gl X x) (ha : PA X (e :: es) t) (hdb : (x == ("__debug__" : Str)) = false := by decide)
    (he : starEach (e :: es) X.env = (false, eval e X.env) :: starEach es X.env := by rfl) (hpl : (backTo pos (starEach es X.env)).any (·.1) = false := by rfl) : PE X (.Call (.Name x p) (e :: es) [] pos) (tMake C sp [] E0 t) := by
  obtain ⟨f, fd, mk, F, hm, hb⟩ := M.ex
  exact pe_make mk F hr hg hm hb .nil pass0 ha hdb he hpl
theorem pe_newK (M : CmK X.prog X.w X.K X.mg X.base x C ps ks gV lv sp) (hr : Room (lv + 1) X.A) (hg : Gl X x) (hkw : PK X kws tk)
    (hall : (backToKw pos (keywordEach kws X.env)).all (·.1.isSome) = true := by rfl) (hks : (backToKw pos (keywordEach kws X.env)).filterMap (·.1) = ks := by rfl) (hdb : (x == ("__debug__" : Str)) = false := by decide)
    (hpl : ((backTo pos (starEach [] X.env)).any (·.1) || (backToKw pos (keywordEach kws X.env)).any (·.1.isNone)) = false := by rfl) : PE X (.Call (.Name x p) [] kws pos) (tMakeK C 0 ks.length sp gV E0 tNil tk) := by
  obtain ⟨f, fd, g, mk, F, hm, hb⟩ := M.ex
  exact pe_makeK0 mk F hr hg hm hb pass0 hkw hall hks hdb hpl
theorem pe_do {pl : Sem Bool} (M : Ch X.prog X.w X.K X.mg X.base C m ps dvs lv sp) (c : Cls X.K C) (hr : Room lv X.A) (ho : PE X o ta) (ha : PA X (e :: es) t)
    (hst : starEach (e :: es) X.env = (false, eval e X.env) :: starEach es X.env := by rfl) (hpl : (backTo pos (starEach es X.env)).any (·.1) = false := by rfl)
    (ht : eval (.Call (.Attribute o m apos) (e :: es) [] pos) X.env = (do
      let v ← eval o X.env
      standAt apos.atName
      let (f, first) ← holding [v] (getMethod v m pl)
      callWith pos f first (backTo pos (starEach (e :: es) X.env)) (backToKw pos (keywordEach [] X.env))) := by rfl) : PE X (.Call (.Attribute o m apos) (e :: es) [] pos) (tMeth C m sp dvs E0 ta t) := by
  obtain ⟨f, fd, ds, hm, F, hb, hd⟩ := M.ex
  exact pe_meth ho c hm F hr hb hd pass0 ha hst hpl ht
theorem pe_do0 {pl : Sem Bool} (M : Ch X.prog X.w X.K X.mg X.base C m ps dvs lv sp) (c : Cls X.K C) (hr : Room lv X.A) (ho : PE X o ta)
    (ht : eval (.Call (.Attribute o m apos) [] [] pos) X.env = (do
      let v ← eval o X.env
      standAt apos.atName
      let (f, first) ← holding [v] (getMethod v m pl)
      callWith pos f first (backTo pos (starEach [] X.env)) (backToKw pos (keywordEach [] X.env))) := by rfl) : PE X (.Call (.Attribute o m apos) [] [] pos) (tMeth C m sp dvs E0 ta tNil) := by
  obtain ⟨f, fd, ds, hm, F, hb, hd⟩ := M.ex
  exact pe_meth0 ho c hm F hr hb hd pass0 ht
/-- o.m(k = v, ..) -/
def tMethK (C : Addr) (m : Str) (n : Nat) (sp : Sp) (gV : List V → List V → List V) (ta : TE) (tk : TA) : TE := fun σ H Q => ta σ H fun x H1 => ∃ a dx fs, x = .ref a ∧ H1 a = some (.ins C dx fs) ∧ fs.lookup m = none ∧ tk σ H1 fun zs H2 => zs.length = n ∧ sp (gV [x] zs) H2 Q E0
theorem pe_doK {pl : Sem Bool} (M : ChK X.prog X.w X.K X.mg X.base C m ps ks gV lv sp) (c : Cls X.K C) (hr : Room lv X.A) (ho : PE X o ta) (hkw : PK X kws tk)
    (hall : (backToKw pos (keywordEach kws X.env)).all (·.1.isSome) = true := by rfl) (hks : (backToKw pos (keywordEach kws X.env)).filterMap (·.1) = ks := by rfl)
    (hpl : ((backTo pos (starEach [] X.env)).any (·.1) || (backToKw pos (keywordEach kws X.env)).any (·.1.isNone)) = false := by rfl)
    (ht : eval (.Call (.Attribute o m apos) [] kws pos) X.env = (do
      let v ← eval o X.env
      standAt apos.atName
      let (f, first) ← holding [v] (getMethod v m pl)
      callWith pos f first (backTo pos (starEach [] X.env)) (backToKw pos (keywordEach kws X.env))) := by rfl) : PE X (.Call (.Attribute o m apos) [] kws pos) (tMethK C m ks.length sp gV ta tk) := by
  obtain ⟨f, fd, g, hm, F, hb⟩ := M.ex
  refine ⟨fun pins s σ H Q I h => ?_⟩
  refine PySem.W.methodCall_KW (pl := pl) (thn (ho.run pins s σ H _ I h) fun u s1 ⟨x, H1, I1, rx, a, dx, fs, ex, ea, l, q⟩ => ?_) ht
  subst ex; obtain rfl : u = Value.ref a := rx
  refine getmeth_ok I1 ea c hm l ?_
  refine PySem.W.callWith_KW0 (first := [.ref a]) (h₀ := X.base) I1.ok.mod.kin hm.kp hall (thn (hkw.run pos pins s1 σ H1 _ I1 q) fun ws s2 ⟨zs, H2, I2, rz, l1, q2⟩ => ⟨I2.kIn, ?_⟩) hpl
  rw [hks]
  exact run_fnN (us := [.ref a]) (vs := [.ref a]) F hr hb pass0 I2 (.cons rfl .nil) rz rfl l1 q2
end
/-! ### == by an own __eq__, whatever it answers -/
def rEqOwn (C : Addr) (sp : Sp) : R2 := fun x y H Q => ∃ a dx fs b, x = .ref a ∧ y = .ref b ∧ H a = some (.ins C dx fs) ∧ ((∃ dy gs, H b = some (.ins C dy gs)) ∨ ∃ xs, H b = some (.lst xs)) ∧ sp [x, y] H (fun v H' => (∃ k, v = .bl k) ∧ Q v H') E0
theorem op_eqOwn {X : Cx} {C : Addr} {ps : List Str} {lv : Nat} {sp : Sp} (M : Ch X.prog X.w X.K X.mg X.base C "__eq__" ps [] lv sp) (kl : PySem.W.subIn X.K (.type "list") (.ref C) = some false) (hr : Room lv X.A) : OpR X (compareOp .Eq) (rEqOwn C sp) := by
  obtain ⟨f, fd, ds, hm, F, hb, hd⟩ := M.ex
  cases hd
  intro pins s σ H x y v u Q I rx ry h
  obtain ⟨a, dx, fs, b, rfl, rfl, ha, hy, q⟩ := h
  cases rx; cases ry
  obtain ⟨mA, J, _⟩ := ins_get I.hok ha
  obtain ⟨od, J, _⟩ := J.look
  obtain ⟨m, hF⟩ := I.fr
  have run : wpAny (model X.prog X.w) X.A (call (.ref f) [.ref a, .ref b]) (PySem.W.CmpBack (EP X pins σ Q)) X.xe s := by
    have hl := F.len _ _ _ _ q
    have bb := hb s [.ref a, .ref b] I.kIn (by simpa using hl)
    refine wpAny_call (codeAny_mono (F.run X.A X.stack s H ⟨[.ref a, .ref b], []⟩ [.ref a, .ref b] [.ref a, .ref b] _ E0 hr I.env0 (by simpa using bb) (.cons rfl (.cons rfl .nil)) q) fun r s' z => ?_)
    rcases r with e | (_ | _ | _ | w)
    · exact pass0 pins σ H s e s' I z
    · exact False.elim z
    · exact False.elim z
    · exact False.elim z
    · obtain ⟨v, H', I', rv, ⟨k, rfl⟩, q'⟩ := I.after z
      obtain rfl : w = Value.bool k := rv
      exact ⟨.bl k, H', I', rfl, q'⟩
  show wpAny (model X.prog X.w) X.A (richCompare .Eq (.ref a) (.ref b)) (EP X pins σ Q) X.xe s
  rcases hy with ⟨dy, gs, hy⟩ | ⟨xs, hy⟩
  · obtain ⟨mB, J', _⟩ := ins_get I.hok hy
    obtain ⟨od', J', _⟩ := J'.look
    exact PySem.W.cmp_K (op := .Eq) (tb := .ref C) hr.units0 hF I.ok.mod.kin J J'.type (by simp [PySem.W.notFirst]) hm.at_ hm.fn run
  · obtain ⟨z, its, n, r, e⟩ := I.hok b _ hy
    exact PySem.W.cmp_K (op := .Eq) (tb := .type "list") hr.units0 hF I.ok.mod.kin J (fun A Q E s' k q => wpAny_typeOf (T := "list") ⟨_, k _ _ e, rfl⟩ q) (by simp [PySem.W.notFirst, kl]) hm.at_ hm.fn run
/-! ### xs[::n], n reckoned as -1 -/
theorem pe_rev {X : Cx} {e st : Expr} {te ts : TE} {p3 pos : Pos} (he : PE X e te) (hs : PE X st ts) (hN : ∀ σ H (Q : VK), Q (.int (-1)) H → ts σ H Q) :
    PE X (.Subscript e (.Slice none none (some st) p3) pos) (fun σ H Q => te σ H fun x H1 => ∃ a xs, x = .ref a ∧ SqL X.K H1 a xs ∧ ∀ p, H1 p = none → Q (.ref p) (upd H1 p (.lst xs.reverse))) := by
  refine ⟨fun pins s σ H Q I h => Subscript_ (thn (he.run pins s σ H _ I h) fun v s1 ⟨x, H1, I1, r1, a, xs, ex, hx, q⟩ => ?_)⟩
  subst ex; cases r1
  refine wpAny_Slice (thn (po_none.run pins s1 σ H1 (fun o H2 => o = none ∧ H2 = H1) I1 ⟨rfl, rfl⟩) fun vl s2 ⟨l, H2, I2, pl, el, e2⟩ => ?_)
  subst el e2
  refine thn (po_none.run pins s2 σ H2 (fun o H3 => o = none ∧ H3 = H2) I2 ⟨rfl, rfl⟩) fun vu s3 ⟨u, H3, I3, pu, eu, e3⟩ => ?_
  subst eu e3
  refine thn ((po_some hs).run pins s3 σ H3 (fun o H4 => o = some (-1) ∧ H4 = H3) I3 (hN σ H3 _ ⟨-1, rfl, rfl, rfl⟩)) fun vs s4 ⟨o, H4, I4, ps, eo, e4⟩ => ?_
  subst eo e4
  have I5 : Inv X pins σ H4 { s4 with heap := s4.heap.push { cls := .type "slice", data := .fields #[vl, vu, vs] } } := I4.kept (t' := s4.toks) fun b ob q => Heap.get?_push_of_some _ q
  obtain ⟨its, r, ht, hz⟩ := I5.list hx
  have hlen := r.length
  show wpAny (model X.prog X.w) X.A (subscriptTail e (.Slice none none (some st) p3) (.ref a) (.ref s4.heap.objs.size)) (EP X pins σ Q) X.xe { s4 with heap := s4.heap.push { cls := .type "slice", data := .fields #[vl, vu, vs] } }
  refine tail_any (ops := [.ref a, .ref s4.heap.objs.size]) ht.isList.typeIs (PySem.slot_list_getitem.lookup) ?_ (by with_unfolding_all rfl)
  refine wpAny_getItem_list_slice ht.isList (Heap.IsSliceOf.new _ vl vu vs) pl pu ps (by decide) ?_ (by rw [List.size_toArray]; omega)
  rw [PySem.W.krv_pick]
  exact ⟨.ref _, _, I5.laid (t' := s4.toks) (o := .lst xs.reverse) (fun b ob q => Heap.get?_push_of_some _ q) (Nat.le_refl _) ⟨by rw [List.length_reverse]; exact hz, _, 0, r.reverse, Heap.get?_push_size _ rfl⟩, rfl, q _ (I5.hok.fresh (Nat.le_refl _))⟩
/-- o.f within a comprehension -/
theorem pe_fldK {X : Cx} {e : Expr} {f : Str} {pos : Pos} {ta : TE} (K : PySem.W.Frag) (he : PE X e ta) (hb : attributeBase e f X.env (eval e X.env) = eval e X.env) (hK : X.K = K := by rfl) : PE X (.Attribute e f pos) (tFld K ta f) := by
  subst hK
  exact pe_fld he hb
end Ow

namespace Ow
open PySem PySem.Spec PyProof.Rows L2 Hb
/-- {k: v}, k a tuple of ints and texts -/
def tDisp1 (tk tv : TE) : TE := fun σ H Q => ∀ p, H p = none → tk σ (upd H p (.dT [])) fun x H1 => tv σ H1 fun y H2 => H2 p = some (.dT []) ∧ ∃ (k : List Key) (b : Addr), x = .ref b ∧ H2 b = some (.tup (k.map kV)) ∧ Q (.ref p) (upd H2 p (.dT [(k, y)]))
theorem pe_disp1T {X : Cx} {k v : Expr} {tk tv : TE} {pos : Pos} (hu : X.A.units + 1 < cLine) (hk : PE X k tk) (hv : PE X v tv) : PE X (.Dict [some k] [v] pos) (tDisp1 tk tv) := by
  refine ⟨fun pins s σ H Q I q => ?_⟩
  have hn := I.hok.fresh (Nat.le_refl s.heap.objs.size)
  have I1 := I.laid (a := s.heap.objs.size) (o := .dT []) (h' := s.heap.push { cls := .type "dict", data := .dict #[] }) (t' := s.toks) (fun _ _ q => Heap.get?_push_of_some _ q) (Nat.le_refl _) (dt_empty s.heap I.big)
  have pr := pairTrees_length [some k] [v] X.env pos rfl rfl
  rw [arm_eval_Dict, zip_pairTrees [some k] [v] X.env pos rfl rfl, dictDisplay_pairs _ (fun z => by rw [z] at pr; cases pr) (by rw [pr]; exact (by decide : (1 : Nat) < 17))]
  refine wpAny_bind (wpAny_standAt (wpAny_bind (wpAny_subDictH (knd := tupleKind (mixKind X.prog X.w)) (Q := fun d s' => wpAny (model X.prog X.w) X.A (pure (Value.ref d)) (EP X pins σ Q) X.xe s') (show X.A.units < cLine by omega) (by rw [pr]; exact (by decide : (1 : Nat) ≤ 15)) ?_)))
  refine thn ((pps_cons hk hv pps_nil).run pins _ σ _ (fun ps H2 => match ps with | [(x, y)] => H2 s.heap.objs.size = some (.dT []) ∧ ∃ (k : List Key) (b : Addr), x = .ref b ∧ H2 b = some (.tup (k.map kV)) ∧ Q (.ref s.heap.objs.size) (upd H2 s.heap.objs.size (.dT [(k, y)])) | _ => False) I1 (q _ hn)) fun ws s2 ⟨ps, H2, I2, rel, q1⟩ => ?_
  match ps, q1 with
  | [(x, y)], q1 => ?_
  obtain ⟨e, kk, b, ex, eb, q2⟩ := q1
  subst ex
  cases rel with
  | @cons _ bb _ _ h t =>
    obtain ⟨b1, b2⟩ := bb
    cases t
    obtain ⟨r1, r2⟩ := h
    cases (show b1 = Value.ref b from r1)
    obtain ⟨z, hd, xs, rel, dd⟩ := dt_of I2.hok e
    cases rel
    refine ⟨[(kk, b, b2)], ⟨rfl, rfl, key_of I2.hok eb, trivial⟩, dd, fun h' tk' dd' hs => wpAny_pure ⟨.ref s.heap.objs.size, _, ?_, rfl, q2⟩⟩
    obtain ⟨qo, es, ep, hq, h2, h3, h4, _, h5⟩ := dd'
    refine d_write I2 (by rw [e]; exact True.intro) hs ⟨qo, hq⟩ ⟨by show 1 ≤ sizeLine; decide, hd, [(kk, b, b2)], .cons ⟨rfl, ?_, r2⟩ .nil, qo, es, ep, hq, h2, h3, h4, h5⟩
    rw [upd_ne (ne_of eb e (fun z => nomatch z))]
    exact eb
end Ow

/-! walks over a list or a tuple alike; comprehensions that keep some items and turn them -/
namespace Sq
open PySem PySem.Spec PyProof.Rows L2 Hb St
/-- what a program changes in place -/
def Mut (o : HO) : Prop := (∃ ys, o = .lst ys) ∨ ∃ k, o = .dT k
/-- all but the lists and dicts is as it was -/
def Fix (H H' : Hp) : Prop := ∀ b o, H b = some o → ¬ Mut o → H' b = some o
theorem Fix.of {H H' : Hp} (s : Same H H') : Fix H H' := fun b o e _ => s b o e
theorem Fix.refl (H : Hp) : Fix H H := fun _ _ e _ => e
theorem Fix.trans {H H1 H2 : Hp} (a : Fix H H1) (b : Fix H1 H2) : Fix H H2 := fun c o e n => b c o (a c o e n) n
theorem Fix.lst {H : Hp} {p : Addr} {xs : List V} {o : HO} (e : H p = some (.lst xs)) : Fix H (upd H p o) := fun b u eb n => by
  rw [upd_ne fun z => n (.inl ⟨xs, by rw [z, e] at eb; exact (Option.some.inj eb).symm⟩)]; exact eb
theorem Fix.dT {H : Hp} {p : Addr} {k : List (List Key × V)} {o : HO} (e : H p = some (.dT k)) : Fix H (upd H p o) := fun b u eb n => by
  rw [upd_ne fun z => n (.inr ⟨k, by rw [z, e] at eb; exact (Option.some.inj eb).symm⟩)]; exact eb
theorem Fix.new {H : Hp} {p : Addr} {o : HO} (e : H p = none) : Fix H (upd H p o) := Fix.of (same_new e o)
theorem Fix.kept {H H' : Hp} {p : Addr} {xs : List V} (e : H p = some (.lst xs)) (k : Kept p H H') : Fix H H' := fun b o eb n => k b o eb fun z => n (.inl ⟨xs, by rw [z, e] at eb; exact (Option.some.inj eb).symm⟩)
theorem tupFix {K : PySem.W.Frag} {H H' : Hp} {a : Addr} {xs : List V} (f : Fix H H') (h : SqT K H a xs) : SqT K H' a xs := by
  rcases h with (e | ⟨o, e⟩) | r
  · exact .inl (.inl (f _ _ e (by rintro (⟨_, z⟩ | ⟨_, z⟩) <;> cases z)))
  · exact .inl (.inr ⟨o, f _ _ e (by rintro (⟨_, z⟩ | ⟨_, z⟩) <;> cases z)⟩)
  · exact .inr r
theorem lstSame {K : PySem.W.Frag} {H H' : Hp} {a : Addr} {xs : List V} (f : Same H H') (h : SqL K H a xs) : SqL K H' a xs := by
  rcases h with (e | ⟨o, e⟩) | r
  · exact .inl (.inl (f _ _ e))
  · exact .inl (.inr ⟨o, f _ _ e⟩)
  · exact .inr r
theorem sqxSame {K : PySem.W.Frag} {H H' : Hp} {a : Addr} {xs : List V} (s : Same H H') (h : SqX K H a xs) : SqX K H' a xs := h.imp (lstSame s) (tupFix (Fix.of s))
theorem SqX.lst {K : PySem.W.Frag} {H : Hp} {a : Addr} {xs : List V} (e : H a = some (.lst xs)) : SqX K H a xs := .inl (SqL.of e)
theorem SqX.tup {K : PySem.W.Frag} {H : Hp} {a : Addr} {xs : List V} (e : H a = some (.tup xs)) : SqX K H a xs := .inr (SqT.of e)
/-- item by item -/
inductive All2 {α β : Type} (R : α → β → Prop) : List α → List β → Prop where
  | nil : All2 R [] []
  | cons {a b as bs} : R a b → All2 R as bs → All2 R (a :: as) (b :: bs)
namespace All2
variable {α β : Type} {R S : α → β → Prop}
theorem len : ∀ {as : List α} {bs : List β}, All2 R as bs → as.length = bs.length
  | _, _, .nil => rfl
  | _, _, .cons _ t => congrArg (· + 1) t.len
theorem imp (f : ∀ a b, R a b → S a b) : ∀ {as : List α} {bs : List β}, All2 R as bs → All2 S as bs
  | _, _, .nil => .nil
  | _, _, .cons h t => .cons (f _ _ h) (imp f t)
theorem app : ∀ {as as' : List α} {bs bs' : List β}, All2 R as bs → All2 R as' bs' → All2 R (as ++ as') (bs ++ bs')
  | _, _, _, _, .nil, h => h
  | _, _, _, _, .cons h t, k => .cons h (app t k)
theorem get : ∀ {as : List α} {bs : List β}, All2 R as bs → ∀ {i : Nat} {a : α}, as[i]? = some a → ∃ b, bs[i]? = some b ∧ R a b
  | _, _, .cons h t, 0, a, e => ⟨_, rfl, by cases e; exact h⟩
  | _, _, .cons h t, i + 1, a, e => t.get (i := i) e
theorem getR : ∀ {as : List α} {bs : List β}, All2 R as bs → ∀ {i : Nat} {b : β}, bs[i]? = some b → ∃ a, as[i]? = some a ∧ R a b
  | _, _, .cons h t, 0, a, e => ⟨_, rfl, by cases e; exact h⟩
  | _, _, .cons h t, i + 1, a, e => t.getR (i := i) e
theorem map_eq {f : β → α} (h : ∀ a b, R a b → a = f b) : ∀ {as : List α} {bs : List β}, All2 R as bs → as = bs.map f
  | _, _, .nil => rfl
  | _, _, .cons r t => by rw [List.map_cons, h _ _ r, map_eq h t]
theorem of_map {f : β → α} (h : ∀ b, R (f b) b) : ∀ bs : List β, All2 R (bs.map f) bs
  | [] => .nil
  | b :: bs => .cons (h b) (of_map h bs)
theorem drop : ∀ {as : List α} {bs : List β} (n : Nat), All2 R as bs → All2 R (as.drop n) (bs.drop n)
  | _, _, 0, h => h
  | _, _, n + 1, .nil => .nil
  | _, _, n + 1, .cons _ t => drop n t
theorem take : ∀ {as : List α} {bs : List β} (n : Nat), All2 R as bs → All2 R (as.take n) (bs.take n)
  | _, _, 0, h => .nil
  | _, _, n + 1, .nil => .nil
  | _, _, n + 1, .cons h t => .cons h (take n t)
end All2
/-- a walk J over the items xs of the object at a; S: it stands -/
structure Wk (J : It) (a : Addr) (S : Hp → Prop) (xs : List V) : Prop where
  go : ∀ i H, i < xs.length → S H → J.go i H
  stop : ∀ H, S H → J.stop xs.length H
  yld : ∀ i H v H', i < xs.length → S H → J.yld i H v H' → H' = H ∧ xs[i]? = some v
  keep : ∀ {H H' : Hp}, (∀ o, H a = some o → H' a = some o) → S H → S H'
theorem wk_list {K : PySem.W.Frag} {a : Addr} {xs : List V} : Wk (Itl K a) a (fun H => SqL K H a xs) xs where
  go := fun i H hi s => ⟨xs, xs[i], s, List.getElem?_eq_getElem hi⟩
  stop := fun H s => ⟨xs, s, Nat.le_refl _⟩
  yld := fun i H v H' _ s y => ⟨y.1, y.2 xs s⟩
  keep := fun k s => by
    rcases s with (e | ⟨o, e⟩) | r
    · exact .inl (.inl (k _ e))
    · exact .inl (.inr ⟨o, k _ e⟩)
    · exact .inr r
theorem wk_tup {K : PySem.W.Frag} {a : Addr} {xs : List V} : Wk (Itt K a) a (fun H => SqT K H a xs) xs where
  go := fun i H hi s => ⟨xs, xs[i], s, List.getElem?_eq_getElem hi⟩
  stop := fun H s => ⟨xs, s, Nat.le_refl _⟩
  yld := fun i H v H' _ s y => ⟨y.1, y.2 xs s⟩
  keep := fun k s => by
    rcases s with (e | ⟨o, e⟩) | r
    · exact .inl (.inl (k _ e))
    · exact .inl (.inr ⟨o, k _ e⟩)
    · exact .inr r
def iSeq (K : PySem.W.Frag) (tl : TE) : TI := fun σ H R => tl σ H fun x H1 => ∃ a xs, x = .ref a ∧ SqX K H1 a xs ∧ ∀ (J : It) (S : Hp → Prop), Wk J a S xs → S H1 → R J H1
theorem pi_seq {X : Cx} {tg l : Expr} {tl : TE} (hl : PE X l tl) : PI X tg l (iSeq X.K tl) := by
  refine ⟨fun pins s σ H R I h => ?_⟩
  have both : PI X tg l (fun σ H R => iList X.K tl σ H R ∨ iTup X.K tl σ H R) := ⟨fun pins s σ H R I h => h.elim ((pi_list hl).run pins s σ H R I) ((pi_tup hl).run pins s σ H R I)⟩
  refine thn (hl.run pins s σ H _ I h) fun v s1 ⟨x, H1, I1, r1, a, xs, ex, hx, q⟩ => ?_
  subst ex; cases r1
  rcases hx with hx | hx
  · obtain ⟨its, rv, p, hz⟩ := I1.list hx
    refine wpAny_pyIter_list p.isList ⟨s1.heap.objs.size, [s1.heap.objs.size], _, _, H1, rfl, I1.kept (t' := s1.toks) fun b o e => Heap.get?_push_of_some _ e, turn_list a _, ⟨_, Heap.get?_push_size _ rfl, rfl, rfl⟩, fun b hb => ?_, q _ _ wk_list hx⟩
    obtain rfl : b = s1.heap.objs.size := by simpa using hb
    exact I1.fpOk (Nat.le_refl _) (I1.hok.fresh (Nat.le_refl _))
  · obtain ⟨its, rv, p, hz⟩ := I1.tuple hx
    refine wpAny_pyIter_tuple (show s1.heap.IsTuple a its.toArray from p) ⟨s1.heap.objs.size, [s1.heap.objs.size], _, _, H1, rfl, I1.kept (t' := s1.toks) fun b o e => Heap.get?_push_of_some _ e, turn_tuple a _, ⟨_, Heap.get?_push_size _ rfl, rfl, rfl⟩, fun b hb => ?_, q _ _ wk_tup hx⟩
    obtain rfl : b = s1.heap.objs.size := by simpa using hb
    exact I1.fpOk (Nat.le_refl _) (I1.hok.fresh (Nat.le_refl _))
/-! ### comprehensions -/
section
variable {α : Type}
/-- where a comprehension stands: H1 as it began, D its list, ds its items' data -/
structure MF (H1 : Hp) (D : Addr) (ds : List α) (keep : α → Bool) (Rel : Hp → V → α → Prop) (i : Nat) (H : Hp) : Prop where
  same : Same H1 H
  acc : ∃ ys, H D = some (.lst ys) ∧ All2 (Rel H) ys ((ds.take i).filter keep)
variable {H1 : Hp} {D : Addr} {ds : List α} {keep : α → Bool} {Rel : Hp → V → α → Prop} {i : Nat} {H : Hp}
theorem mf_yes (m : MF H1 D ds keep Rel i H) {H' : Hp} {d : α} {y : V} (hd : H1 D = none) (mono : ∀ H H' y d, Fix H H' → Rel H y d → Rel H' y d) (hi : ds[i]? = some d) (hl : ds.length ≤ 100000) (s : Same H H') (k : keep d = true) (r : Rel H' y d) :
    ∃ acc, H' D = some (.lst acc) ∧ acc.length < sizeLine ∧ MF H1 D ds keep Rel (i + 1) (upd H' D (.lst (acc ++ [y]))) := by
  obtain ⟨s1, ys, e, a⟩ := m
  have e' := s _ _ e
  have fx : Fix H' (upd H' D (.lst (ys ++ [y]))) := Fix.lst e'
  refine ⟨ys, e', ?_, fun b o eb => ?_, ys ++ [y], upd_same, ?_⟩
  · have := a.len
    have h2 := List.length_filter_le keep (ds.take i)
    have h3 : (ds.take i).length ≤ ds.length := by rw [List.length_take]; exact Nat.min_le_right _ _
    rw [sizeLine_eq]; omega
  · rw [upd_ne (ne_of_none eb hd)]; exact s b o (s1 b o eb)
  · rw [List.take_add_one, hi, List.filter_append]
    show All2 _ _ (_ ++ [d].filter keep)
    rw [List.filter_cons_of_pos k]
    exact (a.imp fun _ _ q => mono _ _ _ _ ((Fix.of s).trans fx) q).app (.cons (mono _ _ _ _ fx r) .nil)
theorem mf_no (m : MF H1 D ds keep Rel i H) {H' : Hp} {d : α} (mono : ∀ H H' y d, Fix H H' → Rel H y d → Rel H' y d) (hi : ds[i]? = some d) (s : Same H H') (k : keep d = false) : MF H1 D ds keep Rel (i + 1) H' := by
  obtain ⟨s1, ys, e, a⟩ := m
  refine ⟨s1.trans s, ys, s _ _ e, ?_⟩
  rw [List.take_add_one, hi, List.filter_append]
  show All2 _ _ (_ ++ [d].filter keep)
  rw [List.filter_cons_of_neg (by rw [k]; exact Bool.false_ne_true), List.filter_nil, List.append_nil]
  exact a.imp fun _ _ q => mono _ _ _ _ (Fix.of s) q
/-- a comprehension over the walk J -/
theorem lc_mf {J : It} {a : Addr} {S : Hp → Prop} {xs : List V} {ds : List α} (W : Wk J a S xs) (keep : α → Bool) (Rel : Hp → V → α → Prop) {g : TG} {tt : TT} {te : TE} {vs : List Nat} {σ : L2.St} {H1 : Hp} {D : Addr} {Qd : Hp → Prop} (hS : S H1) (hD : H1 D = none)
    (hlen : xs.length = ds.length)
    (hs : ∀ i x d H, xs[i]? = some x → ds[i]? = some d → Same H1 H → MF H1 D ds keep Rel i H → g x (wipe σ vs) H fun σ2 H2 => wipe σ2 vs = wipe σ vs ∧ tt σ2 H2 fun b H3 =>
      if b = true then te σ2 H3 fun y H4 => ∃ acc, H4 D = some (.lst acc) ∧ acc.length < sizeLine ∧ MF H1 D ds keep Rel (i + 1) (upd H4 D (.lst (acc ++ [y]))) else MF H1 D ds keep Rel (i + 1) H3)
    (hd : ∀ H ys, Same H1 H → H D = some (.lst ys) → All2 (Rel H) ys (ds.filter keep) → Qd H) :
    ∃ W : Nat → Nat → Hp → Prop, (∃ m, W 0 m (upd H1 D (.lst []))) ∧ ∀ i m H, W i m H →
      (J.stop i H ∧ Qd H) ∨ (J.go i H ∧ ∃ Nx : Hp → Prop, (∀ H', Nx H' → ∃ m', m' < m ∧ W (i + 1) m' H') ∧ ∀ v H', J.yld i H v H' → g v (wipe σ vs) H' fun σ2 H2 => wipe σ2 vs = wipe σ vs ∧ tt σ2 H2 fun b H3 =>
        if b = true then te σ2 H3 fun y H4 => ∃ acc, H4 D = some (.lst acc) ∧ acc.length < sizeLine ∧ Nx (upd H4 D (.lst (acc ++ [y]))) else Nx H3) := by
  have stand : ∀ {H}, Same H1 H → S H := fun {H} s => W.keep (fun o e => s _ _ e) hS
  refine ⟨fun i m H => m + i = xs.length ∧ MF H1 D ds keep Rel i H, ⟨xs.length, rfl, fun b o e => by rw [upd_ne (ne_of_none e hD)]; exact e, [], upd_same, .nil⟩, fun i m H ⟨e, p⟩ => ?_⟩
  cases m with
  | zero =>
    obtain rfl : i = xs.length := by omega
    obtain ⟨ys, ey, al⟩ := p.acc
    refine .inl ⟨W.stop H (stand p.same), hd H ys p.same ey ?_⟩
    rw [List.take_of_length_le (by omega)] at al
    exact al
  | succ m =>
    have hi : i < xs.length := by omega
    refine .inr ⟨W.go i H hi (stand p.same), MF H1 D ds keep Rel (i + 1), fun H' p' => ⟨m, Nat.lt_succ_self m, by omega, p'⟩, fun v H' y => ?_⟩
    obtain ⟨rfl, ev⟩ := W.yld i H v H' hi (stand p.same) y
    exact hs i v ds[i] H' ev (List.getElem?_eq_getElem (by omega)) p.same p
end
end Sq
namespace Sq
open PySem PySem.Spec PyProof.Rows L2 Hb St
theorem wk_range {lo : Int} {n : Nat} {a : Addr} : Wk (Itr lo n) a (fun _ => True) ((List.range n).map fun k => V.int (lo + (k : Nat))) where
  go := fun i H hi _ => by
    show i < n
    simpa using hi
  stop := fun H _ => by show n ≤ _; simp
  yld := fun i H v H' hi _ y => by
    obtain ⟨e, ev⟩ := (show H' = H ∧ v = .int (lo + (i : Nat)) from y)
    have hn : i < n := by simpa using hi
    exact ⟨e, by rw [ev, List.getElem?_map, List.getElem?_range hn] <;> rfl⟩
  keep := fun _ _ => trivial
/-- a for over the walk J -/
theorem for_sq {J : It} {a : Addr} {S : Hp → Prop} {xs : List V} (W : Wk J a S xs) {g : TG} {tb : TS} {D : Ends} {σ : L2.St} {H : Hp} (Pv : Nat → L2.St → Hp → Prop) (h0 : Pv 0 σ H) (hk : ∀ i σ H, Pv i σ H → S H)
    (hs : ∀ i σ H x, xs[i]? = some x → Pv i σ H → g x σ H fun σ2 H2 => tb { D with nx := Pv (i + 1), ct := Pv (i + 1), bk := D.nx } σ2 H2) (hd : ∀ σ H, Pv xs.length σ H → D.nx σ H) :
    ∃ W : Nat → Nat → L2.St → Hp → Prop, (∃ m, W 0 m σ H) ∧ ∀ i m σ H, W i m σ H →
      (J.stop i H ∧ D.nx σ H) ∨ (J.go i H ∧ ∃ N : L2.St → Hp → Prop, (∀ σ' H', N σ' H' → ∃ m', m' < m ∧ W (i + 1) m' σ' H') ∧ ∀ v H', J.yld i H v H' → g v σ H' fun σ2 H2 => tb { D with nx := N, ct := N, bk := D.nx } σ2 H2) := by
  refine ⟨fun i m σ H => m + i = xs.length ∧ Pv i σ H, ⟨xs.length, rfl, h0⟩, fun i m σ H ⟨e, p⟩ => ?_⟩
  cases m with
  | zero =>
    obtain rfl : i = xs.length := by omega
    exact .inl ⟨W.stop H (hk _ _ _ p), hd σ H p⟩
  | succ m =>
    refine .inr ⟨W.go i H (by omega) (hk _ _ _ p), Pv (i + 1), fun σ' H' p' => ⟨m, Nat.lt_succ_self m, by omega, p'⟩, fun v H' y => ?_⟩
    obtain ⟨rfl, ev⟩ := W.yld i H v H' (by omega) (hk _ _ _ p) y
    exact hs i σ H' v ev p
/-- a walk of enumerate -/
structure En (J : It) (a : Addr) (S : Hp → Prop) (xs : List V) : Prop where
  go : ∀ i H, i < xs.length → S H → J.go i H
  stop : ∀ H, S H → J.stop xs.length H
  yld : ∀ i H v H', S H → J.yld i H v H' → ∃ T x, v = .ref T ∧ H T = none ∧ H' = upd H T (.tup [.int (i : Nat), x]) ∧ xs[i]? = some x
theorem en_list {K : PySem.W.Frag} {a : Addr} {xs : List V} : En (Ite K a) a (fun H => SqL K H a xs) xs where
  go := fun i H hi s => ⟨xs, xs[i], s, List.getElem?_eq_getElem hi⟩
  stop := fun H s => ⟨xs, s, Nat.le_refl _⟩
  yld := fun i H v H' s ⟨T, x, e1, e2, e3, f⟩ => ⟨T, x, e1, e2, e3, f xs s⟩
theorem en_tup {K : PySem.W.Frag} {a : Addr} {xs : List V} : En (En.IteT K a) a (fun H => SqT K H a xs) xs where
  go := fun i H hi s => ⟨xs, xs[i], s, List.getElem?_eq_getElem hi⟩
  stop := fun H s => ⟨xs, s, Nat.le_refl _⟩
  yld := fun i H v H' s ⟨T, x, e1, e2, e3, f⟩ => ⟨T, x, e1, e2, e3, f xs s⟩
theorem for_en {J : It} {a : Addr} {S : Hp → Prop} {xs : List V} (W : En J a S xs) {g : TG} {tb : TS} {D : Ends} {σ : L2.St} {H : Hp} (Pv : Nat → L2.St → Hp → Prop) (h0 : Pv 0 σ H) (hk : ∀ i σ H, Pv i σ H → S H)
    (hs : ∀ i σ H x T, xs[i]? = some x → Pv i σ H → H T = none → g (.ref T) σ (upd H T (.tup [.int (i : Nat), x])) fun σ2 H2 => tb { D with nx := Pv (i + 1), ct := Pv (i + 1), bk := D.nx } σ2 H2) (hd : ∀ σ H, Pv xs.length σ H → D.nx σ H) :
    ∃ W : Nat → Nat → L2.St → Hp → Prop, (∃ m, W 0 m σ H) ∧ ∀ i m σ H, W i m σ H →
      (J.stop i H ∧ D.nx σ H) ∨ (J.go i H ∧ ∃ N : L2.St → Hp → Prop, (∀ σ' H', N σ' H' → ∃ m', m' < m ∧ W (i + 1) m' σ' H') ∧ ∀ v H', J.yld i H v H' → g v σ H' fun σ2 H2 => tb { D with nx := N, ct := N, bk := D.nx } σ2 H2) := by
  refine ⟨fun i m σ H => m + i = xs.length ∧ Pv i σ H, ⟨xs.length, rfl, h0⟩, fun i m σ H ⟨e, p⟩ => ?_⟩
  cases m with
  | zero =>
    obtain rfl : i = xs.length := by omega
    exact .inl ⟨W.stop H (hk _ _ _ p), hd σ H p⟩
  | succ m =>
    refine .inr ⟨W.go i H (by omega) (hk _ _ _ p), Pv (i + 1), fun σ' H' p' => ⟨m, Nat.lt_succ_self m, by omega, p'⟩, fun v H' y => ?_⟩
    obtain ⟨T, x, rfl, hT, rfl, ex⟩ := W.yld i H v H' (hk _ _ _ p) y
    exact hs i σ H x T ex p hT
theorem pi_or {X : Cx} {tg it : Expr} {w1 w2 : TI} (h1 : PI X tg it w1) (h2 : PI X tg it w2) : PI X tg it (fun σ H R => w1 σ H R ∨ w2 σ H R) := ⟨fun pins s σ H R I h => h.elim (h1.run pins s σ H R I) (h2.run pins s σ H R I)⟩
def rTupE (K : PySem.W.Frag) : List V → Hp → VK → Prop := fun xs H Q => ∃ p ys, xs = [V.ref p] ∧ ((SqL K H p ys ∧ ∀ l, H l = none → Q (.ref l) (upd H l (.tup ys))) ∨ (SqT K H p ys ∧ Q (.ref p) H))
theorem call_tupE {X : Cx} : CallR X (.type "tuple") (rTupE X.K) := call_tuple_of
end Sq

/-! comprehensions over zip and enumerate, dict comprehensions, max(.., default=..), D.get(x) of a dict of the text -/
namespace Zp
open PySem PySem.Spec PyProof.Rows L2 Hb St Sq RZ
/-- a walk of new pairs: where S stands, at the i-th turn the i-th of ps -/
structure Wp (J : It) (S : Hp → Prop) (ps : List (V × V)) : Prop where
  go : ∀ i H, i < ps.length → S H → J.go i H
  stop : ∀ H, S H → J.stop ps.length H
  yld : ∀ i H v H', i < ps.length → S H → J.yld i H v H' → ∃ T p, v = .ref T ∧ H T = none ∧ H' = upd H T (.tup [p.1, p.2]) ∧ ps[i]? = some p
  keep : ∀ {H H' : Hp}, Same H H' → S H → S H'
theorem zip_at {xs ys : List V} {i : Nat} {x y : V} (hx : xs[i]? = some x) (hy : ys[i]? = some y) : (xs.zip ys)[i]? = some (x, y) := by
  rw [List.getElem?_zip_eq_some]
  exact ⟨hx, hy⟩
theorem wp_tup {K : PySem.W.Frag} {a b : Addr} {xs ys : List V} : Wp (ItzT K a b) (fun H => SqT K H a xs ∧ SqT K H b ys) (xs.zip ys) where
  go := fun i H hi s => by
    rw [List.length_zip] at hi
    exact ⟨xs, ys, xs[i]'(by omega), ys[i]'(by omega), s.1, s.2, List.getElem?_eq_getElem _, List.getElem?_eq_getElem _⟩
  stop := fun H s => ⟨xs, ys, s.1, s.2, by rw [List.length_zip]; omega⟩
  yld := fun i H v H' hi s ⟨T, x, y, e1, e2, e3, f, g⟩ => ⟨T, (x, y), e1, e2, e3, zip_at (f xs s.1) (g ys s.2)⟩
  keep := fun k s => ⟨tupFix (Fix.of k) s.1, tupFix (Fix.of k) s.2⟩
theorem wp_lst {K : PySem.W.Frag} {a b : Addr} {xs ys : List V} : Wp (Itz K a b) (fun H => SqL K H a xs ∧ SqL K H b ys) (xs.zip ys) where
  go := fun i H hi s => by
    rw [List.length_zip] at hi
    exact ⟨xs, ys, xs[i]'(by omega), ys[i]'(by omega), s.1, s.2, List.getElem?_eq_getElem _, List.getElem?_eq_getElem _⟩
  stop := fun H s => ⟨xs, ys, s.1, s.2, by rw [List.length_zip]; omega⟩
  yld := fun i H v H' hi s ⟨T, x, y, e1, e2, e3, f, g⟩ => ⟨T, (x, y), e1, e2, e3, zip_at (f xs s.1) (g ys s.2)⟩
  keep := fun k s => ⟨lstSame k s.1, lstSame k s.2⟩
section
variable {α : Type}
/-- a comprehension over a walk of pairs -/
theorem lc_mp {J : It} {S : Hp → Prop} {ps : List (V × V)} {ds : List α} (W : Wp J S ps) (keep : α → Bool) (Rel : Hp → V → α → Prop) {g : TG} {tt : TT} {te : TE} {vs : List Nat} {σ : L2.St} {H1 : Hp} {D : Addr} {Qd : Hp → Prop} (hS : S H1) (hD : H1 D = none)
    (hlen : ps.length = ds.length) (mono : ∀ H H' y d, Fix H H' → Rel H y d → Rel H' y d)
    (hs : ∀ i T p d H, ps[i]? = some p → ds[i]? = some d → Same H1 H → H T = some (.tup [p.1, p.2]) → MF H1 D ds keep Rel i H → g (.ref T) (wipe σ vs) H fun σ2 H2 => wipe σ2 vs = wipe σ vs ∧ tt σ2 H2 fun b H3 =>
      if b = true then te σ2 H3 fun y H4 => ∃ acc, H4 D = some (.lst acc) ∧ acc.length < sizeLine ∧ MF H1 D ds keep Rel (i + 1) (upd H4 D (.lst (acc ++ [y]))) else MF H1 D ds keep Rel (i + 1) H3)
    (hd : ∀ H ys, Same H1 H → H D = some (.lst ys) → All2 (Rel H) ys (ds.filter keep) → Qd H) :
    ∃ W : Nat → Nat → Hp → Prop, (∃ m, W 0 m (upd H1 D (.lst []))) ∧ ∀ i m H, W i m H →
      (J.stop i H ∧ Qd H) ∨ (J.go i H ∧ ∃ Nx : Hp → Prop, (∀ H', Nx H' → ∃ m', m' < m ∧ W (i + 1) m' H') ∧ ∀ v H', J.yld i H v H' → g v (wipe σ vs) H' fun σ2 H2 => wipe σ2 vs = wipe σ vs ∧ tt σ2 H2 fun b H3 =>
        if b = true then te σ2 H3 fun y H4 => ∃ acc, H4 D = some (.lst acc) ∧ acc.length < sizeLine ∧ Nx (upd H4 D (.lst (acc ++ [y]))) else Nx H3) := by
  have stand : ∀ {H}, Same H1 H → S H := fun {H} s => W.keep s hS
  refine ⟨fun i m H => m + i = ps.length ∧ MF H1 D ds keep Rel i H, ⟨ps.length, rfl, fun b o e => by rw [upd_ne (ne_of_none e hD)]; exact e, [], upd_same, .nil⟩, fun i m H ⟨e, p⟩ => ?_⟩
  cases m with
  | zero =>
    obtain rfl : i = ps.length := by omega
    obtain ⟨ys, ey, al⟩ := p.acc
    refine .inl ⟨W.stop H (stand p.same), hd H ys p.same ey ?_⟩
    rw [List.take_of_length_le (by omega)] at al
    exact al
  | succ m =>
    have hi : i < ps.length := by omega
    refine .inr ⟨W.go i H hi (stand p.same), MF H1 D ds keep Rel (i + 1), fun H' p' => ⟨m, Nat.lt_succ_self m, by omega, p'⟩, fun v H' y => ?_⟩
    obtain ⟨T, x, rfl, hT, rfl, ex⟩ := W.yld i H v H' hi (stand p.same) y
    have s2 := same_new hT (.tup [x.1, x.2])
    obtain ⟨s1, ys, ey, al⟩ := p
    exact hs i T x ds[i] _ ex (List.getElem?_eq_getElem (by omega)) (s1.trans s2) upd_same ⟨s1.trans s2, ys, s2 _ _ ey, al.imp fun _ _ q => mono _ _ _ _ (Fix.of s2) q⟩
/-- a dict comprehension over enumerate: kvs of the first i items -/
theorem dc_en {J : It} {a : Addr} {S : Hp → Prop} {xs : List V} (W : Sq.En J a S xs) (kv : Nat → List (L2.Key × V)) {g : TG} {tt : TT} {tk tv : TE} {vs : List Nat} {σ : L2.St} {H1 : Hp} {D : Addr} {Qd : Hp → Prop} (hS : ∀ {H}, Same H1 H → S H) (hD : H1 D = none)
    (h0 : kv 0 = []) (hl : ∀ i, (kv i).length < sizeLine)
    (hs : ∀ i T x H, xs[i]? = some x → Same H1 H → H T = some (.tup [.int (i : Nat), x]) → H D = some (.dK (kv i)) → g (.ref T) (wipe σ vs) H fun σ2 H2 => wipe σ2 vs = wipe σ vs ∧ tt σ2 H2 fun b H3 =>
      b = true ∧ tk σ2 H3 fun y H4 => tv σ2 H4 fun z H5 => Same H H5 ∧ ∃ k, y = kV k ∧ putK (kv i) k z = kv (i + 1))
    (hd : ∀ H, Same H1 H → H D = some (.dK (kv xs.length)) → Qd H) (mono : ∀ {σ H} {Q Q' : L2.St → Hp → Prop}, (∀ σ H, Q σ H → Q' σ H) → ∀ v, g v σ H Q → g v σ H Q') (monot : ∀ {σ H} {Q Q' : Bool → Hp → Prop}, (∀ b H, Q b H → Q' b H) → tt σ H Q → tt σ H Q')
    (monok : ∀ {σ H} {Q Q' : VK}, (∀ v H, Q v H → Q' v H) → tk σ H Q → tk σ H Q') (monov : ∀ {σ H} {Q Q' : VK}, (∀ v H, Q v H → Q' v H) → tv σ H Q → tv σ H Q') :
    ∃ W : Nat → Nat → Hp → Prop, (∃ m, W 0 m (upd H1 D (.dK []))) ∧ ∀ i m H, W i m H →
      (J.stop i H ∧ Qd H) ∨ (J.go i H ∧ ∃ Nx : Hp → Prop, (∀ H', Nx H' → ∃ m', m' < m ∧ W (i + 1) m' H') ∧ ∀ v H', J.yld i H v H' → g v (wipe σ vs) H' fun σ2 H2 => wipe σ2 vs = wipe σ vs ∧ tt σ2 H2 fun b H3 =>
        if b = true then tk σ2 H3 fun y H4 => tv σ2 H4 fun z H5 => ∃ kvs k, y = kV k ∧ H5 D = some (.dK kvs) ∧ kvs.length < sizeLine ∧ Nx (upd H5 D (.dK (putK kvs k z))) else Nx H3) := by
  refine ⟨fun i m H => m + i = xs.length ∧ Same H1 H ∧ H D = some (.dK (kv i)), ⟨xs.length, rfl, fun b o e => by rw [upd_ne (ne_of_none e hD)]; exact e, by rw [upd_same, h0]⟩, fun i m H ⟨e, s, eD⟩ => ?_⟩
  cases m with
  | zero =>
    obtain rfl : i = xs.length := by omega
    exact .inl ⟨W.stop H (hS s), hd H s eD⟩
  | succ m =>
    have hi : i < xs.length := by omega
    refine .inr ⟨W.go i H hi (hS s), fun H' => Same H1 H' ∧ H' D = some (.dK (kv (i + 1))), fun H' p' => ⟨m, Nat.lt_succ_self m, by omega, p'⟩, fun v H' y => ?_⟩
    obtain ⟨T, x, rfl, hT, rfl, ex⟩ := W.yld i H v H' (hS s) y
    have s2 := same_new hT (.tup [.int (i : Nat), x])
    refine mono (fun σ2 H2 q => ⟨q.1, monot (fun b H3 q => ?_) q.2⟩) _ (hs i T x _ ex (s.trans s2) upd_same (s2 _ _ eD))
    obtain ⟨rfl, q⟩ := q
    rw [if_pos rfl]
    refine monok (fun y H4 q => monov (fun z H5 q => ?_) q) q
    obtain ⟨s3, k, ek, ep⟩ := q
    refine ⟨_, k, ek, s3 _ _ (s2 _ _ eD), hl i, fun b o e => ?_, by rw [upd_same, ep]⟩
    rw [upd_ne (ne_of_none e hD)]
    exact s3 _ _ ((s.trans s2) _ _ e)
end
/-! ### max(xs, default=d) -/
def rMaxDf (K : PySem.W.Frag) : List V → List V → Hp → VK → Prop := fun xs zs H Q => ∃ (a : Addr) (ns : List Int) (d : Int), xs = [.ref a] ∧ zs = [.int d] ∧ SqL K H a (ns.map V.int) ∧ (ns = [] → Q (.int d) H) ∧ ∀ m, m ∈ ns → (∀ y ∈ ns, y ≤ m) → Q (.int m) H
theorem maxOf_is (x : Int) : ∀ xs : List Int, PySem.W.maxOf x xs ∈ x :: xs ∧ ∀ y ∈ x :: xs, y ≤ PySem.W.maxOf x xs := by
  intro xs
  unfold PySem.W.maxOf
  induction xs generalizing x with
  | nil => exact ⟨List.mem_cons_self, fun y hy => by rw [List.mem_singleton.mp hy]; exact Int.le_refl _⟩
  | cons z xs ih =>
    rw [List.foldl_cons]
    by_cases c : PySem.W.DatumOrd.lt x z = true
    · rw [if_pos c]
      have c' : x < z := of_decide_eq_true c
      obtain ⟨h1, h2⟩ := ih z
      refine ⟨List.mem_cons_of_mem _ h1, fun y hy => ?_⟩
      rcases List.mem_cons.mp hy with e | hy
      · have := h2 z List.mem_cons_self
        omega
      · exact h2 y hy
    · rw [if_neg c]
      have c' : ¬ x < z := fun q => c (decide_eq_true q)
      obtain ⟨h1, h2⟩ := ih x
      have hx := h2 x List.mem_cons_self
      refine ⟨?_, fun y hy => ?_⟩
      · rcases List.mem_cons.mp h1 with e | h1
        · rw [e]; exact List.mem_cons_self
        · exact List.mem_cons_of_mem _ (List.mem_cons_of_mem _ h1)
      · rcases List.mem_cons.mp hy with e | hy
        · omega
        · rcases List.mem_cons.mp hy with e | hy
          · omega
          · exact h2 y (List.mem_cons_of_mem _ hy)
theorem cr_maxDf {X : Cx} (hc : X.calm = true) (hu : X.A.units + 64 < cLine) : CallRK X (.builtin "max") ["default"] (rMaxDf X.K) := by
  intro pins s σ H xs zs us ws Q I r1 r2 h
  obtain ⟨a, ns, d, rfl, rfl, hs, q0, q1⟩ := h
  obtain ⟨its, rv, hl, _⟩ := I.list hs
  cases r2 with
  | cons rd rt =>
    cases rt
    obtain ⟨t, rfl⟩ := rd
    rw [Vals.ref1 r1]
    show wpAny (model X.prog X.w) X.A (call (.builtin "max") [.ref a] [(Str.ofString "default", _)]) _ _ s
    refine PySem.W.max_list_datum_default (α := Int) (I.ok.hd hc) hl.isList (PySem.W.HoldAll.of_ints rv.ints) (by show X.A.units + 1 + 0 < cLine; omega) (fun e h' tk hk => ⟨.int d, H, I.kept hk, ⟨_, rfl⟩, q0 e⟩) fun y ys i v h' tk e hv hh hk => ?_
    obtain ⟨as, hr⟩ := hh
    obtain ⟨m1, m2⟩ := maxOf_is y ys
    generalize PySem.W.maxOf y ys = m at hr m1 m2
    have hr : Reads h' v (.int m) as := hr
    cases hr with
    | int _ t => exact ⟨.int m, H, I.kept hk, ⟨t, rfl⟩, q1 m (e ▸ m1) fun y hy => m2 y (e ▸ hy)⟩
/-! ### D.get(x), D a dict of the text -/
def tKGet (K : PySem.W.Frag) (w : World) (p : Addr) (ty : TE) : TE := fun σ H Q => ty σ H fun y H2 => ∃ z v, y = .str z ∧ KDct K w p z v ∧ Q v H2
theorem pe_kget {X : Cx} {x : Str} {xp : Pos} {e : Expr} {apos cpos : Pos} {ty : TE} {p : Addr} {es : Array DictEntry} {n : Nat} (D : KDict X.K X.w p es n) (hg : Gl X x) (hm : X.mg x = some (.ref p)) (he : PE X e ty) (m : M1 X (.Name x xp) "get" apos e cpos) (hdb : (x == ("__debug__" : Str)) = false := by decide) :
    PE X (.Call (.Attribute (.Name x xp) "get" apos) [e] [] cpos) (tKGet X.K X.w p ty) := by
  refine ⟨fun pins s σ H Q I h => ?_⟩
  have ho : PE X (.Name x xp) (tC (.ref p)) := pe_glob hg hm rfl hdb
  refine wpAny_Call_method m.base m.few m.line PySem.F.plainAttrs_dict PySem.F.slot_dict_get PySem.F.type_dict_get (thn (ho.run pins s σ H (fun x H1 => x = .ref p ∧ H1 = H) I ⟨rfl, rfl⟩) fun u s1 ⟨x, H1, I1, rx, ex, eH⟩ => ?_)
  subst ex eH
  obtain rfl : u = Value.ref p := rx
  have mo := PySem.W.mapOf_K (prog := X.prog) (w := X.w) I1.kIn D.at_ D.lit
  refine ⟨mo.typeIs, fun b q => ?_, ?_⟩
  · cases q
    exact ⟨_, I1.kIn _ _ D.at_, rfl⟩
  rw [m.trees]
  refine Calls.callWith_builtin rfl (Calls.evalArgs_plain (Calls.spliced_cons (thn (he.run pins s1 σ H1 _ I1 h) fun iv s2 ⟨y, H2, I2, ry, z, v, ey, ⟨es', n', u0, hl, hk, eu, ru⟩, q2⟩ => Calls.spliced_nil ?_)))
  subst ey
  obtain ⟨t, rfl⟩ := ry
  have mo2 := PySem.W.mapOf_K (prog := X.prog) (w := X.w) I2.kIn hl hk
  refine call_meetsIn PySem.F.slot_dict_get mo2.typeIs PySem.F.entry_dict_get (PySem.F.args_dict_get_2 _ _) (meets_dict_get _ p (strKind_is X.prog X.w z t) D.low) ⟨_, mo2, ?_⟩
  rw [PySem.W.find_K hl eu]
  exact ⟨v, H2, I2.tok _, ru, q2⟩
end Zp
namespace Zp
open PySem PySem.Spec PyProof.Rows L2 Hb St Sq RZ
theorem pe_or2 {X : Cx} {e : Expr} {t1 t2 : TE} (h1 : PE X e t1) (h2 : PE X e t2) : PE X e (fun σ H Q => t1 σ H Q ∨ t2 σ H Q) := ⟨fun pins s σ H Q I h => h.elim (h1.run pins s σ H Q I) (h2.run pins s σ H Q I)⟩
theorem _root_.L2.Room.units65 {k : Nat} {A : Around} (r : Room k A) : A.units + 65 < cLine := by have := r.un; omega
end Zp

/-! readings -/
namespace Rd
open PySem PySem.Spec PyProof.Rows L2 Hb St Sq RZ
section
variable {K : PySem.W.Frag} {H : Hp} {Q : VK}
theorem ty_tup {a : Addr} {xs : List V} (h : SqT K H a xs) : TyX K H (.ref a) (.type "tuple") := by
  rcases h with (e | ⟨o, e⟩) | ⟨o, its, n, e, c, _⟩
  · exact .base (.tup e)
  · exact .fTuple e
  · exact .kTuple e c
theorem ty_lst {a : Addr} {xs : List V} (h : SqL K H a xs) : TyX K H (.ref a) (.type "list") := by
  rcases h with (e | ⟨o, e⟩) | ⟨o, its, n, e, c, _⟩
  · exact .base (.lst e)
  · exact .base (.frz e)
  · exact .kList e c
theorem rd_isTup {a : Addr} {xs : List V} (h : SqT K H a xs) (q : Q (.bl true) H) : rIsi K [.ref a, .ty "tuple"] H Q := ⟨_, _, _, _, _, rfl, .ty "tuple", ty_tup h, kit_ty (r := true) (by decide +kernel), q⟩
theorem rd_noTupL {a : Addr} {xs : List V} (h : SqL K H a xs) (q : Q (.bl false) H) : rIsi K [.ref a, .ty "tuple"] H Q := ⟨_, _, _, _, _, rfl, .ty "tuple", ty_lst h, kit_ty (r := false) (by decide +kernel), q⟩
theorem rd_noTupS {x : Str} (q : Q (.bl false) H) : rIsi K [.str x, .ty "tuple"] H Q := ⟨_, _, _, _, _, rfl, .ty "tuple", .base (.str x), kit_ty (r := false) (by decide +kernel), q⟩
theorem rd_noTupI {i : Int} (q : Q (.bl false) H) : rIsi K [.int i, .ty "tuple"] H Q := ⟨_, _, _, _, _, rfl, .ty "tuple", .base (.int i), kit_ty (r := false) (by decide +kernel), q⟩
theorem rd_isStr {x : Str} (q : Q (.bl true) H) : rIsi K [.str x, .ty "str"] H Q := ⟨_, _, _, _, _, rfl, .ty "str", .base (.str x), kit_ty (r := true) (by decide +kernel), q⟩
theorem rd_noStr {i : Int} (q : Q (.bl false) H) : rIsi K [.int i, .ty "str"] H Q := ⟨_, _, _, _, _, rfl, .ty "str", .base (.int i), kit_ty (r := false) (by decide +kernel), q⟩
theorem sIx1 {n : Nat} (h : 1 ≤ n) : HT.sIx n 0 (some 1) = 1 := by rw [show (1 : Int) = ((1 : Nat) : Int) from rfl, HT.sIx_nat]; omega
theorem cut1 {v : V} {xs : List V} : cutV (v :: xs) (some 1) none = xs := by
  unfold cutV
  rw [sIx1 (by simp), HT.sIx_none, List.drop_one, List.tail_cons, List.take_of_length_le (by simp)]
/-- a tuple from its second thing on -/
theorem rd_tail {a : Addr} {v : V} {xs : List V} (h : SqT K H a (v :: xs)) (q : ∀ p H', H p = none → Same H H' → H' p = some (.tup xs) → Q (.ref p) H') : rSlA K (.ref a) (some 1) none H Q := by
  refine ⟨a, _, rfl, h, fun ⟨z, _⟩ => ?_, fun _ p hp => ?_⟩
  · rw [sIx1 (by simp)] at z
    cases z
  · rw [cut1]
    exact q p _ hp (same_new hp _) upd_same
theorem rd_all {a : Addr} {bs : List Bool} (h : SqL K H a (bs.map V.bl)) (q : Q (.bl (bs.all id)) H) : rAll K [.ref a] H Q := ⟨a, bs, rfl, h, q⟩
theorem bl_true {α : Type} {ys : List V} {ds : List α} (h : All2 (fun (y : V) (_ : α) => y = .bl true) ys ds) : ys = (ds.map fun _ => true).map V.bl := by
  rw [List.map_map]
  exact h.map_eq fun a b e => e
theorem rd_allT {α : Type} {a : Addr} {ys : List V} {ds : List α} (h : H a = some (.lst ys)) (al : All2 (fun (y : V) (_ : α) => y = .bl true) ys ds) (q : Q (.bl true) H) : rAll K [.ref a] H Q := by
  refine rd_all (bs := ds.map fun _ => true) (SqL.of (by rw [← bl_true al]; exact h)) ?_
  rw [show ((ds.map fun _ => true).all id) = true by simp]
  exact q
theorem at_map {α β : Type} {f : α → β} {l : List α} {i : Nat} {x : β} {d : α} (h : (l.map f)[i]? = some x) (k : l[i]? = some d) : x = f d := by
  rw [List.getElem?_map, k] at h
  exact (Option.some.inj h).symm
theorem at_mem {α : Type} {l : List α} {i : Nat} {d : α} (k : l[i]? = some d) : d ∈ l := List.mem_of_getElem? k
theorem filter_all {α : Type} (l : List α) : l.filter (fun _ => true) = l := List.filter_eq_self.mpr fun _ _ => rfl
/-- an item from behind -/
theorem at_last {xs : List V} {x : V} : atI (xs ++ [x]) (-1) = some x := by
  unfold atI ixN
  rw [List.length_append, if_neg (by decide), if_pos (by simp; omega)]
  show (xs ++ [x])[(-1 + ((xs.length + [x].length : Nat) : Int)).toNat]? = some x
  rw [show (-1 + ((xs.length + [x].length : Nat) : Int)).toNat = xs.length by simp; omega, List.getElem?_append_right (Nat.le_refl _), Nat.sub_self]
  rfl
theorem at_nat {α : Type} {xs : List α} {i : Nat} {x : α} (h : xs[i]? = some x) : atI xs (i : Nat) = some x := by
  have hi := (List.getElem?_eq_some_iff.mp h).1
  unfold atI ixN
  rw [if_pos (by omega), if_pos (by omega)]
  exact h
theorem at0 {α : Type} {x : α} {xs : List α} : atI (x :: xs) 0 = some x := at_nat (i := 0) rfl
theorem at1 {α : Type} {x y : α} {xs : List α} : atI (x :: y :: xs) 1 = some y := at_nat (i := 1) rfl
theorem at2 {α : Type} {x y z : α} {xs : List α} : atI (x :: y :: z :: xs) 2 = some z := at_nat (i := 2) rfl
theorem rd_slc {σ : L2.St} {i : Nat} {a : Addr} {v : V} {xs : List V} {tr : TA} {R : List V → Hp → Prop} (e : σ[i]? = some (some (.ref a))) (h : SqT K H a (v :: xs)) (q : ∀ p H', H p = none → Same H H' → H' p = some (.tup xs) → tr σ H' fun ys H2 => R (.ref p :: ys) H2) :
    tCons (tSl (rSlA K) (tVar i) (tPart (tC (.int 1))) tNoPart) tr σ H R := by
  refine ⟨_, e, 1, rfl, ?_⟩
  exact rd_tail (Q := fun x H1 => tr σ H1 fun ys H2 => R (x :: ys) H2) h q
end
end Rd

/-! errors of classes of the program's own, over Exception through other own classes, whose __init__ keeps one thing: self.at = at -/
namespace Xb
open PySem PySem.W PySem.Calls PyProof.Rows PySem.HandSPX
abbrev exB : List Value := [.type "Exception", .type "BaseException", .type "object"]
def iA (p1 p2 : Pos) : Arguments := { posonlyargs := [], args := [{ arg := "self", annotation := none, pos := p1 }, { arg := "at", annotation := none, pos := p2 }], vararg := none, kwonlyargs := [], kw_defaults := [], kwarg := none, defaults := [] }
def iB (q1 q2 q3 q4 : Pos) : List Stmt := [.Assign [.Attribute (.Name "self" q1) "at" q2] (.Name "at" q3) q4]
def iS : Scope := { kind := .function, names := [(PySem.Str.ofString "self", .local), (PySem.Str.ofString "at", .local)], isGenerator := false, isCoroutine := false, more := [] }
/-- what the written part says of the class cn, at C, and of its __init__, at fI -/
structure ErrC (K : Frag) (mg : Str → Option Value) (cn : Str) (C fI : Addr) : Prop where
  gC : mg cn = some (.ref C)
  cls : ∃ nm q N bs bm sn sub ab col dd k0 k1 k2 k3 k5, K.lookup C = some (excClassObj nm q C N bs bm true sn sub ab col dd k0 k1 k2 k3 k5 "Exception.__new__") ∧ excTail exB bm = true
  sa : findIn K (.ref C) "__setattr__" = some (some (.builtin "object.__setattr__"))
  ga : findIn K (.ref C) "__getattribute__" = some (some (.builtin "BaseException.__getattribute__"))
  gg : findIn K (.ref C) "__getattr__" = some none
  noN : findIn K (.ref C) "at" = some none
  iC : findIn K (.ref C) "__init__" = some (some (.ref fI))
  tC : typeIn K (.ref fI) = some (.type "function")
  kC : keepIn K (.ref C) = true
  exC : subIn K (.ref C) (.type "BaseException") = some true
  tyC : typeIn K (.ref C) = some (.type "type")
  hdC : hasDictIn K C = true
  te : exmOne K (.ref C) (.ref C) = some true
  fn : ∃ (oc : Value) (od : Option Addr) (qn : Str) (doc pm : Value) (an : Option Addr) (cdv ct : Value) (osl : Array (Option Value)) (p1 p2 q1 q2 q3 q4 : Pos),
    K.lookup fI = some ⟨oc, od, .func (fnOf "__init__" qn (iA p1 p2) (iB q1 q2 q3 q4) iS .none .none doc pm an cdv ct), osl⟩ ∧ codeIn K cdv qn = true
theorem one_size (v : Value) : [v].length ≤ sizeLine := by
  rw [sizeLine_eq]
  exact (by decide : 1 ≤ 16777216)
theorem at_local {M : Model} {s : Shared} {name : Str} {scope : Scope} {L a : Addr} {cd : Value} {m : Str → Option Value} {x : Str} {pos : Pos} {v : Value} {Q : Value → Shared → Prop} {A : Around} {E : Value → Shared → Prop} (hn : s.heap.Ns L m) (hv : m x = some v) (h : Q v s)
    (hk : scope.kind = .function := by rfl) (hl : (envOfC name scope L a cd).kindOf x = some .local := by rfl) (hd : (x == ("__debug__" : Str)) = false := by decide) :
    wpAny M A (eval (.Name x pos) (envOfC name scope L a cd)) Q E s := wpAny_Name (wpAny_loadName_local hk hl hn hv h) hd
/-- what __init__ leaves of a fresh exception at x -/
structure Ended (h h' : Heap) (x C dx t1 : Addr) (v : Value) : Prop where
  keep : ∀ b o, b ≠ x → h.get? b = some o → h'.get? b = some o
  obj : h'.get? x = some { cls := .ref C, dict := some dx, data := .fields #[.ref t1, .none, .none, .none, .bool false, .none] }
  dbig : h.objs.size ≤ dx
  dne : dx ≠ x
  ns : h'.Ns1 dx (fun y => if y = "at" then some v else none)
structure Made (h h' : Heap) (e C d : Addr) (v : Value) : Prop where
  keep : ∀ b o, h.get? b = some o → h'.get? b = some o
  new : h.objs.size ≤ e
  obj : ∃ oe vs, h'.get? e = some oe ∧ oe.cls = .ref C ∧ oe.dict = some d ∧ oe.data = .fields vs ∧ vs[1]? = some .none
  dbig : h.objs.size ≤ d
  dne : d ≠ e
  ns : h'.Ns1 d (fun y => if y = "at" then some v else none)
section
open Builtin Builtin.ObjectAttr
variable {prog : Program} {w : World} {A : Around} {E : Value → Shared → Prop} {R : Result → Shared → Prop} {K : Frag} {mg : Str → Option Value} {cn : Str} {C fI : Addr}
/-- the first store to such an exception: it gets its dict -/
theorem first_store {hp : Heap} {g : Array GenState} {d : Drawn} {t : Nat} {os : OsState} {name : Str} {tk : Tok} {v : Value} {x : Addr} {fv : Array Value} {cd : ClassData}
    (X : K.In hp) (hx : hp.get? x = some { cls := .ref C, data := .fields fv }) (hcd : clsIn K C = some cd) (ho : excOver K C exB = true) (hh : cd.hasDict = true) (ha : findIn K (.ref C) name = some none)
    (hq : ∀ h' tk' dx, (∀ b o, b ≠ x → hp.get? b = some o → h'.get? b = some o) → hp.objs.size ≤ dx → dx ≠ x → h'.get? x = some { cls := .ref C, dict := some dx, data := .fields fv } →
      h'.Ns1 dx (fun y => if y = name then some v else none) → R (.ok (.ret .none)) ⟨h', g, d, tk', os⟩) :
    codeAny (model prog w) A (.call (.builtin "object.__setattr__") ⟨[.ref x, .str name tk, v], []⟩) R ⟨hp, g, d, t, os⟩ := by
  have I : InstAt hp x { cls := .ref C, data := .fields fv } C none := ⟨hx, rfl, rfl, trivial⟩
  have nx : x ≠ hp.objs.size := Nat.ne_of_lt (Heap.lt_size hx)
  refine osa_openX (r := none) F.store_Exception X I ho (by unfold takerIn; rw [ha]; rfl) fun b => ?_
  show wpAny _ _ (storeInOwnDict (.ref x) (.ref C) (.str name tk) name v b) _ _ _
  have hC : Looks (model prog w) hp (classData C) cd := looks_clsIn X hcd
  obtain ⟨_, _, _, _, _, hd, _, _, _, _, _⟩ := cd
  dsimp only at hh
  subst hh
  unfold storeInOwnDict ownDictForStores
  repeat (first | with_reducible refine wpAny_loadPart_at hx ?_ | with_reducible refine hC.at ?_ | with_reducible refine HandSPX.store_in_new ?_ ?_ | wp_step)
  · exact ⟨_, #[], _, (Heap.get?_update_ne _ _ _ _ nx.symm).trans (Heap.get?_push_at rfl rfl), rfl, fun e he => absurd he (by simp), fun _ => rfl⟩
  · intro h' tk' hn' hs
    have old : (hp.push { cls := .type "dict", data := .dict #[] }).get? x = some { cls := .ref C, data := .fields fv } := Heap.get?_push_of_some _ hx
    refine hq h' tk' hp.objs.size (fun b o hb ho => ?_) (Nat.le_refl _) nx.symm ?_ hn'
    · exact (hs.2 b (Nat.ne_of_lt (Heap.lt_size ho))).trans ((Heap.get?_update_ne _ _ _ _ hb).trans (Heap.get?_push_of_some _ ho))
    · exact (hs.2 x nx).trans (Heap.get?_update_self _ old rfl)
theorem err_init (T : ErrC K mg cn C fI) {s : Shared} {x t0 : Addr} {v : Value} (X : K.In s.heap) (hlim : s.heap.NoLimit) (hx : s.heap.get? x = some (excO C t0)) (hroom : A.depth < recursionLimit)
    (hq : ∀ h' tk dx, Ended s.heap h' x C dx t0 v → R (.ok (.ret .none)) { s with heap := h', toks := tk }) :
    codeAny (model prog w) A (.call (.ref fI) ⟨[.ref x, v], []⟩) R s := by
  obtain ⟨oc, od, qn, doc, pm, an, cdv, ct, osl, p1, p2, q1, q2, q3, q4, ho, hcd⟩ := T.fn
  obtain ⟨nm, q, N, bs, bm, sn, sub, ab, col, dd, k0, k1, k2, k3, k5, hC, hbm⟩ := T.cls
  have hcl : clsIn K C = some { name := nm, bases := bs, mro := .ref C :: bm, ns := N, qualname := q, hasDict := true, slotNames := sn, subclasses := sub, abstract := ab, collection := col, hasDel := false } := by unfold clsIn; rw [hC] <;> rfl
  have over : excOver K C exB = true := by
    unfold excOver
    rw [hcl]
    show ((C == C) && excTail exB bm) = true
    rw [hbm, beq_self_eq_true]
    rfl
  refine Att.call_fn (binds := [("self", .ref x), ("at", v)]) X hlim ho hcd hroom (BindsTo.of_eq (by first | rfl | with_unfolding_all rfl)) (by first | rfl | decide | with_unfolding_all rfl) (fun s₁ IC => ?_) rfl rfl rfl
  obtain ⟨h₁, tk₁, rfl⟩ := IC.toInCall.same
  have k : ∀ b o, s.heap.get? b = some o → h₁.get? b = some o := IC.toInCall.keep
  have hn := IC.toInCall.ns
  have X₁ : K.In h₁ := X.keeps k
  have hx₁ := k _ _ hx
  show wpAny _ _ (execs _ _) _ _ _
  refine wpAny_execs_cons (plainObj_wpAny_Assign_Attribute ?_)
  refine at_local (v := v) hn (by first | rfl | with_unfolding_all rfl | kernel_rfl) (at_local (v := .ref x) hn (by first | rfl | with_unfolding_all rfl | kernel_rfl) ?_)
  refine set_plain X₁ (ox := excO C t0) (od := none) ⟨hx₁, rfl, rfl, trivial⟩ T.sa ?_
  refine first_store X₁ hx₁ hcl over rfl T.noN (fun h₃ tk₃ dx k₃ dn dne hx₃ hn₃ => ?_)
  show wpAny _ _ (execs _ _) _ _ _
  have z : s.heap.objs.size < h₁.objs.size := hn.lt
  exact wpAny_execs_nil (hq h₃ tk₃ dx ⟨fun b o hb e => k₃ b o hb (k b o e), hx₃, Nat.le_of_lt (Nat.lt_of_lt_of_le z dn), dne, hn₃⟩)
theorem err_made (T : ErrC K mg cn C fI) {s : Shared} {v : Value} (X : K.In s.heap) (hlim : s.heap.NoLimit) (hroom : A.depth + 1 < recursionLimit)
    (hq : ∀ h' tk e d, Made s.heap h' e C d v → R (.ok (.ret (.ref e))) { s with heap := h', toks := tk }) :
    codeAny (model prog w) A (.call (.ref C) ⟨[v], []⟩) R s := by
  obtain ⟨nm, q, N, bs, bm, sn, sub, ab, col, dd, k0, k1, k2, k3, k5, hC, hbm⟩ := T.cls
  obtain ⟨hp, g, dr, tk, os⟩ := s
  have k : ∀ b o, hp.get? b = some o → ((hp.push (kdv_tup [v])).push (excO C hp.objs.size)).get? b = some o := fun b o e => Heap.get?_push_of_some _ (Heap.get?_push_of_some _ e)
  have hget : ((hp.push (kdv_tup [v])).push (excO C hp.objs.size)).get? (hp.objs.size + 1) = some (excO C hp.objs.size) := by heap_get
  refine call_own F.excBase_Exception (fun X => excTail_contains X bm hbm) (X _ _ hC) (looks_findIn X T.iC) (fun self => bind_fn X self T.tC) (one_size v) ?_
  refine err_init (s := ⟨(hp.push (kdv_tup [v])).push (excO C hp.objs.size), g, dr, tk, os⟩) T (X.keeps k) (hlim.keeps k) hget ?_ fun h' tk' dx ⟨k', hx, dn, dne, hns⟩ => ?_
  · show A.depth + 1 < recursionLimit
    exact hroom
  · have old : ∀ b o, hp.get? b = some o → h'.get? b = some o := fun b o e => k' b o (Nat.ne_of_lt (Nat.lt_succ_of_lt (Heap.lt_size e))) (k b o e)
    have z : hp.objs.size + 1 + 1 ≤ dx := by
      first
        | (simpa only [Heap.size_push] using dn)
        | exact dn
        | (have q := dn; rw [Heap.size_push, Heap.size_push] at q; exact q)
    exact ⟨rfl, hq h' tk' (hp.objs.size + 1) dx ⟨old, Nat.le_succ _, ⟨_, _, hx, rfl, rfl, rfl, rfl⟩, Nat.le_trans (Nat.le_trans (Nat.le_succ _) (Nat.le_succ _)) z, dne, hns⟩⟩
end
end Xb
namespace Xb
open PySem PySem.Spec PyProof.Rows L2
theorem relO_at {v : V} {v' : Value} (r : RelV v v') (f : Str) : RelO (List.lookup f [(("at" : Str), v)]) (if f = "at" then some v' else none) := by
  by_cases hw : f = "at"
  · subst hw
    rw [if_pos rfl]
    have q : List.lookup ("at" : Str) [(("at" : Str), v)] = some v := by simp [List.lookup]
    rw [q]
    exact r
  · rw [if_neg hw]
    have qw : (f == ("at" : Str)) = false := by simpa using hw
    have q2 : List.lookup f [(("at" : Str), v)] = none := by simp [List.lookup, qw]
    rw [q2]
    trivial
section
variable {X : Cx} {cn : Str} {C fI : Addr}
/-- cn(e) -/
def tMk (C : Addr) (ta : TA) : L2.St → Hp → XK → Prop := fun σ H Q => ta σ H fun vs H1 => ∃ v, vs = [v] ∧ ∀ d, H1 d = none → Q (.ref C) (some d) (upd H1 d (.xd [(("at" : Str), v)]))
theorem pmk_at {a : Expr} {ta : TA} {p pos : Pos} {k : Nat} (T : ErrC X.K X.mg cn C fI) (hr : Room k X.A) (ha : PA X [a] ta) (hg : Gl X cn) (hdb : (cn == ("__debug__" : Str)) = false := by decide)
    (he : starEach (a :: []) X.env = (false, eval a X.env) :: starEach [] X.env := by rfl) (hpl : (backTo pos (starEach [] X.env)).any (·.1) = false := by rfl) :
    PMk X (.Call (.Name cn p) [a] [] pos) (tMk C ta) := by
  intro pins s σ H Q I h
  refine wpAny_Call_Name_kw (ld_glob I hg T.gC ?_ hdb)
  refine PySem.W.callWith_K (h₀ := X.base) I.ok.mod.kin T.kC (thn (ha.run pos pins s σ H _ I h) fun us s1 hh => ?_) he hpl
  obtain ⟨vs, H1, I1, r1, v, ev, q1⟩ := hh
  subst ev
  refine ⟨I1.kIn, ?_⟩
  cases r1 with
  | cons rv rn =>
    rename_i v' us'
    cases rn
    show wpAny _ _ (call (.ref C) [v']) _ _ _
    have hlim := I1.nolimit
    obtain ⟨hp, g, dr, tk, os⟩ := s1
    refine wpAny_call (err_made T I1.kIn hlim (by have := hr.dp; omega) fun h' tk' e d M => ?_)
    show MkP X pins σ Q (.ref e) ⟨h', g, dr, tk', os⟩
    obtain ⟨oe, fv, hoe, hc, hd, hdat, h1⟩ := M.obj
    have hns := M.ns
    obtain ⟨G', g1, g2⟩ := restrict h' fun b => decide (b ≠ e)
    have gk : ∀ b, b ≠ e → G'.get? b = h'.get? b := fun b hb => g1 b (decide_eq_true hb)
    have ge : G'.get? e = none := g2 e (by simp)
    have old : ∀ b o, hp.get? b = some o → G'.get? b = some o := fun b o q => (gk b (Nat.ne_of_lt (Nat.lt_of_lt_of_le (Heap.lt_size q) M.new))).trans (M.keep b o q)
    have ob : ObjOk X.prog X.w (upd H1 d (.xd [(("at" : Str), v)])) G' d (.xd [(("at" : Str), v)]) :=
      ⟨_, hns.at (fun o q => (gk d M.dne).trans q), fun f => relO_at rv f⟩
    have J : Inv X pins σ (upd H1 d (.xd [(("at" : Str), v)])) ⟨G', g, dr, tk', os⟩ := I1.laid (t' := tk') old M.dbig ob
    refine ⟨e, oe, fv, ⟨G', g, dr, tk', os⟩, _, .ref C, some d, rfl, J, fun b o q => ?_, ge, hoe, ⟨hc, hd⟩, hdat, h1, ?_, rfl, I1.bare, raises_own T.exC T.tyC, q1 d (I1.hok.fresh M.dbig)⟩
    · by_cases hb : b = e
      · have q' : G'.get? b = some o := q
        rw [hb, ge] at q'; cases q'
      · exact (gk b hb).symm.trans q
    · rw [upd_ne (Ne.symm M.dne)]
      exact I1.hok.fresh M.new
/-- raise cn(e) -/
def tRaise (C : Addr) (W : WX) (ta : TA) : TS := fun _ σ H => tMk C ta σ H fun cls d H' => W cls d σ H'
theorem ps_raiseAt {a : Expr} {ta : TA} {W : WX} {p pos pos2 : Pos} {k : Nat} (hc : X.calm = true) (T : ErrC X.K X.mg cn C fI) (hr : Room k X.A) (tk : Takes X W) (ha : PA X [a] ta) (hg : Gl X cn) (hdb : (cn == ("__debug__" : Str)) = false := by decide)
    (he : starEach (a :: []) X.env = (false, eval a X.env) :: starEach [] X.env := by rfl) (hpl : (backTo pos (starEach [] X.env)).any (·.1) = false := by rfl) :
    PS X (.Raise (some (.Call (.Name cn p) [a] [] pos)) none pos2) (tRaise C W ta) := ps_raise hc tk (pmk_at T hr ha hg hdb he hpl)
theorem ErrC.xf (T : ErrC X.K X.mg cn C fI) : XfC X.K C := ⟨T.ga, T.gg, T.exC, T.hdC⟩
end
end Xb

/-! errors of classes of the program's own, over Exception through other own classes, whose __init__ keeps one thing: self.word = word -/
namespace Xw
open PySem PySem.W PySem.Calls PyProof.Rows PySem.HandSPX
abbrev exB : List Value := [.type "Exception", .type "BaseException", .type "object"]
def iA (p1 p2 : Pos) : Arguments := { posonlyargs := [], args := [{ arg := "self", annotation := none, pos := p1 }, { arg := "word", annotation := none, pos := p2 }], vararg := none, kwonlyargs := [], kw_defaults := [], kwarg := none, defaults := [] }
def iB (q1 q2 q3 q4 : Pos) : List Stmt := [.Assign [.Attribute (.Name "self" q1) "word" q2] (.Name "word" q3) q4]
def iS : Scope := { kind := .function, names := [(PySem.Str.ofString "self", .local), (PySem.Str.ofString "word", .local)], isGenerator := false, isCoroutine := false, more := [] }
/-- what the written part says of the class cn, at C, and of its __init__, at fI -/
structure ErrC (K : Frag) (mg : Str → Option Value) (cn : Str) (C fI : Addr) : Prop where
  gC : mg cn = some (.ref C)
  cls : ∃ nm q N bs bm sn sub ab col dd k0 k1 k2 k3 k5, K.lookup C = some (excClassObj nm q C N bs bm true sn sub ab col dd k0 k1 k2 k3 k5 "Exception.__new__") ∧ excTail exB bm = true
  sa : findIn K (.ref C) "__setattr__" = some (some (.builtin "object.__setattr__"))
  ga : findIn K (.ref C) "__getattribute__" = some (some (.builtin "BaseException.__getattribute__"))
  gg : findIn K (.ref C) "__getattr__" = some none
  noN : findIn K (.ref C) "word" = some none
  iC : findIn K (.ref C) "__init__" = some (some (.ref fI))
  tC : typeIn K (.ref fI) = some (.type "function")
  kC : keepIn K (.ref C) = true
  exC : subIn K (.ref C) (.type "BaseException") = some true
  tyC : typeIn K (.ref C) = some (.type "type")
  hdC : hasDictIn K C = true
  te : exmOne K (.ref C) (.ref C) = some true
  fn : ∃ (oc : Value) (od : Option Addr) (qn : Str) (doc pm : Value) (an : Option Addr) (cdv ct : Value) (osl : Array (Option Value)) (p1 p2 q1 q2 q3 q4 : Pos),
    K.lookup fI = some ⟨oc, od, .func (fnOf "__init__" qn (iA p1 p2) (iB q1 q2 q3 q4) iS .none .none doc pm an cdv ct), osl⟩ ∧ codeIn K cdv qn = true
theorem one_size (v : Value) : [v].length ≤ sizeLine := by
  rw [sizeLine_eq]
  exact (by decide : 1 ≤ 16777216)
theorem at_local {M : Model} {s : Shared} {name : Str} {scope : Scope} {L a : Addr} {cd : Value} {m : Str → Option Value} {x : Str} {pos : Pos} {v : Value} {Q : Value → Shared → Prop} {A : Around} {E : Value → Shared → Prop} (hn : s.heap.Ns L m) (hv : m x = some v) (h : Q v s)
    (hk : scope.kind = .function := by rfl) (hl : (envOfC name scope L a cd).kindOf x = some .local := by rfl) (hd : (x == ("__debug__" : Str)) = false := by decide) :
    wpAny M A (eval (.Name x pos) (envOfC name scope L a cd)) Q E s := wpAny_Name (wpAny_loadName_local hk hl hn hv h) hd
/-- what __init__ leaves of a fresh exception at x -/
structure Ended (h h' : Heap) (x C dx t1 : Addr) (v : Value) : Prop where
  keep : ∀ b o, b ≠ x → h.get? b = some o → h'.get? b = some o
  obj : h'.get? x = some { cls := .ref C, dict := some dx, data := .fields #[.ref t1, .none, .none, .none, .bool false, .none] }
  dbig : h.objs.size ≤ dx
  dne : dx ≠ x
  ns : h'.Ns1 dx (fun y => if y = "word" then some v else none)
structure Made (h h' : Heap) (e C d : Addr) (v : Value) : Prop where
  keep : ∀ b o, h.get? b = some o → h'.get? b = some o
  new : h.objs.size ≤ e
  obj : ∃ oe vs, h'.get? e = some oe ∧ oe.cls = .ref C ∧ oe.dict = some d ∧ oe.data = .fields vs ∧ vs[1]? = some .none
  dbig : h.objs.size ≤ d
  dne : d ≠ e
  ns : h'.Ns1 d (fun y => if y = "word" then some v else none)
section
open Builtin Builtin.ObjectAttr
variable {prog : Program} {w : World} {A : Around} {E : Value → Shared → Prop} {R : Result → Shared → Prop} {K : Frag} {mg : Str → Option Value} {cn : Str} {C fI : Addr}
/-- the first store to such an exception: it gets its dict -/
theorem first_store {hp : Heap} {g : Array GenState} {d : Drawn} {t : Nat} {os : OsState} {name : Str} {tk : Tok} {v : Value} {x : Addr} {fv : Array Value} {cd : ClassData}
    (X : K.In hp) (hx : hp.get? x = some { cls := .ref C, data := .fields fv }) (hcd : clsIn K C = some cd) (ho : excOver K C exB = true) (hh : cd.hasDict = true) (ha : findIn K (.ref C) name = some none)
    (hq : ∀ h' tk' dx, (∀ b o, b ≠ x → hp.get? b = some o → h'.get? b = some o) → hp.objs.size ≤ dx → dx ≠ x → h'.get? x = some { cls := .ref C, dict := some dx, data := .fields fv } →
      h'.Ns1 dx (fun y => if y = name then some v else none) → R (.ok (.ret .none)) ⟨h', g, d, tk', os⟩) :
    codeAny (model prog w) A (.call (.builtin "object.__setattr__") ⟨[.ref x, .str name tk, v], []⟩) R ⟨hp, g, d, t, os⟩ := by
  have I : InstAt hp x { cls := .ref C, data := .fields fv } C none := ⟨hx, rfl, rfl, trivial⟩
  have nx : x ≠ hp.objs.size := Nat.ne_of_lt (Heap.lt_size hx)
  refine osa_openX (r := none) F.store_Exception X I ho (by unfold takerIn; rw [ha]; rfl) fun b => ?_
  show wpAny _ _ (storeInOwnDict (.ref x) (.ref C) (.str name tk) name v b) _ _ _
  have hC : Looks (model prog w) hp (classData C) cd := looks_clsIn X hcd
  obtain ⟨_, _, _, _, _, hd, _, _, _, _, _⟩ := cd
  dsimp only at hh
  subst hh
  unfold storeInOwnDict ownDictForStores
  repeat (first | with_reducible refine wpAny_loadPart_at hx ?_ | with_reducible refine hC.at ?_ | with_reducible refine HandSPX.store_in_new ?_ ?_ | wp_step)
  · exact ⟨_, #[], _, (Heap.get?_update_ne _ _ _ _ nx.symm).trans (Heap.get?_push_at rfl rfl), rfl, fun e he => absurd he (by simp), fun _ => rfl⟩
  · intro h' tk' hn' hs
    have old : (hp.push { cls := .type "dict", data := .dict #[] }).get? x = some { cls := .ref C, data := .fields fv } := Heap.get?_push_of_some _ hx
    refine hq h' tk' hp.objs.size (fun b o hb ho => ?_) (Nat.le_refl _) nx.symm ?_ hn'
    · exact (hs.2 b (Nat.ne_of_lt (Heap.lt_size ho))).trans ((Heap.get?_update_ne _ _ _ _ hb).trans (Heap.get?_push_of_some _ ho))
    · exact (hs.2 x nx).trans (Heap.get?_update_self _ old rfl)
theorem err_init (T : ErrC K mg cn C fI) {s : Shared} {x t0 : Addr} {v : Value} (X : K.In s.heap) (hlim : s.heap.NoLimit) (hx : s.heap.get? x = some (excO C t0)) (hroom : A.depth < recursionLimit)
    (hq : ∀ h' tk dx, Ended s.heap h' x C dx t0 v → R (.ok (.ret .none)) { s with heap := h', toks := tk }) :
    codeAny (model prog w) A (.call (.ref fI) ⟨[.ref x, v], []⟩) R s := by
  obtain ⟨oc, od, qn, doc, pm, an, cdv, ct, osl, p1, p2, q1, q2, q3, q4, ho, hcd⟩ := T.fn
  obtain ⟨nm, q, N, bs, bm, sn, sub, ab, col, dd, k0, k1, k2, k3, k5, hC, hbm⟩ := T.cls
  have hcl : clsIn K C = some { name := nm, bases := bs, mro := .ref C :: bm, ns := N, qualname := q, hasDict := true, slotNames := sn, subclasses := sub, abstract := ab, collection := col, hasDel := false } := by unfold clsIn; rw [hC] <;> rfl
  have over : excOver K C exB = true := by
    unfold excOver
    rw [hcl]
    show ((C == C) && excTail exB bm) = true
    rw [hbm, beq_self_eq_true]
    rfl
  refine Att.call_fn (binds := [("self", .ref x), ("word", v)]) X hlim ho hcd hroom (BindsTo.of_eq (by first | rfl | with_unfolding_all rfl)) (by first | rfl | decide | with_unfolding_all rfl) (fun s₁ IC => ?_) rfl rfl rfl
  obtain ⟨h₁, tk₁, rfl⟩ := IC.toInCall.same
  have k : ∀ b o, s.heap.get? b = some o → h₁.get? b = some o := IC.toInCall.keep
  have hn := IC.toInCall.ns
  have X₁ : K.In h₁ := X.keeps k
  have hx₁ := k _ _ hx
  show wpAny _ _ (execs _ _) _ _ _
  refine wpAny_execs_cons (plainObj_wpAny_Assign_Attribute ?_)
  refine at_local (v := v) hn (by first | rfl | with_unfolding_all rfl | kernel_rfl) (at_local (v := .ref x) hn (by first | rfl | with_unfolding_all rfl | kernel_rfl) ?_)
  refine set_plain X₁ (ox := excO C t0) (od := none) ⟨hx₁, rfl, rfl, trivial⟩ T.sa ?_
  refine first_store X₁ hx₁ hcl over rfl T.noN (fun h₃ tk₃ dx k₃ dn dne hx₃ hn₃ => ?_)
  show wpAny _ _ (execs _ _) _ _ _
  have z : s.heap.objs.size < h₁.objs.size := hn.lt
  exact wpAny_execs_nil (hq h₃ tk₃ dx ⟨fun b o hb e => k₃ b o hb (k b o e), hx₃, Nat.le_of_lt (Nat.lt_of_lt_of_le z dn), dne, hn₃⟩)
theorem err_made (T : ErrC K mg cn C fI) {s : Shared} {v : Value} (X : K.In s.heap) (hlim : s.heap.NoLimit) (hroom : A.depth + 1 < recursionLimit)
    (hq : ∀ h' tk e d, Made s.heap h' e C d v → R (.ok (.ret (.ref e))) { s with heap := h', toks := tk }) :
    codeAny (model prog w) A (.call (.ref C) ⟨[v], []⟩) R s := by
  obtain ⟨nm, q, N, bs, bm, sn, sub, ab, col, dd, k0, k1, k2, k3, k5, hC, hbm⟩ := T.cls
  obtain ⟨hp, g, dr, tk, os⟩ := s
  have k : ∀ b o, hp.get? b = some o → ((hp.push (kdv_tup [v])).push (excO C hp.objs.size)).get? b = some o := fun b o e => Heap.get?_push_of_some _ (Heap.get?_push_of_some _ e)
  have hget : ((hp.push (kdv_tup [v])).push (excO C hp.objs.size)).get? (hp.objs.size + 1) = some (excO C hp.objs.size) := by heap_get
  refine call_own F.excBase_Exception (fun X => excTail_contains X bm hbm) (X _ _ hC) (looks_findIn X T.iC) (fun self => bind_fn X self T.tC) (one_size v) ?_
  refine err_init (s := ⟨(hp.push (kdv_tup [v])).push (excO C hp.objs.size), g, dr, tk, os⟩) T (X.keeps k) (hlim.keeps k) hget ?_ fun h' tk' dx ⟨k', hx, dn, dne, hns⟩ => ?_
  · show A.depth + 1 < recursionLimit
    exact hroom
  · have old : ∀ b o, hp.get? b = some o → h'.get? b = some o := fun b o e => k' b o (Nat.ne_of_lt (Nat.lt_succ_of_lt (Heap.lt_size e))) (k b o e)
    have z : hp.objs.size + 1 + 1 ≤ dx := by
      first
        | (simpa only [Heap.size_push] using dn)
        | exact dn
        | (have q := dn; rw [Heap.size_push, Heap.size_push] at q; exact q)
    exact ⟨rfl, hq h' tk' (hp.objs.size + 1) dx ⟨old, Nat.le_succ _, ⟨_, _, hx, rfl, rfl, rfl, rfl⟩, Nat.le_trans (Nat.le_trans (Nat.le_succ _) (Nat.le_succ _)) z, dne, hns⟩⟩
end
end Xw
namespace Xw
open PySem PySem.Spec PyProof.Rows L2
theorem relO_at {v : V} {v' : Value} (r : RelV v v') (f : Str) : RelO (List.lookup f [(("word" : Str), v)]) (if f = "word" then some v' else none) := by
  by_cases hw : f = "word"
  · subst hw
    rw [if_pos rfl]
    have q : List.lookup ("word" : Str) [(("word" : Str), v)] = some v := by simp [List.lookup]
    rw [q]
    exact r
  · rw [if_neg hw]
    have qw : (f == ("word" : Str)) = false := by simpa using hw
    have q2 : List.lookup f [(("word" : Str), v)] = none := by simp [List.lookup, qw]
    rw [q2]
    trivial
section
variable {X : Cx} {cn : Str} {C fI : Addr}
/-- cn(e) -/
def tMk (C : Addr) (ta : TA) : L2.St → Hp → XK → Prop := fun σ H Q => ta σ H fun vs H1 => ∃ v, vs = [v] ∧ ∀ d, H1 d = none → Q (.ref C) (some d) (upd H1 d (.xd [(("word" : Str), v)]))
theorem pmk_at {a : Expr} {ta : TA} {p pos : Pos} {k : Nat} (T : ErrC X.K X.mg cn C fI) (hr : Room k X.A) (ha : PA X [a] ta) (hg : Gl X cn) (hdb : (cn == ("__debug__" : Str)) = false := by decide)
    (he : starEach (a :: []) X.env = (false, eval a X.env) :: starEach [] X.env := by rfl) (hpl : (backTo pos (starEach [] X.env)).any (·.1) = false := by rfl) :
    PMk X (.Call (.Name cn p) [a] [] pos) (tMk C ta) := by
  intro pins s σ H Q I h
  refine wpAny_Call_Name_kw (ld_glob I hg T.gC ?_ hdb)
  refine PySem.W.callWith_K (h₀ := X.base) I.ok.mod.kin T.kC (thn (ha.run pos pins s σ H _ I h) fun us s1 hh => ?_) he hpl
  obtain ⟨vs, H1, I1, r1, v, ev, q1⟩ := hh
  subst ev
  refine ⟨I1.kIn, ?_⟩
  cases r1 with
  | cons rv rn =>
    rename_i v' us'
    cases rn
    show wpAny _ _ (call (.ref C) [v']) _ _ _
    have hlim := I1.nolimit
    obtain ⟨hp, g, dr, tk, os⟩ := s1
    refine wpAny_call (err_made T I1.kIn hlim (by have := hr.dp; omega) fun h' tk' e d M => ?_)
    show MkP X pins σ Q (.ref e) ⟨h', g, dr, tk', os⟩
    obtain ⟨oe, fv, hoe, hc, hd, hdat, h1⟩ := M.obj
    have hns := M.ns
    obtain ⟨G', g1, g2⟩ := restrict h' fun b => decide (b ≠ e)
    have gk : ∀ b, b ≠ e → G'.get? b = h'.get? b := fun b hb => g1 b (decide_eq_true hb)
    have ge : G'.get? e = none := g2 e (by simp)
    have old : ∀ b o, hp.get? b = some o → G'.get? b = some o := fun b o q => (gk b (Nat.ne_of_lt (Nat.lt_of_lt_of_le (Heap.lt_size q) M.new))).trans (M.keep b o q)
    have ob : ObjOk X.prog X.w (upd H1 d (.xd [(("word" : Str), v)])) G' d (.xd [(("word" : Str), v)]) :=
      ⟨_, hns.at (fun o q => (gk d M.dne).trans q), fun f => relO_at rv f⟩
    have J : Inv X pins σ (upd H1 d (.xd [(("word" : Str), v)])) ⟨G', g, dr, tk', os⟩ := I1.laid (t' := tk') old M.dbig ob
    refine ⟨e, oe, fv, ⟨G', g, dr, tk', os⟩, _, .ref C, some d, rfl, J, fun b o q => ?_, ge, hoe, ⟨hc, hd⟩, hdat, h1, ?_, rfl, I1.bare, raises_own T.exC T.tyC, q1 d (I1.hok.fresh M.dbig)⟩
    · by_cases hb : b = e
      · have q' : G'.get? b = some o := q
        rw [hb, ge] at q'; cases q'
      · exact (gk b hb).symm.trans q
    · rw [upd_ne (Ne.symm M.dne)]
      exact I1.hok.fresh M.new
/-- raise cn(e) -/
def tRaise (C : Addr) (W : WX) (ta : TA) : TS := fun _ σ H => tMk C ta σ H fun cls d H' => W cls d σ H'
theorem ps_raiseAt {a : Expr} {ta : TA} {W : WX} {p pos pos2 : Pos} {k : Nat} (hc : X.calm = true) (T : ErrC X.K X.mg cn C fI) (hr : Room k X.A) (tk : Takes X W) (ha : PA X [a] ta) (hg : Gl X cn) (hdb : (cn == ("__debug__" : Str)) = false := by decide)
    (he : starEach (a :: []) X.env = (false, eval a X.env) :: starEach [] X.env := by rfl) (hpl : (backTo pos (starEach [] X.env)).any (·.1) = false := by rfl) :
    PS X (.Raise (some (.Call (.Name cn p) [a] [] pos)) none pos2) (tRaise C W ta) := ps_raise hc tk (pmk_at T hr ha hg hdb he hpl)
theorem ErrC.xf (T : ErrC X.K X.mg cn C fI) : XfC X.K C := ⟨T.ga, T.gg, T.exC, T.hdC⟩
end
end Xw

/-! xs[::-1] of a tuple -/
namespace Rv
open PySem PySem.Spec PyProof.Rows L2 Hb Sq Ow
theorem places_rev (n : Nat) : Builtin.Slice.slicePlaces ((n : Int) - 1) (-1) (-1) = n := by
  unfold Builtin.Slice.slicePlaces
  rw [if_neg (by decide)]
  by_cases c : n = 0
  · subst c; decide
  · rw [if_pos (by omega)]
    have : ((n : Int) - 1 - -1 - 1) / - -1 + 1 = (n : Int) := by
      have : (- -1 : Int) = 1 := rfl
      rw [this, Int.ediv_one]; omega
    rw [this]; omega
theorem applied_rev {prog : Program} {w : World} {A : Around} {E : Value → Shared → Prop} {s : Shared} {sl : Addr} {vl vu vs : Value} {n : Nat} {Q : Int × Int × Nat → Shared → Prop}
    (hs : s.heap.IsSliceOf sl vl vu vs) (pl : IsPart vl none) (pu : IsPart vu none) (ps : IsPart vs (some (-1))) (h : Q ((n : Int) - 1, -1, n) s) : wpAny (model prog w) A (Builtin.Slice.sliceApplied (.ref sl) (pure (n : Int))) Q E s := by
  obtain ⟨os, hos, hcs, hds⟩ := id hs
  refine wpAny_bind (wpAny_bind (wpAny_field hos hds rfl (wpAny_bind (wpAny_field hos hds rfl (wpAny_bind (wpAny_field hos hds rfl (wpAny_pure (wpAny_bind (HT.slicePart_ ps ?_)))))))))
  show wpAny (model prog w) A (if ((-1 : Int) == 0) = true then _ else _) Q E s
  rw [if_neg (by decide)]
  refine wpAny_bind (HT.slicePart_ pl (wpAny_bind (HT.slicePart_ pu (wpAny_bind (wpAny_pure ?_)))))
  show wpAny (model prog w) A (pure ((n : Int) - 1, -1, Builtin.Slice.slicePlaces ((n : Int) - 1) (-1) (-1))) Q E s
  rw [places_rev]
  exact wpAny_pure h
theorem fm_map {α β : Type} (f : α → Option β) (g : α → β) : ∀ l : List α, (∀ k ∈ l, f k = some (g k)) → l.filterMap f = l.map g
  | [], _ => rfl
  | a :: l, h => by
    rw [List.filterMap_cons, h a List.mem_cons_self, List.map_cons, fm_map f g l fun k hk => h k (List.mem_cons_of_mem _ hk)]
theorem pick_rev (xs : Array Value) : (List.filterMap (fun k : Nat => xs[(((xs.size : Nat) : Int) - 1 + (k : Int) * -1).toNat]?) (List.range xs.size)).toArray = xs.toList.reverse.toArray := by
  congr 1
  apply List.ext_getElem?
  intro i
  have key : List.filterMap (fun k : Nat => xs[(((xs.size : Nat) : Int) - 1 + (k : Int) * -1).toNat]?) (List.range xs.size) = (List.range xs.size).map (fun k => xs.getD (xs.size - 1 - k) .none) := by
    refine fm_map _ _ _ fun k hk => ?_
    have hk := List.mem_range.mp hk
    have e : (((xs.size : Nat) : Int) - 1 + (k : Int) * -1).toNat = xs.size - 1 - k := by omega
    rw [e]
    have hlt : xs.size - 1 - k < xs.size := by omega
    rw [Array.getElem?_eq_getElem hlt]
    simp [Array.getD, hlt]
  rw [key, List.getElem?_map]
  by_cases hi : i < xs.size
  · rw [List.getElem?_range hi, List.getElem?_reverse (by rw [Array.length_toList]; exact hi)]
    have hlt : xs.size - 1 - i < xs.size := by omega
    rw [Array.length_toList, Array.getElem?_toList, Array.getElem?_eq_getElem hlt]
    simp [Array.getD, hlt]
  · rw [List.getElem?_eq_none (by rw [List.length_range]; omega), List.getElem?_eq_none (by rw [List.length_reverse, Array.length_toList]; omega)]
    rfl
theorem getItem_tuple_rev {prog : Program} {w : World} {A : Around} {E : Value → Shared → Prop} {s : Shared} {t sl : Addr} {items : Array Value} {vl vu vs : Value} {Q : Value → Shared → Prop}
    (ht : IsTup s.heap t items) (hs : s.heap.IsSliceOf sl vl vu vs) (pl : IsPart vl none) (pu : IsPart vu none) (ps : IsPart vs (some (-1)))
    (h : Q (.ref s.heap.objs.size) { s with heap := s.heap.push { cls := .type "tuple", data := .seq items.toList.reverse.toArray } }) (hsz : items.size ≤ sizeLine) :
    wpAny (model prog w) A (getItem (.ref t) (.ref sl)) Q E s := by
  obtain ⟨os, hos, hcs, hds⟩ := id hs
  have hTs : s.TypeIs (.ref sl) "slice" := ⟨os, hos, hcs⟩
  refine wpAny_holding (wpAny_bind (wpAny_sequenceKey ht.typeIs (by decide) (wpAny_bind (wpAny_callSpecial?_slot ht.typeIs PyProof.Rows.slot_tuple_getitem (wpAny_call_entry PyProof.Rows.slot_tuple_getitem ht.typeIs PyProof.Rows.entry_tuple_getitem ?_ (PyProof.Rows.args_tuple_getitem (.ref t) (.ref sl)))))))
  unfold Builtin.«tuple.__getitem__»
  rw [show slotArgs "__getitem__" 1 { pos := [Value.ref t, Value.ref sl] } = pure (Value.ref t, [Value.ref sl]) from rfl]
  refine wpAny_bind (wpAny_pure ?_)
  refine wpAny_bind (PyProof.Rows.tupleItemsOf_ ht (wpAny_bind (wpAny_typeOf hTs ?_)))
  rw [if_pos (by decide)]
  refine wpAny_bind (applied_rev hs pl pu ps ?_)
  show wpAny (model prog w) A.in1 (if (((items.size : Int) - 1 == 0 && (-1 : Int) == 1) && items.size == items.size) = true then _ else _) _ E s
  rw [if_neg (by simp)]
  show wpAny (model prog w) A.in1 (do let r ← Builtin.Tuple.tupleExact (List.filterMap (fun k : Nat => items[(((items.size : Nat) : Int) - 1 + (k : Int) * -1).toNat]?) (List.range items.size)).toArray; ret r) _ E s
  rw [pick_rev]
  refine wpAny_bind (wpAny_newObj_type (wpAny_pure ⟨.ref s.heap.objs.size, rfl, wpAny_pure h⟩) ?_)
  show items.toList.reverse.toArray.size ≤ sizeLine
  rw [List.size_toArray, List.length_reverse, Array.length_toList]
  exact hsz
def tRevT (K : PySem.W.Frag) (te : TE) : TE := fun σ H Q => te σ H fun x H1 => ∃ a xs, x = .ref a ∧ SqT K H1 a xs ∧ ∀ p, H1 p = none → Q (.ref p) (upd H1 p (.tup xs.reverse))
theorem pe_revT {X : Cx} {e st : Expr} {te ts : TE} {p3 pos : Pos} (K : PySem.W.Frag) (he : PE X e te) (hs : PE X st ts) (hN : ∀ σ H (Q : VK), Q (.int (-1)) H → ts σ H Q) (hK : X.K = K := by rfl) : PE X (.Subscript e (.Slice none none (some st) p3) pos) (tRevT K te) := by
  subst hK
  refine ⟨fun pins s σ H Q I h => Subscript_ (thn (he.run pins s σ H _ I h) fun v s1 ⟨x, H1, I1, r1, a, xs, ex, hx, q⟩ => ?_)⟩
  subst ex; cases r1
  refine wpAny_Slice (thn (po_none.run pins s1 σ H1 (fun o H2 => o = none ∧ H2 = H1) I1 ⟨rfl, rfl⟩) fun vl s2 ⟨l, H2, I2, pl, el, e2⟩ => ?_)
  subst el e2
  refine thn (po_none.run pins s2 σ H2 (fun o H3 => o = none ∧ H3 = H2) I2 ⟨rfl, rfl⟩) fun vu s3 ⟨u, H3, I3, pu, eu, e3⟩ => ?_
  subst eu e3
  refine thn ((po_some hs).run pins s3 σ H3 (fun o H4 => o = some (-1) ∧ H4 = H3) I3 (hN σ H3 _ ⟨-1, rfl, rfl, rfl⟩)) fun vs s4 ⟨o, H4, I4, ps, eo, e4⟩ => ?_
  subst eo e4
  have I5 : Inv X pins σ H4 { s4 with heap := s4.heap.push { cls := .type "slice", data := .fields #[vl, vu, vs] } } := I4.kept (t' := s4.toks) fun b ob q => Heap.get?_push_of_some _ q
  obtain ⟨its, r, ht, hz⟩ := I5.tuple hx
  have hlen := r.length
  show wpAny (model X.prog X.w) X.A (subscriptTail e (.Slice none none (some st) p3) (.ref a) (.ref s4.heap.objs.size)) (EP X pins σ Q) X.xe { s4 with heap := s4.heap.push { cls := .type "slice", data := .fields #[vl, vu, vs] } }
  refine tail_any (ops := [.ref a, .ref s4.heap.objs.size]) ht.typeIs (PyProof.Rows.slot_tuple_getitem.lookup) ?_ (by with_unfolding_all rfl)
  refine getItem_tuple_rev ht (Heap.IsSliceOf.new _ vl vu vs) pl pu ps ?_ (by rw [List.size_toArray]; omega)
  exact ⟨.ref _, _, I5.laid (t' := s4.toks) (o := .tup xs.reverse) (fun b ob q => Heap.get?_push_of_some _ q) (Nat.le_refl _) ⟨by rw [List.length_reverse]; exact hz, _, r.reverse, _, Heap.get?_push_size _ rfl, rfl, 0, rfl⟩, rfl, q _ (I5.hok.fresh (Nat.le_refl _))⟩
end Rv

/-! names and data that may be compared by == -/
namespace Da
open PySem PySem.Spec PyProof.Rows L2 Hb St Sq
def IsNm (x : Str) : Prop := 0 < x.length ∧ x.length ≤ 8 ∧ ∀ c ∈ x.cps.toList, 97 ≤ c ∧ c < 123
/-! ### names -/
theorem az_all : ((List.range 26).all fun k => Unicode.isAlpha (97 + k) && Unicode.isLower (97 + k) && !Unicode.isUpper (97 + k) && !Unicode.isTitle (97 + k)) = true := by decide +kernel
theorem az {c : Nat} (h : 97 ≤ c ∧ c < 123) : Unicode.isAlpha c = true ∧ Unicode.isLower c = true ∧ Unicode.isUpper c = false ∧ Unicode.isTitle c = false := by
  have q := List.all_eq_true.mp az_all (c - 97) (List.mem_range.mpr (by omega))
  rw [show 97 + (c - 97) = c by omega] at q
  simp only [Bool.and_eq_true, Bool.not_eq_true'] at q
  exact ⟨q.1.1.1, q.1.1.2, q.1.2, q.2⟩
theorem nm_all {x : Str} (h : IsNm x) {p : Nat → Bool} (k : ∀ c, 97 ≤ c ∧ c < 123 → p c = true) : x.cps.all p = true := by
  rw [Array.all_eq_true_iff_forall_mem]
  exact fun c hc => k c (h.2.2 c (Array.mem_toList_iff.mpr hc))
theorem nm_ascii {x : Str} (h : IsNm x) : Txt.isascii x = true := nm_all h fun c hc => by simp; omega
theorem nm_alpha {x : Str} (h : IsNm x) : Txt.isalpha x = true := by
  unfold Txt.isalpha
  rw [nm_all h fun c hc => (az hc).1, decide_eq_true h.1]; rfl
theorem nm_lower {x : Str} (h : IsNm x) : Txt.islower x = true := by
  unfold Txt.islower
  have h1 : x.cps.any Unicode.isLower = true := by
    rw [Array.any_eq_true]
    have hp : 0 < x.cps.size := h.1
    exact ⟨0, hp, (az (h.2.2 _ (by simp))).2.1⟩
  have h2 : (x.cps.any fun c => Unicode.isUpper c || Unicode.isTitle c) = false := by
    rw [Array.any_eq_false]
    intro i hi
    have := az (h.2.2 x.cps[i] (by simp))
    rw [this.2.2.1, this.2.2.2]; decide
  rw [h1, h2]; rfl
theorem eqv_int (a b : Int) : PyData.eqv (.int a) (.int b) = decide (a = b) := by
  show (a == b) = _
  by_cases h : a = b
  · subst h; simp
  · simp [h]
theorem eqv_str (a b : Str) : PyData.eqv (.str a) (.str b) = decide (a = b) := by
  show (a == b) = _
  by_cases h : a = b
  · subst h; simp
  · rw [decide_eq_false h]; exact beq_eq_false_iff_ne.mpr h
theorem eqvAll_map {α : Type} [DecidableEq α] {f : α → PyData} (h : ∀ a b, PyData.eqv (f a) (f b) = decide (a = b)) : ∀ xs ys : List α, PyData.eqvAll (xs.map f) (ys.map f) = decide (xs = ys)
  | [], [] => rfl
  | [], _ :: _ => rfl
  | _ :: _, [] => rfl
  | x :: xs, y :: ys => by
    show (PyData.eqv (f x) (f y) && PyData.eqvAll (xs.map f) (ys.map f)) = _
    rw [h, eqvAll_map h xs ys, ← Bool.decide_and]
    exact decide_eq_decide.mpr (by rw [List.cons.injEq])
/-- may be compared, no deeper than n -/
def Sh (n : Nat) (d : PyData) : Prop := PyData.canLay0 d = true ∧ PyData.depth d ≤ n
theorem sh_all {α : Type} {f : α → PyData} {n : Nat} : ∀ {l : List α}, (∀ a ∈ l, Sh n (f a)) → PyData.canLayAll0 (l.map f) = true ∧ PyData.depthAll (l.map f) ≤ n
  | [], _ => ⟨rfl, Nat.zero_le _⟩
  | a :: l, h => by
    obtain ⟨h1, h2⟩ := h a List.mem_cons_self
    obtain ⟨k1, k2⟩ := sh_all fun b hb => h b (List.mem_cons_of_mem a hb)
    refine ⟨?_, Nat.max_le.mpr ⟨h2, k2⟩⟩
    show (PyData.canLay0 (f a) && PyData.canLayAll0 (l.map f)) = true
    rw [h1, k1]; rfl
theorem sh_tup {α : Type} {f : α → PyData} {n : Nat} {l : List α} (h : ∀ a ∈ l, Sh n (f a)) : Sh (n + 1) (.tuple (l.map f)) := let ⟨a, b⟩ := sh_all h; ⟨a, Nat.succ_le_succ b⟩
theorem sh_lst {α : Type} {f : α → PyData} {n : Nat} {l : List α} (h : ∀ a ∈ l, Sh n (f a)) : Sh (n + 1) (.list (l.map f)) := let ⟨a, b⟩ := sh_all h; ⟨a, Nat.succ_le_succ b⟩
theorem Sh.ok {n : Nat} {d : PyData} (h : Sh n d) (hn : n ≤ 64) : SeqAt.shaped d = true := by
  unfold SeqAt.shaped
  rw [h.1, decide_eq_true (Nat.le_trans h.2 hn)]; rfl
theorem sh_int (n : Nat) (i : Int) : Sh n (.int i) := ⟨rfl, Nat.zero_le _⟩
theorem sh_str {n : Nat} {x : Str} (h : IsNm x) : Sh n (.str x) := ⟨nm_all h fun c hc => decide_eq_true (by omega), Nat.zero_le _⟩
section
variable {K : PySem.W.Frag} {H : Hp}
theorem dp_strs : ∀ xs : List Str, DpAll K H (xs.map V.str) (xs.map PyData.str)
  | [] => .nil
  | x :: xs => .cons (.str x) (dp_strs xs)
theorem dp_intl : ∀ xs : List Int, DpAll K H (xs.map V.int) (xs.map PyData.int)
  | [] => .nil
  | x :: xs => .cons (.int x) (dp_intl xs)
theorem dp_all {α : Type} {R : V → α → Prop} {f : α → PyData} (h : ∀ v a, R v a → Dp K H v (f a)) : ∀ {vs : List V} {ds : List α}, All2 R vs ds → DpAll K H vs (ds.map f)
  | _, _, .nil => .nil
  | _, _, .cons r t => .cons (h _ _ r) (dp_all h t)
end
end Da

/-! comprehensions whose items draw from a box; texts without doubles -/
namespace Lg
open PySem PySem.Spec PyProof.Rows L2 Hb St Sq
/-- a comprehension: M stands ahead of the i-th item -/
theorem lc_go {J : It} {a : Addr} {S : Hp → Prop} {xs : List V} (W : Wk J a S xs) {g : TG} {tt : TT} {te : TE} {vs : List Nat} {σ : L2.St} {H1 : Hp} {D : Addr} {Qd : Hp → Prop} (M : Nat → Hp → Prop)
    (h0 : M 0 (upd H1 D (.lst []))) (stand : ∀ i H, M i H → S H)
    (hs : ∀ i x H, xs[i]? = some x → M i H → g x (wipe σ vs) H fun σ2 H2 => wipe σ2 vs = wipe σ vs ∧ tt σ2 H2 fun b H3 =>
      if b = true then te σ2 H3 fun y H4 => ∃ acc, H4 D = some (.lst acc) ∧ acc.length < sizeLine ∧ M (i + 1) (upd H4 D (.lst (acc ++ [y]))) else M (i + 1) H3)
    (hd : ∀ H, M xs.length H → Qd H) :
    ∃ W : Nat → Nat → Hp → Prop, (∃ m, W 0 m (upd H1 D (.lst []))) ∧ ∀ i m H, W i m H →
      (J.stop i H ∧ Qd H) ∨ (J.go i H ∧ ∃ Nx : Hp → Prop, (∀ H', Nx H' → ∃ m', m' < m ∧ W (i + 1) m' H') ∧ ∀ v H', J.yld i H v H' → g v (wipe σ vs) H' fun σ2 H2 => wipe σ2 vs = wipe σ vs ∧ tt σ2 H2 fun b H3 =>
        if b = true then te σ2 H3 fun y H4 => ∃ acc, H4 D = some (.lst acc) ∧ acc.length < sizeLine ∧ Nx (upd H4 D (.lst (acc ++ [y]))) else Nx H3) := by
  refine ⟨fun i m H => m + i = xs.length ∧ M i H, ⟨xs.length, rfl, h0⟩, fun i m H ⟨e, p⟩ => ?_⟩
  cases m with
  | zero =>
    obtain rfl : i = xs.length := by omega
    exact .inl ⟨W.stop H (stand _ _ p), hd H p⟩
  | succ m =>
    have hi : i < xs.length := by omega
    refine .inr ⟨W.go i H hi (stand _ _ p), M (i + 1), fun H' p' => ⟨m, Nat.lt_succ_self m, by omega, p'⟩, fun v H' y => ?_⟩
    obtain ⟨rfl, ev⟩ := W.yld i H v H' hi (stand _ _ p) y
    exact hs i v H' ev p
theorem sub_yes {α : Type} {xs ns : List α} {i : Nat} {x : α} (s : xs.Sublist (ns.take i)) (e : ns[i]? = some x) : (xs ++ [x]).Sublist (ns.take (i + 1)) := by
  rw [List.take_add_one, e]
  exact s.append (List.Sublist.refl _)
theorem sub_no {α : Type} {xs ns : List α} {i : Nat} (s : xs.Sublist (ns.take i)) : xs.Sublist (ns.take (i + 1)) := by
  rw [List.take_add_one]
  exact s.trans (List.sublist_append_left _ _)
end Lg

/-! several clauses "except x as n", all with one name; repr of ints and None -/
namespace Ty
open PySem PySem.Spec PyProof.Rows L2
abbrev Cls := Addr → Value → Option Addr → TS
def offEnds (D : Ends) (i : Nat) : Ends := { nx := fun τ G => D.nx (τ.set i none) G, rt := D.rt, bk := fun τ G => D.bk (τ.set i none) G, ct := fun τ G => D.ct (τ.set i none) G }
/-- what the clauses wish, one behind the other -/
def wAsM (K : PySem.W.Frag) (Wout : WX) (D : Ends) (i m : Nat) : List (Value × Cls) → WX
  | [] => Wout
  | (c, ts) :: r => fun cls d τ G => ∃ b, PySem.W.exmOne K cls c = some b ∧ (b = true → ∀ z, G z = none → τ.length = m → ts z cls d (offEnds D i) (τ.set i (some (.ref z))) G) ∧ (b = false → wAsM K Wout D i m r cls d τ G)
inductive CsOk (X : Cx) (n : Str) : List ExceptHandler → List (Value × Cls) → Prop
  | nil : CsOk X n [] []
  | cons {x : Str} {c : Value} {ts : Cls} {b₁ : Stmt} {rest : List Stmt} {np pp : Pos} {hds : List ExceptHandler} {l : List (Value × Cls)} (nm : Names X x c)
      (su : ∀ (z : Addr) (oz : Obj) (cls : Value) (d : Option Addr) (pn : List (Addr × Obj)), Zc cls d oz → (∃ vs, oz.data = .fields vs) → PSs (X.suite z ((z, oz) :: pn)) (b₁ :: rest) (ts z cls d)) (r : CsOk X n hds l) :
      CsOk X n (.ExceptHandler (some (.Name x np)) (some n) (b₁ :: rest) pp :: hds) ((c, ts) :: l)
section
variable {X : Cx} {n : Str} {i : Nat} {body : List Stmt} {hd₀ : ExceptHandler} {hds : List ExceptHandler} {l : List (Value × Cls)} {pos : Pos} {tb : WX → TS} {Wout : WX}
theorem ps_try_asM (stk : X.stack = X.env :: X.outer) (frm : X.env.frame = some X.env.locals) (nd : X.N.Nodup) (at_i : X.N[i]? = some n) (lcl : X.env.kindOf n = some .local) (tk : Takes X Wout)
    (bd : ∀ (W : WX) (pn : List (Addr × Obj)) (xe : Value → Shared → Prop), Takes (X.tr pn xe) W → PassesOwn (model X.prog X.w) X.A X.env xe → PSs (X.tr pn xe) body (tb W))
    (cl : CsOk X n (hd₀ :: hds) l) : PS X (.Try body (hd₀ :: hds) [] [] pos) (fun D τ G => tb (wAsM X.K Wout D i X.N.length l) D τ G) := by
  refine ⟨fun pin s τ G D I hw => ?_⟩
  have okX := I.ok
  have frs_ : X.A.frames = some (X.env :: X.outer) := by rw [okX.frames, stk]
  have nloc : Loc X.env.scope n := .inl lcl
  refine wpAny_Try_except ?_
  refine wpAny_mono ((bd (wAsM X.K Wout D i X.N.length l) (X.pn ++ pin) (fun e u₁ => wpAny (model X.prog X.w) X.A (noteFrame e X.env) (fun _ u₂ => wpAny (model X.prog X.w) X.A (setFlight e none) (fun _ u₃ =>
    wpAny (model X.prog X.w) X.A (handleBy e X.env (hd₀ :: hds)) (SP X pin D) X.xe u₃) X.xe u₂) X.xe u₁) (fun u v xx => ?_) PassesOwn.looking).run [] s τ G D (I.toTry _) hw) (fun f s1 out => ?_) (fun _ _ z => z)
  · obtain ⟨z, B, sI, pin', τ', G', cls, d, rfl, J', nb, up, sky, na, os, ag, w⟩ := xx
    have J : Inv X pin τ' G' sI := J'.ofTry okX
    have sky2 : Sky B (X.env :: X.outer) z (Zc cls d) X.env.locals v.heap := by rw [← stk]; exact sky
    show wpAny (model X.prog X.w) X.A (noteFrame (.ref z) X.env) _ _ _
    refine Sky.land Zc.steady frs_ frm sky2 fun g3 fl3 up3 => ?_
    have J3 : Inv X pin τ' G' { v with heap := g3 } := J.landed nb fl3.1 (up.trans up3) os ag
    obtain ⟨oz3, _, ez3, hz3, dz3⟩ := fl3.there
    have away : z ∉ frs (X.env :: X.outer) := fun hm => by
      obtain ⟨_, o', e', nf⟩ := fl3.2.2.1.mem hm
      rw [ez3] at e'; cases e'
      exact nf _ dz3
    have nL : z ≠ X.env.locals := fun q => away (List.mem_filterMap.mpr ⟨X.env, List.mem_cons_self, by rw [frm, q]⟩)
    have nF : z ∉ X.fs := fun hm => by
      obtain ⟨e, he, q⟩ := List.mem_filterMap.mp hm
      exact away (List.mem_filterMap.mpr ⟨e, List.mem_cons_of_mem _ he, q⟩)
    have S3 := J3.suite ez3 dz3 na nL nF
    have walk : ∀ {hs' : List ExceptHandler} {l' : List (Value × Cls)}, CsOk X n hs' l' → wAsM X.K Wout D i X.N.length l' cls d τ' G' →
        wpAny (model X.prog X.w) X.A (handleBy (.ref z) X.env hs') (SP X pin D) X.xe { v with heap := g3 } := by
      intro hs' l' hk
      induction hk with
      | nil =>
        intro w
        refine wpAny_handleBy_nil ?_
        obtain ⟨_, _, _, oe, vs, T, oT, t2, he, hz, hd, h1, hr⟩ := id fl3
        unfold PySem.passOn
        refine wpAny_bind (wpAny_field he hd h1 ?_)
        rw [if_neg (show ¬ ((Value.ref T == Value.none) = true) from by simp)]
        have fin : wpAny (model X.prog X.w) X.A (setFlight (.ref z) X.env.frame) (fun _ u4 => wpAny (model X.prog X.w) X.A (throw (.ref z) : Sem Flow) (SP X pin D) X.xe u4) X.xe { v with heap := g3 } := by
          rw [frm]
          refine HandSPX.setFlight_upZ fl3 fun g4 hh4 up4 => wpAny_throw (tk _ _ ?_)
          exact ⟨z, B, sI, pin, τ', G', cls, d, rfl, J, nb, (up.trans up3).trans up4, .inr (.inr (by rw [stk]; exact hh4)), na, os, ag, w⟩
        first
          | exact wpAny_bind (wpAny_pure (wpAny_bind fin))
          | exact wpAny_bind fin
      | @cons x c ts b₁ rest np pp hds2 l2 nm su r ih =>
        intro w
        obtain ⟨b, is, yes, no⟩ := w
        refine wpAny_handleBy_cons (codeAny_handlers_test ?_) (by intro q; cases q)
        have LT : PySem.W.Looks (model X.prog X.w) g3 (typeOf (.ref z)) cls := fun A Q E u k q => wpAny_typeOf_ref (k _ _ ez3) (by rw [hz3.1]; exact q)
        have LM := PySem.W.exm_one (M := model X.prog X.w) (J3.kIn) LT is
        have look : ∀ {Q : Value → Shared → Prop} {E : Value → Shared → Prop}, Q c { v with heap := g3 } → wpAny (model X.prog X.w) (X.A.mark (some (.ref z))) (eval (.Name x np) X.env) Q E { v with heap := g3 } := fun {Q E} q => by
          obtain ⟨gl, db, h1 | ⟨h1, h2, h3⟩⟩ := nm
          · exact ld_glob (X := X.suite z ((z, oz3) :: (X.pn ++ pin))) S3 gl h1 q db
          · exact ld_blt (X := X.suite z ((z, oz3) :: (X.pn ++ pin))) S3 gl h1 h2 q h3 db
        refine look (LM.here ?_)
        cases b with
        | true =>
          refine codeAny_handlers_suite_as ?_
          refine HandSPX.lands_againZ fl3 fun g4 fl4 up4 => ?_
          have J4 : Inv X pin τ' G' { v with heap := g4 } := J.landed nb fl4.1 ((up.trans up3).trans up4) os ag
          obtain ⟨oz4, _, ez4, hz4, dz4⟩ := fl4.there
          have S4 := J4.suite ez4 dz4 na nL nF
          refine store_ok (X := X.suite z ((z, oz4) :: (X.pn ++ pin))) (v := .ref z) S4 nd at_i nloc rfl (fun s5 S5 => ?_) (.inr lcl)
          refine wpAny_mono ((su z oz4 cls d (X.pn ++ pin) hz4 ⟨_, dz4⟩).run [] s5 _ G' _ S5 (yes rfl z na J.len)) (fun f s6 q6 => ?_) (fun _ _ y => False.elim y)
          have gone : ∀ {τ6 : L2.St} {G6 : Hp} {Q : Shared → Prop}, Inv (X.suite z ((z, oz4) :: (X.pn ++ pin))) [] τ6 G6 s6 → (∀ s7, Inv X pin (τ6.set i none) G6 s7 → Q s7) →
              wpAny (model X.prog X.w) X.A (do bindName X.env n .none; unbindBehindTheSuite X.env n pp) (fun _ s7 => Q s7) X.xe s6 := fun {τ6 G6 Q} S6 hq => gone_ok (S6.unsuite okX) nd at_i lcl hq
          rcases f with _ | _ | _ | u
          · obtain ⟨_, _, S6, q⟩ := q6
            exact gone S6 fun s7 J7 => ⟨_, _, J7, q⟩
          · obtain ⟨_, _, S6, q⟩ := q6
            exact gone S6 fun s7 J7 => ⟨_, _, J7, q⟩
          · obtain ⟨_, _, S6, q⟩ := q6
            exact gone S6 fun s7 J7 => ⟨_, _, J7, q⟩
          · obtain ⟨_, _, _, S6, r6, q⟩ := q6
            exact gone S6 fun s7 J7 => ⟨_, _, _, J7, r6, q⟩
        | false =>
          show wpAny _ X.A (handleBy (.ref z) X.env hds2) _ _ _
          exact ih (no rfl)
    exact walk cl w
  · rcases f with _ | _ | _ | u
    · obtain ⟨_, _, J', q⟩ := out
      exact wpAny_execs_nil ⟨_, _, J'.ofTry okX, q⟩
    · obtain ⟨_, _, J', q⟩ := out
      exact ⟨_, _, J'.ofTry okX, q⟩
    · obtain ⟨_, _, J', q⟩ := out
      exact ⟨_, _, J'.ofTry okX, q⟩
    · obtain ⟨_, _, _, J', r, q⟩ := out
      exact ⟨_, _, _, J'.ofTry okX, r, q⟩
end
/-! ### repr of an int or None -/
def reprN : Option Int → Str
  | some k => Str.ofString (toString k)
  | none => Str.ofString "None"
def optI : Option Int → V
  | some k => .int k
  | none => .non
def rReprN : List V → Hp → VK → Prop := fun xs H Q => ∃ o : Option Int, xs = [optI o] ∧ (∀ k, o = some k → k.natAbs.log2 < 1920) ∧ Q (.str (reprN o)) H
theorem cr_reprN {X : Cx} : CallR X (.builtin "repr") rReprN := by
  intro pins s σ H xs us Q I r h
  obtain ⟨o, rfl, hb, q⟩ := h
  obtain ⟨u, rfl, ru⟩ := vals1 r
  cases o with
  | none =>
    cases (show u = Value.none from ru)
    exact P.repr_of_none ⟨.str _, H, I.tok _, ⟨_, rfl⟩, q⟩
  | some k =>
    obtain ⟨t, rfl⟩ := (show ∃ t, u = Value.int k t from ru)
    exact P.repr_of_int (hb k rfl) ⟨.str _, H, I.tok _, ⟨_, rfl⟩, q⟩
end Ty

/-! repr of a bool -/
namespace Rb
open PySem PySem.Spec PyProof.Rows L2 Hb Ty
def rReprB (t f : Str) : List V → Hp → VK → Prop := fun xs H Q => ∃ b : Bool, xs = [.bl b] ∧ Q (.str (if b then t else f)) H
theorem cr_reprB {X : Cx} : CallR X (.builtin "repr") (rReprB (Str.ofString "True") (Str.ofString "False")) := by
  intro pins s σ H xs us Q I r h
  obtain ⟨b, rfl, q⟩ := h
  obtain ⟨u, rfl, ru⟩ := vals1 r
  obtain rfl : u = Value.bool b := ru
  cases b with
  | true => exact P.repr_of_bool ⟨.str _, H, I.tok _, ⟨_, rfl⟩, q⟩
  | false => exact P.repr_of_bool ⟨.str _, H, I.tok _, ⟨_, rfl⟩, q⟩
end Rb

namespace Xb
open PySem PySem.Spec PyProof.Rows L2
/-- isinstance of the caught error, whose own dict is known -/
structure IsC (K : PySem.W.Frag) (C : Addr) : Prop where
  cl : (PySem.W.clsIn K C).isSome = true
  ga : PySem.W.findIn K (.ref C) "__getattribute__" = some (some (.builtin "BaseException.__getattribute__"))
  gg : PySem.W.findIn K (.ref C) "__getattr__" = some none
  ex : PySem.W.subIn K (.ref C) (.type "BaseException") = some true
  c1 : PySem.W.findIn K (.ref C) "__class__" = some (some (.builtin "object.__class__"))
  c2 : PySem.W.specialIn K (.builtin "object.__class__") "__get__" = some (some (.builtin "getset_descriptor.__get__"))
  c3 : PySem.W.takesIn K (.builtin "object.__class__") = some true
  c4 : PySem.W.mroIn K C (.type "object") = some true
def rIsAt (K : PySem.W.Frag) (a : Addr) (cls : Value) (d : Option Addr) (C : Addr) : List V → Hp → VK → Prop := fun xs H Q => cls = .ref C ∧ ∃ (c : V) (cv : Value) (b : Bool) (dd : Addr) (fs : List (Str × V)), xs = [.ref a, c] ∧ d = some dd ∧ H dd = some (.xd fs) ∧ (∀ u, RelV c u → u = cv) ∧ PySem.W.kitOne K (.ref C) cv = some b ∧ Q (.bl b) H
theorem call_isAt {X : Cx} {a C : Addr} {cls : Value} {d : Option Addr} {oe : Obj} {pn : List (Addr × Obj)} (T : IsC X.K C) (hz : Zc cls d oe) (hf : ∃ vs, oe.data = .fields vs) : CallR (X.suite a ((a, oe) :: pn)) (.builtin "isinstance") (rIsAt X.K a cls d C) := by
  intro pins s σ H xs us Q I r h
  obtain ⟨rfl, c, cv, b, dd, fs, rfl, rfl, ea, hcv, e, q⟩ := h
  match us, r with
  | [_, _], .cons r1 (.cons r2 .nil) =>
    cases r1
    have ec := hcv _ r2
    subst ec
    have pin := (I.pin (a, oe) (List.mem_append.mpr (.inl List.mem_cons_self))).1
    obtain ⟨vs, hv⟩ := hf
    obtain ⟨mA, hns, _⟩ := (I.hok dd _ ea : ObjOk X.prog X.w H s.heap dd (.xd fs))
    obtain ⟨od, ho, _⟩ := lookIn_ns hns
    have J : PySem.W.InstAt s.heap a oe C (some od) := ⟨pin, hz.1, by unfold PySem.W.notCls; rw [hv] <;> rfl, by rw [hz.2]; exact ho⟩
    exact PySem.W.kia_one (PySem.W.kitx_exc T.cl T.ga T.gg T.ex T.c1 T.c2 T.c3 T.c4) I.kIn J e (by intro z; cases z) fun tk => ⟨.bl b, H, I.kept (t' := tk) fun _ _ z => z, rfl, q⟩
end Xb

/-! a name that holds a def which may raise; calls by keywords of such; the law itself, its code object known -/
namespace Lc
open PySem PySem.Spec PyProof.Rows L2 Hb LamX
/-- the def at f, one that may raise, keeps sp -/
structure DfX (P : Program) (w : World) (K : PySem.W.Frag) (mg : Str → Option Value) (base : Heap) (lv : Nat) (f : Addr) (sp : Sp) : Prop where
  ex : ∃ (ps : List Str) (fd : FuncData), FnOk P w K mg base (L2.CX P w) lv f fd ps sp ∧ PySem.W.keepIn K (.ref f) = true ∧ Binds K fd ps []
theorem DfX.of {P : Program} {w : World} {K : PySem.W.Frag} {mg : Str → Option Value} {base : Heap} {j lv : Nat} {f : Addr} {fd : FuncData} {ps : List Str} {sp sp' : Sp} (F : FnOk P w K mg base (L2.CX P w) j f fd ps sp') (kp : PySem.W.keepIn K (.ref f) = true) (b : Binds K fd ps []) (h : j ≤ lv) (le : ∀ vs H Q E, sp vs H Q E → sp' vs H Q E) : DfX P w K mg base lv f sp :=
  ⟨ps, fd, ⟨fun vs H Q E z => F.len vs H Q E (le _ _ _ _ z), fun A o s H args us vs Q E r e0 bi va z => F.run A o s H args us vs Q E (r.mono h) e0 bi va (le _ _ _ _ z)⟩, kp, b⟩
def tVarX (P : Program) (w : World) (K : PySem.W.Frag) (mg : Str → Option Value) (base : Heap) (lv i : Nat) (sp : Sp) (E : L2.St → XK) (ta : TA) : TE := fun σ H Q => ∃ f, σ[i]? = some (some (.ref f)) ∧ DfX P w K mg base lv f sp ∧ ta σ H fun vs H1 => sp vs H1 Q (E σ)
theorem pe_varX {X : Cx} {a : Str} {lv i : Nat} {sp : Sp} {E : L2.St → XK} {p pos : Pos} {e : Expr} {es : List Expr} {ta : TA} (nm : X.N[i]? = some a) (vis : Vis X.env.scope a) (hr : Room lv X.A) (hx : ∀ σ, PassesAt (L2.CX X.prog X.w) X σ (E σ)) (ha : PA X (e :: es) ta)
    (d1 : (a == ("__debug__" : Str)) = false := by decide) (d2 : (a == ("__classdict__" : Str)) = false := by decide)
    (se : starEach (e :: es) X.env = (false, eval e X.env) :: starEach es X.env := by rfl) (sp' : (backTo pos (starEach es X.env)).any (·.1) = false := by rfl) :
    PE X (.Call (.Name a p) (e :: es) [] pos) (tVarX X.prog X.w X.K X.mg X.base lv i sp E ta) := by
  refine ⟨fun pins s σ H Q I h => ?_⟩
  obtain ⟨f, hf, ⟨ps, fd, F, kp, b⟩, h⟩ := h
  refine wpAny_Call_Name_kw (thn ((pe_var (pos := p) (i := i) nm vis d1 d2).run pins s σ H (fun v H1 => v = .ref f ∧ H1 = H) I ⟨.ref f, hf, rfl, rfl⟩) fun u s1 ⟨v, H1, I1, r1, ev, eH⟩ => ?_)
  subst ev
  rw [eH] at I1
  obtain rfl : u = Value.ref f := r1
  refine PySem.W.callWith_K (h₀ := X.base) I1.ok.mod.kin kp (thn (ha.run pos pins s1 σ H _ I1 h) fun us s2 ⟨vs, H2, I2, r2, q⟩ => ⟨I2.kIn, ?_⟩) se sp'
  exact run_fnS F hr b (hx σ) I2 r2 q
/-- f(k = v, ..), a def that may raise -/
structure CkX (P : Program) (w : World) (K : PySem.W.Frag) (mg : Str → Option Value) (base : Heap) (x : Str) (ps : List Str) (ks : List Str) (gV : List V → List V → List V) (lv : Nat) (sp : Sp) : Prop where
  ex : ∃ (f : Addr) (fd : FuncData) (g : List Value → List Value → List Value), FnOk P w K mg base (L2.CX P w) lv f fd ps sp ∧ mg x = some (.ref f) ∧ PySem.W.keepIn K (.ref f) = true ∧ KBn K fd ps 0 ks g gV
theorem pe_useKX {X : Cx} {ps ks : List Str} {gV : List V → List V → List V} {lv : Nat} {sp : Sp} {x : Str} {p pos : Pos} {tk : TA} {kws : List Keyword} {E : XK} (C : CkX X.prog X.w X.K X.mg X.base x ps ks gV lv sp) (hr : Room lv X.A) (hx : Passes (L2.CX X.prog X.w) X E) (gl : Gl X x) (hkw : PK X kws tk)
    (hall : (backToKw pos (keywordEach kws X.env)).all (·.1.isSome) = true := by rfl) (hks : (backToKw pos (keywordEach kws X.env)).filterMap (·.1) = ks := by rfl)
    (db : (x == ("__debug__" : Str)) = false := by decide) (spl : ((backTo pos (starEach [] X.env)).any (·.1) || (backToKw pos (keywordEach kws X.env)).any (·.1.isNone)) = false := by rfl) :
    PE X (.Call (.Name x p) [] kws pos) (tCallN 0 ks.length sp gV E tNil tk) := by
  obtain ⟨f, fd, g, F, mgx, kp, b⟩ := C.ex
  refine ⟨fun pins s σ H Q I h => wpAny_Call_Name_kw (ld_glob I gl mgx ?_ db)⟩
  refine PySem.W.callWith_KW0 (h₀ := X.base) I.ok.mod.kin kp hall ?_ spl
  refine thn (hkw.run pos pins s σ H _ I h) fun ws s2 ⟨zs, H2, I2, rz, l1, l2, q2⟩ => ⟨I2.kIn, ?_⟩
  rw [hks]
  exact run_fnN (us := []) (vs := []) F hr b hx I2 .nil rz rfl l2 q2
/-- a def by its body, its code object at c -/
theorem okC {P : Program} {w : World} {K : PySem.W.Frag} {mg : Str → Option Value} {base : Heap} {x qual : Str} {st : Stmt} {f c : Addr} {oc : Value} {od an : Option Addr} {osl : Array (Option Value)} {kV doc pm ct : Value} {N ps : List Str} {k : Nat} {sp : Sp}
    (lk : K.lookup f = some ⟨oc, od, .func (PySem.W.fnOf x qual (defArgs st) (defBody st) (defScope st) .none kV doc pm an (.ref c) ct), osl⟩) (cd : PySem.W.codeIn K (.ref c) qual = true) (S : FnScope N ps (defScope st)) (len : ∀ vs H Q E, sp vs H Q E → vs.length = ps.length)
    (hbody : ∀ (A : Around) (outer : List Env) (s : Shared) (H : Hp) (vs : List V) (Q : VK) (E : XK), Room k (A.deeper (envOfC qual (defScope st) s.heap.objs.size f (.ref c))) → sp vs H Q E →
      ∃ t, PSs (cxOf CX0 P w K mg base N qual (defScope st) f (.ref c) A outer s H E).nox (defBody st) t ∧ t { nx := fun _ H' => Q .non H', rt := Q } (start N vs) H) :
    FnOk P w K mg base CX0 (k + 1) f (PySem.W.fnOf x qual (defArgs st) (defBody st) (defScope st) .none kV doc pm an (.ref c) ct) ps sp := by
  refine fn_of lk cd S len fun A outer s H vs Q E hr hsp => ?_
  obtain ⟨t, h, q⟩ := hbody A outer s H vs Q E hr hsp
  exact ⟨t, h.nox, q⟩
end Lc

/-! a lambda with parameters that captures nothing: made, kept in a tuple, called by a name -/
namespace Lp
open PySem PySem.Spec PyProof.Rows L2 Hb LamX Lc
/-- the lambda that stands at f, its code object at c -/
def LamO (q : Str) (prm : Arguments) (bod : Expr) (sc : Scope) (c f : Addr) : HO := .ext fun h => ∃ pm ct : Value, h.get? f = some (PySem.W.kla_obj "<lambda>" q prm bod sc [] pm c ct)
theorem clo_nil {cells : List (Str × Addr)} : ∀ {ns : List (Str × NameKind)} {acc : List (Str × Addr)}, (∀ y ∈ ns, y.2 ≠ .free) → cloFrom cells ns acc = acc
  | [], _, _ => rfl
  | (n, k) :: r, acc, h => by
    have hk : (k == NameKind.free) = false := by
      have := h (n, k) (.head _)
      cases k <;> first | rfl | exact absurd rfl this
    show (if (k == NameKind.free) = true then _ else cloFrom cells r acc) = acc
    rw [hk, if_neg (by decide)]
    exact clo_nil fun y m => h y (.tail _ m)
section
variable {X : Cx} {pins : List (Addr × Obj)} {σ : L2.St} {H : Hp} {s : Shared}
theorem laid_lam {q : Str} {prm : Arguments} {bod : Expr} {sc : Scope} {pm ct : Value} {c : Addr} {h' : Heap} {t t' : Nat} (I : Inv X pins σ H { s with heap := h', toks := t }) :
    Inv X pins σ (upd H h'.objs.size (LamO q prm bod sc c h'.objs.size)) { s with heap := h'.push (PySem.W.kla_obj "<lambda>" q prm bod sc [] pm c ct), toks := t' } := by
  have at_ : (h'.push (PySem.W.kla_obj "<lambda>" q prm bod sc [] pm c ct)).get? h'.objs.size = some (PySem.W.kla_obj "<lambda>" q prm bod sc [] pm c ct) := Heap.get?_push_size _ rfl
  exact I.laid (t' := t') (fun b u e => Heap.get?_push_of_some _ e) (Nat.le_refl _) (show ObjOk _ _ _ _ _ (LamO q prm bod sc c h'.objs.size) from ⟨⟨pm, ct, at_⟩, ⟨_, at_⟩, fun h1 h2 ⟨a, b, e⟩ st => ⟨a, b, st _ e⟩⟩)
theorem make_lam {T : List (Addr × Str)} {c P : Addr} {prm : Arguments} {bod : Expr} {sc : Scope} {pos : Pos} {E Q : Value → Shared → Prop} (I : Inv X pins σ H s) (tb : TabB X.base X.mg c P) (ec : X.env.code = .ref c)
    (inT : (P, X.env.qual ++ "<lambda>") ∈ T) (one : ∀ y ∈ T, y.1 = P → y.2 = X.env.qual ++ "<lambda>") (tt : Tabs T H) (nd : defaultsOf prm X.env = ([], [])) (nf : ∀ y ∈ sc.names, y.2 ≠ .free)
    (k : ∀ (f c1 : Addr) (H1 : Hp) (s1 : Shared), Inv X pins σ (upd H1 f (LamO (X.env.qual ++ "<lambda>") prm bod sc c1 f)) s1 → ExtN H H1 → Tabs T H1 → H1 f = none → H1 c1 = some (CodeO c1 (X.env.qual ++ "<lambda>")) → Q (.ref f) s1) :
    wpAny (model X.prog X.w) X.A (eval (.Lambda prm bod sc pos) X.env) Q E s := by
  obtain ⟨ps, tP, tok, tall⟩ := tt _ inT
  have clo : closureFor sc X.env = pure [] := by
    have z := closure_ok (scope := sc) (env := X.env) fun y m e => absurd e (nf y m)
    rwa [clo_nil nf] at z
  have bts : s.heap.BuiltinsAt X.mg P := tb.bm.keeps I.bk
  have tP0 : s.heap.get? P = some { cls := .none, data := .fields ps } := I.hok P _ tP
  refine PySem.W.kla_eval nd ?_
  rcases found : codeAmong pos ps.toList with _ | cv
  · refine PySem.W.kla_makeFunction (clos := []) (mg := X.mg) (c := c) (P := P) (ps := ps) clo I.ok.glob (I.mod.glob.keeps I.bk) ec (tb.code.keeps I.bk) tP0 tok found tb.gP bts fun c1 ct h1 tk ext new lt rec tab => ?_
    obtain ⟨c2, oc, fs, t, eq2, goc, dat, at1⟩ := rec
    cases eq2
    have nc : H c1 = none := I.hok.fresh new
    have J := inv_table (t' := tk) (more := #[rawInt pos.line, rawInt pos.col, .ref c1]) I tP ext tab new ⟨oc, fs, t, goc, dat, at1⟩
    have xt : ExtN H (upd (upd H P (.tbl (ps ++ #[rawInt pos.line, rawInt pos.col, .ref c1]))) c1 (CodeO c1 (X.env.qual ++ "<lambda>"))) := fun b o e nt => by
      have n1 : b ≠ P := fun z => by rw [z, tP] at e; exact nt ps (Option.some.inj e).symm
      rw [upd_ne (ne_of_none e nc), upd_ne n1]; exact e
    have tl : (ps ++ #[rawInt pos.line, rawInt pos.col, .ref c1]).toList = ps.toList ++ [rawInt pos.line, rawInt pos.col, .ref c1] := Array.toList_append
    have sz : s.heap.objs.size ≤ h1.objs.size := Nat.le_trans new (Nat.le_of_lt lt)
    refine k h1.objs.size c1 _ _ (laid_lam J) xt (fun y m => ?_) ?_ upd_same
    · rcases Decidable.em (y.1 = P) with e | e
      · rw [one y m e, e]
        refine ⟨_, by rw [upd_ne (ne_of_none tP nc), upd_same], by rw [tl]; exact PySem.TriplesOk_snoc _ _ _ _ tok, fun p1 cv e1 => ?_⟩
        rw [tl] at e1
        rcases among_app _ tok e1 with z | z
        · obtain ⟨c0, a1, a2⟩ := tall p1 cv z
          exact ⟨c0, a1, xt _ _ a2 codeO_ne⟩
        · exact ⟨c1, z, upd_same⟩
      · obtain ⟨qs, a1, a2, a3⟩ := tt y m
        refine ⟨qs, by rw [upd_ne (ne_of_none a1 nc), upd_ne e]; exact a1, a2, fun p1 cv e1 => ?_⟩
        obtain ⟨c0, b1, b2⟩ := a3 p1 cv e1
        exact ⟨c0, b1, xt _ _ b2 codeO_ne⟩
    · rw [upd_ne (Nat.ne_of_gt lt), upd_ne (Nat.ne_of_gt (Nat.lt_of_lt_of_le (Heap.lt_size tP0) sz))]
      exact I.hok.fresh sz
  · obtain ⟨c1, rfl, co⟩ := tall pos cv found
    refine PySem.W.kla_makeFunctionHit (clos := []) (mg := X.mg) (c := c) (P := P) (ps := ps) clo I.ok.glob (I.mod.glob.keeps I.bk) ec (tb.code.keeps I.bk) tP0 tok found bts fun ct h1 tk ext sz => ?_
    have J : Inv X pins σ H { s with heap := h1, toks := tk } := I.kept ext
    exact k h1.objs.size c1 H _ (laid_lam J) (ExtN.refl H) tt (I.hok.fresh sz) co
/-- lambda a, b, ..: e -/
def tLamP (T : List (Addr × Str)) (q : Str) (prm : Arguments) (bod : Expr) (sc : Scope) : TE := fun _ H Q => Tabs T H ∧ ∀ f c1 H1, ExtN H H1 → Tabs T H1 → H1 f = none → H1 c1 = some (CodeO c1 q) → Q (.ref f) (upd H1 f (LamO q prm bod sc c1 f))
theorem pe_lamP {T : List (Addr × Str)} {c P : Addr} {prm : Arguments} {bod : Expr} {sc : Scope} {pos : Pos} (tb : TabB X.base X.mg c P) (ec : X.env.code = .ref c) (inT : (P, X.env.qual ++ "<lambda>") ∈ T) (one : ∀ y ∈ T, y.1 = P → y.2 = X.env.qual ++ "<lambda>")
    (nd : defaultsOf prm X.env = ([], [])) (nf : ∀ y ∈ sc.names, y.2 ≠ .free) : PE X (.Lambda prm bod sc pos) (tLamP T (X.env.qual ++ "<lambda>") prm bod sc) :=
  ⟨fun pins s σ H Q I h => make_lam I tb ec inT one h.1 nd nf fun f c1 H1 s1 J xt t1 n1 e1 => ⟨.ref f, _, J, rfl, h.2 f c1 H1 xt t1 n1 e1⟩⟩
end
/-- what such a lambda keeps, wherever it stands -/
structure LmOk (P : Program) (w : World) (K : PySem.W.Frag) (mg : Str → Option Value) (base : Heap) (CX : CXT) (lv : Nat) (q : Str) (prm : Arguments) (bod : Expr) (sc : Scope) (N ps : List Str) (sp : Sp) : Prop where
  S : FnScope N ps sc
  len : ∀ vs H Q E, sp vs H Q E → vs.length = ps.length
  bind : ∀ (us : List Value) (pm cv ct : Value), us.length = ps.length → bindArgs (PySem.W.kla_fn "<lambda>" q prm bod sc [] pm cv ct) ⟨us, []⟩ = pure (ps.zip us)
  run : ∀ (f c : Addr) (A : Around) (outer : List Env) (s : Shared) (H : Hp) (vs : List V) (Q : VK) (E : XK), Room lv (A.deeper (envOfC q sc s.heap.objs.size f (.ref c))) → sp vs H Q E → ∃ te, PE (cxOf CX P w K mg base N q sc f (.ref c) A outer s H E) bod te ∧ te (L2.start N vs) H Q
section
variable {P : Program} {w : World} {K : PySem.W.Frag} {mg : Str → Option Value} {base : Heap} {CX : CXT} {lv : Nat} {q : Str} {prm : Arguments} {bod : Expr} {sc : Scope} {N ps : List Str} {sp : Sp}
theorem run_lam (L : LmOk P w K mg base CX lv q prm bod sc N ps sp) {f c : Addr} {A : Around} {outer : List Env} {s : Shared} {H : Hp} {us : List Value} {vs : List V} {Q : VK} {E : XK} (hr : Room (lv + 1) A) (e0 : Env0 P w K mg base A outer s H) (ef : H f = some (LamO q prm bod sc c f)) (eco : H c = some (CodeO c q)) (r : Vals vs us) (z : sp vs H Q E) :
    codeAny (model P w) A (.call (.ref f) ⟨us, []⟩) (CR CX outer P w H s Q E) s := by
  obtain ⟨⟨pm, ct, gf⟩, _, _⟩ := e0.hok f _ ef
  obtain ⟨⟨oc, fs, t, goc, dat, at1⟩, _, _⟩ := e0.hok c _ eco
  have ln := L.len _ _ _ _ z
  have lim : s.heap.NoLimit := e0.mod.nolimit.keeps fun b o e => (e0.bs b o e).1
  have kinds : ∀ y ∈ ps.zip us, sc.names.lookup y.1 = some .local ∨ (sc.names.lookup y.1 = some .cell ∧ ((cellsFrom (s.heap.objs.size + 1) sc.names []).lookup y.1).isSome = true) := fun ⟨n, v⟩ m => by
    rcases L.S.par n (List.of_mem_zip m).1 with e | e
    · exact .inl e
    · exact .inr ⟨e, PySem.W.cellsFrom_some _ _ _ (.inl e)⟩
  refine PySem.W.kla_callFunE hr.depth gf rfl L.S.co L.S.gen rfl ⟨c, oc, fs, t, rfl, goc, dat, at1⟩ ?_
  rw [L.bind us _ _ _ (by rw [← r.length]; exact ln)]
  refine wpAny_pure (wpAny_newFunctionEnv_cells L.S.kind kinds fun env he s1 x => ?_)
  subst he
  refine ⟨lim.keeps x.toInCall.keep, PySem.W.kla_codeExpr ?_⟩
  obtain ⟨te, pe, hq⟩ := L.run f c A outer s H vs Q E (hr.deeper _) z
  have I : Inv (cxOf CX P w K mg base N q sc f (.ref c) A outer s H E) [] (L2.start N vs) H s1 := inv_start L.S hr.hd e0 ln r x
  refine wpAny_mono (pe.run [] s1 _ H Q I hq) (fun v s2 ⟨y, H2, J, rv, q2⟩ => ?_) fun _ _ e => e
  exact ⟨y, H2, J.os, J.bare, J.base, J.hok, rv, q2⟩
end
/-- the value at f may be called: a def of the text, or a lambda -/
def tVarL (P : Program) (w : World) (K : PySem.W.Frag) (mg : Str → Option Value) (base : Heap) (lv i : Nat) (sp : Sp) (E : L2.St → XK) (ta : TA) : TE := fun σ H Q => ∃ f, σ[i]? = some (some (.ref f)) ∧
  ((DfX P w K mg base lv f sp ∧ ta σ H fun vs H1 => sp vs H1 Q (E σ)) ∨
   (∃ q prm bod sc c N ps j, LmOk P w K mg base (L2.CX P w) j q prm bod sc N ps sp ∧ j + 1 ≤ lv ∧ H f = some (LamO q prm bod sc c f) ∧ ta σ H fun vs H1 => H1 f = some (LamO q prm bod sc c f) ∧ H1 c = some (CodeO c q) ∧ sp vs H1 Q (E σ)))
theorem fn_at {X : Cx} {pins : List (Addr × Obj)} {σ : L2.St} {H : Hp} {s : Shared} {q : Str} {prm : Arguments} {bod : Expr} {sc : Scope} {c f : Addr} (I : Inv X pins σ H s) (e : H f = some (LamO q prm bod sc c f)) : PySem.W.FnAt f s.heap := by
  obtain ⟨⟨pm, ct, g⟩, _, _⟩ := I.hok f _ e
  exact ⟨_, _, _, _, g⟩
theorem pe_varL {X : Cx} {a : Str} {lv i : Nat} {sp : Sp} {E : L2.St → XK} {p pos : Pos} {e : Expr} {es : List Expr} {ta : TA} (nm : X.N[i]? = some a) (vis : Vis X.env.scope a) (hr : Room lv X.A) (hx : ∀ σ, PassesAt (L2.CX X.prog X.w) X σ (E σ)) (ha : PA X (e :: es) ta)
    (d1 : (a == ("__debug__" : Str)) = false := by decide) (d2 : (a == ("__classdict__" : Str)) = false := by decide)
    (se : starEach (e :: es) X.env = (false, eval e X.env) :: starEach es X.env := by rfl) (spl : (backTo pos (starEach es X.env)).any (·.1) = false := by rfl) :
    PE X (.Call (.Name a p) (e :: es) [] pos) (tVarL X.prog X.w X.K X.mg X.base lv i sp E ta) := by
  refine ⟨fun pins s σ H Q I h => ?_⟩
  obtain ⟨f, ef, h⟩ := h
  rcases h with ⟨D, h⟩ | ⟨q, prm, bod, sc, c, N, ps, j, L, jl, eo, h⟩
  · exact (pe_varX (p := p) nm vis hr hx ha d1 d2 se spl).run pins s σ H Q I ⟨f, ef, D, h⟩
  · refine wpAny_Call_Name_kw (thn ((pe_var (pos := p) (i := i) nm vis d1 d2).run pins s σ H (fun v H1 => v = .ref f ∧ H1 = H) I ⟨.ref f, ef, rfl, rfl⟩) fun u s1 ⟨v, H1, I1, r1, ev, eH⟩ => ?_)
    subst ev eH
    obtain rfl : u = Value.ref f := r1
    refine PySem.W.callWith_F (fn_at I1 eo) (thn (ha.run pos pins s1 σ H1 _ I1 h) fun us s2 ⟨vs, H2, I2, r2, o2, co2, q2⟩ => ⟨fn_at I2 o2, ?_⟩) se spl
    refine wpAny_call (codeAny_mono (run_lam L (hr.mono jl) I2.env0 o2 co2 r2 q2) fun r s3 hq => ?_)
    cases r with
    | error er => exact hx σ pins H2 s2 er s3 I2 hq
    | ok fl =>
      cases fl with
      | ret u => exact I2.after hq
      | next => exact False.elim hq
      | brk => exact False.elim hq
      | cont => exact False.elim hq
end Lp

/-! the end where another def than the law makes lambdas: its table is empty, too -/
namespace Lw
open PySem PySem.Spec PyProof.Rows L2 LamX
theorem walk_tab {l : PySem.W.OpenLaw} {n k : Nat} {q : Program} {loose : List Str} {XP : (Str → Option Value) → Heap → Prop} {YP : World → Heap → Prop} {d : DefRec} {K : Params → PySem.W.Frag} {CX : World → CXT} {x nm : Str}
    (most : l.most = some n) (fits : n ≤ sizeLine) (plain : d.params.defaults = []) (room : Room k callerA) (has : ((recsOf q).any fun y => y.name == nm) = true) (kin : ∀ (w : World) (g : Heap), YP w g → (K w.params).In g)
    (F : ∀ (w : World) (mg : Str → Option Value) (fa : Addr) (g : Heap), (K w.params).In g → g.Ns mainGlobals mg → mg d.name = some (.ref fa) → (∀ fr, mg nm = some (.ref fr) → OwnTab (K w.params) fr g) → LawAtS l w (K w.params) (CX w) k n x mg fa g)
    (none : ∀ (w : World) (H : Hp) (s : Shared) (e : Value) (s' : Shared), CX w [] H s (fun _ _ _ => False) e s' → False) :
    PySem.W.WalkO q loose XP YP l.row.toRowW d [] (fun f vs => PySem.call f vs) := by
  refine Att.attach_callB most plain fun w t0 t1 mg mb fa ob pm cd doc ar vs ns Gd Yd _ _ _ nmf ob2 iz len bits gen => ?_
  have KX := kin w _ Yd
  have tabs : ∀ fr, mg nm = some (.ref fr) → OwnTab (K w.params) fr t1.heap := fun fr efr c P o1 f1 e1 d1 v1 l1 b1 b2 b3 b4 b5 => by
    obtain ⟨rc, mem, eqn⟩ := List.any_eq_true.mp has
    have eqn : rc.name = nm := beq_iff_eq.mp eqn
    obtain ⟨_, _, _, _, _, h1, h2, h3, h4, _, ⟨⟨_, _, e1, _, e3, e4⟩, hP⟩⟩ := Gd.T.tab rc mem
    rw [eqn, efr] at h1
    cases h1
    rw [KX _ _ b1] at h2
    cases h2
    rw [b2] at h3
    cases h3
    rw [b3] at h4
    cases h4
    rw [KX _ _ b4] at e1
    cases e1
    cases e3
    rw [b5] at e4
    cases e4
    exact hP
  obtain ⟨fd, cs, sp, T1, T2, T3, bnd, prom, fn⟩ := F w mg fa _ KX Gd.T.g nmf tabs
  exact law_callTs KX Gd.T.g Gd.T.b Gd.T.builtins Gd.T.nolimit gen T1 T2 T3 Gd.T.bmain ob2 iz (Nat.le_trans len fits) room fn bnd (fun H hH hS => prom H ar ns len bits hH hS) fun H e s' => none w H t1 e s'
end Lw


namespace Kw
open PySem PySem.Spec PyProof.Rows L2 Hb Ow
/-- repr of a bool -/
theorem call_repr_bl {X : Cx} : CallR X (.builtin "repr") (fun xs H Q => ∃ b : Bool, xs = [.bl b] ∧ Q (.str (if b then "True" else "False")) H) := by
  intro pins s σ H xs us Q I r h
  obtain ⟨b, rfl, q⟩ := h
  obtain ⟨u, rfl, rx⟩ := vals1 r
  obtain rfl : u = Value.bool b := rx
  exact PySem.P.repr_of_bool ⟨.str _, H, I.tok _, ⟨_, rfl⟩, q⟩
theorem vals_app {a b : List V} {x y : List Value} (h : Vals a x) (k : Vals b y) : Vals (a ++ b) (x ++ y) := by
  induction h with
  | nil => exact k
  | cons r _ ih => exact .cons r ih
theorem vals_rev {a : List V} {x : List Value} (h : Vals a x) : Vals a.reverse x.reverse := by
  induction h with
  | nil => exact .nil
  | cons r _ ih => rw [List.reverse_cons, List.reverse_cons]; exact vals_app ih (.cons r .nil)
/-- a def without defaults, all parameters by name, from the last one to the first -/
theorem kb_rev {K : PySem.W.Frag} {x qual : Str} {st : Stmt} {f : Addr} {fd : FuncData} {ps ks : List Str} (F : Fun K x qual st f fd)
    (h : ∀ (kV doc pm : Value) (an : Option Addr) (cdv ct : Value) (ws : List Value), ws.length = ks.length → bindArgs (PySem.W.fnOf x qual (defArgs st) (defBody st) (defScope st) .none kV doc pm an cdv ct) ⟨[], ks.zip ws⟩ = pure (ps.zip ws.reverse)) : KBn K fd ps 0 ks (fun _ ws => ws.reverse) (fun _ zs => zs.reverse) := by
  obtain ⟨oc, od, kV, doc, pm, an, cdv, ct, osl, rfl, lk, hcd⟩ := F.ex
  refine ⟨fun s us ws X l1 l2 => ?_, fun r1 r2 => vals_rev r2⟩
  obtain rfl := List.eq_nil_of_length_eq_zero l1
  exact .of_eq (h kV doc pm an cdv ct ws l2)
end Kw

/-! min(xs, default=d) of a list of integers; min of two -/
namespace Mn
open PySem PySem.Spec PyProof.Rows L2 Hb St Sq RZ
def rMinDf (K : PySem.W.Frag) : List V → List V → Hp → VK → Prop := fun xs zs H Q => ∃ (a : Addr) (ns : List Int) (d : Int), xs = [.ref a] ∧ zs = [.int d] ∧ SqL K H a (ns.map V.int) ∧ (ns = [] → Q (.int d) H) ∧ ∀ m, m ∈ ns → (∀ y ∈ ns, m ≤ y) → Q (.int m) H
theorem minOf_is (x : Int) : ∀ xs : List Int, PySem.W.minOf x xs ∈ x :: xs ∧ ∀ y ∈ x :: xs, PySem.W.minOf x xs ≤ y := by
  intro xs
  unfold PySem.W.minOf
  induction xs generalizing x with
  | nil => exact ⟨List.mem_cons_self, fun y hy => by rw [List.mem_singleton.mp hy]; exact Int.le_refl _⟩
  | cons z xs ih =>
    rw [List.foldl_cons]
    by_cases c : PySem.W.DatumOrd.lt z x = true
    · rw [if_pos c]
      have c' : z < x := of_decide_eq_true c
      obtain ⟨h1, h2⟩ := ih z
      refine ⟨List.mem_cons_of_mem _ h1, fun y hy => ?_⟩
      have hz := h2 z List.mem_cons_self
      rcases List.mem_cons.mp hy with e | hy
      · omega
      · exact h2 y hy
    · rw [if_neg c]
      have c' : ¬ z < x := fun q => c (decide_eq_true q)
      obtain ⟨h1, h2⟩ := ih x
      have hx := h2 x List.mem_cons_self
      refine ⟨?_, fun y hy => ?_⟩
      · rcases List.mem_cons.mp h1 with e | h1
        · rw [e]; exact List.mem_cons_self
        · exact List.mem_cons_of_mem _ (List.mem_cons_of_mem _ h1)
      · rcases List.mem_cons.mp hy with e | hy
        · omega
        · rcases List.mem_cons.mp hy with e | hy
          · omega
          · exact h2 y (List.mem_cons_of_mem _ hy)
theorem cr_minDf {X : Cx} (hc : X.calm = true) (hu : X.A.units + 64 < cLine) : CallRK X (.builtin "min") ["default"] (rMinDf X.K) := by
  intro pins s σ H xs zs us ws Q I r1 r2 h
  obtain ⟨a, ns, d, rfl, rfl, hs, q0, q1⟩ := h
  obtain ⟨its, rv, hl, _⟩ := I.list hs
  cases r2 with
  | cons rd rt =>
    cases rt
    obtain ⟨t, rfl⟩ := rd
    rw [Vals.ref1 r1]
    show wpAny (model X.prog X.w) X.A (call (.builtin "min") [.ref a] [(Str.ofString "default", _)]) _ _ s
    refine PySem.W.min_list_datum_default (α := Int) (I.ok.hd hc) hl.isList (PySem.W.HoldAll.of_ints rv.ints) (by show X.A.units + 1 + 0 < cLine; omega) (fun e h' tk hk => ⟨.int d, H, I.kept hk, ⟨_, rfl⟩, q0 e⟩) fun y ys i v h' tk e hv hh hk => ?_
    obtain ⟨as, hr⟩ := hh
    obtain ⟨m1, m2⟩ := minOf_is y ys
    generalize PySem.W.minOf y ys = m at hr m1 m2
    have hr : Reads h' v (.int m) as := hr
    cases hr with
    | int _ t => exact ⟨.int m, H, I.kept hk, ⟨t, rfl⟩, q1 m (e ▸ m1) fun y hy => m2 y (e ▸ hy)⟩
end Mn

/-! a loop over a walk, within a comprehension: any body -/
namespace Wa
open PySem PySem.Spec PyProof.Rows L2 Hb St Sq
theorem wk_go {J : It} {a : Addr} {S : Hp → Prop} {xs : List V} (W : Wk J a S xs) {B : (Hp → Prop) → V → Hp → Prop} {Qd : Hp → Prop} {H0 : Hp} (M : Nat → Hp → Prop) (h0 : M 0 H0) (hk : ∀ i H, M i H → S H) (hs : ∀ i x H, xs[i]? = some x → M i H → B (M (i + 1)) x H) (hd : ∀ H, M xs.length H → Qd H) :
    ∃ W : Nat → Nat → Hp → Prop, (∃ m, W 0 m H0) ∧ ∀ i m H, W i m H → (J.stop i H ∧ Qd H) ∨ (J.go i H ∧ ∃ Nx : Hp → Prop, (∀ H', Nx H' → ∃ m', m' < m ∧ W (i + 1) m' H') ∧ ∀ x H', J.yld i H x H' → B Nx x H') := by
  refine ⟨fun i m H => m + i = xs.length ∧ M i H, ⟨xs.length, rfl, h0⟩, fun i m H ⟨e, p⟩ => ?_⟩
  cases m with
  | zero =>
    obtain rfl : i = xs.length := by omega
    exact .inl ⟨W.stop H (hk _ _ p), hd H p⟩
  | succ m =>
    refine .inr ⟨W.go i H (by omega) (hk _ _ p), M (i + 1), fun H' p' => ⟨m, Nat.lt_succ_self m, by omega, p'⟩, fun v H' y => ?_⟩
    obtain ⟨rfl, ev⟩ := W.yld i H v H' (by omega) (hk _ _ p) y
    exact hs i v H' ev p
end Wa

namespace Ks
universe u
section
variable {β : Type u} (n : Nat) (ok : β → Nat → Bool)
/-! ### layings: strictly rising numbers, each fit for its thing -/
def nxt (laid : List Nat) : Nat := match laid.getLast? with
  | none => 0
  | some a => a + 1
def ext (h : β) (laid : List Nat) : List (List Nat) := ((List.range n).filter fun a => decide (nxt laid ≤ a) && ok h a).map fun a => laid ++ [a]
def lays : List β → List (List Nat) := List.foldl (fun found h => found.flatMap (ext n ok h)) [[]]
structure IsLay (hs : List β) (laid : List Nat) : Prop where
  len : laid.length = hs.length
  asc : laid.Pairwise (· < ·)
  fit : ∀ (i : Nat) a h, laid[i]? = some a → hs[i]? = some h → a < n ∧ ok h a = true
variable {n ok}
theorem lays_snoc (hs : List β) (h : β) : lays n ok (hs ++ [h]) = (lays n ok hs).flatMap (ext n ok h) := by
  unfold lays; rw [List.foldl_append]; rfl
theorem nxt_nil : nxt [] = 0 := rfl
theorem nxt_snoc (laid : List Nat) (a : Nat) : nxt (laid ++ [a]) = a + 1 := by unfold nxt; rw [List.getLast?_concat]
theorem nxt_le {laid : List Nat} (asc : laid.Pairwise (· < ·)) {m : Nat} : nxt laid ≤ m ↔ ∀ a ∈ laid, a < m := by
  rcases List.eq_nil_or_concat laid with rfl | ⟨l, b, rfl⟩
  · simp [nxt_nil]
  · rw [List.concat_eq_append] at *
    rw [nxt_snoc]
    rw [List.pairwise_append] at asc
    constructor
    · intro h a ha
      rcases List.mem_append.mp ha with ha | ha
      · have := asc.2.2 a ha b (List.mem_singleton.mpr rfl); omega
      · rw [List.mem_singleton.mp ha]; omega
    · intro h; exact h b (List.mem_append_right _ (List.mem_singleton.mpr rfl))
theorem IsLay.snoc {hs : List β} {laid : List Nat} {h : β} {a : Nat} : IsLay n ok (hs ++ [h]) (laid ++ [a]) ↔ IsLay n ok hs laid ∧ nxt laid ≤ a ∧ a < n ∧ ok h a = true := by
  constructor
  · rintro ⟨l, asc, fit⟩
    have l' : laid.length = hs.length := by rw [List.length_append, List.length_append] at l; simpa using l
    rw [List.pairwise_append] at asc
    refine ⟨⟨l', asc.1, fun i b g hb hg => fit i b g ?_ ?_⟩, (nxt_le asc.1).mpr fun b hb => asc.2.2 b hb a (List.mem_singleton.mpr rfl), ?_⟩
    · rw [List.getElem?_append_left (List.getElem?_eq_some_iff.mp hb).1]; exact hb
    · rw [List.getElem?_append_left (List.getElem?_eq_some_iff.mp hg).1]; exact hg
    · exact fit laid.length a h (by rw [List.getElem?_append_right (Nat.le_refl _)]; simp) (by rw [l', List.getElem?_append_right (Nat.le_refl _)]; simp)
  · rintro ⟨⟨l, asc, fit⟩, hn, ha, hk⟩
    refine ⟨by rw [List.length_append, List.length_append, l]; rfl, ?_, fun i b g hb hg => ?_⟩
    · rw [List.pairwise_append]
      exact ⟨asc, List.pairwise_singleton _ _, fun x hx y hy => by rw [List.mem_singleton.mp hy]; exact (nxt_le asc).mp hn x hx⟩
    · by_cases c : i < laid.length
      · rw [List.getElem?_append_left c] at hb
        rw [List.getElem?_append_left (l ▸ c)] at hg
        exact fit i b g hb hg
      · rw [List.getElem?_append_right (by omega)] at hb
        rw [List.getElem?_append_right (by omega)] at hg
        have e : i - laid.length = 0 := by
          have := (List.getElem?_eq_some_iff.mp hb).1
          rw [List.length_singleton] at this; omega
        rw [e] at hb
        rw [show i - hs.length = 0 by omega] at hg
        cases (Option.some.inj hb : a = b)
        cases (Option.some.inj hg : h = g)
        exact ⟨ha, hk⟩
theorem IsLay.nil {laid : List Nat} : IsLay n ok ([] : List β) laid ↔ laid = [] := by
  constructor
  · intro h; exact List.eq_nil_of_length_eq_zero h.len
  · rintro rfl; exact ⟨rfl, List.Pairwise.nil, fun i a h e => by simp at e⟩
theorem mem_lays : ∀ (r : List β) (laid : List Nat), laid ∈ lays n ok r.reverse ↔ IsLay n ok r.reverse laid
  | [], laid => by
    show laid ∈ [[]] ↔ _
    rw [List.mem_singleton]; exact IsLay.nil.symm
  | h :: r, laid => by
    rw [List.reverse_cons, lays_snoc, List.mem_flatMap]
    constructor
    · rintro ⟨l, hl, hx⟩
      obtain ⟨a, ha, rfl⟩ := List.mem_map.mp hx
      have := (List.mem_filter.mp ha)
      rw [Bool.and_eq_true, decide_eq_true_iff] at this
      exact IsLay.snoc.mpr ⟨(mem_lays r l).mp hl, this.2.1, List.mem_range.mp this.1, this.2.2⟩
    · intro hl
      rcases List.eq_nil_or_concat laid with rfl | ⟨l, a, rfl⟩
      · have := hl.len; simp at this
      · rw [List.concat_eq_append] at *
        obtain ⟨h1, h2, h3, h4⟩ := IsLay.snoc.mp hl
        refine ⟨l, (mem_lays r l).mpr h1, List.mem_map.mpr ⟨a, List.mem_filter.mpr ⟨List.mem_range.mpr h3, ?_⟩, rfl⟩⟩
        rw [Bool.and_eq_true, decide_eq_true_iff]; exact ⟨h2, h4⟩
theorem mem_lay {hs : List β} {laid : List Nat} : laid ∈ lays n ok hs ↔ IsLay n ok hs laid := by
  have := mem_lays (n := n) (ok := ok) hs.reverse laid
  rwa [List.reverse_reverse] at this
/-! ### how many -/
/-- how many layings of r (from the last thing on) with all numbers below m -/
def cnt (ok : β → Nat → Bool) : Nat → List β → Nat
  | _, [] => 1
  | 0, _ :: _ => 0
  | m + 1, h :: r => cnt ok m (h :: r) + if ok h m = true then cnt ok m r else 0
theorem cnt_nil (m : Nat) : cnt ok m ([] : List β) = 1 := by cases m <;> rfl
theorem filter_flat {α γ : Type _} (p : γ → Bool) (g : α → List γ) : ∀ l : List α, (l.flatMap g).filter p = l.flatMap fun a => (g a).filter p
  | [] => rfl
  | a :: l => by rw [List.flatMap_cons, List.flatMap_cons, List.filter_append, filter_flat p g l]
theorem len_flat_add {α γ δ : Type _} (g : α → List γ) (g1 : α → List δ) (q : α → Bool) (h : ∀ a, (g a).length = (g1 a).length + if q a = true then 1 else 0) : ∀ l : List α, (l.flatMap g).length = (l.flatMap g1).length + (l.filter q).length
  | [] => rfl
  | a :: l => by
    rw [List.flatMap_cons, List.flatMap_cons, List.length_append, List.length_append, h a, len_flat_add g g1 q h l, List.filter_cons]
    by_cases c : q a = true
    · rw [if_pos c, if_pos c, List.length_cons]; omega
    · rw [if_neg c, if_neg c]; omega
theorem below_ext (h : β) (laid : List Nat) (m : Nat) : ((ext n ok h laid).filter fun l => decide (nxt l ≤ m)).length = ((List.range n).filter fun a => (decide (nxt laid ≤ a) && ok h a) && decide (a < m)).length := by
  unfold ext
  rw [List.filter_map, List.length_map, List.filter_filter]
  congr 1
  refine List.filter_congr fun a _ => ?_
  show (decide (nxt (laid ++ [a]) ≤ m) && _) = _
  rw [nxt_snoc, Bool.and_comm]
  rfl
theorem range_cut (q : Nat → Bool) {m : Nat} (hm : m < n) : ((List.range n).filter fun a => q a && decide (a < m + 1)).length = ((List.range n).filter fun a => q a && decide (a < m)).length + if q m = true then 1 else 0 := by
  obtain ⟨d, rfl⟩ : ∃ d, n = m + 1 + d := ⟨n - (m + 1), by omega⟩
  rw [List.range_add, List.filter_append, List.filter_append, List.length_append, List.length_append]
  have z : ∀ k, k ≤ m + 1 → ((List.range d).map (m + 1 + ·)).filter (fun a => q a && decide (a < k)) = [] := fun k hk => by
    rw [List.filter_eq_nil_iff]
    intro a ha
    obtain ⟨b, _, rfl⟩ := List.mem_map.mp ha
    rw [decide_eq_false (by omega), Bool.and_false]; exact Bool.false_ne_true
  rw [z (m + 1) (Nat.le_refl _), z m (Nat.le_succ _), List.range_succ, List.filter_append, List.filter_append, List.length_append, List.length_append]
  have e1 : (List.range m).filter (fun a => q a && decide (a < m + 1)) = (List.range m).filter (fun a => q a && decide (a < m)) := List.filter_congr fun a ha => by
    have := List.mem_range.mp ha
    rw [decide_eq_true (show a < m + 1 by omega), decide_eq_true this]
  rw [e1]
  have e2 : ([m].filter fun a => q a && decide (a < m)) = [] := by
    rw [List.filter_eq_nil_iff]; intro a ha; rw [List.mem_singleton.mp ha, decide_eq_false (Nat.lt_irrefl _), Bool.and_false]; exact Bool.false_ne_true
  rw [e2]
  by_cases c : q m = true
  · rw [if_pos c, List.filter_cons_of_pos (by rw [c, decide_eq_true (Nat.lt_succ_self _)]; rfl)]; simp
  · rw [if_neg c, List.filter_cons_of_neg (by rw [Bool.not_eq_true] at c; rw [c]; exact Bool.false_ne_true)]; simp
theorem count_eq : ∀ (r : List β) (m : Nat), m ≤ n → ((lays n ok r.reverse).filter fun l => decide (nxt l ≤ m)).length = cnt ok m r
  | [], m, _ => by
    rw [cnt_nil]
    show ([[]].filter fun l => decide (nxt l ≤ m)).length = 1
    rw [List.filter_cons_of_pos (by rw [nxt_nil]; exact decide_eq_true (Nat.zero_le _))]; rfl
  | h :: r, 0, _ => by
    rw [List.reverse_cons, lays_snoc, filter_flat]
    show _ = 0
    rw [List.length_eq_zero_iff, List.flatMap_eq_nil_iff]
    intro l _
    have := below_ext (n := n) (ok := ok) h l 0
    rw [← List.length_eq_zero_iff, this, List.length_eq_zero_iff, List.filter_eq_nil_iff]
    intro a _
    rw [decide_eq_false (Nat.not_lt_zero _), Bool.and_false]; exact Bool.false_ne_true
  | h :: r, m + 1, hm => by
    have ih1 := count_eq (h :: r) m (by omega)
    have ih2 := count_eq r m (by omega)
    rw [List.reverse_cons, lays_snoc, filter_flat] at ih1 ⊢
    show _ = cnt ok m (h :: r) + if ok h m = true then cnt ok m r else 0
    rw [← ih1, ← ih2]
    have key := len_flat_add (fun l => (ext n ok h l).filter fun l => decide (nxt l ≤ m + 1)) (fun l => (ext n ok h l).filter fun l => decide (nxt l ≤ m)) (fun l => decide (nxt l ≤ m) && ok h m) (fun l => by
      rw [below_ext, below_ext, range_cut (fun a => decide (nxt l ≤ a) && ok h a) (by omega)]) (lays n ok r.reverse)
    rw [key]
    congr 1
    by_cases c : ok h m = true
    · rw [if_pos c]
      congr 1
      exact List.filter_congr fun l _ => by rw [c, Bool.and_true]
    · rw [if_neg c]
      rw [Bool.not_eq_true] at c
      rw [List.length_eq_zero_iff, List.filter_eq_nil_iff]
      intro l _
      rw [c, Bool.and_false]; exact Bool.false_ne_true
theorem count_all (r : List β) : (lays n ok r.reverse).length = cnt ok n r := by
  rw [← count_eq r n (Nat.le_refl _)]
  congr 1
  rw [List.filter_eq_self.mpr]
  intro l hl
  have il := (mem_lays r l).mp hl
  rw [decide_eq_true_iff, nxt_le il.asc]
  intro a ha
  obtain ⟨i, hi⟩ := List.mem_iff_getElem?.mp ha
  have hlt := (List.getElem?_eq_some_iff.mp hi).1
  exact (il.fit i a _ hi (List.getElem?_eq_getElem (by rw [← il.len]; exact hlt))).1
end
end Ks

namespace Ks
universe u
section
variable {β : Type u} {n : Nat} {ok : β → Nat → Bool}
/-! ### the greedy laying -/
def fst (n : Nat) (ok : β → Nat → Bool) (k : Nat) (h : β) : Option Nat := (List.range n).find? fun a => decide (k ≤ a) && ok h a
def gr (n : Nat) (ok : β → Nat → Bool) : List β → Nat → List Nat
  | [], _ => []
  | h :: hs, k => match fst n ok k h with
    | none => []
    | some a => a :: gr n ok hs (a + 1)
theorem fst_some {k a : Nat} {h : β} : fst n ok k h = some a ↔ (k ≤ a ∧ ok h a = true) ∧ a < n ∧ ∀ b, b < a → k ≤ b → ok h b = false := by
  unfold fst
  rw [List.find?_range_eq_some, List.mem_range, Bool.and_eq_true, decide_eq_true_iff]
  constructor
  · rintro ⟨p, q, r⟩
    refine ⟨p, q, fun b hb hk => ?_⟩
    have := r b hb
    rw [decide_eq_true hk, Bool.true_and] at this
    simpa using this
  · rintro ⟨p, q, r⟩
    refine ⟨p, q, fun b hb => ?_⟩
    by_cases c : k ≤ b
    · rw [decide_eq_true c, Bool.true_and, r b hb c]; rfl
    · rw [decide_eq_false c]; rfl
theorem fst_none {k : Nat} {h : β} : fst n ok k h = none ↔ ∀ b, b < n → k ≤ b → ok h b = false := by
  unfold fst
  rw [List.find?_eq_none]
  constructor
  · intro p b hb hk
    have := p b (List.mem_range.mpr hb)
    rw [decide_eq_true hk, Bool.true_and] at this
    simpa using this
  · intro p b hb
    have hb := List.mem_range.mp hb
    by_cases c : k ≤ b
    · rw [p b hb c, Bool.and_false]; exact Bool.false_ne_true
    · rw [decide_eq_false c, Bool.false_and]; exact Bool.false_ne_true
theorem fst_le {k k' a : Nat} {h : β} (hk : k' ≤ k) (ha : k ≤ a) (hn : a < n) (ho : ok h a = true) : ∃ b, fst n ok k' h = some b ∧ b ≤ a := by
  cases e : fst n ok k' h with
  | none => rw [fst_none.mp e a hn (by omega)] at ho; cases ho
  | some b =>
    refine ⟨b, rfl, ?_⟩
    have := (fst_some.mp e).2.2
    refine Decidable.byContradiction fun c => ?_
    have := this a (by omega) (by omega)
    rw [ho] at this; cases this
def LayF (n : Nat) (ok : β → Nat → Bool) : Nat → List β → List Nat → Prop
  | _, [], [] => True
  | k, h :: hs, a :: l => k ≤ a ∧ a < n ∧ ok h a = true ∧ LayF n ok (a + 1) hs l
  | _, _, _ => False
theorem layF_iff : ∀ (hs : List β) (k : Nat) (l : List Nat), LayF n ok k hs l ↔ IsLay n ok hs l ∧ ∀ a ∈ l, k ≤ a
  | [], k, l => by
    rw [IsLay.nil]
    cases l with
    | nil => simp [LayF]
    | cons a l => simp [LayF]
  | h :: hs, k, [] => by
    constructor
    · intro h; exact h.elim
    · rintro ⟨h, _⟩
      have := h.len
      simp at this
  | h :: hs, k, a :: l => by
    show (k ≤ a ∧ a < n ∧ ok h a = true ∧ LayF n ok (a + 1) hs l) ↔ _
    rw [layF_iff hs (a + 1) l]
    constructor
    · rintro ⟨h1, h2, h3, ⟨i1, i2, i3⟩, h4⟩
      refine ⟨⟨by rw [List.length_cons, List.length_cons, i1], List.pairwise_cons.mpr ⟨fun b hb => h4 b hb, i2⟩, fun i b g hb hg => ?_⟩, fun b hb => ?_⟩
      · cases i with
        | zero =>
          rw [List.getElem?_cons_zero] at hb hg
          cases hb; cases hg
          exact ⟨h2, h3⟩
        | succ i => exact i3 i b g (by simpa using hb) (by simpa using hg)
      · rcases List.mem_cons.mp hb with rfl | hb
        · exact h1
        · have := h4 b hb; omega
    · rintro ⟨⟨i1, i2, i3⟩, h4⟩
      have h0 := i3 0 a h rfl rfl
      rw [List.pairwise_cons] at i2
      exact ⟨h4 a List.mem_cons_self, h0.1, h0.2, ⟨by simpa using i1, i2.2, fun i b g hb hg => i3 (i + 1) b g (by simpa using hb) (by simpa using hg)⟩, fun b hb => i2.1 b hb⟩
theorem lay0 {hs : List β} {l : List Nat} : IsLay n ok hs l ↔ LayF n ok 0 hs l := by
  rw [layF_iff]
  exact ⟨fun h => ⟨h, fun _ _ => Nat.zero_le _⟩, fun h => h.1⟩
theorem gr_len : ∀ (hs : List β) (k : Nat), (gr n ok hs k).length ≤ hs.length
  | [], _ => Nat.le_refl _
  | h :: hs, k => by
    unfold gr
    cases fst n ok k h with
    | none => exact Nat.zero_le _
    | some a => exact Nat.succ_le_succ (gr_len hs (a + 1))
theorem gr_take : ∀ (hs : List β) (k j : Nat), gr n ok (hs.take j) k = (gr n ok hs k).take j
  | [], k, j => by simp [gr]
  | h :: hs, k, 0 => by simp [gr]
  | h :: hs, k, j + 1 => by
    rw [List.take_succ_cons]
    unfold gr
    cases fst n ok k h with
    | none => simp
    | some a =>
      show a :: gr n ok (hs.take j) (a + 1) = (a :: gr n ok hs (a + 1)).take (j + 1)
      rw [gr_take hs (a + 1) j, List.take_succ_cons]
theorem gr_lay : ∀ (hs : List β) (k : Nat), LayF n ok k (hs.take (gr n ok hs k).length) (gr n ok hs k)
  | [], k => by simp [gr, LayF]
  | h :: hs, k => by
    unfold gr
    cases e : fst n ok k h with
    | none => simp [LayF]
    | some a =>
      show LayF n ok k ((h :: hs).take ((gr n ok hs (a + 1)).length + 1)) (a :: gr n ok hs (a + 1))
      rw [List.take_succ_cons]
      have := fst_some.mp e
      exact ⟨this.1.1, this.2.1, this.1.2, gr_lay hs (a + 1)⟩
theorem gr_min : ∀ (hs : List β) (k k' : Nat) (l : List Nat), LayF n ok k hs l → k' ≤ k → (gr n ok hs k').length = hs.length ∧ ∀ (i : Nat) a b, l[i]? = some a → (gr n ok hs k')[i]? = some b → b ≤ a
  | [], k, k', l, h, _ => ⟨rfl, fun i a b _ e => by simp [gr] at e⟩
  | h :: hs, k, k', [], hl, _ => by cases hl
  | h :: hs, k, k', a :: l, ⟨h1, h2, h3, h4⟩, hk => by
    obtain ⟨b, e, hb⟩ := fst_le (k' := k') hk h1 h2 h3
    obtain ⟨i1, i2⟩ := gr_min hs (a + 1) (b + 1) l h4 (by omega)
    unfold gr
    rw [e]
    refine ⟨by show _ + 1 = _ + 1; rw [i1], fun i x y hx hy => ?_⟩
    cases i with
    | zero =>
      cases (Option.some.inj hx : a = x)
      cases (Option.some.inj hy : b = y)
      exact hb
    | succ i => exact i2 i x y (by simpa using hx) (by simpa using hy)
/-- all can be laid just if the greedy one is whole -/
theorem gr_whole {hs : List β} : (gr n ok hs 0).length = hs.length ↔ lays n ok hs ≠ [] := by
  constructor
  · intro e
    have := gr_lay (n := n) (ok := ok) hs 0
    rw [e, List.take_of_length_le (Nat.le_refl _)] at this
    exact List.ne_nil_of_mem (mem_lay.mpr (lay0.mpr this))
  · intro h
    obtain ⟨l, hl⟩ := List.exists_mem_of_ne_nil _ h
    exact (gr_min hs 0 0 l (lay0.mp (mem_lay.mp hl)) (Nat.le_refl _)).1
theorem gr_part (hs : List β) (m : Nat) (hm : m ≤ hs.length) : lays n ok (hs.take m) ≠ [] ↔ m ≤ (gr n ok hs 0).length := by
  rw [← gr_whole, gr_take, List.length_take, List.length_take, Nat.min_eq_left hm]
  omega
theorem gr_isLay {hs : List β} (h : lays n ok hs ≠ []) : IsLay n ok hs (gr n ok hs 0) := by
  have := gr_lay (n := n) (ok := ok) hs 0
  rw [gr_whole.mpr h, List.take_of_length_le (Nat.le_refl _)] at this
  exact lay0.mpr this
theorem gr_least {hs : List β} {l : List Nat} (hl : IsLay n ok hs l) {i a b : Nat} (ha : l[i]? = some a) (hb : (gr n ok hs 0)[i]? = some b) : b ≤ a :=
  (gr_min hs 0 0 l (lay0.mp hl) (Nat.le_refl _)).2 i a b ha hb
/-! ### from behind -/
def rv (n : Nat) (l : List Nat) : List Nat := l.reverse.map fun a => n - 1 - a
theorem rv_len (l : List Nat) : (rv n l).length = l.length := by unfold rv; rw [List.length_map, List.length_reverse]
theorem rv_get {l : List Nat} {i : Nat} (h : i < l.length) : (rv n l)[i]? = (l[l.length - 1 - i]?).map fun a => n - 1 - a := by
  unfold rv; rw [List.getElem?_map, List.getElem?_reverse h]
theorem IsLay.rv {hs : List β} {l : List Nat} (h : IsLay n ok hs l) : IsLay n (fun g a => ok g (n - 1 - a)) hs.reverse (rv n l) := by
  have below : ∀ a ∈ l, a < n := fun a ha => by
    obtain ⟨i, hi⟩ := List.mem_iff_getElem?.mp ha
    have hlt := (List.getElem?_eq_some_iff.mp hi).1
    exact (h.fit i a _ hi (List.getElem?_eq_getElem (by rw [← h.len]; exact hlt))).1
  refine ⟨by rw [rv_len, List.length_reverse, h.len], ?_, fun i a g ha hg => ?_⟩
  · unfold Ks.rv
    rw [List.pairwise_map, List.pairwise_reverse]
    exact h.asc.imp_of_mem fun {a b} ha hb hab => by
      have := below b hb
      omega
  · have hi : i < l.length := by
      have := (List.getElem?_eq_some_iff.mp ha).1
      rwa [rv_len] at this
    rw [rv_get hi] at ha
    rw [List.getElem?_reverse (by rw [← h.len]; exact hi), ← h.len] at hg
    obtain ⟨b, hb, e⟩ := Option.map_eq_some_iff.mp ha
    have := h.fit _ b g hb hg
    subst e
    refine ⟨by omega, ?_⟩
    show ok g (n - 1 - (n - 1 - b)) = true
    rw [show n - 1 - (n - 1 - b) = b by omega]
    exact this.2
theorem rv_rv {l : List Nat} (h : ∀ a ∈ l, a < n) : rv n (rv n l) = l := by
  unfold rv
  rw [← List.map_reverse, List.reverse_reverse, List.map_map]
  conv => rhs; rw [← List.map_id l]
  refine List.map_congr_left fun a ha => ?_
  have := h a ha
  show n - 1 - (n - 1 - a) = a
  omega
/-- the one from behind -/
def bk (n : Nat) (ok : β → Nat → Bool) (hs : List β) : List Nat := rv n (gr n (fun g a => ok g (n - 1 - a)) hs.reverse 0)
theorem IsLay.below {hs : List β} {l : List Nat} (h : IsLay n ok hs l) : ∀ a ∈ l, a < n := fun a ha => by
  obtain ⟨i, hi⟩ := List.mem_iff_getElem?.mp ha
  have hlt := (List.getElem?_eq_some_iff.mp hi).1
  exact (h.fit i a _ hi (List.getElem?_eq_getElem (by rw [← h.len]; exact hlt))).1
theorem IsLay.ok_congr {ok' : β → Nat → Bool} {hs : List β} {l : List Nat} (h : IsLay n ok hs l) (e : ∀ g a, a < n → ok g a = ok' g a) : IsLay n ok' hs l :=
  ⟨h.len, h.asc, fun i a g ha hg => let k := h.fit i a g ha hg; ⟨k.1, by rw [← e g a k.1]; exact k.2⟩⟩
theorem bk_isLay {hs : List β} (h : lays n ok hs ≠ []) : IsLay n ok hs (bk n ok hs) := by
  obtain ⟨l, hl⟩ := List.exists_mem_of_ne_nil _ h
  have h1 := (mem_lay.mp hl).rv
  have h2 := gr_isLay (List.ne_nil_of_mem (mem_lay.mpr h1))
  have h3 := h2.rv
  rw [List.reverse_reverse] at h3
  exact h3.ok_congr fun g a ha => by show ok g (n - 1 - (n - 1 - a)) = ok g a; rw [show n - 1 - (n - 1 - a) = a by omega]
theorem bk_great {hs : List β} {l : List Nat} (hl : IsLay n ok hs l) {i a b : Nat} (ha : l[i]? = some a) (hb : (bk n ok hs)[i]? = some b) : a ≤ b := by
  have h1 := hl.rv
  have hi : i < l.length := (List.getElem?_eq_some_iff.mp ha).1
  have hg : (gr n (fun g a => ok g (n - 1 - a)) hs.reverse 0).length = l.length := by
    rw [gr_whole.mpr (List.ne_nil_of_mem (mem_lay.mpr h1)), List.length_reverse, hl.len]
  unfold bk at hb
  rw [rv_get (by omega)] at hb
  obtain ⟨c, hc, e⟩ := Option.map_eq_some_iff.mp hb
  have hr : (rv n l)[l.length - 1 - i]? = some (n - 1 - a) := by
    rw [rv_get (by omega), show l.length - 1 - (l.length - 1 - i) = i by omega, ha]; rfl
  rw [hg] at hc
  have := gr_least h1 hr hc
  have := hl.below a (List.mem_of_getElem? ha)
  omega
/-- all between first and last that fit are some laying's -/
theorem between {hs : List β} (h : lays n ok hs ≠ []) {i x b c : Nat} {g : β} (hg : hs[i]? = some g) (hb : (gr n ok hs 0)[i]? = some b) (hc : (bk n ok hs)[i]? = some c) (h1 : b ≤ x) (h2 : x ≤ c) (hx : ok g x = true) : ∃ l ∈ lays n ok hs, l[i]? = some x := by
  have F := gr_isLay h
  have B := bk_isLay h
  have lf := F.len
  have lb := B.len
  have hi : i < hs.length := (List.getElem?_eq_some_iff.mp hg).1
  generalize gr n ok hs 0 = f at *
  generalize bk n ok hs = k at *
  have hn : x < n := by have := B.below c (List.mem_of_getElem? hc); omega
  have lt : (f.take i).length = i := by rw [List.length_take]; omega
  have gi : (f.take i ++ x :: k.drop (i + 1))[i]? = some x := by
    rw [List.getElem?_append_right (by omega), lt, Nat.sub_self]; rfl
  refine ⟨f.take i ++ x :: k.drop (i + 1), mem_lay.mpr ⟨?_, ?_, fun j a y ha hy => ?_⟩, gi⟩
  · rw [List.length_append, lt, List.length_cons, List.length_drop]; omega
  · rw [List.pairwise_append, List.pairwise_cons]
    have fb : ∀ a ∈ f.take i, a < x := fun a ha => by
      obtain ⟨j, hj⟩ := List.mem_iff_getElem?.mp ha
      have hji : j < i := by have := (List.getElem?_eq_some_iff.mp hj).1; omega
      rw [List.getElem?_take_of_lt hji] at hj
      obtain ⟨l1, e1⟩ := List.getElem?_eq_some_iff.mp hj
      obtain ⟨l2, e2⟩ := List.getElem?_eq_some_iff.mp hb
      have := List.pairwise_iff_getElem.mp F.asc j i l1 l2 hji
      omega
    have kb : ∀ a ∈ k.drop (i + 1), x < a := fun a ha => by
      obtain ⟨j, hj⟩ := List.mem_iff_getElem?.mp ha
      rw [List.getElem?_drop] at hj
      obtain ⟨l1, e1⟩ := List.getElem?_eq_some_iff.mp hj
      obtain ⟨l2, e2⟩ := List.getElem?_eq_some_iff.mp hc
      have := List.pairwise_iff_getElem.mp B.asc i (i + 1 + j) l2 l1 (by omega)
      omega
    refine ⟨F.asc.sublist (List.take_sublist _ _), ⟨kb, B.asc.sublist (List.drop_sublist _ _)⟩, fun a ha y hy => ?_⟩
    have := fb a ha
    rcases List.mem_cons.mp hy with rfl | hy
    · exact this
    · have := kb y hy; omega
  · rcases Nat.lt_trichotomy j i with c1 | rfl | c1
    · rw [List.getElem?_append_left (by omega), List.getElem?_take_of_lt c1] at ha
      exact F.fit j a y ha hy
    · rw [gi] at ha
      rw [hg] at hy
      cases ha; cases hy
      exact ⟨hn, hx⟩
    · rw [List.getElem?_append_right (by omega), lt, show j - i = (j - i - 1) + 1 by omega, List.getElem?_cons_succ, List.getElem?_drop, show i + 1 + (j - i - 1) = j by omega] at ha
      exact B.fit j a y ha hy
/-- the numbers that one of the things has in layings -/
theorem spots {hs : List β} (h : lays n ok hs ≠ []) {i b c : Nat} {g : β} (hg : hs[i]? = some g) (hb : (gr n ok hs 0)[i]? = some b) (hc : (bk n ok hs)[i]? = some c) (x : Nat) : (∃ l ∈ lays n ok hs, l[i]? = some x) ↔ (b ≤ x ∧ x ≤ c) ∧ ok g x = true := by
  constructor
  · rintro ⟨l, hl, e⟩
    have il := mem_lay.mp hl
    exact ⟨⟨gr_least il e hb, bk_great il e hc⟩, (il.fit i x g e hg).2⟩
  · rintro ⟨⟨h1, h2⟩, hx⟩
    exact between h hg hb hc h1 h2 hx
end
end Ks

namespace Kw
theorem am (a b c : Int) : a + min b c = min (a + b) (a + c) := by omega
theorem eqLe {x y : Int} (h : ∀ t, t ≤ x ↔ t ≤ y) : x = y := Int.le_antisymm ((h x).mp (Int.le_refl _)) ((h y).mpr (Int.le_refl _))
theorem nine (Al Bh Cl Aa Bb Ca p q r s t u v w x : Int) :
    min (min (Al + min (min (Ca + p) (Aa + q)) (Bb + r)) (Bh + min (min (Ca + s) (Aa + t)) (Bb + u))) (Cl + min (min (Ca + v) (Aa + w)) (Bb + x))
    = min (min (Ca + min (min (Al + p) (Bh + s)) (Cl + v)) (Aa + min (min (Al + q) (Bh + t)) (Cl + w))) (Bb + min (min (Al + r) (Bh + u)) (Cl + x)) := by
  simp only [am, ← Int.add_assoc]
  rw [Int.add_comm Ca Al, Int.add_comm Ca Bh, Int.add_comm Ca Cl, Int.add_comm Aa Al, Int.add_comm Aa Bh, Int.add_comm Aa Cl, Int.add_comm Bb Al, Int.add_comm Bb Bh, Int.add_comm Bb Cl]
  refine eqLe fun t => ?_
  simp only [Int.le_min]
  constructor
  · rintro ⟨⟨⟨⟨a, b⟩, c⟩, ⟨⟨d, e⟩, f⟩⟩, ⟨⟨g, h⟩, i⟩⟩
    exact ⟨⟨⟨⟨a, d⟩, g⟩, ⟨⟨b, e⟩, h⟩⟩, ⟨⟨c, f⟩, i⟩⟩
  · rintro ⟨⟨⟨⟨a, d⟩, g⟩, ⟨⟨b, e⟩, h⟩⟩, ⟨⟨c, f⟩, i⟩⟩
    exact ⟨⟨⟨⟨a, b⟩, c⟩, ⟨⟨d, e⟩, f⟩⟩, ⟨⟨g, h⟩, i⟩⟩
theorem sixA (Bh Aa Bb Ca Cl S T U V W x : Int) (e1 : T = Bb + S) :
    min (min (Aa + (Bh + T)) (Bh + min (min (Ca + S) (Aa + T)) (Bb + U))) (Cl + T)
    = min (min (Ca + (Bh + S)) (Aa + (Bh + T))) (Bb + min (min (Aa + (Bh + S)) (Bh + U)) (Cl + S)) := by
  subst e1
  simp only [am, ← Int.add_assoc]
  refine eqLe fun t => ?_
  simp only [Int.le_min]
  omega
theorem sixB (Al Aa Bb Ca Cl S T U : Int) (e0 : T = Aa + S) :
    min (min (Al + min (min (Ca + S) (Aa + U)) (Bb + T)) (Bb + (Al + T))) (Cl + T)
    = min (min (Ca + (Al + S)) (Aa + min (min (Al + U) (Bb + (Al + S))) (Cl + S))) (Bb + (Al + T)) := by
  subst e0
  simp only [am, ← Int.add_assoc]
  refine eqLe fun t => ?_
  simp only [Int.le_min]
  omega
section
variable {α : Type} (A B : α → Int) (C : α → α → Int)
def sumI : List Int → Int := fun l => l.foldr (· + ·) 0
theorem sumI_nil : sumI [] = 0 := rfl
theorem sumI_cons (a : Int) (l : List Int) : sumI (a :: l) = a + sumI l := rfl
theorem sumI_app (a b : List Int) : sumI (a ++ b) = sumI a + sumI b := by
  induction a with
  | nil => rw [List.nil_append, sumI_nil]; omega
  | cons x a ih => rw [List.cons_append, sumI_cons, sumI_cons, ih]; omega
def lst : List α → List α → Int
  | [], hs => sumI (hs.map B)
  | l :: ls, [] => sumI ((l :: ls).map A)
  | l :: ls, h :: hs => min (min (A l + lst ls (h :: hs)) (B h + lst (l :: ls) hs)) (C l h + lst ls hs)
termination_by ls hs => ls.length + hs.length
variable {A B C}
theorem lst_nil (hs : List α) : lst A B C [] hs = sumI (hs.map B) := by rw [lst]
theorem lst_nilR : ∀ ls : List α, lst A B C ls [] = sumI (ls.map A)
  | [] => by rw [lst]; rfl
  | l :: ls => by rw [lst]
theorem lst_cons (l h : α) (ls hs : List α) : lst A B C (l :: ls) (h :: hs) = min (min (A l + lst A B C ls (h :: hs)) (B h + lst A B C (l :: ls) hs)) (C l h + lst A B C ls hs) := by rw [lst]
/-- the law's way: either is empty -/
theorem lst_empty {ls hs : List α} (h : ls = [] ∨ hs = []) : lst A B C ls hs = sumI (ls.map A) + sumI (hs.map B) := by
  rcases h with rfl | rfl
  · rw [lst_nil]; show _ = sumI [] + _; rw [sumI_nil]; omega
  · rw [lst_nilR]; show _ = _ + sumI []; rw [sumI_nil]; omega
theorem lst_snoc_nil (ls : List α) (a : α) : lst A B C (ls ++ [a]) [] = A a + lst A B C ls [] := by
  rw [lst_nilR, lst_nilR, List.map_append, sumI_app]
  show _ + sumI [A a] = _
  rw [sumI_cons, sumI_nil]; omega
theorem lst_nil_snoc (hs : List α) (b : α) : lst A B C [] (hs ++ [b]) = B b + lst A B C [] hs := by
  rw [lst_nil, lst_nil, List.map_append, sumI_app]
  show _ + sumI [B b] = _
  rw [sumI_cons, sumI_nil]; omega
theorem lst_snoc (a b : α) (n : Nat) : ∀ (ls hs : List α), ls.length + hs.length ≤ n → lst A B C (ls ++ [a]) (hs ++ [b]) = min (min (C a b + lst A B C ls hs) (A a + lst A B C ls (hs ++ [b]))) (B b + lst A B C (ls ++ [a]) hs) := by
  have base : lst A B C [a] [b] = min (min (C a b + lst A B C [] []) (A a + lst A B C [] [b])) (B b + lst A B C [a] []) := by
    rw [lst_cons]; omega
  induction n with
  | zero =>
    intro ls hs l
    have h1 : ls = [] := List.length_eq_zero_iff.mp (by omega)
    have h2 : hs = [] := List.length_eq_zero_iff.mp (by omega)
    subst h1 h2
    exact base
  | succ n ih =>
    intro ls hs l
    rcases ls with _ | ⟨l0, ls⟩
    · rcases hs with _ | ⟨h, hs⟩
      · exact base
      have ih := ih [] hs (by simp only [List.length_cons, List.length_nil] at l ⊢; omega)
      simp only [List.nil_append, List.cons_append] at ih ⊢
      have e1 := lst_nil_snoc (A := A) (B := B) (C := C) hs b
      have e2 : lst A B C [] (h :: (hs ++ [b])) = B h + lst A B C [] (hs ++ [b]) := by rw [lst_nil, lst_nil]; rfl
      have e3 : lst A B C [] (h :: hs) = B h + lst A B C [] hs := by rw [lst_nil, lst_nil]; rfl
      rw [lst_cons a h [] (hs ++ [b]), lst_cons a h [] hs, ih, e2, e3]
      exact sixA _ _ _ _ _ _ _ _ 0 0 0 e1
    · rcases hs with _ | ⟨h, hs⟩
      · have ih := ih ls [] (by simp only [List.length_cons, List.length_nil] at l ⊢; omega)
        simp only [List.nil_append, List.cons_append] at ih ⊢
        have e0 := lst_snoc_nil (A := A) (B := B) (C := C) ls a
        have e1 : lst A B C (l0 :: (ls ++ [a])) [] = A l0 + lst A B C (ls ++ [a]) [] := by rw [lst_nilR, lst_nilR]; rfl
        have e3 : lst A B C (l0 :: ls) [] = A l0 + lst A B C ls [] := by rw [lst_nilR, lst_nilR]; rfl
        rw [lst_cons l0 b (ls ++ [a]) [], lst_cons l0 b ls [], ih, e1, e3]
        exact sixB _ _ _ _ _ _ _ _ e0
      · simp only [List.length_cons] at l
        have i1 := ih ls (h :: hs) (by simp only [List.length_cons]; omega)
        have i2 := ih (l0 :: ls) hs (by simp only [List.length_cons]; omega)
        have i3 := ih ls hs (by omega)
        simp only [List.cons_append] at i1 i2 ⊢
        rw [lst_cons l0 h (ls ++ [a]) (hs ++ [b]), i1, i2, i3, lst_cons l0 h ls hs, lst_cons l0 h ls (hs ++ [b]), lst_cons l0 h (ls ++ [a]) hs]
        exact nine _ _ _ _ _ _ _ _ _ _ _ _ _ _ _
end
end Kw

namespace Kw
section
variable {α : Type} (A B : α → Int) (C : α → α → Int) [Inhabited α]
abbrev Stp := Nat × Nat × Int
/-- the steps that lead to (i, j) -/
def stp (ls hs : List α) (i j : Nat) : List Stp :=
  (if 0 < i ∧ 0 < j then [(i - 1, j - 1, C (ls.getD (i - 1) default) (hs.getD (j - 1) default))] else []) ++
  ((if 0 < i then [(i - 1, j, A (ls.getD (i - 1) default))] else []) ++ (if 0 < j then [(i, j - 1, B (hs.getD (j - 1) default))] else []))
def wr (ls hs : List α) (i j : Nat) : Int := lst A B C (ls.take i) (hs.take j)
variable {A B C}
theorem take_snoc {l : List α} {i : Nat} (h : i < l.length) : l.take (i + 1) = l.take i ++ [l.getD i default] := by
  rw [List.take_add_one, List.getElem?_eq_getElem h, List.getD_eq_getElem?_getD, List.getElem?_eq_getElem h]; rfl
theorem wr_zero (ls hs : List α) : wr A B C ls hs 0 0 = 0 := by unfold wr; rw [List.take_zero, List.take_zero, lst_nil]; rfl
theorem wr_all (ls hs : List α) : wr A B C ls hs ls.length hs.length = lst A B C ls hs := by unfold wr; rw [List.take_length, List.take_length]
theorem wr_l {ls hs : List α} {i : Nat} (h : i < ls.length) : wr A B C ls hs (i + 1) 0 = A (ls.getD i default) + wr A B C ls hs i 0 := by
  unfold wr
  rw [take_snoc h, List.take_zero, lst_snoc_nil]
theorem wr_r {ls hs : List α} {j : Nat} (h : j < hs.length) : wr A B C ls hs 0 (j + 1) = B (hs.getD j default) + wr A B C ls hs 0 j := by
  unfold wr
  rw [take_snoc h, List.take_zero, lst_nil_snoc]
theorem wr_b {ls hs : List α} {i j : Nat} (h : i < ls.length) (g : j < hs.length) : wr A B C ls hs (i + 1) (j + 1) = min (min (C (ls.getD i default) (hs.getD j default) + wr A B C ls hs i j) (A (ls.getD i default) + wr A B C ls hs i (j + 1))) (B (hs.getD j default) + wr A B C ls hs (i + 1) j) := by
  unfold wr
  rw [take_snoc h, take_snoc g, lst_snoc _ _ _ _ _ (Nat.le_refl _)]
theorem stp_low {ls hs : List α} {i j : Nat} {s : Stp} (hs' : s ∈ stp A B C ls hs i j) : s.1 ≤ i ∧ s.2.1 ≤ j ∧ s.1 + s.2.1 < i + j ∧ (s.1 < i → s.1 = i - 1) ∧ (s.2.1 < j → s.2.1 = j - 1) := by
  unfold stp at hs'
  rcases List.mem_append.mp hs' with z | z
  · split at z
    · rw [List.mem_singleton.mp z]; dsimp only; omega
    · cases z
  · rcases List.mem_append.mp z with z | z
    · split at z
      · rw [List.mem_singleton.mp z]; dsimp only; omega
      · cases z
    · split at z
      · rw [List.mem_singleton.mp z]; dsimp only; omega
      · cases z
/-- the price of a step, by what it leaves -/
def prc (ls hs : List α) (i j : Nat) (s : Stp) : Int := if s.1 < i then (if s.2.1 < j then C (ls.getD s.1 default) (hs.getD s.2.1 default) else A (ls.getD s.1 default)) else B (hs.getD s.2.1 default)
theorem stp_prc {ls hs : List α} {i j : Nat} {s : Stp} (hs' : s ∈ stp A B C ls hs i j) : s.2.2 = prc (A := A) (B := B) (C := C) ls hs i j s := by
  unfold stp at hs'
  unfold prc
  rcases List.mem_append.mp hs' with z | z
  · split at z
    · rw [List.mem_singleton.mp z]; dsimp only; rw [if_pos (by omega), if_pos (by omega)]
    · cases z
  · rcases List.mem_append.mp z with z | z
    · split at z
      · rw [List.mem_singleton.mp z]; dsimp only; rw [if_pos (by omega), if_neg (by omega)]
      · cases z
    · split at z
      · rw [List.mem_singleton.mp z]; dsimp only; rw [if_neg (by omega)]
      · cases z
theorem stp_le {ls hs : List α} {i j : Nat} (hi : i ≤ ls.length) (hj : j ≤ hs.length) : ∀ s ∈ stp A B C ls hs i j, wr A B C ls hs i j ≤ wr A B C ls hs s.1 s.2.1 + s.2.2 := by
  intro s hs'
  unfold stp at hs'
  rcases i with _ | i
  · rcases j with _ | j
    · simp at hs'
    · have := wr_r (A := A) (B := B) (C := C) (ls := ls) (hs := hs) (j := j) (by omega)
      simp at hs'
      rw [hs']; dsimp only; simp only [List.getD_eq_getElem?_getD] at this ⊢; omega
  · rcases j with _ | j
    · have := wr_l (A := A) (B := B) (C := C) (ls := ls) (hs := hs) (i := i) (by omega)
      simp at hs'
      rw [hs']; dsimp only; simp only [List.getD_eq_getElem?_getD] at this ⊢; omega
    · have := wr_b (A := A) (B := B) (C := C) (ls := ls) (hs := hs) (i := i) (j := j) (by omega) (by omega)
      simp at hs'
      simp only [List.getD_eq_getElem?_getD] at this ⊢
      rcases hs' with z | z | z <;> (rw [z]; dsimp only; omega)
theorem stp_nil (ls hs : List α) (i j : Nat) (e : stp A B C ls hs i j = []) : i = 0 ∧ j = 0 := by
  unfold stp at e
  rw [List.append_eq_nil_iff, List.append_eq_nil_iff] at e
  obtain ⟨_, e1, e2⟩ := e
  constructor
  · rcases i with _ | i
    · rfl
    · simp at e1
  · rcases j with _ | j
    · rfl
    · simp at e2
theorem stp_is {ls hs : List α} {i j : Nat} (hi : i ≤ ls.length) (hj : j ≤ hs.length) (h : 0 < i ∨ 0 < j) : ∃ s ∈ stp A B C ls hs i j, wr A B C ls hs s.1 s.2.1 + s.2.2 = wr A B C ls hs i j := by
  unfold stp
  rcases i with _ | i
  · rcases j with _ | j
    · omega
    · have := wr_r (A := A) (B := B) (C := C) (ls := ls) (hs := hs) (j := j) (by omega)
      refine ⟨(0, j, B (hs.getD j default)), by simp, by dsimp only; omega⟩
  · rcases j with _ | j
    · have := wr_l (A := A) (B := B) (C := C) (ls := ls) (hs := hs) (i := i) (by omega)
      refine ⟨(i, 0, A (ls.getD i default)), by simp, by dsimp only; omega⟩
    · have := wr_b (A := A) (B := B) (C := C) (ls := ls) (hs := hs) (i := i) (j := j) (by omega) (by omega)
      have three : ∀ x y z w : Int, w = min (min x y) z → x = w ∨ y = w ∨ z = w := by omega
      rcases three _ _ _ _ this with e | e | e
      · exact ⟨(i, j, C (ls.getD i default) (hs.getD j default)), by simp, by dsimp only; omega⟩
      · exact ⟨(i, j + 1, A (ls.getD i default)), by simp, by dsimp only; omega⟩
      · exact ⟨(i + 1, j, B (hs.getD j default)), by simp, by dsimp only; omega⟩
/-- the least of the steps' worths -/
theorem wr_min {ls hs : List α} {i j : Nat} (hi : i ≤ ls.length) (hj : j ≤ hs.length) {m : Int} (hm : m ∈ (stp A B C ls hs i j).map fun s => wr A B C ls hs s.1 s.2.1 + s.2.2) (hl : ∀ y ∈ (stp A B C ls hs i j).map fun s => wr A B C ls hs s.1 s.2.1 + s.2.2, m ≤ y) : m = wr A B C ls hs i j := by
  obtain ⟨s, hs', rfl⟩ := List.mem_map.mp hm
  have h1 := stp_le (A := A) (B := B) (C := C) hi hj s hs'
  have h0 : 0 < i ∨ 0 < j := by have := (stp_low hs').2.2.1; omega
  obtain ⟨t, ht, et⟩ := stp_is (A := A) (B := B) (C := C) hi hj h0
  have h2 := hl _ (List.mem_map.mpr ⟨t, ht, rfl⟩)
  omega
theorem wr_minNil {ls hs : List α} {i j : Nat} (e : (stp A B C ls hs i j).map (fun s => wr A B C ls hs s.1 s.2.1 + s.2.2) = []) : wr A B C ls hs i j = 0 := by
  obtain ⟨rfl, rfl⟩ := stp_nil ls hs i j (List.map_eq_nil_iff.mp e)
  exact wr_zero ls hs
/-! ### tellings -/
abbrev Pr := Option Nat × Option Nat
def tcost (ls hs : List α) (p : Pr) : Int := match p with
  | (some a, some b) => C (ls.getD a default) (hs.getD b default)
  | (some a, none) => A (ls.getD a default)
  | (none, some b) => B (hs.getD b default)
  | (none, none) => 0
/-- what is told from behind, down to (i, j) -/
structure Tl (ls hs : List α) (i j : Nat) (t : List Pr) : Prop where
  fst : t.filterMap (·.1) = List.range' i (ls.length - i)
  snd : t.filterMap (·.2) = List.range' j (hs.length - j)
  any : ∀ p ∈ t, p ≠ (none, none)
  sum : sumI (t.map (tcost (A := A) (B := B) (C := C) ls hs)) + wr A B C ls hs i j = lst A B C ls hs
  len : t.length + i + j ≤ ls.length + hs.length
theorem Tl.nil (ls hs : List α) : Tl (A := A) (B := B) (C := C) ls hs ls.length hs.length [] := by
  refine ⟨by rw [Nat.sub_self]; rfl, by rw [Nat.sub_self]; rfl, (fun p hp => by cases hp), ?_, (by simp)⟩
  show 0 + _ = _
  rw [wr_all]; omega
def prOf (i j : Nat) (s : Stp) : Pr := (if s.1 < i then some s.1 else none, if s.2.1 < j then some s.2.1 else none)
theorem Tl.cons {ls hs : List α} {i j : Nat} {t : List Pr} (T : Tl (A := A) (B := B) (C := C) ls hs i j t) (hi : i ≤ ls.length) (hj : j ≤ hs.length) {s : Stp} (m : s ∈ stp A B C ls hs i j) (e : wr A B C ls hs s.1 s.2.1 + s.2.2 = wr A B C ls hs i j) : Tl (A := A) (B := B) (C := C) ls hs s.1 s.2.1 (prOf i j s :: t) := by
  obtain ⟨l1, l2, l3, l4, l5⟩ := stp_low m
  have hp := stp_prc m
  have rg : ∀ k n : Nat, k < n → List.range' k (n - k) = k :: List.range' (k + 1) (n - (k + 1)) := fun k n h => by
    rw [show n - k = (n - (k + 1)) + 1 by omega, List.range'_succ]
  refine ⟨?_, ?_, fun p hp => ?_, ?_, by have := T.len; rw [List.length_cons]; omega⟩
  · unfold prOf
    by_cases c : s.1 < i
    · rw [List.filterMap_cons, if_pos c]
      dsimp only
      rw [T.fst, rg s.1 _ (by omega), l4 c, show i - 1 + 1 = i by omega]
    · rw [List.filterMap_cons, if_neg c]
      dsimp only
      rw [T.fst, show s.1 = i by omega]
  · unfold prOf
    by_cases c : s.2.1 < j
    · rw [List.filterMap_cons, if_pos c]
      dsimp only
      rw [T.snd, rg s.2.1 _ (by omega), l5 c, show j - 1 + 1 = j by omega]
    · rw [List.filterMap_cons, if_neg c]
      dsimp only
      rw [T.snd, show s.2.1 = j by omega]
  · rcases List.mem_cons.mp hp with rfl | z
    · unfold prOf
      intro z
      by_cases c : s.1 < i
      · rw [if_pos c] at z; cases (Prod.mk.inj z).1
      · rw [if_neg c, if_pos (by omega)] at z; cases (Prod.mk.inj z).2
    · exact T.any p z
  · have := T.sum
    rw [List.map_cons, sumI_cons]
    have ec : tcost (A := A) (B := B) (C := C) ls hs (prOf i j s) = s.2.2 := by
      rw [hp]
      unfold prOf prc
      by_cases c : s.1 < i
      · by_cases d : s.2.1 < j
        · rw [if_pos c, if_pos d, if_pos c, if_pos d]; rfl
        · rw [if_pos c, if_neg d, if_pos c, if_neg d]; rfl
      · rw [if_neg c, if_pos (by omega), if_neg c]; rfl
    rw [ec]; omega
end
end Kw

namespace Kw
section
variable {β : Type} [DecidableEq β]
def both (l h : List β) : Nat := (l.filter fun x => decide (x ∈ h)).length
/-- the program's price of a pair -/
def pp (mi ex : Int) (l h : List β) : Int := mi * ((l.length : Nat) - (both l h : Nat)) + ex * ((h.length : Nat) - (both l h : Nat))
/-- the price, name by name -/
def pl (mi ex : Int) (l h : List β) : Int := mi * ((l.filter fun x => !decide (x ∈ h)).length : Nat) + ex * ((h.filter fun x => !decide (x ∈ l)).length : Nat)
def pA (mi ex : Int) (l : List β) : Int := pp mi ex l []
def pB (mi ex : Int) (h : List β) : Int := pp mi ex [] h
abbrev W (mi ex : Int) (ls hs : List (List β)) : Nat → Nat → Int := wr (pA mi ex) (pB mi ex) (pp mi ex) ls hs
abbrev steps (mi ex : Int) (ls hs : List (List β)) (i j : Nat) : List Stp := stp (pA mi ex) (pB mi ex) (pp mi ex) ls hs i j
/-- the law's least price -/
def least (mi ex : Int) (ls hs : List (List β)) : Int := lst (fun l => mi * (l.length : Nat)) (fun h => ex * (h.length : Nat)) (pl mi ex) ls hs
theorem both_nil (l : List β) : both l [] = 0 := by unfold both; simp
theorem nil_both (h : List β) : both [] h = 0 := rfl
theorem pA_eq (mi ex : Int) (l : List β) : pA mi ex l = mi * (l.length : Nat) := by
  unfold pA pp
  rw [both_nil]; simp
theorem pB_eq (mi ex : Int) (h : List β) : pB mi ex h = ex * (h.length : Nat) := by
  unfold pB pp
  rw [nil_both]; simp
theorem pl_nilR (mi ex : Int) (l : List β) : pl mi ex l [] = mi * (l.length : Nat) := by
  unfold pl
  rw [show l.filter (fun x => !decide (x ∈ ([] : List β))) = l from List.filter_eq_self.mpr fun x _ => by simp]
  simp
theorem pl_nilL (mi ex : Int) (h : List β) : pl mi ex [] h = ex * (h.length : Nat) := by
  unfold pl
  rw [show h.filter (fun x => !decide (x ∈ ([] : List β))) = h from List.filter_eq_self.mpr fun x _ => by simp]
  simp
theorem nd_filter {l : List β} (p : β → Bool) (h : l.Nodup) : (l.filter p).Nodup := List.Pairwise.filter p h
theorem both_comm {l h : List β} (n : l.Nodup) (m : h.Nodup) : both l h = both h l := by
  unfold both
  refine List.Perm.length_eq ((List.perm_ext_iff_of_nodup (nd_filter _ n) (nd_filter _ m)).mpr fun a => ?_)
  rw [List.mem_filter, List.mem_filter, decide_eq_true_eq, decide_eq_true_eq]
  exact And.comm
theorem split_len (l : List β) (p : β → Bool) : (l.filter p).length + (l.filter fun x => !p x).length = l.length := by
  induction l with
  | nil => rfl
  | cons x l ih =>
    rw [List.filter_cons, List.filter_cons]
    cases c : p x with
    | true => simp only [Bool.not_true, if_true, Bool.false_eq_true, if_false, List.length_cons]; omega
    | false => simp only [Bool.not_false, if_true, Bool.false_eq_true, if_false, List.length_cons]; omega
theorem both_le (l h : List β) : both l h ≤ l.length := List.length_filter_le _ _
theorem pp_pl (mi ex : Int) {l h : List β} (n : l.Nodup) (m : h.Nodup) : pp mi ex l h = pl mi ex l h := by
  unfold pp pl
  have h1 := split_len l fun x => decide (x ∈ h)
  have h2 := split_len h fun x => decide (x ∈ l)
  have h3 := both_comm n m
  unfold both at *
  rw [show (((l.length : Nat) : Int) - ((l.filter fun x => decide (x ∈ h)).length : Nat)) = ((l.filter fun x => !decide (x ∈ h)).length : Nat) by omega,
    show (((h.length : Nat) : Int) - ((l.filter fun x => decide (x ∈ h)).length : Nat)) = ((h.filter fun x => !decide (x ∈ l)).length : Nat) by omega]
theorem lst_congr {α : Type} {A B A' B' : α → Int} {C C' : α → α → Int} (n : Nat) : ∀ (ls hs : List α), ls.length + hs.length ≤ n → (∀ l ∈ ls, A l = A' l) → (∀ h ∈ hs, B h = B' h) → (∀ l ∈ ls, ∀ h ∈ hs, C l h = C' l h) → lst A B C ls hs = lst A' B' C' ls hs := by
  induction n with
  | zero =>
    intro ls hs l _ _ _
    have h1 : ls = [] := List.length_eq_zero_iff.mp (by omega)
    have h2 : hs = [] := List.length_eq_zero_iff.mp (by omega)
    subst h1 h2
    rw [lst_nil, lst_nil]; rfl
  | succ n ih =>
    intro ls hs l hA hB hC
    rcases ls with _ | ⟨l0, ls⟩
    · rw [lst_nil, lst_nil, List.map_congr_left hB]
    rcases hs with _ | ⟨h0, hs⟩
    · rw [lst_nilR, lst_nilR, List.map_congr_left hA]
    simp only [List.length_cons] at l
    rw [lst_cons, lst_cons, hA l0 (.head _), hB h0 (.head _), hC l0 (.head _) h0 (.head _),
      ih ls (h0 :: hs) (by simp only [List.length_cons]; omega) (fun x m => hA x (.tail _ m)) hB fun x m => hC x (.tail _ m),
      ih (l0 :: ls) hs (by simp only [List.length_cons]; omega) hA (fun x m => hB x (.tail _ m)) fun x m y k => hC x m y (.tail _ k),
      ih ls hs (by omega) (fun x m => hA x (.tail _ m)) (fun x m => hB x (.tail _ m)) fun x m y k => hC x (.tail _ m) y (.tail _ k)]
theorem least_eq (mi ex : Int) {ls hs : List (List β)} (nl : ∀ l ∈ ls, l.Nodup) (nh : ∀ h ∈ hs, h.Nodup) : lst (pA mi ex) (pB mi ex) (pp mi ex) ls hs = least mi ex ls hs :=
  lst_congr _ ls hs (Nat.le_refl _) (fun l _ => pA_eq mi ex l) (fun h _ => pB_eq mi ex h) fun l m h k => pp_pl mi ex (nl l m) (nh h k)
theorem W_least (mi ex : Int) {ls hs : List (List β)} (nl : ∀ l ∈ ls, l.Nodup) (nh : ∀ h ∈ hs, h.Nodup) (i j : Nat) : W mi ex ls hs i j = least mi ex (ls.take i) (hs.take j) :=
  least_eq mi ex (fun l m => nl l (List.mem_of_mem_take m)) fun h m => nh h (List.mem_of_mem_take m)
/-! ### bounds -/
def tot (ls : List (List β)) : Int := sumI (ls.map fun l => ((l.length : Nat) : Int))
theorem tot_cons (l : List β) (ls : List (List β)) : tot (l :: ls) = (l.length : Nat) + tot ls := rfl
theorem sum_mul (c : Int) (ls : List (List β)) : sumI (ls.map fun l => c * ((l.length : Nat) : Int)) = c * tot ls := by
  induction ls with
  | nil => show (0 : Int) = c * 0; omega
  | cons l ls ih => rw [List.map_cons, sumI_cons, ih, tot_cons, Int.mul_add]
theorem tot_nn (ls : List (List β)) : 0 ≤ tot ls := by
  induction ls with
  | nil => exact Int.le_refl _
  | cons l ls ih => rw [tot_cons]; omega
theorem pl_nn {mi ex : Int} (h1 : 0 ≤ mi) (h2 : 0 ≤ ex) (l h : List β) : 0 ≤ pl mi ex l h := by
  unfold pl
  have a := Int.mul_nonneg h1 (Int.natCast_nonneg (l.filter fun x => !decide (x ∈ h)).length)
  have b := Int.mul_nonneg h2 (Int.natCast_nonneg (h.filter fun x => !decide (x ∈ l)).length)
  omega
theorem pl_low {mi ex : Int} (h1 : 0 ≤ mi) (h2 : 0 ≤ ex) {l h : List β} (n : l.Nodup) (m : h.Nodup) : mi * ((l.length : Nat) - (h.length : Nat) : Int) ≤ pl mi ex l h := by
  rw [← pp_pl mi ex n m]
  unfold pp
  have c := both_comm n m
  have d := both_le h l
  rw [← c] at d
  have b := Int.mul_nonneg h2 (show (0 : Int) ≤ (h.length : Nat) - (both l h : Nat) by omega)
  have a := Int.mul_le_mul_of_nonneg_left (show ((l.length : Nat) - (h.length : Nat) : Int) ≤ (l.length : Nat) - (both l h : Nat) by omega) h1
  omega
theorem least_low {mi ex : Int} (h1 : 0 ≤ mi) (h2 : 0 ≤ ex) (n : Nat) : ∀ (ls hs : List (List β)), ls.length + hs.length ≤ n → (∀ l ∈ ls, l.Nodup) → (∀ h ∈ hs, h.Nodup) → mi * (tot ls - tot hs) ≤ least mi ex ls hs := by
  unfold least
  induction n with
  | zero =>
    intro ls hs l _ _
    have e1 : ls = [] := List.length_eq_zero_iff.mp (by omega)
    have e2 : hs = [] := List.length_eq_zero_iff.mp (by omega)
    subst e1 e2
    rw [lst_nil]
    show mi * (0 - 0) ≤ 0
    omega
  | succ n ih =>
    intro ls hs l hl hh
    rcases ls with _ | ⟨l0, ls⟩
    · rw [lst_nil, sum_mul, Int.mul_sub]
      have a := Int.mul_nonneg h1 (tot_nn hs)
      have b := Int.mul_nonneg h2 (tot_nn hs)
      have c : mi * tot ([] : List (List β)) = 0 := Int.mul_zero _
      omega
    rcases hs with _ | ⟨h0, hs⟩
    · rw [lst_nilR, sum_mul, Int.mul_sub]
      have c : mi * tot ([] : List (List β)) = 0 := Int.mul_zero _
      omega
    simp only [List.length_cons] at l
    have i1 := ih ls (h0 :: hs) (by simp only [List.length_cons]; omega) (fun x m => hl x (.tail _ m)) hh
    have i2 := ih (l0 :: ls) hs (by simp only [List.length_cons]; omega) hl fun x m => hh x (.tail _ m)
    have i3 := ih ls hs (by omega) (fun x m => hl x (.tail _ m)) fun x m => hh x (.tail _ m)
    have j1 := pl_low h1 h2 (hl l0 (.head _)) (hh h0 (.head _))
    have j2 := Int.mul_nonneg h1 (Int.natCast_nonneg h0.length)
    have j3 := Int.mul_nonneg h2 (Int.natCast_nonneg h0.length)
    have j4 := Int.mul_nonneg h1 (Int.natCast_nonneg l0.length)
    rw [lst_cons]
    simp only [tot_cons, Int.mul_sub, Int.mul_add] at i1 i2 i3 j1 ⊢
    omega
/-- where each heard lot lies within a later lot, the silent names alone are paid -/
inductive Emb : List (List β) → List (List β) → Prop
  | nil (ls : List (List β)) : Emb ls []
  | skip {ls hs : List (List β)} (l : List β) : Emb ls hs → Emb (l :: ls) hs
  | take {ls hs : List (List β)} {l h : List β} : (∀ x ∈ h, x ∈ l) → Emb ls hs → Emb (l :: ls) (h :: hs)
theorem pl_in {mi ex : Int} {l h : List β} (n : l.Nodup) (m : h.Nodup) (s : ∀ x ∈ h, x ∈ l) : pl mi ex l h = mi * ((l.length : Nat) - (h.length : Nat) : Int) := by
  rw [← pp_pl mi ex n m]
  unfold pp
  have c := both_comm n m
  have d : both h l = h.length := by
    unfold both
    rw [List.length_filter_eq_length_iff]
    exact fun x hx => decide_eq_true (s x hx)
  rw [c, d, Int.sub_self, Int.mul_zero, Int.add_zero]
theorem least_up {mi ex : Int} {ls hs : List (List β)} (e : Emb ls hs) : (∀ l ∈ ls, l.Nodup) → (∀ h ∈ hs, h.Nodup) → least mi ex ls hs ≤ mi * (tot ls - tot hs) := by
  unfold least
  induction e with
  | nil ls =>
    intro _ _
    rw [lst_nilR, sum_mul, Int.mul_sub]
    have c : mi * tot ([] : List (List β)) = 0 := Int.mul_zero _
    omega
  | @skip ls hs l e ih =>
    intro hl hh
    have i1 := ih (fun x m => hl x (.tail _ m)) hh
    rcases hs with _ | ⟨h0, hs⟩
    · rw [lst_nilR, sum_mul, Int.mul_sub]
      have c : mi * tot ([] : List (List β)) = 0 := Int.mul_zero _
      omega
    rw [lst_cons]
    simp only [tot_cons, Int.mul_sub, Int.mul_add] at i1 ⊢
    omega
  | @take ls hs l h s e ih =>
    intro hl hh
    have i1 := ih (fun x m => hl x (.tail _ m)) fun x m => hh x (.tail _ m)
    have j := pl_in (mi := mi) (ex := ex) (hl l (.head _)) (hh h (.head _)) s
    rw [lst_cons]
    simp only [tot_cons, Int.mul_sub, Int.mul_add] at i1 j ⊢
    omega
theorem emb_skip {hs : List (List β)} : ∀ (as : List (List β)) {ls : List (List β)}, Emb ls hs → Emb (as ++ ls) hs
  | [], _, e => e
  | a :: as, _, e => .skip a (emb_skip as e)
theorem gr_emb {ls : List (List β)} {ok : List β → Nat → Bool} (hok : ∀ h k, ok h k = true → ∀ x ∈ h, x ∈ ls.getD k []) : ∀ (hs : List (List β)) (k : Nat), (Ks.gr ls.length ok hs k).length = hs.length → Emb (ls.drop k) hs
  | [], k, _ => .nil _
  | h :: hs, k, e => by
    have gs : Ks.gr ls.length ok (h :: hs) k = (match Ks.fst ls.length ok k h with | none => [] | some a => a :: Ks.gr ls.length ok hs (a + 1)) := rfl
    cases ef : Ks.fst ls.length ok k h with
    | none => rw [gs, ef] at e; cases e
    | some a =>
      rw [gs, ef] at e
      have e : (Ks.gr ls.length ok hs (a + 1)).length + 1 = hs.length + 1 := e
      obtain ⟨⟨ka, oka⟩, an, _⟩ := Ks.fst_some.mp ef
      have ih := gr_emb hok hs (a + 1) (by omega)
      have e1 : ls.drop k = (ls.drop k).take (a - k) ++ ls.drop a := by
        conv => lhs; rw [← List.take_append_drop (a - k) (ls.drop k), List.drop_drop, show k + (a - k) = a by omega]
      rw [e1, List.drop_eq_getElem_cons an]
      refine emb_skip _ (.take (fun x hx => ?_) ih)
      have := hok h a oka x hx
      rw [List.getD_eq_getElem?_getD, List.getElem?_eq_getElem an] at this
      exact this
/-- a laying: the silent names alone are paid -/
theorem least_laid {mi ex : Int} (h1 : 0 ≤ mi) (h2 : 0 ≤ ex) {ls hs : List (List β)} {ok : List β → Nat → Bool} (hok : ∀ h k, ok h k = true → ∀ x ∈ h, x ∈ ls.getD k []) (e : (Ks.gr ls.length ok hs 0).length = hs.length) (nl : ∀ l ∈ ls, l.Nodup) (nh : ∀ h ∈ hs, h.Nodup) : least mi ex ls hs = mi * (tot ls - tot hs) :=
  Int.le_antisymm (least_up (gr_emb hok hs 0 e) nl nh) (least_low h1 h2 _ ls hs (Nat.le_refl _) nl nh)
theorem least_nn {mi ex : Int} (h1 : 0 ≤ mi) (h2 : 0 ≤ ex) (n : Nat) : ∀ (ls hs : List (List β)), ls.length + hs.length ≤ n → 0 ≤ least mi ex ls hs := by
  unfold least
  induction n with
  | zero =>
    intro ls hs l
    have e1 : ls = [] := List.length_eq_zero_iff.mp (by omega)
    have e2 : hs = [] := List.length_eq_zero_iff.mp (by omega)
    subst e1 e2
    rw [lst_nil]; exact Int.le_refl _
  | succ n ih =>
    intro ls hs l
    rcases ls with _ | ⟨l0, ls⟩
    · rw [lst_nil, sum_mul]; exact Int.mul_nonneg h2 (tot_nn hs)
    rcases hs with _ | ⟨h0, hs⟩
    · rw [lst_nilR, sum_mul]; exact Int.mul_nonneg h1 (tot_nn _)
    simp only [List.length_cons] at l
    have i1 := ih ls (h0 :: hs) (by simp only [List.length_cons]; omega)
    have i2 := ih (l0 :: ls) hs (by simp only [List.length_cons]; omega)
    have i3 := ih ls hs (by omega)
    have j1 := pl_nn h1 h2 l0 h0
    have j3 := Int.mul_nonneg h2 (Int.natCast_nonneg h0.length)
    have j4 := Int.mul_nonneg h1 (Int.natCast_nonneg l0.length)
    rw [lst_cons]
    omega
theorem least_top {mi ex : Int} (h1 : 0 ≤ mi) (h2 : 0 ≤ ex) (n : Nat) : ∀ (ls hs : List (List β)), ls.length + hs.length ≤ n → least mi ex ls hs ≤ mi * tot ls + ex * tot hs := by
  unfold least
  induction n with
  | zero =>
    intro ls hs l
    have e1 : ls = [] := List.length_eq_zero_iff.mp (by omega)
    have e2 : hs = [] := List.length_eq_zero_iff.mp (by omega)
    subst e1 e2
    rw [lst_nil]
    show (0 : Int) ≤ mi * 0 + ex * 0
    omega
  | succ n ih =>
    intro ls hs l
    rcases ls with _ | ⟨l0, ls⟩
    · rw [lst_nil, sum_mul]
      have c : mi * tot ([] : List (List β)) = 0 := Int.mul_zero _
      omega
    rcases hs with _ | ⟨h0, hs⟩
    · rw [lst_nilR, sum_mul]
      have c : ex * tot ([] : List (List β)) = 0 := Int.mul_zero _
      omega
    simp only [List.length_cons] at l
    have i1 := ih ls (h0 :: hs) (by simp only [List.length_cons]; omega)
    rw [lst_cons]
    simp only [tot_cons, Int.mul_add] at i1 ⊢
    omega
end
end Kw

namespace K6
open PySem PySem.Spec PyProof.Rows L2 Hb St Sq Ow En Zp RZ Rd
def top (i : Nat) : Stmt := PySem.Challenge.pw_curvebells_k88_whole_blame_of_least_pric.main.body.getD i (.Pass ⟨0, 0, 0, 0⟩)
/-! ### any values, by their data -/
def tyD : PyData → Value
  | .none => .type "NoneType"
  | .bool _ => .type "bool"
  | .int _ => .type "int"
  | .str _ => .type "str"
  | .list _ => .type "list"
  | .tuple _ => .type "tuple"
  | _ => .type "dict"
theorem ty_lst {K : PySem.W.Frag} {H : Hp} {a : Addr} {xs : List V} (h : SqL K H a xs) : TyX K H (.ref a) (.type "list") := by
  rcases h with (e | ⟨o, e⟩) | ⟨o, its, n, e, c, _⟩
  · exact .base (.lst e)
  · exact .base (.frz e)
  · exact .kList e c
theorem ty_tup {K : PySem.W.Frag} {H : Hp} {a : Addr} {xs : List V} (h : SqT K H a xs) : TyX K H (.ref a) (.type "tuple") := by
  rcases h with (e | ⟨o, e⟩) | ⟨o, its, n, e, c, _⟩
  · exact .base (.tup e)
  · exact .fTuple e
  · exact .kTuple e c
theorem ty_dp {K : PySem.W.Frag} {H : Hp} {v : V} {d : PyData} (h : Dp K H v d) : TyX K H v (tyD d) := by
  cases h with
  | non => exact .base .non
  | bl b => exact .base (.bl b)
  | int i => exact .base (.int i)
  | str x => exact .base (.str x)
  | lst h _ => exact ty_lst h
  | tup h _ => exact ty_tup h
def isStrD : PyData → Bool
  | .str _ => true
  | _ => false
def isTupD : PyData → Bool
  | .tuple _ => true
  | _ => false
theorem kit_str {K : PySem.W.Frag} {H : Hp} {v : V} {d : PyData} (h : Dp K H v d) : PySem.W.kitOne K (tyD d) (.type "str") = some (isStrD d) := by
  cases h with
  | non => exact kit_ty (a := "NoneType") (b := "str") (r := false) (by decide +kernel)
  | bl b => exact kit_ty (a := "bool") (b := "str") (r := false) (by decide +kernel)
  | int i => exact kit_ty (a := "int") (b := "str") (r := false) (by decide +kernel)
  | str x => exact kit_ty (a := "str") (b := "str") (r := true) (by decide +kernel)
  | lst _ _ => exact kit_ty (a := "list") (b := "str") (r := false) (by decide +kernel)
  | tup _ _ => exact kit_ty (a := "tuple") (b := "str") (r := false) (by decide +kernel)
theorem kit_tup {K : PySem.W.Frag} {H : Hp} {v : V} {d : PyData} (h : Dp K H v d) : PySem.W.kitOne K (tyD d) (.type "tuple") = some (isTupD d) := by
  cases h with
  | non => exact kit_ty (a := "NoneType") (b := "tuple") (r := false) (by decide +kernel)
  | bl b => exact kit_ty (a := "bool") (b := "tuple") (r := false) (by decide +kernel)
  | int i => exact kit_ty (a := "int") (b := "tuple") (r := false) (by decide +kernel)
  | str x => exact kit_ty (a := "str") (b := "tuple") (r := false) (by decide +kernel)
  | lst _ _ => exact kit_ty (a := "list") (b := "tuple") (r := false) (by decide +kernel)
  | tup _ _ => exact kit_ty (a := "tuple") (b := "tuple") (r := true) (by decide +kernel)
theorem dpa_all {K : PySem.W.Frag} {H : Hp} : ∀ {xs : List V} {ds : List PyData}, DpAll K H xs ds → All2 (Dp K H) xs ds
  | _, _, .nil => .nil
  | _, _, .cons h t => .cons h (dpa_all t)
mutual
theorem dp_same {K : PySem.W.Frag} {H H' : Hp} (s : Same H H') : ∀ {d : PyData} {v : V}, Dp K H v d → Dp K H' v d
  | _, _, .non => .non
  | _, _, .bl b => .bl b
  | _, _, .int i => .int i
  | _, _, .str x => .str x
  | _, _, .lst h a => .lst (lstSame s h) (dpa_same s a)
  | _, _, .tup h a => .tup (tupFix (Fix.of s) h) (dpa_same s a)
theorem dpa_same {K : PySem.W.Frag} {H H' : Hp} (s : Same H H') : ∀ {ds : List PyData} {xs : List V}, DpAll K H xs ds → DpAll K H' xs ds
  | _, _, .nil => .nil
  | _, _, .cons h t => .cons (dp_same s h) (dpa_same s t)
end
/-- whether a text is a name -/
def nmB (x : Str) : Bool := decide (x.length ≤ 8) && (Txt.isascii x && (Txt.isalpha x && Txt.islower x))
def nmD : PyData → Bool
  | .str x => nmB x
  | _ => false
/-- texts that are short -/
def ShortD : PyData → Prop
  | .str x => x.length ≤ 1000
  | _ => True
theorem inV_strs (x : Str) (ns : List Str) : inV (.str x) (ns.map V.str) = decide (x ∈ ns) := by
  unfold inV
  rw [List.any_map]
  induction ns with
  | nil => simp
  | cons y r ih =>
    rw [List.any_cons, ih]
    show (eqV (.str y) (.str x) || decide (x ∈ r)) = _
    have e : eqV (.str y) (.str x) = decide (x = y) := by
      show decide (_ = _) = _
      exact decide_eq_decide.mpr ⟨fun h => h.symm, fun h => h.symm⟩
    rw [e]
    simp [List.mem_cons]
theorem flat_strs (ns : List Str) : (ns.map V.str).all flatV = true := by rw [List.all_map]; exact List.all_eq_true.mpr fun _ _ => rfl
theorem in_strs {K : PySem.W.Frag} {H : Hp} {a : Addr} {ns : List Str} {x : Str} {Q : VK} (h : SqX K H a (ns.map V.str)) (q : Q (.bl (decide (x ∈ ns))) H) : rIn K false (.str x) (.ref a) H Q :=
  ⟨a, _, rfl, h, rfl, flat_strs ns, by rw [inV_strs]; exact q⟩
section
variable {P : Program} {w : World} {K : PySem.W.Frag} {mg : Str → Option Value} {base : Heap}
/-! ### is_name -/
abbrev s_is_name : Stmt := top 9
theorem sc_is_name : FnScope ["value"] ["value"] (defScope s_is_name) := ⟨rfl, rfl, rfl, by decide +kernel, rfl, by decide +kernel, by decide +kernel⟩
def spIsName (K : PySem.W.Frag) : Sp := fun vs H Q _ => ∃ (v : V) (d : PyData), vs = [v] ∧ Dp K H v d ∧ ShortD d ∧ Q (.bl (nmD d)) H
theorem ok_is_name {f : Addr} {fd : FuncData} (F : Fun K "is_name" "is_name" s_is_name f fd) {tk : Tok} (g_LETTERS : mg "LETTERS" = some (.int 8 tk)) (n_isinstance : mg "isinstance" = none) (n_len : mg "len" = none) (n_str : mg "str" = none) : FnOk P w K mg base CX0 1 f fd ["value"] (spIsName K) := by
  refine F.ok sc_is_name (fun vs H Q E h => ?_) (fun cdv A outer s H vs Q E hr h => ?_)
  · obtain ⟨_, _, rfl, _⟩ := h
    rfl
  · obtain ⟨v, d, rfl, hv, sh, q⟩ := h
    refine ⟨_, (Evl.pss_cut (ps_if (PW.pt (pw_or (pt_not (pt_val (pe_callB call_isi (by rfl) n_isinstance (by decide +kernel) (pa_cons (pv 0) (pa_cons (pe_bltn (v := .ty "str") (by rfl) n_str (by decide +kernel) rfl) pa_nil))))) (pw_or1 (pt_cmpR op_gt (pe_callB call_len_str (by rfl) n_len PySem.boot_len (pa_cons (pv 0) pa_nil)) (pe_glob (v := .int 8) rfl g_LETTERS ⟨_, rfl⟩) (nomark _))))) (pss_one (ps_ret pe_bl)) pss_nil)
    (pss_one (ps_ret (pe_and (pe_bm0 PySem.F.plainAttrs_str PySem.F.slot_str_isascii PySem.F.type_str_isascii mt_isascii (pv 0)) (pe_and (pe_bm0 PySem.F.plainAttrs_str PySem.F.slot_str_isalpha PySem.F.type_str_isalpha mt_isalpha (pv 0)) (pe_one (pe_bm0 PySem.F.plainAttrs_str PySem.F.slot_str_islower PySem.F.type_str_islower mt_islower (pv 0)))))))), ?_⟩
    have ty := ty_dp hv
    have kt := kit_str hv
    cases hv with
    | str x =>
      have sh : x.length ≤ 1000 := sh
      have q : Q (.bl (nmB x)) H := q
      refine ⟨fun σ H' => σ = [some (.str x)] ∧ H' = H ∧ x.length ≤ 8, ?_, ?_⟩
      · refine ⟨_, rfl, .str x, .ty "str", _, _, _, rfl, .ty "str", ty, kt, true, rfl, iteF ?_⟩
        refine ⟨_, rfl, _, rfl, by rw [sizeLine_eq]; omega, _, _, rfl, rfl, _, rfl, ?_⟩
        by_cases c : x.length ≤ 8
        · rw [decide_eq_false (by omega)]
          exact iteF ⟨rfl, rfl, c⟩
        · rw [decide_eq_true (by omega)]
          refine iteT ?_
          have : nmB x = false := by unfold nmB; rw [decide_eq_false c]; rfl
          rw [this] at q
          exact q
      rintro σ H' ⟨rfl, rfl, c⟩
      unfold nmB at q
      rw [decide_eq_true c, Bool.true_and] at q
      refine ⟨_, rfl, rfl, _, rfl, rfl, trivial, _, rfl, ?_⟩
      cases c1 : Txt.isascii x with
      | false => rw [c1] at q; exact iteF q
      | true =>
        rw [c1, Bool.true_and] at q
        refine iteT ⟨_, rfl, rfl, _, rfl, rfl, trivial, _, rfl, ?_⟩
        cases c2 : Txt.isalpha x with
        | false => rw [c2] at q; exact iteF q
        | true =>
          rw [c2, Bool.true_and] at q
          exact iteT ⟨_, rfl, rfl, _, rfl, rfl, trivial, q⟩
    | _ =>
      exact ⟨fun _ _ => False, ⟨_, rfl, _, .ty "str", _, _, _, rfl, .ty "str", ty, kt, _, rfl, iteT q⟩, fun _ _ h => h.elim⟩
/-! ### thin_lot -/
abbrev s_thin_lot : Stmt := top 11
theorem sc_thin_lot : FnScope ["lot", "names", "name"] ["lot", "names"] (defScope s_thin_lot) := ⟨rfl, rfl, rfl, by decide +kernel, rfl, by decide +kernel, by decide +kernel⟩
def spThin (K : PySem.W.Frag) : Sp := fun vs H Q _ => ∃ (a b : Addr) (xs ys : List Str), vs = [.ref a, .ref b] ∧ SqT K H a (xs.map V.str) ∧ SqT K H b (ys.map V.str) ∧ xs.length ≤ 1000 ∧ ∀ p H', Same H H' → H' p = some (.tup ((xs.filter fun x => decide (x ∈ ys)).map V.str)) → Q (.ref p) H'
theorem ok_thin_lot {f : Addr} {fd : FuncData} (F : Fun K "thin_lot" "thin_lot" s_thin_lot f fd) (n_tuple : mg "tuple" = none) : FnOk P w K mg base CX0 1 f fd ["lot", "names"] (spThin K) := by
  refine F.ok sc_thin_lot (fun vs H Q E h => ?_) (fun cdv A outer s H vs Q E hr h => ?_)
  · obtain ⟨_, _, _, _, rfl, _⟩ := h
    rfl
  · obtain ⟨a, b, xs, ys, rfl, ha, hb, l, q⟩ := h
    refine ⟨_, (pss_one (ps_ret (pe_callTy call_tuple_of (by rfl) n_tuple (by decide +kernel) (pa_cons (pe_lc (own := [("name", 2)]) (g := gName 2) rfl sc_thin_lot.nd (pi_seq (pv 0)) (blkOk_by (N := ["lot", "names", "name"]) (sc := defScope s_thin_lot) (by decide +kernel)) (fun _ _ _ _ _ => pg_name (i := 2) sc_thin_lot.nd rfl (Or.inl rfl)) (fun _ _ _ _ _ => pts_one (pt_cmpR (r := rIn K false) op_in_seq (pv 2) (pv 1) rfl)) (fun _ _ _ _ _ => pv 2)) pa_nil)))), ?_⟩
    refine ⟨_, rfl, a, _, rfl, .inr ha, fun J S W s0 D hD => ?_⟩
    refine lc_mf (ds := xs) W (fun x => decide (x ∈ ys)) (fun _ y d => y = .str d) s0 hD (by simp) (fun i x d H' ex ed s m => ?_) (fun H' zs s e al => ?_)
    · rw [at_map ex ed]
      refine ⟨rfl, _, rfl, _, rfl, in_strs (.inr (tupFix (Fix.of s) hb)) ⟨_, rfl, ?_⟩⟩
      cases c : decide (d ∈ ys) with
      | true => exact iteT ⟨_, rfl, mf_yes m hD (fun _ _ _ _ _ h => h) ed (by omega) (Same.refl _) c rfl⟩
      | false => exact iteF (mf_no m (fun _ _ _ _ _ h => h) ed (Same.refl _) c)
    · have ez := al.map_eq (f := V.str) fun _ _ h => h
      rw [ez] at e
      exact ⟨D, _, rfl, .inl ⟨SqL.of e, fun l hl => q l _ (s.trans (same_new hl _)) upd_same⟩⟩
/-! ### is_part -/
/-- whether all of a lot is in another one -/
def prt (xs ys : List Str) : Bool := xs.all fun x => decide (x ∈ ys)
theorem prt_len (xs ys : List Str) : (decide (V.int ((xs.filter fun x => decide (x ∈ ys)).length : Nat) = V.int (xs.length : Nat))) = prt xs ys := by
  unfold prt
  rw [Bool.eq_iff_iff, decide_eq_true_iff, List.all_eq_true]
  constructor
  · intro e
    rw [← List.length_filter_eq_length_iff]
    injection e with e
    exact Int.ofNat_inj.mp e
  · intro e
    rw [List.length_filter_eq_length_iff.mpr e]
abbrev s_is_part : Stmt := top 16
theorem sc_is_part : FnScope ["lot", "other"] ["lot", "other"] (defScope s_is_part) := ⟨rfl, rfl, rfl, by decide +kernel, rfl, by decide +kernel, by decide +kernel⟩
def spPart (K : PySem.W.Frag) : Sp := fun vs H Q _ => ∃ (a b : Addr) (xs ys : List Str), vs = [.ref a, .ref b] ∧ SqT K H a (xs.map V.str) ∧ SqT K H b (ys.map V.str) ∧ xs.length ≤ 1000 ∧ ∀ H', Same H H' → Q (.bl (prt xs ys)) H'
theorem ok_is_part {f : Addr} {fd : FuncData} (F : Fun K "is_part" "is_part" s_is_part f fd) (C_thin_lot : Cl P w K mg base "thin_lot" ["lot", "names"] [] 1 (spThin K)) (n_len : mg "len" = none) : FnOk P w K mg base CX0 2 f fd ["lot", "other"] (spPart K) := by
  refine F.ok sc_is_part (fun vs H Q E h => ?_) (fun cdv A outer s H vs Q E hr h => ?_)
  · obtain ⟨_, _, _, _, rfl, _⟩ := h
    rfl
  · obtain ⟨a, b, xs, ys, rfl, ha, hb, l, q⟩ := h
    refine ⟨_, (pss_one (ps_ret (pe_cmpR op_eq (pe_callB call_len_seq (by rfl) n_len PySem.boot_len (pa_cons (pe_use C_thin_lot (hr.mono (by decide)) rfl (pa_cons (pv 0) (pa_cons (pv 1) pa_nil))) pa_nil)) (pe_callB call_len_seq (by rfl) n_len PySem.boot_len (pa_cons (pv 0) pa_nil)) (nomark _)))), ?_⟩
    refine ⟨_, rfl, _, rfl, a, b, xs, ys, rfl, ha, hb, l, fun p H' s e => ?_⟩
    refine ⟨p, _, rfl, .inr (SqT.of e), _, rfl, a, _, rfl, .inr (tupFix (Fix.of s) ha), ?_⟩
    refine ⟨rfl, ?_⟩
    rw [List.length_map, List.length_map, prt_len]
    exact q H' s
end
end K6

namespace K6
open PySem PySem.Spec PyProof.Rows L2 Hb St Sq Ow En Zp RZ Rd
/-! ### lots and tales, of any data -/
def ascD : List PyData → Bool
  | .str x :: .str y :: r => decide (x.cps.toList < y.cps.toList) && ascD (.str y :: r)
  | _ => true
def lotD : PyData → Bool
  | .tuple ds => !ds.isEmpty && (ds.all nmD && ascD ds)
  | _ => false
def taleD : PyData → Bool
  | .tuple ds => ds.all lotD
  | _ => false
def ltD : PyData × PyData → Bool
  | (.str x, .str y) => decide (x.cps.toList < y.cps.toList)
  | _ => true
theorem nm_str {d : PyData} (h : nmD d = true) : ∃ x, d = .str x ∧ nmB x = true := by
  cases d with
  | str x => exact ⟨x, rfl, h⟩
  | _ => cases h
theorem asc_zip : ∀ (d : PyData) (ds : List PyData), (d :: ds).all nmD = true → (((d :: ds).zip ds).all ltD) = ascD (d :: ds)
  | d, [], h => by
    obtain ⟨x, rfl, _⟩ := nm_str (List.all_eq_true.mp h d List.mem_cons_self)
    rfl
  | d, e :: ds, h => by
    obtain ⟨x, rfl, _⟩ := nm_str (List.all_eq_true.mp h d List.mem_cons_self)
    have h' : (e :: ds).all nmD = true := by
      rw [List.all_cons, Bool.and_eq_true] at h
      exact h.2
    obtain ⟨y, rfl, _⟩ := nm_str (List.all_eq_true.mp h' e List.mem_cons_self)
    have ih := asc_zip (.str y) ds h'
    rw [List.zip_cons_cons, List.all_cons, ih]
    rfl
theorem bl_map {α : Type} {ys : List V} {ds : List α} {f : α → Bool} (h : All2 (fun (y : V) (d : α) => y = .bl (f d)) ys ds) : ys = (ds.map f).map V.bl := by
  rw [List.map_map]
  exact h.map_eq fun a b e => e
theorem at2 {α β : Type} {R : α → β → Prop} {as : List α} {bs : List β} (h : All2 R as bs) {i : Nat} {a : α} {b : β} (ha : as[i]? = some a) (hb : bs[i]? = some b) : R a b := by
  obtain ⟨b', hb', r⟩ := h.get ha
  rw [hb] at hb'
  rw [Option.some.inj hb']
  exact r
theorem all_map {α : Type} (f : α → Bool) (l : List α) : (l.map f).all id = l.all f := by
  rw [List.all_map]; rfl
section
variable {P : Program} {w : World} {K : PySem.W.Frag} {mg : Str → Option Value} {base : Heap}
/-! ### is_lot -/
abbrev s_is_lot : Stmt := top 13
theorem sc_is_lot : FnScope ["value", "one", "other", "name"] ["value"] (defScope s_is_lot) := ⟨rfl, rfl, rfl, by decide +kernel, rfl, by decide +kernel, by decide +kernel⟩
/-- data with short rows and texts -/
def Sm1 : PyData → Prop
  | .tuple ds => ds.length ≤ 1000 ∧ ∀ d ∈ ds, ShortD d
  | _ => True
def spIsLot (K : PySem.W.Frag) : Sp := fun vs H Q _ => ∃ (v : V) (d : PyData), vs = [v] ∧ Dp K H v d ∧ Sm1 d ∧ ∀ H', Same H H' → Q (.bl (lotD d)) H'
theorem ok_is_lot {f : Addr} {fd : FuncData} (F : Fun K "is_lot" "is_lot" s_is_lot f fd) (C_is_name : Cl P w K mg base "is_name" ["value"] [] 1 (spIsName K)) (n_all : mg "all" = none) (n_isinstance : mg "isinstance" = none) (n_len : mg "len" = none) (n_tuple : mg "tuple" = none) (n_zip : mg "zip" = none) : FnOk P w K mg base CX0 2 f fd ["value"] (spIsLot K) := by
  refine F.ok sc_is_lot (fun vs H Q E h => ?_) (fun cdv A outer s H vs Q E hr h => ?_)
  · obtain ⟨_, _, rfl, _⟩ := h
    rfl
  · obtain ⟨v, d, rfl, hv, sm, q⟩ := h
    refine ⟨_, (Evl.pss_cut (ps_if (PW.pt (pw_or (pt_not (pt_val (pe_callB call_isi (by rfl) n_isinstance (by decide +kernel) (pa_cons (pv 0) (pa_cons (pe_bltn (v := .ty "tuple") (by rfl) n_tuple (by decide +kernel) rfl) pa_nil))))) (pw_or (pt_cmpR op_eq (pe_callB call_len_seq (by rfl) n_len PySem.boot_len (pa_cons (pv 0) pa_nil)) pe_int (nomark _)) (pw_or1 (pt_not (pt_val (pe_callB (cr_all rfl) (by rfl) n_all (by decide +kernel) (pa_cons (pe_lc (own := [("name", 3)]) (g := gName 3) rfl sc_is_lot.nd (pi_seq (pv 0)) (blkOk_by (N := ["value", "one", "other", "name"]) (sc := defScope s_is_lot) (by decide +kernel)) (fun _ _ _ _ _ => pg_name (i := 3) sc_is_lot.nd rfl (Or.inl rfl)) (fun _ _ _ _ _ => pts_nil) (fun _ _ _ _ _ => pe_use C_is_name (hr.mono (by decide)) rfl (pa_cons (pv 3) pa_nil))) pa_nil)))))))) (pss_one (ps_ret pe_bl)) pss_nil)
    (pss_one (ps_ret (pe_callB (cr_all rfl) (by rfl) n_all (by decide +kernel) (pa_cons (pe_lc (own := [("one", 1), ("other", 2)]) (g := gTup K 2 (gCons (gName 1) (gCons (gName 2) gNil))) rfl sc_is_lot.nd (pi_zipA (by rfl) n_zip (pa_cons (pv 0) (pa_cons (pe_slice (r := rSlA K) sl_tupA (pv 0) (po_some pe_int) po_none) pa_nil))) (blkOk_by (N := ["value", "one", "other", "name"]) (sc := defScope s_is_lot) (by decide +kernel)) (fun _ _ _ _ _ => pg_tup rfl (pgs_cons (pg_name (i := 1) sc_is_lot.nd rfl (Or.inl rfl)) (pgs_cons (pg_name (i := 2) sc_is_lot.nd rfl (Or.inl rfl)) pgs_nil))) (fun _ _ _ _ _ => pts_nil) (fun _ _ _ _ _ => pe_cmpR op_lt_str (pv 1) (pv 2) (nomark _))) pa_nil))))), ?_⟩
    have ty := ty_dp hv
    have kt := kit_tup hv
    cases hv with
    | @tup a xs ds ht ha =>
      have al := dpa_all ha
      have sm : ds.length ≤ 1000 ∧ ∀ d ∈ ds, ShortD d := sm
      have hl := al.len
      have q : ∀ H', Same H H' → Q (.bl (!ds.isEmpty && (ds.all nmD && ascD ds))) H' := q
      refine ⟨fun σ H' => σ = [some (.ref a), none, none, none] ∧ Same H H' ∧ ds ≠ [] ∧ ds.all nmD = true, ?_, ?_⟩
      · refine ⟨_, rfl, _, .ty "tuple", _, _, _, rfl, .ty "tuple", ty, kt, true, rfl, iteF ?_⟩
        refine ⟨_, rfl, a, _, rfl, .inr ht, rfl, _, rfl, ?_⟩
        by_cases c : ds = []
        · subst c
          have ex : xs = [] := List.eq_nil_of_length_eq_zero (by rw [hl]; rfl)
          subst ex
          exact iteT (q _ (Same.refl _))
        · have nl : xs.length ≠ 0 := fun e => c (List.eq_nil_of_length_eq_zero (by rw [← hl]; exact e))
          rw [decide_eq_false (fun e => nl (by injection e with e; omega))]
          refine iteF ⟨_, rfl, a, _, rfl, .inr ht, fun J S W s0 D hD => ?_⟩
          refine lc_mf (ds := ds) W (fun _ => true) (fun _ y d => y = .bl (nmD d)) s0 hD hl (fun i x d H' ex ed s m => ?_) (fun H' ys s e al2 => ?_)
          · refine ⟨rfl, _, rfl, x, d, rfl, dp_same s (at2 al ex ed), sm.2 d (at_mem ed), ?_⟩
            exact mf_yes m hD (fun _ _ _ _ _ h => h) ed (by omega) (Same.refl _) rfl rfl
          · rw [Rd.filter_all] at al2
            have ey := bl_map al2
            refine ⟨D, _, rfl, SqL.of (by rw [← ey]; exact e), _, rfl, ?_⟩
            rw [all_map]
            cases c2 : ds.all nmD with
            | true => exact iteF ⟨rfl, s, c, rfl⟩
            | false =>
              have q := q H' s
              rw [c2, Bool.false_and, Bool.and_false] at q
              exact iteT q
      rintro σ H1 ⟨rfl, s1, ne, nm⟩
      cases al with
      | nil => exact absurd rfl ne
      | @cons x0 d0 xr dr r0 rr =>
      have h1 := tupFix (Fix.of s1) ht
      refine ⟨_, rfl, ?_⟩
      refine rd_slc rfl h1 fun p H2 hp s2 e2 => ?_
      have h2 := tupFix (Fix.of s2) h1
      refine ⟨a, p, _, _, rfl, .inr ⟨h2, SqT.of e2, fun D hD => ?_⟩⟩
      have aw : All2 (Dp K H) (x0 :: xr) (d0 :: dr) := .cons r0 rr
      refine lc_mp wp_tup (ds := (d0 :: dr).zip dr) (fun _ => true) (fun _ y p => y = .bl (ltD p)) ⟨h2, SqT.of e2⟩ hD (by rw [List.length_zip, List.length_zip, aw.len, rr.len]) (fun _ _ _ _ _ h => h) (fun i T pr d H3 ep ed s3 eT m => ?_) (fun H3 ys s3 e al2 => ?_)
      · obtain ⟨p1, p2⟩ := pr
        obtain ⟨d1, d2⟩ := d
        obtain ⟨ea, eb⟩ := List.getElem?_zip_eq_some.mp ep
        obtain ⟨ga, gb⟩ := List.getElem?_zip_eq_some.mp ed
        have w1 := at2 aw ea ga
        have w2 := at2 rr eb gb
        obtain ⟨x, rfl, _⟩ := nm_str (List.all_eq_true.mp nm d1 (at_mem ga))
        obtain ⟨y, rfl, _⟩ := nm_str (List.all_eq_true.mp nm d2 (List.mem_cons_of_mem _ (at_mem gb)))
        cases w1
        cases w2
        refine ⟨T, _, rfl, SqT.of eT, rfl, _, _, rfl, _, _, rfl, rfl, rfl, _, rfl, _, rfl, _, _, rfl, rfl, ?_⟩
        exact mf_yes m hD (fun _ _ _ _ _ h => h) ed (by rw [List.length_zip]; have := sm.1; rw [List.length_cons] at this; omega) (Same.refl _) rfl rfl
      · rw [Rd.filter_all] at al2
        have ey := bl_map al2
        refine ⟨D, _, rfl, SqL.of (by rw [← ey]; exact e), ?_⟩
        rw [all_map, asc_zip _ _ nm]
        have q := q H3 ((s1.trans s2).trans s3)
        rw [nm] at q
        exact q
    | _ =>
      exact ⟨fun _ _ => False, ⟨_, rfl, _, .ty "tuple", _, _, _, rfl, .ty "tuple", ty, kt, _, rfl, iteT (q _ (Same.refl _))⟩, fun _ _ h => h.elim⟩
/-! ### is_tale -/
abbrev s_is_tale : Stmt := top 14
theorem sc_is_tale : FnScope ["value", "lot"] ["value"] (defScope s_is_tale) := ⟨rfl, rfl, rfl, by decide +kernel, rfl, by decide +kernel, by decide +kernel⟩
def Sm2 : PyData → Prop
  | .tuple ds => ds.length ≤ 1000 ∧ ∀ d ∈ ds, Sm1 d
  | _ => True
def spIsTale (K : PySem.W.Frag) : Sp := fun vs H Q _ => ∃ (v : V) (d : PyData), vs = [v] ∧ Dp K H v d ∧ Sm2 d ∧ ∀ H', Same H H' → Q (.bl (taleD d)) H'
theorem ok_is_tale {f : Addr} {fd : FuncData} (F : Fun K "is_tale" "is_tale" s_is_tale f fd) (C_is_lot : Cl P w K mg base "is_lot" ["value"] [] 2 (spIsLot K)) (n_all : mg "all" = none) (n_isinstance : mg "isinstance" = none) (n_tuple : mg "tuple" = none) : FnOk P w K mg base CX0 3 f fd ["value"] (spIsTale K) := by
  refine F.ok sc_is_tale (fun vs H Q E h => ?_) (fun cdv A outer s H vs Q E hr h => ?_)
  · obtain ⟨_, _, rfl, _⟩ := h
    rfl
  · obtain ⟨v, d, rfl, hv, sm, q⟩ := h
    refine ⟨_, (pss_one (ps_ret (pe_and (pe_callB call_isi (by rfl) n_isinstance (by decide +kernel) (pa_cons (pv 0) (pa_cons (pe_bltn (v := .ty "tuple") (by rfl) n_tuple (by decide +kernel) rfl) pa_nil))) (pe_one (pe_callB (cr_all rfl) (by rfl) n_all (by decide +kernel) (pa_cons (pe_lc (own := [("lot", 1)]) (g := gName 1) rfl sc_is_tale.nd (pi_seq (pv 0)) (blkOk_by (N := ["value", "lot"]) (sc := defScope s_is_tale) (by decide +kernel)) (fun _ _ _ _ _ => pg_name (i := 1) sc_is_tale.nd rfl (Or.inl rfl)) (fun _ _ _ _ _ => pts_nil) (fun _ _ _ _ _ => pe_use C_is_lot (hr.mono (by decide)) rfl (pa_cons (pv 1) pa_nil))) pa_nil)))))), ?_⟩
    have ty := ty_dp hv
    have kt := kit_tup hv
    cases hv with
    | @tup a xs ds ht ha =>
      have al := dpa_all ha
      have sm : ds.length ≤ 1000 ∧ ∀ d ∈ ds, Sm1 d := sm
      have hl := al.len
      have q : ∀ H', Same H H' → Q (.bl (ds.all lotD)) H' := q
      refine ⟨_, rfl, _, .ty "tuple", _, _, _, rfl, .ty "tuple", ty, kt, true, rfl, iteT ?_⟩
      refine ⟨_, rfl, a, _, rfl, .inr ht, fun J S W s0 D hD => ?_⟩
      refine lc_mf (ds := ds) W (fun _ => true) (fun _ y d => y = .bl (lotD d)) s0 hD hl (fun i x d H' ex ed s m => ?_) (fun H' ys s e al2 => ?_)
      · refine ⟨rfl, _, rfl, x, d, rfl, dp_same s (at2 al ex ed), sm.2 d (at_mem ed), fun H2 s2 => ?_⟩
        exact mf_yes m hD (fun _ _ _ _ _ h => h) ed (by omega) s2 rfl rfl
      · rw [Rd.filter_all] at al2
        have ey := bl_map al2
        refine ⟨D, _, rfl, SqL.of (by rw [← ey]; exact e), ?_⟩
        rw [all_map]
        exact q H' s
    | _ =>
      exact ⟨_, rfl, _, .ty "tuple", _, _, _, rfl, .ty "tuple", ty, kt, _, rfl, iteF (q _ (Same.refl _))⟩
end
end K6

namespace K6
open PySem PySem.Spec PyProof.Rows L2 Hb St Sq Ow En Zp RZ Rd
/-! ### tales as rows of texts -/
def TupS (K : PySem.W.Frag) (H : Hp) (v : V) (l : List Str) : Prop := ∃ b, v = .ref b ∧ SqT K H b (l.map V.str)
def LT (K : PySem.W.Frag) (H : Hp) (a : Addr) (ls : List (List Str)) : Prop := ∃ its, H a = some (.tup its) ∧ All2 (TupS K H) its ls
theorem TupS.fix {K : PySem.W.Frag} {H H' : Hp} {v : V} {l : List Str} (h : TupS K H v l) (f : Fix H H') : TupS K H' v l := let ⟨b, e, t⟩ := h; ⟨b, e, tupFix f t⟩
theorem not_mut_tup (xs : List V) : ¬ Mut (.tup xs) := by
  rintro (⟨_, e⟩ | ⟨_, e⟩) <;> cases e
theorem LT.fix {K : PySem.W.Frag} {H H' : Hp} {a : Addr} {ls : List (List Str)} (h : LT K H a ls) (f : Fix H H') : LT K H' a ls :=
  let ⟨its, e, al⟩ := h; ⟨its, f _ _ e (not_mut_tup _), al.imp fun _ _ t => t.fix f⟩
def natV (i : Nat) : V := .int (i : Nat)
def okL (ls : List (List Str)) (h : List Str) (i : Nat) : Bool := prt h (ls.getD i [])
theorem gr_cons_some {β : Type} {n : Nat} {ok : β → Nat → Bool} {h : β} {hs : List β} {k a : Nat} (e : Ks.fst n ok k h = some a) : Ks.gr n ok (h :: hs) k = a :: Ks.gr n ok hs (a + 1) := by
  show (match Ks.fst n ok k h with | none => [] | some a => a :: Ks.gr n ok hs (a + 1)) = _
  rw [e]
theorem gr_cons_none {β : Type} {n : Nat} {ok : β → Nat → Bool} {h : β} {hs : List β} {k : Nat} (e : Ks.fst n ok k h = none) : Ks.gr n ok (h :: hs) k = [] := by
  show (match Ks.fst n ok k h with | none => [] | some a => a :: Ks.gr n ok hs (a + 1)) = _
  rw [e]
section
variable {P : Program} {w : World} {K : PySem.W.Frag} {mg : Str → Option Value} {base : Heap}
/-! ### least_laying -/
abbrev s_least_laying : Stmt := top 17
theorem sc_least_laying : FnScope ["lots", "heard", "laying", "number", "lot"] ["lots", "heard"] (defScope s_least_laying) := ⟨rfl, rfl, rfl, by decide +kernel, rfl, by decide +kernel, by decide +kernel⟩
def spLay (K : PySem.W.Frag) : Sp := fun vs H Q _ => ∃ (a b : Addr) (ls hs : List (List Str)), vs = [.ref a, .ref b] ∧ LT K H a ls ∧ LT K H b hs ∧ ls.length ≤ 1000 ∧ hs.length ≤ 1000 ∧ (∀ h ∈ hs, h.length ≤ 1000) ∧
  ∀ p H', Same H H' → H' p = some (.lst ((Ks.gr ls.length (okL ls) hs 0).map natV)) → Q (.ref p) H'
theorem ok_least {f : Addr} {fd : FuncData} (F : Fun K "least_laying" "least_laying" s_least_laying f fd) (C_is_part : Cl P w K mg base "is_part" ["lot", "other"] [] 2 (spPart K)) (n_len : mg "len" = none) : FnOk P w K mg base CX0 3 f fd ["lots", "heard"] (spLay K) := by
  refine F.ok sc_least_laying (fun vs H Q E h => ?_) (fun cdv A outer s H vs Q E hr h => ?_)
  · obtain ⟨_, _, _, _, rfl, _⟩ := h
    rfl
  · obtain ⟨a, b, ls, hs, rfl, ha, hb, l1, l2, l3, q⟩ := h
    refine ⟨_, (pss_cons (ps_set (i := 2) sc_least_laying.nd rfl (Or.inl rfl) (pe_lst pa_nil))
    (pss_cons (ps_set (i := 3) sc_least_laying.nd rfl (Or.inl rfl) pe_int)
    (Evl.pss_cut (ps_for PassesOwn.never rfl (pi_seq (pv 1)) (pg_name (i := 4) sc_least_laying.nd rfl (Or.inl rfl))
      (Evl.pss_cut (ps_while PassesOwn.never (PW.pt (pw_and (pt_cmpR op_lt (pv 3) (pe_callB call_len_seq (by rfl) n_len PySem.boot_len (pa_cons (pv 0) pa_nil)) (nomark _)) (pw_and1 (pt_not (pt_val (pe_use C_is_part (hr.mono (by decide)) rfl (pa_cons (pv 4) (pa_cons (pe_ix ix_tup (pv 0) (pv 3) (fun _ _ => rfl)) pa_nil))))))))
      (pss_one (ps_aug (i := 3) sc_least_laying.nd rfl (Or.inl rfl) pe_int ip_add)))
    (Evl.pss_cut (ps_if (pt_cmpR op_eq (pv 3) (pe_callB call_len_seq (by rfl) n_len PySem.boot_len (pa_cons (pv 0) pa_nil)) (nomark _)) (pss_one (ps_ret (pv 2))) pss_nil)
    (pss_cons (ps_expr (pe_bm PySem.F.plainAttrs_list PySem.F.slot_list_append PySem.F.type_list_append mt_append (pv 2) (pa_cons (pv 3) pa_nil)))
    (pss_one (ps_aug (i := 3) sc_least_laying.nd rfl (Or.inl rfl) pe_int ip_add))))))
    (pss_one (ps_ret (pv 2)))))), ?_⟩
    refine ⟨by show 0 ≤ sizeLine; decide, fun p hp => ?_⟩
    have s0 := same_new hp (.lst [])
    have ep0 : upd H p (.lst []) p = some (.lst []) := upd_same
    have kin : ∀ H', Kept p (upd H p (.lst [])) H' → Same H H' := fun H' k x o e => k x o (s0 _ _ e) (ne_of_none e hp)
    generalize upd H p (.lst []) = H0 at s0 ep0 kin ⊢
    have ha0 := ha.fix (Fix.of s0)
    have hb0 := hb.fix (Fix.of s0)
    have na : a ≠ p := by obtain ⟨its, e, _⟩ := ha; exact ne_of_none e hp
    have nb : b ≠ p := by obtain ⟨its, e, _⟩ := hb; exact ne_of_none e hp
    let n := ls.length
    let ok := okL ls
    refine ⟨fun σ H' => (∃ k o, σ = [some (.ref a), some (.ref b), some (.ref p), some (.int k), o]) ∧ Kept p H0 H' ∧ H' p = some (.lst ((Ks.gr n ok hs 0).map natV)), ?_, ?_⟩
    · obtain ⟨bits, eb, alb⟩ := hb0
      refine ⟨_, rfl, b, _, rfl, .inr (SqT.of eb), fun J S W z0 => ?_⟩
      let Pv : Nat → L2.St → Hp → Prop := fun j σ H' => ∃ (k : Nat) (o : Option V) (laid : List Nat), σ = [some (.ref a), some (.ref b), some (.ref p), some (.int (k : Nat)), o] ∧ Kept p H0 H' ∧ H' p = some (.lst (laid.map natV)) ∧ k ≤ n ∧ laid ++ Ks.gr n ok (hs.drop j) k = Ks.gr n ok hs 0 ∧ laid.length ≤ j
      refine for_sq W Pv ⟨0, none, [], rfl, Kept.refl _ _, ep0, Nat.zero_le _, rfl, Nat.le_refl _⟩ (fun j σ H' pv => W.keep (fun o e => let ⟨_, _, _, _, k, _⟩ := pv; k _ _ e nb) z0) ?_ ?_
      · rintro j σ H1 y ey ⟨k, o, laid, rfl, k1, e1, kn, eg, lj⟩
        obtain ⟨h, eh, hy⟩ := alb.get ey
        have hj : j < hs.length := (List.getElem?_eq_some_iff.mp eh).1
        have lh := l3 h (at_mem eh)
        have edr : hs.drop j = h :: hs.drop (j + 1) := by rw [List.drop_eq_getElem_cons hj, (List.getElem?_eq_some_iff.mp eh).2]
        rw [edr] at eg
        let σW : Nat → L2.St := fun k2 => [some (.ref a), some (.ref b), some (.ref p), some (.int (k2 : Nat)), some y]
        refine ⟨fun σ H' => ∃ k2 : Nat, σ = σW k2 ∧ Kept p H0 H' ∧ H' p = some (.lst (laid.map natV)) ∧ k2 ≤ n ∧ k ≤ k2 ∧ (∀ i, k ≤ i → i < k2 → ok h i = false) ∧ (k2 = n ∨ ok h k2 = true), ?_, ?_⟩
        · refine ⟨fun m σ H' => ∃ k2 : Nat, m = n - k2 ∧ σ = σW k2 ∧ Kept p H0 H' ∧ H' p = some (.lst (laid.map natV)) ∧ k2 ≤ n ∧ k ≤ k2 ∧ (∀ i, k ≤ i → i < k2 → ok h i = false), ⟨n - k, k, rfl, rfl, k1, e1, kn, Nat.le_refl _, fun i h1 h2 => by omega⟩, ?_⟩
          rintro m σ H2 ⟨k2, rfl, rfl, k3, e3, kn2, kk, all⟩
          obtain ⟨aits, ea, ala⟩ := ha0.fix (Fix.kept ep0 k3)
          have la : aits.length = n := ala.len
          refine ⟨_, rfl, _, rfl, a, aits, rfl, .inr (SqT.of ea), _, _, rfl, rfl, _, rfl, ?_⟩
          rw [la]
          by_cases c : k2 < n
          · rw [decide_eq_true (show ((k2 : Nat) : Int) < (n : Nat) by omega)]
            refine iteT ?_
            obtain ⟨l, el⟩ : ∃ l, ls[k2]? = some l := ⟨_, List.getElem?_eq_getElem c⟩
            obtain ⟨z, ez, lb, rfl, hl⟩ := ala.getR el
            obtain ⟨hb', rfl, hhb⟩ := hy.fix (Fix.kept ep0 k3)
            refine ⟨_, rfl, _, rfl, _, rfl, a, aits, (k2 : Nat), .ref lb, rfl, rfl, SqT.of ea, atI_nat ez, hb', lb, h, l, rfl, hhb, hl, lh, fun H3 s3 => ?_⟩
            have eok : prt h l = ok h k2 := by show _ = prt h (ls.getD k2 []); rw [List.getD_eq_getElem?_getD, el]; rfl
            rw [eok]
            have k4 : Kept p H0 H3 := k3.trans fun x o e _ => s3 x o e
            refine ⟨_, rfl, ?_⟩
            cases cc : ok h k2 with
            | true => exact iteF ⟨k2, rfl, k4, s3 _ _ e3, kn2, kk, all, .inr cc⟩
            | false =>
              refine iteT ⟨fun σ H' => ∃ k2' : Nat, n - k2' < n - k2 ∧ σ = σW k2' ∧ Kept p H0 H' ∧ H' p = some (.lst (laid.map natV)) ∧ k2' ≤ n ∧ k ≤ k2' ∧ (∀ i, k ≤ i → i < k2' → ok h i = false), fun σ' H' ⟨k2', lt, r⟩ => ⟨_, lt, k2', rfl, r⟩, ?_⟩
              refine ⟨_, rfl, _, _, rfl, rfl, k2 + 1, by omega, ?_, k4, s3 _ _ e3, c, by omega, fun i h1 h2 => ?_⟩
              · rfl
              · by_cases e : i = k2
                · rw [e]; exact cc
                · exact all i h1 (by omega)
          · rw [decide_eq_false (show ¬ ((k2 : Nat) : Int) < (n : Nat) by omega)]
            exact iteF ⟨k2, rfl, k3, e3, kn2, kk, all, .inl (by omega)⟩
        rintro σ H2 ⟨k2, rfl, k3, e3, kn2, kk, all, fin⟩
        obtain ⟨aits, ea, ala⟩ := ha0.fix (Fix.kept ep0 k3)
        have la : aits.length = n := ala.len
        refine ⟨fun σ H' => σ = σW k2 ∧ H' = H2 ∧ k2 < n, ?_, ?_⟩
        · refine ⟨_, rfl, _, rfl, a, aits, rfl, .inr (SqT.of ea), rfl, _, rfl, ?_⟩
          rw [la]
          by_cases c : k2 = n
          · rw [decide_eq_true (by rw [c])]
            refine iteT ⟨_, rfl, ?_⟩
            have ef : Ks.fst n ok k h = none := Ks.fst_none.mpr fun i h1 h2 => all i h2 (by omega)
            rw [gr_cons_none ef, List.append_nil] at eg
            exact q p H2 (kin _ k3) (by rw [← eg]; exact e3)
          · rw [decide_eq_false (fun e => c (by injection e with e; omega))]
            exact iteF ⟨rfl, rfl, by omega⟩
        rintro σ H3 ⟨rfl, rfl, c⟩
        have okk : ok h k2 = true := fin.resolve_left (by omega)
        have ef : Ks.fst n ok k h = some k2 := Ks.fst_some.mpr ⟨⟨kk, okk⟩, c, fun i h1 h2 => all i h2 h1⟩
        rw [gr_cons_some ef] at eg
        have lenl : laid.length ≤ hs.length := by omega
        have app : (laid.map natV) ++ [natV k2] = (laid ++ [k2]).map natV := by rw [List.map_append]; rfl
        have k5 : Kept p H0 (upd H3 p (.lst ((laid ++ [k2]).map natV))) := fun x o e nx => by rw [upd_ne nx]; exact k3 x o e nx
        refine ⟨_, rfl, .inl ⟨rfl, _, SqL.of e3⟩, _, rfl, p, laid.map natV, natV k2, rfl, rfl, e3, by rw [List.length_map, sizeLine_eq]; omega, ?_⟩
        rw [app]
        refine ⟨_, rfl, _, _, rfl, rfl, k2 + 1, some y, laid ++ [k2], ?_, k5, upd_same, c, ?_, by rw [List.length_append]; show laid.length + 1 ≤ _; omega⟩
        · rfl
        · rw [List.append_assoc]
          exact eg
      · rintro σ H1 ⟨k, o, laid, rfl, k1, e1, kn, eg, lj⟩
        have ln : bits.length = hs.length := alb.len
        rw [ln, List.drop_length] at eg
        have eg : laid ++ [] = Ks.gr n ok hs 0 := eg
        rw [List.append_nil] at eg
        exact ⟨⟨k, o, rfl⟩, k1, by rw [← eg]; exact e1⟩
    rintro σ H1 ⟨⟨k, o, rfl⟩, k1, e1⟩
    exact ⟨_, rfl, q p H1 (kin _ k1) e1⟩
end
end K6

namespace K6
open PySem PySem.Spec PyProof.Rows L2 Hb St Sq Ow En Zp RZ Rd Xb
/-! ### a plain call of a def with a star -/
theorem pe_goR {X : Cx} {CX : CXT} {k : Nat} {f : Addr} {sp : Sp} {x : Str} {p pos : Pos} {e : Expr} {es : List Expr} {t : TA} {E : L2.St → XK} (F : FnR X.prog X.w X.K X.mg X.base CX k f sp) (hm : X.mg x = some (.ref f)) (hk : PySem.W.keepIn X.K (.ref f) = true) (hr : Room k X.A) (hx : ∀ σ, PassesAt CX X σ (E σ)) (hg : Gl X x) (ha : PA X (e :: es) t) (hdb : (x == ("__debug__" : Str)) = false := by decide)
    (he : starEach (e :: es) X.env = (false, eval e X.env) :: starEach es X.env := by rfl) (hpl : (backTo pos (starEach es X.env)).any (·.1) = false := by rfl) : PE X (.Call (.Name x p) (e :: es) [] pos) (tCallS sp E t) := by
  refine ⟨fun pins s σ H Q I h => wpAny_Call_Name_kw (ld_glob I hg hm ?_ hdb)⟩
  refine PySem.W.callWith_K (h₀ := X.base) I.ok.mod.kin hk (thn (ha.run pos pins s σ H _ I h) fun us s1 ⟨vs, H1, I1, r, q⟩ => ⟨I1.kIn, ?_⟩) he hpl
  refine wpAny_call (codeAny_mono (F X.A X.stack s1 H1 us vs Q (E σ) hr I1.env0 r q) fun r s' z => ?_)
  rcases r with u | (_ | _ | _ | v)
  · exact hx σ pins H1 s1 u s' I1 z
  · exact False.elim z
  · exact False.elim z
  · exact False.elim z
  · exact I1.after z
/-! ### need_tales -/
def firstNo (ds : List PyData) : Option Nat := ds.findIdx? fun d => !taleD d
section
variable {P : Program} {w : World} {K : PySem.W.Frag} {mg : Str → Option Value} {base : Heap}
abbrev s_need_tales : Stmt := top 15
theorem sc_need_tales : FnScope ["values", "at", "value"] [] (defScope s_need_tales) := ⟨rfl, rfl, rfl, by decide +kernel, rfl, by decide +kernel, by decide +kernel⟩
def errH (at_ : Int) : HO := .xd [(("at" : Str), .int at_)]
def spNeed (K : PySem.W.Frag) (C : Addr) : Sp := fun vs H Q E => ∃ (p : Addr) (xs : List V) (ds : List PyData), vs = [.ref p] ∧ H p = some (.tup xs) ∧ All2 (Dp K H) xs ds ∧ ds.length ≤ 1000 ∧ (∀ d ∈ ds, Sm2 d) ∧ (firstNo ds = none → ∀ H', Same H H' → Q .non H') ∧
  ∀ k, firstNo ds = some k → ∀ dd H', Same H H' → H' dd = some (errH (k : Nat)) → E (.ref C) (some dd) H'
def spNeedR (K : PySem.W.Frag) (C : Addr) : Sp := fun vs H Q E => ∃ ws rest : List V, vs = ws ++ rest ∧ ws.length = 0 ∧ rest.length ≤ sizeLine ∧ ∀ p : Addr, H p = none → spNeed K C (ws ++ [V.ref p]) (upd H p (.tup rest)) Q E
theorem sc_nt : FnScope ["values", "at", "value"] (([] : List Str) ++ [("values" : Str)]) (defScope s_need_tales) := ⟨rfl, rfl, rfl, by decide +kernel, rfl, by decide +kernel, by decide +kernel⟩
theorem ok_need {f C fI : Addr} {fd : FuncData} (F : Fun K "need_tales" "need_tales" s_need_tales f fd) (T : ErrC K mg "InvalidHeard" C fI) (C_is_tale : Cl P w K mg base "is_tale" ["value"] [] 3 (spIsTale K)) (n_enumerate : mg "enumerate" = none) : FnR P w K mg base (L2.CX P w) 4 f (spNeedR K C) := by
  obtain ⟨oc, od, kV, doc, pm, an, cdv, ct, osl, rfl, lk, hcd⟩ := F.ex
  refine StX.fn_star (ps := []) (pv := "values") (sp := spNeed K C) lk hcd sc_nt StX.cxUp (fun us rest hu => ?_) (fun A outer s H vs Q E hr h => ?_)
  · cases us with
    | nil => cases rest <;> rfl
    | cons _ _ => cases hu
  · obtain ⟨p, xs, ds, rfl, hp, al, dl, sm, q, e⟩ := h
    refine ⟨_, (pss_one (ps_for (passes_of rfl) rfl (pi_enumT (by rfl) n_enumerate (pa_cons (pv 0) pa_nil)) (pg_tup rfl (pgs_cons (pg_name (i := 1) sc_nt.nd rfl (Or.inl rfl)) (pgs_cons (pg_name (i := 2) sc_nt.nd rfl (Or.inl rfl)) pgs_nil)))
      (pss_one (ps_if (pt_not (pt_val (pe_use C_is_tale (hr.mono (by decide)) rfl (pa_cons (pv 2) pa_nil)))) (pss_one (ps_raiseAt rfl T hr (takes_of rfl rfl rfl rfl) (pa_cons (pv 1) pa_nil) rfl)) pss_nil)))), ?_⟩
    refine ⟨_, rfl, p, rfl, ⟨xs, SqT.of hp⟩, ?_⟩
    refine for_en en_tup (fun i σ H' => (∃ o1 o2, σ = [some (.ref p), o1, o2]) ∧ Same H H' ∧ ∀ d ∈ ds.take i, taleD d = true) ⟨⟨none, none, rfl⟩, Same.refl _, fun d hd => by cases hd⟩ (fun i σ H' pv => SqT.of (pv.2.1 _ _ hp)) ?_ ?_
    · rintro i σ H1 x t ex ⟨⟨o1, o2, rfl⟩, s1, all⟩ ht
      have s2 := same_new ht (.tup [.int (i : Nat), x])
      refine ⟨t, _, rfl, SqT.of upd_same, rfl, _, _, rfl, _, _, rfl, rfl, ?_⟩
      generalize upd H1 t (.tup [.int (i : Nat), x]) = H2 at s2 ⊢
      obtain ⟨d, ed, hd⟩ := al.get ex
      refine ⟨_, rfl, x, d, rfl, dp_same (s1.trans s2) hd, sm d (at_mem ed), fun H3 s3 => ⟨_, rfl, ?_⟩⟩
      have s13 := (s1.trans s2).trans s3
      cases c : taleD d with
      | true =>
        refine iteF ⟨⟨_, _, rfl⟩, s13, fun d' hd' => ?_⟩
        rw [List.take_add_one, ed] at hd'
        rcases List.mem_append.mp hd' with z | z
        · exact all d' z
        · rw [List.mem_singleton.mp z]; exact c
      | false =>
        refine iteT ⟨_, rfl, _, rfl, fun dd hn => ?_⟩
        refine e i ?_ dd _ (s13.trans (same_new hn _)) upd_same
        unfold firstNo
        rw [List.findIdx?_eq_some_iff_getElem]
        have hi : i < ds.length := (List.getElem?_eq_some_iff.mp ed).1
        refine ⟨hi, ?_, fun j hj => ?_⟩
        · rw [(List.getElem?_eq_some_iff.mp ed).2, c]; rfl
        · have hj' : j < ds.length := by omega
          rw [all (ds[j]) (List.mem_iff_getElem?.mpr ⟨j, by rw [List.getElem?_take_of_lt hj]; exact List.getElem?_eq_getElem hj'⟩)]; decide
    · rintro σ H1 ⟨⟨o1, o2, rfl⟩, s1, all⟩
      refine q ?_ _ s1
      unfold firstNo
      rw [List.findIdx?_eq_none_iff]
      intro d hd
      rw [List.take_of_length_le (by rw [al.len]; exact Nat.le_refl _)] at all
      rw [all d hd]; rfl
end
end K6

namespace K6
open PySem PySem.Spec PyProof.Rows L2 Hb St Sq Ow En Zp RZ Rd Xb
/-! ### arguments that ought to be tales -/
def grL (ls hs : List (List Str)) : List Nat := Ks.gr ls.length (okL ls) hs 0
def stuckN (ls hs : List (List Str)) : Option Nat := if (grL ls hs).length < hs.length then some (grL ls hs).length else none
def optV : Option Nat → V
  | some k => .int (k : Nat)
  | none => .non
structure TIn (K : PySem.W.Frag) (H : Hp) (v u : V) (d e : PyData) (ls hs : List (List Str)) : Prop where
  dv : Dp K H v d
  du : Dp K H u e
  sd : Sm2 d
  se : Sm2 e
  ok : firstNo [d, e] = none → ∃ a b, v = .ref a ∧ u = .ref b ∧ LT K H a ls ∧ LT K H b hs
  ll : ls.length ≤ 1000
  lh : hs.length ≤ 1000
  l3 : ∀ h ∈ hs, h.length ≤ 1000
  l4 : ∀ l ∈ ls, l.length ≤ 1000
theorem TIn.same {K : PySem.W.Frag} {H H' : Hp} {v u : V} {d e : PyData} {ls hs : List (List Str)} (t : TIn K H v u d e ls hs) (s : Same H H') : TIn K H' v u d e ls hs :=
  ⟨dp_same s t.dv, dp_same s t.du, t.sd, t.se, fun n => let ⟨a, b, x, y, p, q⟩ := t.ok n; ⟨a, b, x, y, p.fix (Fix.of s), q.fix (Fix.of s)⟩, t.ll, t.lh, t.l3, t.l4⟩
section
variable {P : Program} {w : World} {K : PySem.W.Frag} {mg : Str → Option Value} {base : Heap}
/-- a def of the text that may raise, by its promise -/
structure Cx_ (P : Program) (w : World) (K : PySem.W.Frag) (mg : Str → Option Value) (base : Heap) (x : Str) (ps : List Str) (lv : Nat) (sp : Sp) : Prop where
  ex : ∃ (f : Addr) (fd : FuncData), FnOk P w K mg base (L2.CX P w) lv f fd ps sp ∧ mg x = some (.ref f) ∧ PySem.W.keepIn K (.ref f) = true ∧ Binds K fd ps []
theorem pe_useX {X : Cx} {ps : List Str} {lv : Nat} {sp : Sp} {E : L2.St → XK} {x : Str} {p pos : Pos} {e : Expr} {es : List Expr} {t : TA} (C : Cx_ X.prog X.w X.K X.mg X.base x ps lv sp) (hr : Room lv X.A) (hx : ∀ σ, PassesAt (L2.CX X.prog X.w) X σ (E σ)) (hg : Gl X x) (ha : PA X (e :: es) t) (hdb : (x == ("__debug__" : Str)) = false := by decide)
    (he : starEach (e :: es) X.env = (false, eval e X.env) :: starEach es X.env := by rfl) (hpl : (backTo pos (starEach es X.env)).any (·.1) = false := by rfl) : PE X (.Call (.Name x p) (e :: es) [] pos) (tCallS sp E t) :=
  let ⟨_, _, F, hm, hk, hb⟩ := C.ex
  pe_callS F hr hg hm hk hb hx ha hdb he hpl
/-! ### stuck_at -/
abbrev s_stuck_at : Stmt := top 18
theorem sc_stuck_at : FnScope ["lots", "heard", "many"] ["lots", "heard"] (defScope s_stuck_at) := ⟨rfl, rfl, rfl, by decide +kernel, rfl, by decide +kernel, by decide +kernel⟩
def spStuck (K : PySem.W.Frag) (C : Addr) : Sp := fun vs H Q E => ∃ (v u : V) (d e : PyData) (ls hs : List (List Str)), vs = [v, u] ∧ TIn K H v u d e ls hs ∧ (firstNo [d, e] = none → ∀ H', Same H H' → Q (optV (stuckN ls hs)) H') ∧
  ∀ k, firstNo [d, e] = some k → ∀ dd H', Same H H' → H' dd = some (errH (k : Nat)) → E (.ref C) (some dd) H'
theorem ok_stuck {f fn C : Addr} {fd : FuncData} (F : Fun K "stuck_at" "stuck_at" s_stuck_at f fd) (N : FnR P w K mg base (L2.CX P w) 4 fn (spNeedR K C)) (gN : mg "need_tales" = some (.ref fn)) (kN : PySem.W.keepIn K (.ref fn) = true) (C_least_laying : Cl P w K mg base "least_laying" ["lots", "heard"] [] 3 (spLay K)) (n_len : mg "len" = none) : FnOk P w K mg base (L2.CX P w) 5 f fd ["lots", "heard"] (spStuck K C) := by
  refine F.okX sc_stuck_at (fun vs H Q E h => ?_) (fun cdv A outer s H vs Q E hr h => ?_)
  · obtain ⟨_, _, _, _, _, _, rfl, _⟩ := h
    rfl
  · obtain ⟨v, u, d, e, ls, hs, rfl, ti, q, qe⟩ := h
    refine ⟨_, (pss_cons (ps_expr (pe_goR N gN kN (hr.mono (by decide)) (fun σ => passAt (takes_of rfl rfl rfl rfl) σ) rfl (pa_cons (pv 0) (pa_cons (pv 1) pa_nil))))
      (pss_cons (ps_set (i := 2) sc_stuck_at.nd rfl (Or.inl rfl) (pe_callB call_len_seq (by rfl) n_len PySem.boot_len (pa_cons (pe_use C_least_laying (hr.mono (by decide)) rfl (pa_cons (pv 0) (pa_cons (pv 1) pa_nil))) pa_nil)))
      (pss_one (ps_ret (pe_ifExp (pt_cmpR op_lt (pv 2) (pe_callB call_len_seq (by rfl) n_len PySem.boot_len (pa_cons (pv 1) pa_nil)) (nomark _)) (pv 2) pe_non))))), ?_⟩
    refine ⟨_, rfl, _, rfl, [], [v, u], rfl, rfl, by show 2 ≤ sizeLine; decide, fun p hp => ?_⟩
    have s1 := same_new hp (.tup [v, u])
    refine ⟨p, [v, u], [d, e], rfl, upd_same, .cons (dp_same s1 ti.dv) (.cons (dp_same s1 ti.du) .nil), by show 2 ≤ 1000; decide, fun d' hd' => ?_, fun no H2 s2 => ?_, fun k hk dd H2 s2 ed => qe k hk dd H2 (s1.trans s2) ed⟩
    · rcases List.mem_cons.mp hd' with rfl | z
      · exact ti.sd
      · rw [List.mem_singleton.mp z]; exact ti.se
    have t2 := ti.same (s1.trans s2)
    obtain ⟨a, b, rfl, rfl, ha, hb⟩ := t2.ok no
    refine ⟨_, rfl, _, rfl, a, b, ls, hs, rfl, ha, hb, t2.ll, t2.lh, t2.l3, fun g H3 s3 eg => ?_⟩
    obtain ⟨bits, eb, alb⟩ := hb.fix (Fix.of s3)
    have lb : bits.length = hs.length := alb.len
    refine ⟨g, _, rfl, .inl (SqL.of eg), _, rfl, _, rfl, b, bits, rfl, .inr (SqT.of eb), _, _, rfl, rfl, _, rfl, ?_⟩
    have sf := (s1.trans s2).trans s3
    have lm : ((Ks.gr ls.length (okL ls) hs 0).map natV).length = (grL ls hs).length := List.length_map ..
    rw [lm, lb]
    have q := q no H3 sf
    unfold stuckN at q
    by_cases c : (grL ls hs).length < hs.length
    · rw [decide_eq_true (show (((grL ls hs).length : Nat) : Int) < (hs.length : Nat) by omega)]
      rw [if_pos c] at q
      exact iteT ⟨_, rfl, q⟩
    · rw [decide_eq_false (show ¬ (((grL ls hs).length : Nat) : Int) < (hs.length : Nat) by omega)]
      rw [if_neg c] at q
      exact iteF q
/-! ### need_laying -/
abbrev s_need_laying : Stmt := top 20
theorem sc_need_laying : FnScope ["lots", "heard", "many"] ["lots", "heard"] (defScope s_need_laying) := ⟨rfl, rfl, rfl, by decide +kernel, rfl, by decide +kernel, by decide +kernel⟩
/-- what a need of a laying does: the two ends of a refusal -/
def Refd (K : PySem.W.Frag) (C R : Addr) (E : XK) (H : Hp) (d e : PyData) (ls hs : List (List Str)) : Prop :=
  (∀ m, firstNo [d, e] = none → stuckN ls hs = some m → ∀ dd H', Same H H' → H' dd = some (errH (m : Nat)) → E (.ref R) (some dd) H') ∧
  ∀ k, firstNo [d, e] = some k → ∀ dd H', Same H H' → H' dd = some (errH (k : Nat)) → E (.ref C) (some dd) H'
def spNeedL (K : PySem.W.Frag) (C R : Addr) : Sp := fun vs H Q E => ∃ (v u : V) (d e : PyData) (ls hs : List (List Str)), vs = [v, u] ∧ TIn K H v u d e ls hs ∧ (firstNo [d, e] = none → stuckN ls hs = none → ∀ H', Same H H' → Q .non H') ∧ Refd K C R E H d e ls hs
theorem ok_needL {f C R fR : Addr} {fd : FuncData} (F : Fun K "need_laying" "need_laying" s_need_laying f fd) (TR : ErrC K mg "Refused" R fR) (C_stuck_at : Cx_ P w K mg base "stuck_at" ["lots", "heard"] 5 (spStuck K C)) : FnOk P w K mg base (L2.CX P w) 6 f fd ["lots", "heard"] (spNeedL K C R) := by
  refine F.okX sc_need_laying (fun vs H Q E h => ?_) (fun cdv A outer s H vs Q E hr h => ?_)
  · obtain ⟨_, _, _, _, _, _, rfl, _⟩ := h
    rfl
  · obtain ⟨v, u, d, e, ls, hs, rfl, ti, q, qr, qe⟩ := h
    refine ⟨_, (pss_cons (ps_set (i := 2) sc_need_laying.nd rfl (Or.inl rfl) (pe_useX C_stuck_at (hr.mono (by decide)) (fun σ => passAt (takes_of rfl rfl rfl rfl) σ) rfl (pa_cons (pv 0) (pa_cons (pv 1) pa_nil))))
      (pss_one (ps_if (pt_cmpR op_notN (pv 2) pe_non (nomark _)) (pss_one (ps_raiseAt rfl TR hr (takes_of rfl rfl rfl rfl) (pa_cons (pv 2) pa_nil) rfl)) pss_nil))), ?_⟩
    refine ⟨_, rfl, _, rfl, v, u, d, e, ls, hs, rfl, ti, fun no H1 s1 => ?_, fun k hk dd H1 s1 ed => qe k hk dd H1 s1 ed⟩
    cases em : stuckN ls hs with
    | none =>
      exact ⟨_, rfl, rfl, _, rfl, iteF (q no em H1 s1)⟩
    | some m =>
      refine ⟨_, rfl, rfl, _, rfl, iteT ⟨_, rfl, _, rfl, fun dd hn => ?_⟩⟩
      exact qr m no em dd _ (s1.trans (same_new hn _)) upd_same
/-! ### first_laying -/
abbrev s_first_laying : Stmt := top 19
theorem sc_first_laying : FnScope ["lots", "heard"] ["lots", "heard"] (defScope s_first_laying) := ⟨rfl, rfl, rfl, by decide +kernel, rfl, by decide +kernel, by decide +kernel⟩
def spFirst (K : PySem.W.Frag) (C R : Addr) : Sp := fun vs H Q E => ∃ (v u : V) (d e : PyData) (ls hs : List (List Str)), vs = [v, u] ∧ TIn K H v u d e ls hs ∧ (firstNo [d, e] = none → stuckN ls hs = none → ∀ p H', Same H H' → H' p = some (.tup ((grL ls hs).map natV)) → Q (.ref p) H') ∧ Refd K C R E H d e ls hs
theorem ok_first {f C R : Addr} {fd : FuncData} (F : Fun K "first_laying" "first_laying" s_first_laying f fd) (C_need_laying : Cx_ P w K mg base "need_laying" ["lots", "heard"] 6 (spNeedL K C R)) (C_least_laying : Cl P w K mg base "least_laying" ["lots", "heard"] [] 3 (spLay K)) (n_tuple : mg "tuple" = none) : FnOk P w K mg base (L2.CX P w) 7 f fd ["lots", "heard"] (spFirst K C R) := by
  refine F.okX sc_first_laying (fun vs H Q E h => ?_) (fun cdv A outer s H vs Q E hr h => ?_)
  · obtain ⟨_, _, _, _, _, _, rfl, _⟩ := h
    rfl
  · obtain ⟨v, u, d, e, ls, hs, rfl, ti, q, qr, qe⟩ := h
    refine ⟨_, (pss_cons (ps_expr (pe_useX C_need_laying (hr.mono (by decide)) (fun σ => passAt (takes_of rfl rfl rfl rfl) σ) rfl (pa_cons (pv 0) (pa_cons (pv 1) pa_nil))))
      (pss_one (ps_ret (pe_callTy call_tuple_of (by rfl) n_tuple (by decide +kernel) (pa_cons (pe_use C_least_laying (hr.mono (by decide)) rfl (pa_cons (pv 0) (pa_cons (pv 1) pa_nil))) pa_nil))))), ?_⟩
    refine ⟨_, rfl, _, rfl, v, u, d, e, ls, hs, rfl, ti, fun no em H1 s1 => ?_, fun m no em dd H1 s1 ed => qr m no em dd H1 s1 ed, fun k hk dd H1 s1 ed => qe k hk dd H1 s1 ed⟩
    have t1 := ti.same s1
    obtain ⟨a, b, rfl, rfl, ha, hb⟩ := t1.ok no
    refine ⟨_, rfl, _, rfl, a, b, ls, hs, rfl, ha, hb, t1.ll, t1.lh, t1.l3, fun g H2 s2 eg => ?_⟩
    exact ⟨g, _, rfl, .inl ⟨SqL.of eg, fun l hl => q no em l _ ((s1.trans s2).trans (same_new hl _)) upd_same⟩⟩
end
end K6

namespace K6
open PySem PySem.Spec PyProof.Rows L2 Hb St Sq Ow En Zp RZ Rd Xb
theorem pe_revK {X : Cx} {e st : Expr} {te ts : TE} {p3 pos : Pos} (K : PySem.W.Frag) (he : PE X e te) (hs : PE X st ts) (hN : ∀ σ H (Q : VK), Q (.int (-1)) H → ts σ H Q) (hK : X.K = K := by rfl) : PE X (.Subscript e (.Slice none none (some st) p3) pos) (fun σ H Q => te σ H fun x H1 => ∃ a xs, x = .ref a ∧ SqL K H1 a xs ∧ ∀ p, H1 p = none → Q (.ref p) (upd H1 p (.lst xs.reverse))) := by
  subst hK
  exact pe_rev he hs hN
/-- a list of tales' lots -/
def LL (K : PySem.W.Frag) (H : Hp) (a : Addr) (ls : List (List Str)) : Prop := ∃ its, H a = some (.lst its) ∧ All2 (TupS K H) its ls
def TupN (H : Hp) (v : V) (l : List Nat) : Prop := ∃ b, v = .ref b ∧ H b = some (.tup (l.map natV))
theorem cut_take {xs : List V} {n : Nat} : cutV xs none (some (n : Nat)) = xs.take n := by
  unfold cutV
  rw [HT.sIx_none, HT.sIx_nat, List.drop_zero, Nat.sub_zero, List.take_eq_take_iff]
  omega
end K6

namespace K6
open PySem PySem.Spec PyProof.Rows L2 Hb St Sq Ow En Zp RZ Rd Xb Da
local macro_rules | `(tactic| walk_at "sd") => `(tactic| (first
  | decide
  | exact ⟨by decide, by decide⟩
  | exact ⟨by decide, by decide, by decide⟩
  | exact Or.inl ⟨by decide, by decide⟩
  | exact Or.inr ⟨by decide, by decide⟩
  | exact divw (by decide) (by decide)
  | exact divw (by omega) (by omega)
  | exact Or.inl ⟨by omega, by omega⟩
  | exact Or.inr ⟨by omega, by omega⟩
  | (show (0 : Int) < _; omega)))
local macro_rules | `(tactic| walk_at "sq") => `(tactic| (first | exact SqT.of (by assumption) | exact SqL.of (by assumption) | exact SqL.of upd_same | assumption))
local macro_rules | `(tactic| walk_at "rd") => `(tactic| repeat (first
  | refine ⟨_, rfl, ?_⟩
  | refine ⟨_, _, rfl, rfl, (by walk_at "sd"), ?_⟩
  | refine ⟨_, _, rfl, rfl, ?_⟩
  | refine ⟨_, _, _, _, rfl, rfl, (by walk_at "sq"), rfl, ?_⟩
  | refine ⟨_, _, _, _, rfl, rfl, (by first | assumption | exact upd_same), rfl, ?_⟩
  | refine ⟨_, _, rfl, Or.inl (by walk_at "sq"), ?_⟩
  | refine ⟨_, _, rfl, ?_⟩
  | refine Or.inl ⟨_, rfl, ?_⟩
  | refine ⟨rfl, ?_⟩))
/-! ### deals -/
def DealN (H : Hp) (p l : Addr) (ns : List Int) (b : Int) : Prop := H p = some (.lst [.ref l, .int b]) ∧ H l = some (.lst (ns.map V.int)) ∧ p ≠ l ∧ ns.length ≤ 63 ∧ (∀ n ∈ ns, 0 ≤ n) ∧ 0 ≤ b ∧ b < 2 ^ 40
def DealAt (H : Hp) (p l : Addr) : Prop := ∃ ns b, DealN H p l ns b
def Kept2 (p l : Addr) (H H' : Hp) : Prop := ∀ b o, H b = some o → b ≠ p → b ≠ l → H' b = some o
theorem Kept2.refl (p l : Addr) (H : Hp) : Kept2 p l H H := fun _ _ e _ _ => e
theorem Kept2.trans {p l : Addr} {H H1 H2 : Hp} (a : Kept2 p l H H1) (b : Kept2 p l H1 H2) : Kept2 p l H H2 := fun c o e n m => b c o (a c o e n m) n m
theorem Kept2.same {p l : Addr} {H H' : Hp} (s : Same H H') : Kept2 p l H H' := fun b o e _ _ => s b o e
theorem Kept2.p {p l : Addr} {H : Hp} {o : HO} : Kept2 p l H (upd H p o) := fun b u e n _ => by rw [upd_ne n]; exact e
theorem Kept2.l {p l : Addr} {H : Hp} {o : HO} : Kept2 p l H (upd H l o) := fun b u e _ n => by rw [upd_ne n]; exact e
theorem DealAt.same {H H' : Hp} {p l : Addr} (h : DealAt H p l) (s : Same H H') : DealAt H' p l := let ⟨ns, b, a, c, r⟩ := h; ⟨ns, b, s _ _ a, s _ _ c, r⟩
theorem Kept2.fix {p l : Addr} {H H' : Hp} (k : Kept2 p l H H') (d : DealAt H p l) : Fix H H' := fun b o e n => by
  obtain ⟨ns, bb, h1, h2, _⟩ := d
  exact k b o e (fun z => n (by rw [z, h1] at e; exact .inl ⟨_, (Option.some.inj e).symm⟩)) fun z => n (by rw [z, h2] at e; exact .inl ⟨_, (Option.some.inj e).symm⟩)
section
variable {K : PySem.W.Frag} {H : Hp} {Q : VK}
theorem dp_ints : ∀ ns : List Int, DpAll K H (ns.map V.int) (ns.map PyData.int)
  | [] => .nil
  | n :: ns => .cons (.int n) (dp_ints ns)
theorem shp_ints (ns : List Int) : SeqAt.shaped (.list (ns.map PyData.int)) = true := (sh_lst (n := 0) fun x _ => sh_int 0 x).ok (by decide)
theorem eqv_nil (ns : List Int) : PyData.eqv (.list (ns.map PyData.int)) (.list []) = decide (ns = []) := eqvAll_map eqv_int ns []
theorem rd_neNil {l t : Addr} {ns : List Int} (hl : SqL K H l (ns.map V.int)) (ht : SqL K H t []) (q : Q (.bl (!decide (ns = []))) H) : rNeD K (.ref l) (.ref t) H Q :=
  ⟨_, _, .lst hl (dp_ints ns), .lst ht .nil, shp_ints ns, shp_ints [], by rw [eqv_nil]; exact q⟩
end
theorem abs_nn (i : Int) : 0 ≤ (if i < 0 then -i else i) := by
  by_cases h : i < 0
  · rw [if_pos h]; omega
  · rw [if_neg h]; omega
theorem cut_int (ns : List Int) (lo hi : Option Int) : ∃ ms : List Int, cutV (ns.map V.int) lo hi = ms.map V.int ∧ ms.length ≤ ns.length := by
  unfold cutV
  rw [List.length_map]
  refine ⟨_, by rw [List.map_drop.symm, List.map_take.symm], ?_⟩
  rw [List.length_take, List.length_drop]
  omega
section
variable {P : Program} {w : World} {K : PySem.W.Frag} {mg : Str → Option Value} {base : Heap}
/-! ### _law_heap -/
abbrev s__law_heap : Stmt := top 29
theorem sc__law_heap : FnScope ["script", "base", "cell", "cells", "stir"] ["script", "base"] (defScope s__law_heap) := ⟨rfl, rfl, rfl, by decide +kernel, rfl, by decide +kernel, by decide +kernel⟩
def spDeal (K : PySem.W.Frag) : Sp := fun vs H Q _ => ∃ (a : Addr) (ns : List Int), vs = [.ref a, .int 0] ∧ SqL K H a (ns.map V.int) ∧ ns.length ≤ 63 ∧ ∀ p l H', H p = none → H l = none → Same H H' → DealAt H' p l → Q (.ref p) H'
theorem ok_heap {f : Addr} {fd : FuncData} (F : Fun K "_law_heap" "_law_heap" s__law_heap f fd) (n_abs : mg "abs" = none) (n_int : mg "int" = none) : FnOk P w K mg base CX0 1 f fd ["script", "base"] (spDeal K) := by
  refine F.ok sc__law_heap (fun vs H Q E h => ?_) (fun cdv A outer s H vs Q E hr h => ?_)
  · obtain ⟨_, _, rfl, _⟩ := h
    rfl
  · obtain ⟨a, ns, rfl, hs, hl, q⟩ := h
    refine ⟨_, (Evl.pss_cut (ps_setLc (i := 3) (own := [("cell", 2)]) (g := gName 2) (by rfl) sc__law_heap.nd rfl rfl (sw_true rfl rfl rfl (by decide +kernel)) (pi_seq (pe_slice (r := rSlL K) sl_list (pv 0) (po_some (pv 1)) (po_some pe_int))) (blkOk_by (N := ["script", "base", "cell", "cells", "stir"]) (sc := defScope s__law_heap) (by decide +kernel)) (fun _ _ _ _ _ => pg_name (i := 2) sc__law_heap.nd rfl (Or.inl rfl)) (fun _ _ _ _ _ => pts_nil) (fun _ _ _ _ _ => pe_callB call_abs (by rfl) n_abs (by decide +kernel) (pa_cons (pv 2) pa_nil)))
    (pss_cons (ps_set (i := 4) sc__law_heap.nd rfl (Or.inl rfl) (pe_op op_add pe_int (pe_op op_mul pe_int (pv 1))))
    (Evl.pss_cut (ps_for PassesOwn.never rfl (pi_seq (pv 3)) (pg_name (i := 2) sc__law_heap.nd rfl (Or.inl rfl))
      (pss_one (ps_set (i := 4) sc__law_heap.nd rfl (Or.inl rfl) (pe_op op_mod (pe_callTy call_int1 (by rfl) n_int (by decide +kernel) (pa_cons (pe_op op_add (pe_op op_add (pe_op op_mul (pv 4) pe_int) (pe_op op_mod (pe_callTy call_int1 (by rfl) n_int (by decide +kernel) (pa_cons (pv 2) pa_nil)) pe_int)) pe_int) pa_nil)) pe_int))))
    (pss_one (ps_ret (pe_lst (pa_cons (pe_revK K (pe_lc (own := [("cell", 2)]) (g := gName 2) rfl sc__law_heap.nd (pi_seq (pv 3)) (blkOk_by (N := ["script", "base", "cell", "cells", "stir"]) (sc := defScope s__law_heap) (by decide +kernel)) (fun _ _ _ _ _ => pg_name (i := 2) sc__law_heap.nd rfl (Or.inl rfl)) (fun _ _ _ _ _ => pts_one (pt_cmpR op_ge (pv 2) (pe_op op_pow pe_int pe_int) (nomark _))) (fun _ _ _ _ _ => pv 2)) (pe_un un_neg pe_int) (fun _ _ _ q => ⟨1, rfl, q⟩)) (pa_cons (pv 4) pa_nil)))))))), ?_⟩
    refine ⟨fun σ H' => ∃ (c : Addr) (o : Option V) (ms : List Int), σ = [some (.ref a), some (.int 0), o, some (.ref c), none] ∧ Same H H' ∧ H' c = some (.lst (ms.map V.int)) ∧ ms.length ≤ 63 ∧ ∀ m ∈ ms, 0 ≤ m, ?_, ?_⟩
    · refine ⟨_, rfl, _, rfl, 0, rfl, 48, rfl, a, _, rfl, hs, fun p hp => ?_⟩
      have s1 := same_new hp (.lst (cutV (ns.map V.int) (some 0) (some 48)))
      obtain ⟨ms, em, lm⟩ := cut_int ns (some 0) (some 48)
      have e1 : (upd H p (.lst (cutV (ns.map V.int) (some 0) (some 48)))) p = some (.lst (ms.map V.int)) := by rw [upd_same, em]
      generalize upd H p (.lst (cutV (ns.map V.int) (some 0) (some 48))) = H1 at s1 e1 ⊢
      refine ⟨p, _, rfl, SqX.lst e1, fun J S W k D hD => ?_⟩
      refine lc_mf (ds := ms) W (fun _ => true) (fun _ y i => y = .int (if i < 0 then -i else i)) k hD (by rw [List.length_map]) (fun i x z H4 ex ez s4 m => ?_) (fun H4 ys s4 e al => ?_)
      · obtain rfl := at_map ex ez
        exact ⟨rfl, _, rfl, z, rfl, mf_yes m hD (fun _ _ _ _ _ h => h) ez (by omega) (Same.refl _) rfl rfl⟩
      · rw [Rd.filter_all] at al
        obtain rfl := al.map_eq fun _ _ h => h
        refine ⟨D, _, ms.map fun i => if i < 0 then -i else i, rfl, s1.trans s4, by rw [List.map_map]; exact e, by rw [List.length_map]; omega, fun m hm => ?_⟩
        obtain ⟨i, _, rfl⟩ := List.mem_map.mp hm
        exact abs_nn i
    rintro σ H1 ⟨c, o, ms, rfl, s1, e1, lm, pm⟩
    walk_at "rd"
    refine ⟨fun σ H' => ∃ o b, σ = [some (.ref a), some (.int 0), o, some (.ref c), some (.int b)] ∧ H' = H1 ∧ 0 ≤ b ∧ b < 2 ^ 40, ?_, ?_⟩
    · refine ⟨_, rfl, c, _, rfl, SqX.lst e1, fun J S W k => ?_⟩
      refine for_sq W (fun i σ H' => ∃ o b, σ = [some (.ref a), some (.int 0), o, some (.ref c), some (.int b)] ∧ H' = H1 ∧ 0 ≤ b ∧ b < 2 ^ 40) ⟨_, _, rfl, rfl, by decide, by decide⟩ (fun i σ H' p => ?_) ?_ ?_
      · obtain ⟨_, _, _, rfl, _⟩ := p
        exact k
      · rintro i σ H2 x ex ⟨o, b, rfl, rfl, b0, b1⟩
        obtain ⟨z, ez⟩ : ∃ z, ms[i]? = some z := ⟨_, List.getElem?_eq_getElem (by have := (List.getElem?_eq_some_iff.mp ex).1; rwa [List.length_map] at this)⟩
        obtain rfl := at_map ex ez
        walk_at "rd"
        exact ⟨Int.emod_nonneg _ (by decide), by omega⟩
      · rintro σ H2 ⟨o, b, rfl, rfl, b0, b1⟩
        exact ⟨o, b, rfl, rfl, b0, b1⟩
    rintro σ H2 ⟨o2, b, rfl, rfl, b0, b1⟩
    refine ⟨_, rfl, c, _, rfl, SqX.lst e1, fun J S W k D hD => ?_⟩
    refine lc_mf (ds := ms) W (fun m => decide ((10 ^ 18 : Int) ≤ m)) (fun _ y i => y = .int i) k hD (by rw [List.length_map]) (fun i x z H4 ex ez s4 m => ?_) (fun H4 ys s4 e al => ?_)
    · obtain rfl := at_map ex ez
      refine ⟨rfl, _, rfl, _, _, rfl, rfl, ⟨by decide, by decide, by decide⟩, _, _, rfl, rfl, _, rfl, ?_⟩
      refine iteD (fun c => ⟨_, rfl, mf_yes m hD (fun _ _ _ _ _ h => h) ez (by omega) (Same.refl _) (decide_eq_true c) rfl⟩) fun c => mf_no m (fun _ _ _ _ _ h => h) ez (Same.refl _) (decide_eq_false c)
    · obtain rfl := al.map_eq fun _ _ h => h
      refine ⟨D, _, rfl, SqL.of e, fun p hp => ?_⟩
      have s5 := same_new hp (.lst ((ms.filter fun m => decide ((10 ^ 18 : Int) ≤ m)).map V.int).reverse)
      refine ⟨_, rfl, by show 2 ≤ sizeLine; decide, fun d hd => ?_⟩
      have s6 := same_new hd (.lst [.ref p, .int b])
      have s26 := ((s1.trans s4).trans s5).trans s6
      have hpH : H p = none := by
        cases h : H p with
        | none => rfl
        | some o => exact absurd rfl (ne_of_none ((s1.trans s4) _ _ h) hp)
      have hdH : H d = none := by
        cases h : H d with
        | none => rfl
        | some o => exact absurd rfl (ne_of_none (((s1.trans s4).trans s5) _ _ h) hd)
      refine q d p _ hdH hpH s26 ⟨(ms.filter fun m => decide ((10 ^ 18 : Int) ≤ m)).reverse, b, upd_same, ?_, (ne_of_none (upd_same (H := H4) (o := .lst ((ms.filter fun m => decide ((10 ^ 18 : Int) ≤ m)).map V.int).reverse)) hd).symm, ?_, fun n hn => ?_, b0, b1⟩
      · rw [s6 _ _ (show upd H4 p (.lst ((ms.filter fun m => decide ((10 ^ 18 : Int) ≤ m)).map V.int).reverse) p = _ from upd_same), List.map_reverse]
      · rw [List.length_reverse]
        exact Nat.le_trans (List.length_filter_le _ _) lm
      · exact pm n (List.mem_filter.mp (List.mem_reverse.mp hn)).1
theorem last_at (ms : List Int) (z : Int) : (ms.map V.int ++ [V.int z])[(ms.map V.int ++ [V.int z]).length - 1]? = some (V.int z) := by
  rw [List.length_append, List.length_singleton, Nat.add_sub_cancel, List.getElem?_append_right (Nat.le_refl _), Nat.sub_self]; rfl
/-! ### _law_draw -/
abbrev s__law_draw : Stmt := top 30
theorem sc__law_draw : FnScope ["heap", "many", "rest"] ["heap", "many"] (defScope s__law_draw) := ⟨rfl, rfl, rfl, by decide +kernel, rfl, by decide +kernel, by decide +kernel⟩
def spDraw : Sp := fun vs H Q _ => ∃ (p l : Addr) (many : Int), vs = [.ref p, .int many] ∧ (1 ≤ many ∧ many < 2 ^ 30) ∧ DealAt H p l ∧ ∀ d H', 0 ≤ d → d < many → Kept2 p l H H' → DealAt H' p l → Q (.int d) H'
theorem ok_draw {f : Addr} {fd : FuncData} (F : Fun K "_law_draw" "_law_draw" s__law_draw f fd) (n_int : mg "int" = none) : FnOk P w K mg base CX0 1 f fd ["heap", "many"] spDraw := by
  refine F.ok sc__law_draw (fun vs H Q E h => ?_) (fun cdv A outer s H vs Q E hr h => ?_)
  · obtain ⟨_, _, _, rfl, _⟩ := h
    rfl
  · obtain ⟨p, l, many, rfl, hm, ⟨ns0, b, hd0⟩, q⟩ := h
    refine ⟨_, (Evl.pss_cut (ps_while PassesOwn.never (PW.pt (pw_and (pt_cmpR (op_neD hr.units) (pe_ix ix_list (pv 0) pe_int (fun _ _ => rfl)) (pe_lst pa_nil) (nomark _)) (pw_and1 (pt_cmpR op_eq (pe_ix ix_list (pe_ix ix_list (pv 0) pe_int (fun _ _ => rfl)) (pe_un un_neg pe_int) (fun _ _ => rfl)) pe_int (nomark _)))))
      (pss_one (ps_expr (pe_bm0 PySem.F.plainAttrs_list PySem.F.slot_list_pop PySem.F.type_list_pop mt_pop (pe_ix ix_list (pv 0) pe_int (fun _ _ => rfl))))))
    (Evl.pss_cut (ps_if (pt_cmpR (op_neD hr.units) (pe_ix ix_list (pv 0) pe_int (fun _ _ => rfl)) (pe_lst pa_nil) (nomark _)) (pss_cons (ps_set (i := 2) sc__law_draw.nd rfl (Or.inl rfl) (pe_bm0 PySem.F.plainAttrs_list PySem.F.slot_list_pop PySem.F.type_list_pop mt_pop (pe_ix ix_list (pv 0) pe_int (fun _ _ => rfl))))
    (pss_cons (ps_expr (pe_bm PySem.F.plainAttrs_list PySem.F.slot_list_append PySem.F.type_list_append mt_append (pe_ix ix_list (pv 0) pe_int (fun _ _ => rfl)) (pa_cons (pe_op op_fdivW (pv 2) (pv 1)) pa_nil)))
    (pss_one (ps_ret (pe_op op_mod (pe_callTy call_int1 (by rfl) n_int (by decide +kernel) (pa_cons (pv 2) pa_nil)) (pv 1)))))) pss_nil)
    (pss_cons (ps_asg (pe_op op_mod (pe_callTy call_int1 (by rfl) n_int (by decide +kernel) (pa_cons (pe_op op_add (pe_op op_mul (pe_ix ix_list (pv 0) pe_int (fun _ _ => rfl)) pe_int) pe_int) pa_nil)) pe_int) (pg_sub (pv 0) pe_int set_list))
    (pss_one (ps_ret (pe_op op_mod (pe_callTy call_int1 (by rfl) n_int (by decide +kernel) (pa_cons (pe_op op_fdivW (pe_ix ix_list (pv 0) pe_int (fun _ _ => rfl)) pe_int) pa_nil)) (pv 1))))))), ?_⟩
    refine ⟨fun σ H' => σ = [some (.ref p), some (.int many), none] ∧ Kept2 p l H H' ∧ ∃ ns, DealN H' p l ns b, ?_, ?_⟩
    · refine ⟨fun m σ H' => σ = [some (.ref p), some (.int many), none] ∧ Kept2 p l H H' ∧ ∃ ns, ns.length = m ∧ DealN H' p l ns b, ⟨_, rfl, Kept2.refl _ _ _, ns0, rfl, hd0⟩, ?_⟩
      rintro m σ H1 ⟨rfl, k1, ns, lm, hp, hl, npl, ln, pn, b0, b1⟩
      refine ⟨_, rfl, p, _, _, _, rfl, rfl, SqL.of hp, at0, by show 0 ≤ sizeLine; decide, fun t ht => ?_⟩
      have s2 := same_new ht (.lst [])
      have hp2 := s2 _ _ hp
      have hl2 := s2 _ _ hl
      refine rd_neNil (SqL.of hl2) (SqL.of upd_same) ?_
      have k2 := k1.trans (Kept2.same (p := p) (l := l) s2)
      refine ⟨_, rfl, ?_⟩
      rcases List.eq_nil_or_concat ns with e | ⟨ms, z, e⟩
      · subst e
        exact iteF ⟨rfl, k2, [], hp2, hl2, npl, ln, pn, b0, b1⟩
      rw [List.concat_eq_append] at e
      subst e
      rw [decide_eq_false (by simp)]
      have em : (ms ++ [z]).map V.int = ms.map V.int ++ [V.int z] := by rw [List.map_append]; rfl
      rw [em] at hl2
      generalize upd H1 t (.lst []) = H2 at s2 hp2 hl2 k2 ⊢
      refine iteT ⟨_, rfl, p, _, _, _, rfl, rfl, SqL.of hp2, at0, 1, rfl, l, _, _, _, rfl, rfl, SqL.of hl2, at_last, rfl, _, rfl, ?_⟩
      refine iteD (fun c => ?_) fun c => ⟨rfl, k2, ms ++ [z], hp2, em ▸ hl2, npl, ln, pn, b0, b1⟩
      refine ⟨fun σ H' => σ = [some (.ref p), some (.int many), none] ∧ Kept2 p l H H' ∧ ∃ ns, ns.length < m ∧ DealN H' p l ns b, fun σ' H' ⟨e1, e2, ns, e3, e4⟩ => ⟨ns.length, e3, e1, e2, ns, rfl, e4⟩, ?_⟩
      refine ⟨_, rfl, p, _, _, _, rfl, rfl, SqL.of hp2, at0, .inl ⟨rfl, _, SqL.of hl2⟩, l, _, .int z, rfl, rfl, hl2, last_at _ _, rfl, k2.trans Kept2.l, ms, by rw [← lm]; simp, ?_⟩
      rw [List.dropLast_concat]
      exact ⟨by rw [upd_ne npl]; exact hp2, upd_same, npl, by simp at ln; omega, fun n hn => pn n (List.mem_append_left _ hn), b0, b1⟩
    rintro σ H1 ⟨rfl, k1, ns, hp, hl, npl, ln, pn, b0, b1⟩
    have lp := npl.symm
    refine ⟨fun σ H' => σ = [some (.ref p), some (.int many), none] ∧ Kept2 p l H H' ∧ ∃ ns, DealN H' p l ns b, ?_, ?_⟩
    · refine ⟨_, rfl, p, _, _, _, rfl, rfl, SqL.of hp, at0, by show 0 ≤ sizeLine; decide, fun t ht => ?_⟩
      have s2 := same_new ht (.lst [])
      have hp2 := s2 _ _ hp
      have hl2 := s2 _ _ hl
      refine rd_neNil (SqL.of hl2) (SqL.of upd_same) ?_
      have k2 := k1.trans (Kept2.same (p := p) (l := l) s2)
      refine ⟨_, rfl, ?_⟩
      rcases List.eq_nil_or_concat ns with e | ⟨ms, z, e⟩
      · subst e
        exact iteF ⟨rfl, k2, [], hp2, hl2, npl, ln, pn, b0, b1⟩
      rw [List.concat_eq_append] at e
      subst e
      rw [decide_eq_false (by simp)]
      have em : (ms ++ [z]).map V.int = ms.map V.int ++ [V.int z] := by rw [List.map_append]; rfl
      rw [em] at hl2
      generalize upd H1 t (.lst []) = H2 at s2 hp2 hl2 k2 ⊢
      have z0 : 0 ≤ z := pn z (by simp)
      refine iteT ⟨_, rfl, p, _, _, _, rfl, rfl, SqL.of hp2, at0, .inl ⟨rfl, _, SqL.of hl2⟩, l, _, .int z, rfl, rfl, hl2, last_at _ _, ?_⟩
      rw [List.dropLast_concat]
      have hp3 : upd H2 l (.lst (ms.map V.int)) p = some (.lst [.ref l, .int b]) := by rw [upd_ne npl]; exact hp2
      have hl3 : upd H2 l (.lst (ms.map V.int)) l = some (.lst (ms.map V.int)) := upd_same
      have k3 := k2.trans (Kept2.l (p := p) (l := l) (H := H2) (o := .lst (ms.map V.int)))
      generalize upd H2 l (.lst (ms.map V.int)) = H3 at hp3 hl3 k3 ⊢
      have lms : ms.length + 1 ≤ 63 := by simpa using ln
      refine ⟨_, rfl, p, _, _, _, rfl, rfl, SqL.of hp3, at0, .inl ⟨rfl, _, SqL.of hl3⟩, _, rfl, _, rfl, _, _, rfl, rfl, divw (by omega) (by omega), l, _, _, rfl, rfl, hl3, by rw [List.length_map, sizeLine_eq]; omega, ?_⟩
      refine ⟨_, rfl, .inl ⟨_, rfl, _, rfl, _, _, rfl, rfl, (by show (0 : Int) < _; omega), ?_⟩⟩
      refine q _ _ (Int.emod_nonneg _ (by omega)) (Int.emod_lt_of_pos _ (by omega)) (k3.trans Kept2.l) ⟨ms ++ [z / many], b, by rw [upd_ne npl]; exact hp3, by rw [upd_same, List.map_append]; rfl, npl, by simp; omega, fun n hn => ?_, b0, b1⟩
      rcases List.mem_append.mp hn with h | h
      · exact pn n (List.mem_append_left _ h)
      · rw [List.mem_singleton.mp h]; exact Int.ediv_nonneg z0 (by omega)
    rintro σ H2 ⟨rfl, k2, ns2, hp2, hl2, _, ln2, pn2, b0, b1⟩
    refine ⟨_, rfl, p, _, _, _, rfl, rfl, SqL.of hp2, at1, ?_⟩
    walk_at "rd"
    exact q _ _ (Int.emod_nonneg _ (by omega)) (Int.emod_lt_of_pos _ (by omega)) (k2.trans Kept2.p) ⟨ns2, (b * 48271 + 11) % 2147483647, upd_same, by rw [upd_ne lp]; exact hl2, npl, ln2, pn2, Int.emod_nonneg _ (by decide), by omega⟩
end
end K6

namespace K6
open PySem PySem.Spec PyProof.Rows L2 Hb St Sq Ow En Zp RZ Rd Xb Da
section
variable {P : Program} {w : World} {K : PySem.W.Frag} {mg : Str → Option Value} {base : Heap}
/-! ### _law_pick -/
abbrev s__law_pick : Stmt := top 31
theorem sc__law_pick : FnScope ["heap", "some"] ["heap", "some"] (defScope s__law_pick) := ⟨rfl, rfl, rfl, by decide +kernel, rfl, by decide +kernel, by decide +kernel⟩
def spPick (K : PySem.W.Frag) : Sp := fun vs H Q _ => ∃ (p l s : Addr) (xs : List V), vs = [.ref p, .ref s] ∧ DealAt H p l ∧ (∀ H', Kept2 p l H H' → SqX K H' s xs) ∧ (1 ≤ xs.length ∧ xs.length ≤ 1000) ∧ ∀ x H', x ∈ xs → Kept2 p l H H' → DealAt H' p l → Q x H'
theorem ok_pick {f : Addr} {fd : FuncData} (F : Fun K "_law_pick" "_law_pick" s__law_pick f fd) (C__law_draw : Cl P w K mg base "_law_draw" ["heap", "many"] [] 1 spDraw) (n_len : mg "len" = none) : FnOk P w K mg base CX0 2 f fd ["heap", "some"] (spPick K) := by
  refine F.ok sc__law_pick (fun vs H Q E h => ?_) (fun cdv A outer s H vs Q E hr h => ?_)
  · obtain ⟨_, _, _, _, rfl, _⟩ := h
    rfl
  · obtain ⟨p, l, s, xs, rfl, hd, hs, hn, q⟩ := h
    refine ⟨_, (pss_one (ps_ret (pe_ix (r := rIx K) ix_seq (pv 1) (pe_use C__law_draw (hr.mono (by decide)) rfl (pa_cons (pv 0) (pa_cons (pe_callB call_len_seq (by rfl) n_len PySem.boot_len (pa_cons (pv 1) pa_nil)) pa_nil))) (fun _ _ => rfl)))), ?_⟩
    have len : ∃ p' ys, [V.ref s] = [V.ref p'] ∧ (SqL K H p' ys ∨ SqT K H p' ys) ∧ ys = xs := ⟨s, xs, rfl, hs H (Kept2.refl _ _ _), rfl⟩
    refine ⟨_, rfl, _, rfl, _, rfl, s, xs, rfl, hs H (Kept2.refl _ _ _), p, l, _, rfl, ?_, hd, fun d H' d0 d1 k b => ?_⟩
    · omega
    · have hdn : d.toNat < xs.length := by omega
      have e : d = ((d.toNat : Nat) : Int) := by omega
      obtain ⟨x, hx⟩ : ∃ x, xs[d.toNat]? = some x := ⟨_, List.getElem?_eq_getElem hdn⟩
      have hat : atI xs d = some x := by rw [e]; exact at_nat hx
      have qq := q _ H' (List.mem_of_getElem? hx) k b
      rcases hs H' k with hs | hs
      · exact .inl ⟨s, _, d, x, rfl, rfl, hs, hat, qq⟩
      · exact .inr (.inl ⟨s, _, d, x, rfl, rfl, hs, hat, qq⟩)
end
end K6

namespace K6
open PySem PySem.Spec PyProof.Rows L2 Hb St Sq Ow En Zp RZ Rd Xb Da Lg
def LotH (H : Hp) (v : V) (l : List Str) : Prop := ∃ b, v = .ref b ∧ H b = some (.tup (l.map V.str))
theorem LotH.fix {H H' : Hp} {v : V} {l : List Str} (h : LotH H v l) (s : Fix H H') : LotH H' v l := let ⟨b, e, t⟩ := h; ⟨b, e, s _ _ t (not_mut_tup _)⟩
def LotOk (ns l : List Str) : Prop := l ≠ [] ∧ l.Pairwise sLt ∧ ∀ x ∈ l, x ∈ ns
structure NsOk (ns : List Str) : Prop where
  nd : ns.Nodup
  ne : ns ≠ []
  ln : ns.length ≤ 4
  nm : ∀ x ∈ ns, IsNm x
/-- all is kept but the box and the thing at t -/
def Kept3 (p l t : Addr) (H H' : Hp) : Prop := ∀ b o, H b = some o → b ≠ p → b ≠ l → b ≠ t → H' b = some o
theorem Kept3.refl (p l t : Addr) (H : Hp) : Kept3 p l t H H := fun _ _ e _ _ _ => e
theorem Kept3.two {p l t : Addr} {H H1 H2 : Hp} (a : Kept3 p l t H H1) (b : Kept2 p l H1 H2) : Kept3 p l t H H2 := fun c o e n m k => b c o (a c o e n m k) n m
theorem Kept3.put {p l t : Addr} {H H1 : Hp} {o : HO} (a : Kept3 p l t H H1) : Kept3 p l t H (upd H1 t o) := fun c u e n m k => by rw [upd_ne k]; exact a c u e n m k
theorem Kept2.of3 {p l t : Addr} {H H' : Hp} (a : Kept3 p l t H H') (n : H t = none) : Kept2 p l H H' := fun c o e x y => a c o e x y (ne_of_none e n)
theorem DealAt.ne_tup {H : Hp} {p l b : Addr} {xs : List V} (d : DealAt H p l) (e : H b = some (.tup xs)) : b ≠ p ∧ b ≠ l := by
  obtain ⟨ns, bb, h1, h2, _⟩ := d
  exact ⟨fun z => by (rw [z, h1] at e; cases e), fun z => by (rw [z, h2] at e; cases e)⟩
theorem DealAt.ne_none {H : Hp} {p l b : Addr} (d : DealAt H p l) (e : H b = none) : b ≠ p ∧ b ≠ l := by
  obtain ⟨ns, bb, h1, h2, _⟩ := d
  exact ⟨fun z => by (rw [z, h1] at e; cases e), fun z => by (rw [z, h2] at e; cases e)⟩
theorem DealAt.put {H : Hp} {p l t : Addr} {o : HO} (d : DealAt H p l) (n : p ≠ t) (m : l ≠ t) : DealAt (upd H t o) p l := by
  obtain ⟨ns, b, h1, h2, r⟩ := d
  exact ⟨ns, b, by rw [upd_ne n]; exact h1, by rw [upd_ne m]; exact h2, r⟩
theorem LotH.dp {K : PySem.W.Frag} {H : Hp} {v : V} {l : List Str} (h : LotH H v l) : Dp K H v (.tuple (l.map .str)) := let ⟨_, e, t⟩ := h; e ▸ .tup (SqT.of t) (dp_strs l)
theorem sh_lot {l : List Str} (h : ∀ x ∈ l, IsNm x) : Sh 1 (.tuple (l.map .str)) := sh_tup fun x hx => sh_str (h x hx)
theorem eqv_none (d : PyData) : ∀ ds : List PyData, PyData.eqv (.list ds) (.list []) = decide (ds = [])
  | [] => rfl
  | _ :: _ => rfl
theorem LotH.put {H : Hp} {v : V} {l : List Str} {t : Addr} {ys : List V} {o : HO} (h : LotH H v l) (e : H t = some (.lst ys)) : LotH (upd H t o) v l := by
  obtain ⟨b, ev, eb⟩ := h
  exact ⟨b, ev, by rw [upd_ne (fun z => by rw [z, e] at eb; cases eb)]; exact eb⟩
theorem lotOk_sort {ns xs ys : List Str} (ok : NsOk ns) (s : xs.Sublist ns) (pm : ys.Perm xs) (so : sortedS ys = true) : ys.Pairwise sLt ∧ ∀ x ∈ ys, x ∈ ns :=
  ⟨sorted_asc so (pm.nodup_iff.mpr (s.nodup ok.nd)), fun x hx => s.subset (pm.subset hx)⟩
theorem all2_snoc {α β : Type} {R : α → β → Prop} : ∀ {xs : List α} {ys : List β} {y : β}, All2 R xs (ys ++ [y]) → ∃ zs z, xs = zs ++ [z] ∧ R z y ∧ All2 R zs ys
  | _, [], _, h => by
    cases h with
    | cons r t =>
      cases t
      exact ⟨[], _, rfl, r, .nil⟩
  | _, b :: ys, y, h => by
    cases h with
    | cons r t =>
      obtain ⟨zs, z, e, h1, h2⟩ := all2_snoc t
      exact ⟨_ :: zs, z, by rw [e]; rfl, h1, .cons r h2⟩
section
variable {P : Program} {w : World} {K : PySem.W.Frag} {mg : Str → Option Value} {base : Heap}
/-! ### _law_tale -/
abbrev s__law_tale : Stmt := top 32
theorem sc__law_tale : FnScope ["heap", "names", "most", "lots", "turn", "lot", "form", "name"] ["heap", "names", "most"] (defScope s__law_tale) := ⟨rfl, rfl, rfl, by decide +kernel, rfl, by decide +kernel, by decide +kernel⟩
def spTale : Sp := fun vs H Q _ => ∃ (p l nb : Addr) (many : Int) (ns : List Str), vs = [.ref p, .ref nb, .int many] ∧ DealAt H p l ∧ H nb = some (.tup (ns.map V.str)) ∧ (0 ≤ many ∧ many ≤ 7) ∧ NsOk ns ∧
  ∀ t its lots H', H t = none → Kept2 p l H H' → DealAt H' p l → H' t = some (.lst its) → All2 (LotH H') its lots → (∀ x ∈ lots, LotOk ns x) → ((lots.length : Nat) : Int) ≤ many → Q (.ref t) H'
theorem ok_tale {f : Addr} {fd : FuncData} (F : Fun K "_law_tale" "_law_tale" s__law_tale f fd) (C__law_draw : Cl P w K mg base "_law_draw" ["heap", "many"] [] 1 spDraw) (C__law_pick : Cl P w K mg base "_law_pick" ["heap", "some"] [] 2 (spPick K)) (n_range : mg "range" = none) (n_sorted : mg "sorted" = none) (n_tuple : mg "tuple" = none) : FnOk P w K mg base CX0 3 f fd ["heap", "names", "most"] spTale := by
  refine F.ok sc__law_tale (fun vs H Q E h => ?_) (fun cdv A outer s H vs Q E hr h => ?_)
  · obtain ⟨_, _, _, _, _, rfl, _⟩ := h
    rfl
  · obtain ⟨p, l, nb, many, ns, rfl, hd, hn, hm, ok, q⟩ := h
    refine ⟨_, (pss_cons (ps_set (i := 3) sc__law_tale.nd rfl (Or.inl rfl) (pe_lst pa_nil))
    (Evl.pss_cut (ps_for PassesOwn.never rfl (pi_range1 (by rfl) n_range (pa_cons (pe_use C__law_draw (hr.mono (by decide)) rfl (pa_cons (pv 0) (pa_cons (pe_op op_add (pv 2) pe_int) pa_nil))) pa_nil)) (pg_name (i := 4) sc__law_tale.nd rfl (Or.inl rfl))
      (pss_cons (ps_set (i := 5) sc__law_tale.nd rfl (Or.inl rfl) (pe_callTy call_tuple_of (by rfl) n_tuple (by decide +kernel) (pa_cons (pe_callB cr_sortedS (by rfl) n_sorted (by decide +kernel) (pa_cons (pe_lc (own := [("name", 7)]) (g := gName 7) rfl sc__law_tale.nd (pi_seq (pv 1)) (blkOk_by (N := ["heap", "names", "most", "lots", "turn", "lot", "form", "name"]) (sc := defScope s__law_tale) (by decide +kernel)) (fun _ _ _ _ _ => pg_name (i := 7) sc__law_tale.nd rfl (Or.inl rfl)) (fun _ _ _ _ _ => pts_one (pt_cmpR op_eq (pe_use C__law_draw (hr.mono (by decide)) rfl (pa_cons (pv 0) (pa_cons pe_int pa_nil))) pe_int (nomark _))) (fun _ _ _ _ _ => pv 7)) pa_nil)) pa_nil)))
    (pss_cons (ps_set (i := 6) sc__law_tale.nd rfl (Or.inl rfl) (pe_use C__law_draw (hr.mono (by decide)) rfl (pa_cons (pv 0) (pa_cons pe_int pa_nil))))
    (Evl.pss_cut (ps_set (i := 5) sc__law_tale.nd rfl (Or.inl rfl) (pe_ifExp (PW.pt (pw_and (pt_cmpR op_eq (pv 6) pe_int (nomark _)) (pw_and1 (pt_cmpR (op_neD hr.units) (pv 3) (pe_lst pa_nil) (nomark _))))) (pe_ix ix_list (pv 3) (pe_un un_neg pe_int) (fun _ _ => rfl)) (pe_ifExp (PW.pt (pw_or (pt_cmpR (op_eqD hr.units) (pv 5) (pe_tup pa_nil) (nomark _)) (pw_or1 (pt_cmpR op_eq (pv 6) pe_int (nomark _))))) (pe_tup (pa_cons (pe_use C__law_pick (hr.mono (by decide)) rfl (pa_cons (pv 0) (pa_cons (pv 1) pa_nil))) pa_nil)) (pv 5))))
    (pss_one (ps_expr (pe_bm PySem.F.plainAttrs_list PySem.F.slot_list_append PySem.F.type_list_append mt_append (pv 3) (pa_cons (pv 5) pa_nil))))))))
    (pss_one (ps_ret (pv 3))))), ?_⟩
    refine ⟨by show 0 ≤ sizeLine; decide, fun tp ktp => ?_⟩
    obtain ⟨tp1, tp2⟩ := hd.ne_none ktp
    have s1 := same_new ktp (.lst [])
    have etp : upd H tp (.lst []) tp = some (.lst []) := upd_same
    have hd1 := hd.same s1
    have hn1 := s1 _ _ hn
    have kin : ∀ H', Kept3 p l tp (upd H tp (.lst [])) H' → Kept2 p l H H' := fun H' k b o e x y => k b o (s1 _ _ e) x y (ne_of_none e ktp)
    generalize upd H tp (.lst []) = H1 at s1 etp hd1 hn1 kin ⊢
    obtain ⟨nb1, nb2⟩ := hd1.ne_tup hn1
    have nb3 : nb ≠ tp := fun z => by rw [z, etp] at hn1; cases hn1
    let St : L2.St → Prop := fun σ => ∃ o4 o5 o6 o7, σ = [some (.ref p), some (.ref nb), some (.int many), some (.ref tp), o4, o5, o6, o7]
    let Inv : Hp → Nat → Prop := fun H' n => ∃ its lots, Kept3 p l tp H1 H' ∧ DealAt H' p l ∧ H' tp = some (.lst its) ∧ All2 (LotH H') its lots ∧ (∀ x ∈ lots, LotOk ns x) ∧ lots.length = n
    refine ⟨fun σ H' => St σ ∧ ∃ n, Inv H' n ∧ ((n : Nat) : Int) ≤ many, ?_, ?_⟩
    · refine ⟨_, rfl, _, rfl, _, _, rfl, rfl, p, l, many + 1, rfl, by omega, hd1, fun d H2 d0 d1 k2 hd2 => ?_⟩
      have k02 : Kept3 p l tp H1 H2 := fun b o e x y _ => k2 b o e x y
      refine ⟨d, rfl, by omega, by omega, ?_⟩
      refine for_sq (wk_range (a := tp)) (fun i σ H' => St σ ∧ Inv H' i) ⟨⟨none, none, none, none, rfl⟩, [], [], k02, hd2, k2 _ _ etp tp1 tp2, .nil, (fun x hx => by cases hx), rfl⟩ (fun _ _ _ _ => trivial) ?_ ?_
      · rintro i σ H3 x ex ⟨⟨o4, o5, o6, o7, rfl⟩, its, lots, k3, hd3, et3, al3, okl, ln⟩
        have hi : i < d.toNat := by
          have := (List.getElem?_eq_some_iff.mp ex).1
          rw [List.length_map, List.length_range] at this
          omega
        have hn3 : H3 nb = some (.tup (ns.map V.str)) := k3 _ _ hn1 nb1 nb2 nb3
        refine ⟨_, rfl, nb, _, rfl, SqX.tup hn3, fun J S W z0 D hD => ?_⟩
        obtain ⟨D1, D2⟩ := hd3.ne_none hD
        have D3 : D ≠ tp := (ne_of_none et3 hD).symm
        have D4 : D ≠ nb := (ne_of_none hn3 hD).symm
        refine lc_go W (fun j H' => Kept2 p l H3 H' ∧ DealAt H' p l ∧ ∃ xs : List Str, H' D = some (.lst (xs.map V.str)) ∧ xs.Sublist (ns.take j)) ⟨?_, ?_, [], upd_same, List.nil_sublist _⟩ (fun j H' m => W.keep (fun o e => by rw [hn3] at e; cases e; exact m.1 _ _ hn3 nb1 nb2) z0) ?_ ?_
        · exact fun b o e _ _ => by rw [upd_ne (ne_of_none e hD)]; exact e
        · exact hd3.put D1.symm D2.symm
        · rintro j y H4 ey ⟨k4, hd4, xs, eD, sub⟩
          obtain ⟨nm, en⟩ : ∃ nm, ns[j]? = some nm := ⟨_, List.getElem?_eq_getElem (by have := (List.getElem?_eq_some_iff.mp ey).1; rwa [List.length_map] at this)⟩
          obtain rfl := at_map ey en
          refine ⟨rfl, _, rfl, p, l, 2, rfl, by decide, hd4, fun d' H5 _ _ k5 hd5 => ?_⟩
          have eD5 := k5 _ _ eD D1 D2
          have lx : xs.length ≤ 4 := Nat.le_trans sub.length_le (Nat.le_trans (List.length_take_le' ..) ok.ln)
          refine ⟨rfl, _, rfl, iteD (fun c => ⟨_, rfl, _, eD5, by rw [List.length_map, sizeLine_eq]; omega, fun b o e x y => ?_, hd5.put D1.symm D2.symm, xs ++ [nm], by rw [upd_same, List.map_append]; rfl, sub_yes sub en⟩) fun c => ⟨k4.trans k5, hd5, xs, eD5, sub_no sub⟩⟩
          rw [upd_ne (ne_of_none e hD)]
          exact (k4.trans k5) b o e x y
        · rintro H4 ⟨k4, hd4, xs, eD, sub⟩
          rw [List.length_map, List.take_length] at sub
          refine ⟨D, xs, rfl, SqL.of eD, by have := sub.length_le; have := ok.ln; omega, fun ys sp pm so ksp => ⟨sp, _, rfl, .inl ⟨SqL.of upd_same, fun tq ktq => ?_⟩⟩⟩
          obtain ⟨asc, inn⟩ := lotOk_sort ok sub pm so
          have s5 := (same_new ksp (.lst (ys.map V.str))).trans (same_new ktq (.tup (ys.map V.str)))
          have eq5 : upd (upd H4 sp (.lst (ys.map V.str))) tq (.tup (ys.map V.str)) tq = some (.tup (ys.map V.str)) := upd_same
          generalize upd (upd H4 sp (.lst (ys.map V.str))) tq (.tup (ys.map V.str)) = H5 at s5 eq5 ⊢
          have hd5 := hd4.same s5
          refine ⟨_, rfl, p, l, 4, rfl, by decide, hd5, fun fm H6 _ _ k6 hd6 => ?_⟩
          have k36 : Kept2 p l H3 H6 := k4.trans ((Kept2.same s5).trans k6)
          have et6 : H6 tp = some (.lst its) := k36 _ _ et3 tp1 tp2
          have al6 := al3.imp fun _ _ t => t.fix (k36.fix hd3)
          obtain ⟨q1, q2⟩ := hd5.ne_tup eq5
          have eq6 := k6 _ _ eq5 q1 q2
          refine ⟨fun σ H' => ∃ v lot, σ = [some (.ref p), some (.ref nb), some (.int many), some (.ref tp), some x, some v, some (.int fm), o7] ∧ Kept2 p l H6 H' ∧ DealAt H' p l ∧ LotH H' v lot ∧ LotOk ns lot, ?_, ?_⟩
          · refine ⟨_, rfl, rfl, _, rfl, ?_⟩
            by_cases c1 : fm = 0
            · rw [decide_eq_true (by rw [c1])]
              refine iteT ⟨_, rfl, by show 0 ≤ sizeLine; decide, fun t7 kt7 => ?_⟩
              have s7 := same_new kt7 (.lst [])
              have e7 : upd H6 t7 (.lst []) t7 = some (.lst []) := upd_same
              generalize upd H6 t7 (.lst []) = H7 at s7 e7 ⊢
              have al7 := al6.imp fun _ _ t => t.fix (Fix.of s7)
              refine ⟨.list (lots.map fun l => .tuple (l.map .str)), .list [], .lst (SqL.of (s7 _ _ et6)) (dp_all (fun _ _ h => h.dp) al7), .lst (SqL.of e7) .nil, (sh_lst (n := 1) fun l hl => sh_lot fun x hx => ok.nm x ((okl l hl).2.2 x hx)).ok (by decide), by decide, _, rfl, ?_⟩
              rcases List.eq_nil_or_concat lots with el | ⟨ms, z, el⟩
              · rw [el]
                refine iteF ?_
                refine ⟨_, rfl, by show 0 ≤ sizeLine; decide, fun t8 kt8 => ?_⟩
                have s8 := same_new kt8 (.tup [])
                have e8 : upd H7 t8 (.tup []) t8 = some (.tup []) := upd_same
                generalize upd H7 t8 (.tup []) = H8 at s8 e8 ⊢
                have eq8 := (s7.trans s8) _ _ eq6
                have hd8 := hd6.same (s7.trans s8)
                have hn8 : H8 nb = some (.tup (ns.map V.str)) := (s7.trans s8) _ _ (k36 _ _ hn3 nb1 nb2)
                refine ⟨.tuple (ys.map .str), .tuple [], .tup (SqT.of eq8) (dp_strs _), .tup (SqT.of e8) .nil, (sh_lot fun x hx => ok.nm x (inn x hx)).ok (by decide), by decide, _, rfl, ?_⟩
                rw [show PyData.eqv (.tuple (ys.map .str)) (.tuple []) = decide (ys = []) from eqvAll_map eqv_str ys []]
                by_cases cy : ys = []
                · rw [decide_eq_true cy]
                  refine iteT (iteT ?_)
                  refine ⟨_, rfl, _, rfl, p, l, nb, ns.map V.str, rfl, hd8, fun H' k => SqX.tup (k _ _ hn8 nb1 nb2), ⟨by rw [List.length_map]; have := List.length_pos_iff.mpr ok.ne; omega, by rw [List.length_map]; have := ok.ln; omega⟩, fun xx H9 hx k9 hd9 => ⟨by show 1 ≤ sizeLine; decide, fun t9 kt9 => ?_⟩⟩
                  obtain ⟨nm, hnm, rfl⟩ := List.mem_map.mp hx
                  have s9 := same_new kt9 (.tup [V.str nm])
                  exact ⟨_, [nm], rfl, ((Kept2.same (s7.trans s8)).trans k9).trans (Kept2.same s9), hd9.same s9, ⟨t9, rfl, upd_same⟩, by simp, List.pairwise_singleton _ _, fun x hx => by rw [List.mem_singleton.mp hx]; exact hnm⟩
                · rw [decide_eq_false cy]
                  refine iteF ⟨_, rfl, rfl, _, rfl, ?_⟩
                  by_cases c2 : fm = 1
                  · rw [decide_eq_true (by rw [c2])]
                    refine iteT ?_
                    refine ⟨_, rfl, _, rfl, p, l, nb, ns.map V.str, rfl, hd8, fun H' k => SqX.tup (k _ _ hn8 nb1 nb2), ⟨by rw [List.length_map]; have := List.length_pos_iff.mpr ok.ne; omega, by rw [List.length_map]; have := ok.ln; omega⟩, fun xx H9 hx k9 hd9 => ⟨by show 1 ≤ sizeLine; decide, fun t9 kt9 => ?_⟩⟩
                    obtain ⟨nm, hnm, rfl⟩ := List.mem_map.mp hx
                    have s9 := same_new kt9 (.tup [V.str nm])
                    exact ⟨_, [nm], rfl, ((Kept2.same (s7.trans s8)).trans k9).trans (Kept2.same s9), hd9.same s9, ⟨t9, rfl, upd_same⟩, by simp, List.pairwise_singleton _ _, fun x hx => by rw [List.mem_singleton.mp hx]; exact hnm⟩
                  · rw [decide_eq_false (fun e => c2 (by injection e))]
                    exact iteF ⟨_, rfl, _, ys, rfl, Kept2.same (s7.trans s8), hd8, ⟨tq, rfl, eq8⟩, cy, asc, inn⟩
              · rw [List.concat_eq_append] at el
                subst el
                rw [show PyData.eqv (.list ((ms ++ [z]).map fun l => .tuple (l.map .str))) (.list []) = false by cases ms <;> rfl]
                obtain ⟨jts, vz, rfl, hvz, alz⟩ := all2_snoc al7
                refine iteT ⟨_, rfl, 1, rfl, tp, _, (-1 : Int), vz, rfl, rfl, SqL.of (s7 _ _ et6), atI_last _ _, vz, z, rfl, Kept2.same s7, hd6.same s7, hvz, okl z (List.mem_append_right _ (List.mem_singleton.mpr rfl))⟩
            · rw [decide_eq_false (fun e => c1 (by injection e))]
              have s7 := Same.refl H6
              refine iteF ?_
              refine ⟨_, rfl, by show 0 ≤ sizeLine; decide, fun t8 kt8 => ?_⟩
              have s8 := same_new kt8 (.tup [])
              have e8 : upd H6 t8 (.tup []) t8 = some (.tup []) := upd_same
              generalize upd H6 t8 (.tup []) = H8 at s8 e8 ⊢
              have eq8 := (s7.trans s8) _ _ eq6
              have hd8 := hd6.same (s7.trans s8)
              have hn8 : H8 nb = some (.tup (ns.map V.str)) := (s7.trans s8) _ _ (k36 _ _ hn3 nb1 nb2)
              refine ⟨.tuple (ys.map .str), .tuple [], .tup (SqT.of eq8) (dp_strs _), .tup (SqT.of e8) .nil, (sh_lot fun x hx => ok.nm x (inn x hx)).ok (by decide), by decide, _, rfl, ?_⟩
              rw [show PyData.eqv (.tuple (ys.map .str)) (.tuple []) = decide (ys = []) from eqvAll_map eqv_str ys []]
              by_cases cy : ys = []
              · rw [decide_eq_true cy]
                refine iteT (iteT ?_)
                refine ⟨_, rfl, _, rfl, p, l, nb, ns.map V.str, rfl, hd8, fun H' k => SqX.tup (k _ _ hn8 nb1 nb2), ⟨by rw [List.length_map]; have := List.length_pos_iff.mpr ok.ne; omega, by rw [List.length_map]; have := ok.ln; omega⟩, fun xx H9 hx k9 hd9 => ⟨by show 1 ≤ sizeLine; decide, fun t9 kt9 => ?_⟩⟩
                obtain ⟨nm, hnm, rfl⟩ := List.mem_map.mp hx
                have s9 := same_new kt9 (.tup [V.str nm])
                exact ⟨_, [nm], rfl, ((Kept2.same (s7.trans s8)).trans k9).trans (Kept2.same s9), hd9.same s9, ⟨t9, rfl, upd_same⟩, by simp, List.pairwise_singleton _ _, fun x hx => by rw [List.mem_singleton.mp hx]; exact hnm⟩
              · rw [decide_eq_false cy]
                refine iteF ⟨_, rfl, rfl, _, rfl, ?_⟩
                by_cases c2 : fm = 1
                · rw [decide_eq_true (by rw [c2])]
                  refine iteT ?_
                  refine ⟨_, rfl, _, rfl, p, l, nb, ns.map V.str, rfl, hd8, fun H' k => SqX.tup (k _ _ hn8 nb1 nb2), ⟨by rw [List.length_map]; have := List.length_pos_iff.mpr ok.ne; omega, by rw [List.length_map]; have := ok.ln; omega⟩, fun xx H9 hx k9 hd9 => ⟨by show 1 ≤ sizeLine; decide, fun t9 kt9 => ?_⟩⟩
                  obtain ⟨nm, hnm, rfl⟩ := List.mem_map.mp hx
                  have s9 := same_new kt9 (.tup [V.str nm])
                  exact ⟨_, [nm], rfl, ((Kept2.same (s7.trans s8)).trans k9).trans (Kept2.same s9), hd9.same s9, ⟨t9, rfl, upd_same⟩, by simp, List.pairwise_singleton _ _, fun x hx => by rw [List.mem_singleton.mp hx]; exact hnm⟩
                · rw [decide_eq_false (fun e => c2 (by injection e))]
                  exact iteF ⟨_, rfl, _, ys, rfl, Kept2.same (s7.trans s8), hd8, ⟨tq, rfl, eq8⟩, cy, asc, inn⟩
          · rintro σ H7 ⟨v, lot, rfl, k7, hd7, hl, lo⟩
            have et7 : H7 tp = some (.lst its) := k7 _ _ et6 tp1 tp2
            have k37 := k36.trans k7
            refine ⟨_, rfl, .inl ⟨rfl, _, SqL.of et7⟩, _, rfl, tp, its, v, rfl, rfl, et7, ?_, ⟨_, _, _, _, rfl⟩, its ++ [v], lots ++ [lot], (k3.two k37).put, hd7.put tp1.symm tp2.symm, upd_same, ?_, ?_, by rw [List.length_append, ln]; rfl⟩
            · have := al3.len; rw [sizeLine_eq]; omega
            · exact ((al6.imp fun _ _ t => t.fix (k7.fix hd6)).imp fun _ _ t => t.put et7).app (.cons (hl.put et7) .nil)
            · intro x hx
              rcases List.mem_append.mp hx with h | h
              · exact okl x h
              · rw [List.mem_singleton.mp h]; exact lo
      · rintro σ H3 ⟨st, iv⟩
        rw [List.length_map, List.length_range] at iv
        exact ⟨st, _, iv, by omega⟩
    rintro σ H2 ⟨⟨o4, o5, o6, o7, rfl⟩, n, ⟨its, lots, k2, hd2, et2, al, okl, ln⟩, nm⟩
    exact ⟨_, rfl, q tp its lots H2 ktp (kin _ k2) hd2 et2 al okl (by omega)⟩
end
end K6

namespace K6
open PySem PySem.Spec PyProof.Rows L2 Hb St Sq Ow En Zp RZ Rd Xb Da Lg
theorem LotOk.sub {ns l m : List Str} (h : LotOk ns l) (s : m.Sublist l) (n : m ≠ []) : LotOk ns m := ⟨n, h.2.1.sublist s, fun x hx => h.2.2 x (s.subset hx)⟩
theorem cut_from {xs : List V} {n : Nat} : cutV xs (some (n : Nat)) none = xs.drop n := by
  unfold cutV
  rw [HT.sIx_none, HT.sIx_nat]
  by_cases h : n ≤ xs.length
  · rw [Nat.min_eq_left h, List.take_of_length_le (by rw [List.length_drop]; exact Nat.le_refl _)]
  · rw [List.drop_eq_nil_of_le (as := xs) (i := n) (by omega), Nat.min_eq_right (by omega), List.drop_length, List.take_nil]
theorem nodup_len {α : Type} [DecidableEq α] : ∀ {l m : List α}, l.Nodup → (∀ x ∈ l, x ∈ m) → l.length ≤ m.length
  | [], _, _, _ => Nat.zero_le _
  | a :: l, m, nd, s => by
    obtain ⟨n1, n2⟩ := List.nodup_cons.mp nd
    have h := nodup_len (l := l) (m := m.erase a) n2 fun x hx => (List.mem_erase_of_ne (show x ≠ a from fun e => n1 (by rw [← e]; exact hx))).mpr (s x (List.mem_cons_of_mem _ hx))
    have ha := s a List.mem_cons_self
    have := List.length_erase_of_mem ha
    have := List.length_pos_of_mem ha
    rw [List.length_cons]; omega
theorem all2_take {α β : Type} {R : α → β → Prop} : ∀ {xs : List α} {ys : List β}, All2 R xs ys → ∀ n, All2 R (xs.take n) (ys.take n)
  | _, _, .nil, n => by rw [List.take_nil, List.take_nil]; exact .nil
  | _, _, .cons r t, 0 => .nil
  | _, _, .cons r t, n + 1 => .cons r (all2_take t n)
theorem all2_drop {α β : Type} {R : α → β → Prop} : ∀ {xs : List α} {ys : List β}, All2 R xs ys → ∀ n, All2 R (xs.drop n) (ys.drop n)
  | _, _, .nil, n => by rw [List.drop_nil, List.drop_nil]; exact .nil
  | _, _, .cons r t, 0 => .cons r t
  | _, _, .cons r t, n + 1 => all2_drop t n
theorem fresh2 {p l c : Addr} {H H' : Hp} (k : Kept2 p l H H') (d : DealAt H' p l) (e : H' c = none) : H c = none := by
  obtain ⟨n1, n2⟩ := d.ne_none e
  cases h : H c with
  | none => rfl
  | some o => rw [k c o h n1 n2] at e; cases e
section
variable {P : Program} {w : World} {K : PySem.W.Frag} {mg : Str → Option Value} {base : Heap}
/-! ### _law_less -/
abbrev s__law_less : Stmt := top 33
theorem sc__law_less : FnScope ["heap", "lots", "found", "lot", "at", "name"] ["heap", "lots"] (defScope s__law_less) := ⟨rfl, rfl, rfl, by decide +kernel, rfl, by decide +kernel, by decide +kernel⟩
def spLess (K : PySem.W.Frag) : Sp := fun vs H Q _ => ∃ (p l a : Addr) (its : List V) (lots : List (List Str)) (ns : List Str), vs = [.ref p, .ref a] ∧ DealAt H p l ∧ H a = some (.lst its) ∧ (a ≠ p ∧ a ≠ l) ∧ All2 (LotH H) its lots ∧ (∀ x ∈ lots, LotOk ns x) ∧ lots.length ≤ 7 ∧ NsOk ns ∧
  ∀ t jts ls H', H t = none → Kept2 p l H H' → DealAt H' p l → H' t = some (.lst jts) → All2 (LotH H') jts ls → (∀ x ∈ ls, LotOk ns x) → ls.length ≤ 8 → Q (.ref t) H'
theorem ok_less {f : Addr} {fd : FuncData} (F : Fun K "_law_less" "_law_less" s__law_less f fd) (C__law_draw : Cl P w K mg base "_law_draw" ["heap", "many"] [] 1 spDraw) (C__law_pick : Cl P w K mg base "_law_pick" ["heap", "some"] [] 2 (spPick K)) (n_len : mg "len" = none) (n_tuple : mg "tuple" = none) : FnOk P w K mg base CX0 3 f fd ["heap", "lots"] (spLess K) := by
  refine F.ok sc__law_less (fun vs H Q E h => ?_) (fun cdv A outer s H vs Q E hr h => ?_)
  · obtain ⟨_, _, _, _, _, _, rfl, _⟩ := h
    rfl
  · obtain ⟨p, l, a, its, lots, ns, rfl, hd, ea, ⟨a1, a2⟩, al, okl, ll, ok, q⟩ := h
    refine ⟨_, (pss_cons (ps_set (i := 2) sc__law_less.nd rfl (Or.inl rfl) (pe_lst pa_nil))
    (Evl.pss_cut (ps_for PassesOwn.never rfl (pi_seq (pv 1)) (pg_name (i := 3) sc__law_less.nd rfl (Or.inl rfl))
      (pss_cons (ps_set (i := 3) sc__law_less.nd rfl (Or.inl rfl) (pe_callTy call_tuple_of (by rfl) n_tuple (by decide +kernel) (pa_cons (pe_lc (own := [("name", 5)]) (g := gName 5) rfl sc__law_less.nd (pi_seq (pv 3)) (blkOk_by (N := ["heap", "lots", "found", "lot", "at", "name"]) (sc := defScope s__law_less) (by decide +kernel)) (fun _ _ _ _ _ => pg_name (i := 5) sc__law_less.nd rfl (Or.inl rfl)) (fun _ _ _ _ _ => pts_one (pt_cmpR op_gt (pe_use C__law_draw (hr.mono (by decide)) rfl (pa_cons (pv 0) (pa_cons pe_int pa_nil))) pe_int (nomark _))) (fun _ _ _ _ _ => pv 5)) pa_nil)))
    (pss_one (ps_set (i := 2) sc__law_less.nd rfl (Or.inl rfl) (pe_op op_cat (pv 2) (pe_ifExp (pt_cmpR (op_neD hr.units) (pv 3) (pe_tup pa_nil) (nomark _)) (pe_lst (pa_cons (pv 3) pa_nil)) (pe_lst pa_nil)))))))
    (Evl.pss_cut (ps_if (PW.pt (pw_and (pt_cmpR (op_neD hr.units) (pv 1) (pe_lst pa_nil) (nomark _)) (pw_and1 (pt_cmpR op_eq (pe_use C__law_draw (hr.mono (by decide)) rfl (pa_cons (pv 0) (pa_cons pe_int pa_nil))) pe_int (nomark _))))) (pss_cons (ps_set (i := 4) sc__law_less.nd rfl (Or.inl rfl) (pe_use C__law_draw (hr.mono (by decide)) rfl (pa_cons (pv 0) (pa_cons (pe_op op_add (pe_callB call_len_seq (by rfl) n_len PySem.boot_len (pa_cons (pv 2) pa_nil)) pe_int) pa_nil))))
    (pss_one (ps_set (i := 2) sc__law_less.nd rfl (Or.inl rfl) (pe_op op_cat (pe_op op_cat (pe_slice (r := rSlL K) sl_list (pv 2) po_none (po_some (pv 4))) (pe_lst (pa_cons (pe_use C__law_pick (hr.mono (by decide)) rfl (pa_cons (pv 0) (pa_cons (pv 1) pa_nil))) pa_nil))) (pe_slice (r := rSlL K) sl_list (pv 2) (po_some (pv 4)) po_none))))) pss_nil)
    (pss_one (ps_ret (pv 2)))))), ?_⟩
    refine ⟨by show 0 ≤ sizeLine; decide, fun fp kfp => ?_⟩
    have s1 := same_new kfp (.lst [])
    have efp : upd H fp (.lst []) fp = some (.lst []) := upd_same
    have hd1 := hd.same s1
    have ea1 := s1 _ _ ea
    have al1 := al.imp fun _ _ t => t.fix (Fix.of s1)
    have kin : ∀ H', Kept2 p l (upd H fp (.lst [])) H' → Kept2 p l H H' := fun H' k => (Kept2.same s1).trans k
    have frs : ∀ b, upd H fp (.lst []) b = none → H b = none := fun b e => by
      cases h : H b with
      | none => rfl
      | some o => rw [s1 _ _ h] at e; cases e
    have ffp : fp ≠ p ∧ fp ≠ l := hd.ne_none kfp
    generalize upd H fp (.lst []) = H1 at s1 efp hd1 ea1 al1 kin frs ⊢
    have la : its.length = lots.length := al.len
    let St : Addr → L2.St → Prop := fun g σ => ∃ o3 o4 o5, σ = [some (.ref p), some (.ref a), some (.ref g), o3, o4, o5]
    let Inv : Addr → Hp → Nat → Prop := fun g H' n => Kept2 p l H1 H' ∧ DealAt H' p l ∧ (g ≠ p ∧ g ≠ l) ∧ H g = none ∧ ∃ jts ls, H' g = some (.lst jts) ∧ All2 (LotH H') jts ls ∧ (∀ x ∈ ls, LotOk ns x) ∧ ls.length ≤ n
    refine ⟨fun σ H' => ∃ g, St g σ ∧ Inv g H' lots.length, ?_, ?_⟩
    · refine ⟨_, rfl, a, its, rfl, SqX.lst ea1, fun J S W z0 => ?_⟩
      refine for_sq W (fun i σ H' => ∃ g, St g σ ∧ Inv g H' i) ⟨fp, ⟨none, none, none, rfl⟩, Kept2.refl _ _ _, hd1, ffp, kfp, [], [], efp, .nil, (fun x hx => by cases hx), Nat.le_refl _⟩ (fun j σ H' pv => W.keep (fun o e => let ⟨_, _, k, _⟩ := pv; k _ _ e a1 a2) z0) ?_ ?_
      · rintro i σ H2 x ex ⟨g, ⟨o3, o4, o5, rfl⟩, k2, hd2, ⟨g1, g2⟩, kg, jts, ls, eg, alj, okj, lj⟩
        have al2 := al1.imp fun _ _ t => t.fix (k2.fix hd1)
        obtain ⟨lot, elot, lb, rfl, elb⟩ := al2.get ex
        have lo := okl lot (at_mem elot)
        have lln : lot.length ≤ 4 := Nat.le_trans (nodup_len (asc_nodupS lo.2.1) lo.2.2) ok.ln
        obtain ⟨lb1, lb2⟩ := hd2.ne_tup elb
        refine ⟨_, rfl, lb, _, rfl, SqX.tup elb, fun J2 S2 W2 z2 D hD => ?_⟩
        obtain ⟨D1, D2⟩ := hd2.ne_none hD
        refine lc_go W2 (fun j H' => Kept2 p l H2 H' ∧ DealAt H' p l ∧ ∃ xs : List Str, H' D = some (.lst (xs.map V.str)) ∧ xs.Sublist (lot.take j)) ⟨?_, ?_, [], upd_same, List.nil_sublist _⟩ (fun j H' m => W2.keep (fun o e => by rw [elb] at e; cases e; exact m.1 _ _ elb lb1 lb2) z2) ?_ ?_
        · exact fun b o e _ _ => by rw [upd_ne (ne_of_none e hD)]; exact e
        · exact hd2.put D1.symm D2.symm
        · rintro j y H4 ey ⟨k4, hd4, xs, eD, sub⟩
          obtain ⟨nm, en⟩ : ∃ nm, lot[j]? = some nm := ⟨_, List.getElem?_eq_getElem (by have := (List.getElem?_eq_some_iff.mp ey).1; rwa [List.length_map] at this)⟩
          obtain rfl := at_map ey en
          refine ⟨rfl, _, rfl, p, l, 3, rfl, by decide, hd4, fun d' H5 _ _ k5 hd5 => ?_⟩
          have eD5 := k5 _ _ eD D1 D2
          have lx : xs.length ≤ 4 := Nat.le_trans sub.length_le (Nat.le_trans (List.length_take_le' ..) lln)
          refine ⟨_, _, rfl, rfl, _, rfl, iteD (fun c => ⟨_, rfl, _, eD5, by rw [List.length_map, sizeLine_eq]; omega, fun b o e x y => ?_, hd5.put D1.symm D2.symm, xs ++ [nm], by rw [upd_same, List.map_append]; rfl, sub_yes sub en⟩) fun c => ⟨k4.trans k5, hd5, xs, eD5, sub_no sub⟩⟩
          rw [upd_ne (ne_of_none e hD)]
          exact (k4.trans k5) b o e x y
        · rintro H4 ⟨k4, hd4, xs, eD, sub⟩
          rw [List.length_map, List.take_length] at sub
          refine ⟨D, _, rfl, .inl ⟨SqL.of eD, fun tq ktq => ?_⟩⟩
          have s5 := same_new ktq (.tup (xs.map V.str))
          have eq5 : upd H4 tq (.tup (xs.map V.str)) tq = some (.tup (xs.map V.str)) := upd_same
          generalize upd H4 tq (.tup (xs.map V.str)) = H5 at s5 eq5 ⊢
          have k25 := k4.trans (Kept2.same s5)
          have eg5 := k25 _ _ eg g1 g2
          have alj5 := alj.imp fun _ _ t => t.fix (k25.fix hd2)
          have hd5 := hd4.same s5
          refine ⟨_, rfl, _, rfl, by show 0 ≤ sizeLine; decide, fun t6 kt6 => ?_⟩
          have s6 := same_new kt6 (.tup [])
          have e6 : upd H5 t6 (.tup []) t6 = some (.tup []) := upd_same
          generalize upd H5 t6 (.tup []) = H6 at s6 e6 ⊢
          refine ⟨.tuple (xs.map .str), .tuple [], .tup (SqT.of (s6 _ _ eq5)) (dp_strs _), .tup (SqT.of e6) .nil, (sh_lot fun x hx => ok.nm x (lo.2.2 x (sub.subset hx))).ok (by decide), by decide, _, rfl, ?_⟩
          rw [show PyData.eqv (.tuple (xs.map .str)) (.tuple []) = decide (xs = []) from eqvAll_map eqv_str xs []]
          have ljt : jts.length ≤ 7 := by
            have := alj.len
            have hi : i < its.length := (List.getElem?_eq_some_iff.mp ex).1
            omega
          have s56 := s6
          have hd6 := hd5.same s6
          have k16 := k2.trans (k25.trans (Kept2.same s6))
          have eg6 := s6 _ _ eg5
          have alj6 := alj5.imp fun _ _ t => t.fix (Fix.of s6)
          by_cases cx : xs = []
          · rw [decide_eq_true cx]
            refine iteF ⟨by show 0 ≤ sizeLine; decide, fun t7 kt7 => ?_⟩
            have s7 := same_new kt7 (.lst [])
            have e7 : upd H6 t7 (.lst []) t7 = some (.lst []) := upd_same
            generalize upd H6 t7 (.lst []) = H7 at s7 e7 ⊢
            have hd7 := hd6.same s7
            have k17 := k16.trans (Kept2.same s7)
            refine ⟨g, t7, jts, [], rfl, rfl, s7 _ _ eg6, e7, by rw [sizeLine_eq]; show _ + 0 ≤ _; omega, fun g' kg' => ?_⟩
            have s8 := same_new kg' (.lst (jts ++ []))
            exact ⟨g', ⟨_, _, _, rfl⟩, k17.trans (Kept2.same s8), hd7.same s8, hd7.ne_none kg', frs _ (fresh2 k17 hd7 kg'), jts ++ [], ls ++ [], upd_same, ((alj6.imp fun _ _ t => t.fix (Fix.of s7)).imp fun _ _ t => t.fix (Fix.of s8)).app .nil, (by rw [List.append_nil]; exact okj), by rw [List.append_nil]; omega⟩
          · rw [decide_eq_false cx]
            refine iteT ⟨_, rfl, by show 1 ≤ sizeLine; decide, fun t7 kt7 => ?_⟩
            have s7 := same_new kt7 (.lst [.ref tq])
            have e7 : upd H6 t7 (.lst [.ref tq]) t7 = some (.lst [.ref tq]) := upd_same
            generalize upd H6 t7 (.lst [.ref tq]) = H7 at s7 e7 ⊢
            have hd7 := hd6.same s7
            have k17 := k16.trans (Kept2.same s7)
            refine ⟨g, t7, jts, [.ref tq], rfl, rfl, s7 _ _ eg6, e7, by rw [sizeLine_eq]; show _ + 1 ≤ _; omega, fun g' kg' => ?_⟩
            have s8 := same_new kg' (.lst (jts ++ [.ref tq]))
            refine ⟨g', ⟨_, _, _, rfl⟩, k17.trans (Kept2.same s8), hd7.same s8, hd7.ne_none kg', frs _ (fresh2 k17 hd7 kg'), jts ++ [.ref tq], ls ++ [xs], upd_same, ((alj6.imp fun _ _ t => t.fix (Fix.of s7)).imp fun _ _ t => t.fix (Fix.of s8)).app (.cons ⟨tq, rfl, ((s6.trans s7).trans s8) _ _ eq5⟩ .nil), (fun z hz => ?_), by rw [List.length_append]; show _ + 1 ≤ _; omega⟩
            rcases List.mem_append.mp hz with h | h
            · exact okj z h
            · rw [List.mem_singleton.mp h]; exact lo.sub sub cx
      · rintro σ H2 ⟨g, st, iv⟩
        rw [la] at iv
        exact ⟨g, st, iv⟩
    rintro σ H2 ⟨g, ⟨o3, o4, o5, rfl⟩, k2, hd2, ⟨g1, g2⟩, kg, jts, ls, eg, alj, okj, lj⟩
    have ea2 := k2 _ _ ea1 a1 a2
    have al2 := al1.imp fun _ _ t => t.fix (k2.fix hd1)
    refine ⟨fun σ H' => ∃ g, St g σ ∧ Inv g H' 8, ?_, ?_⟩
    · refine ⟨_, rfl, by show 0 ≤ sizeLine; decide, fun t3 kt3 => ?_⟩
      have s3 := same_new kt3 (.lst [])
      have e3 : upd H2 t3 (.lst []) t3 = some (.lst []) := upd_same
      generalize upd H2 t3 (.lst []) = H3 at s3 e3 ⊢
      have al3 := al2.imp fun _ _ t => t.fix (Fix.of s3)
      have hd3 := hd2.same s3
      have k13 := k2.trans (Kept2.same s3)
      have eg3 := s3 _ _ eg
      have alj3 := alj.imp fun _ _ t => t.fix (Fix.of s3)
      have ea3 := s3 _ _ ea2
      refine ⟨.list (lots.map fun l => .tuple (l.map .str)), .list [], .lst (SqL.of ea3) (dp_all (fun _ _ h => h.dp) al3), .lst (SqL.of e3) .nil, (sh_lst (n := 1) fun l hl => sh_lot fun x hx => ok.nm x ((okl l hl).2.2 x hx)).ok (by decide), by decide, _, rfl, ?_⟩
      by_cases el : lots = []
      · rw [el]
        exact iteF (iteF ⟨g, ⟨_, _, _, rfl⟩, k13, hd3, ⟨g1, g2⟩, kg, jts, ls, eg3, alj3, okj, by omega⟩)
      · rw [show PyData.eqv (.list (lots.map fun l => .tuple (l.map .str))) (.list []) = false by cases lots with | nil => exact absurd rfl el | cons _ _ => rfl]
        refine iteT ⟨_, rfl, p, l, 5, rfl, by decide, hd3, fun d H4 _ _ k4 hd4 => ⟨rfl, _, rfl, ?_⟩⟩
        have k14 := k13.trans k4
        have eg4 := k4 _ _ eg3 g1 g2
        have ea4 := k4 _ _ ea3 a1 a2
        have alj4 := alj3.imp fun _ _ t => t.fix (k4.fix hd3)
        have al4 := al3.imp fun _ _ t => t.fix (k4.fix hd3)
        by_cases c : d = 0
        · rw [decide_eq_true (by rw [c])]
          have ljn : jts.length = ls.length := alj.len
          refine iteT ⟨_, rfl, _, rfl, g, jts, rfl, .inl (SqL.of eg4), _, _, rfl, rfl, p, l, ((jts.length : Nat) : Int) + 1, rfl, by omega, hd4, fun at' H5 t0 t1 k5 hd5 => ?_⟩
          obtain ⟨at', rfl⟩ : ∃ n : Nat, at' = (n : Nat) := ⟨at'.toNat, by omega⟩
          have k15 := k14.trans k5
          have eg5 := k5 _ _ eg4 g1 g2
          refine ⟨_, rfl, _, rfl, _, rfl, g, _, rfl, SqL.of eg5, fun p6 hp6 => ?_⟩
          have s6 := same_new hp6 (.lst (cutV jts none (some (at' : Nat))))
          have e6 : upd H5 p6 (.lst (cutV jts none (some (at' : Nat)))) p6 = some (.lst (jts.take at')) := by rw [upd_same, cut_take]
          generalize upd H5 p6 (.lst (cutV jts none (some (at' : Nat)))) = H6 at s6 e6 ⊢
          obtain ⟨p61, p62⟩ := hd5.ne_none hp6
          have hd6 := hd5.same s6
          have k46 := k5.trans (Kept2.same s6)
          have ea6 := k46 _ _ ea4 a1 a2
          refine ⟨_, rfl, _, rfl, p, l, a, its, rfl, hd6, fun H' k => SqX.lst (k _ _ ea6 a1 a2), ⟨by have := List.length_pos_iff.mpr el; omega, by omega⟩, fun xx H7 hx k7 hd7 => ⟨by show 1 ≤ sizeLine; decide, fun t8 kt8 => ?_⟩⟩
          have k47 := k46.trans k7
          have eg7 := k47 _ _ eg4 g1 g2
          have e67 := k7 _ _ e6 p61 p62
          have al7 := al4.imp fun _ _ t => t.fix (k47.fix hd4)
          have alj7 := alj4.imp fun _ _ t => t.fix (k47.fix hd4)
          obtain ⟨ix, eix⟩ := List.mem_iff_getElem?.mp hx
          obtain ⟨lot, elot, hlot⟩ := al7.get eix
          have s8 := same_new kt8 (.lst [xx])
          have e8 : upd H7 t8 (.lst [xx]) t8 = some (.lst [xx]) := upd_same
          generalize upd H7 t8 (.lst [xx]) = H8 at s8 e8 ⊢
          refine ⟨p6, t8, _, _, rfl, rfl, s8 _ _ e67, e8, by rw [List.length_take, sizeLine_eq]; show _ + 1 ≤ _; omega, fun p9 hp9 => ?_⟩
          have s9 := same_new hp9 (.lst (jts.take at' ++ [xx]))
          have e9 : upd H8 p9 (.lst (jts.take at' ++ [xx])) p9 = some (.lst (jts.take at' ++ [xx])) := upd_same
          generalize upd H8 p9 (.lst (jts.take at' ++ [xx])) = H9 at s9 e9 ⊢
          have eg9 := (s8.trans s9) _ _ eg7
          refine ⟨_, rfl, _, rfl, _, rfl, g, _, rfl, SqL.of eg9, fun pa hpa => ?_⟩
          have s10 := same_new hpa (.lst (cutV jts (some (at' : Nat)) none))
          have e10 : upd H9 pa (.lst (cutV jts (some (at' : Nat)) none)) pa = some (.lst (jts.drop at')) := by rw [upd_same, cut_from]
          generalize upd H9 pa (.lst (cutV jts (some (at' : Nat)) none)) = H10 at s10 e10 ⊢
          have s710 := (s8.trans s9).trans s10
          have k110 := k14.trans (k47.trans (Kept2.same s710))
          have hd10 := hd7.same s710
          refine ⟨p9, pa, _, _, rfl, rfl, s10 _ _ e9, e10, by rw [List.length_append, List.length_take, List.length_drop, sizeLine_eq]; show _ + 1 + _ ≤ _; omega, fun gn hgn => ?_⟩
          have s11 := same_new hgn (.lst (jts.take at' ++ [xx] ++ jts.drop at'))
          have al11 := alj7.imp fun _ _ t => t.fix (Fix.of (s710.trans s11))
          refine ⟨gn, ⟨_, _, _, rfl⟩, k110.trans (Kept2.same s11), hd10.same s11, hd10.ne_none hgn, frs _ (fresh2 k110 hd10 hgn), _, ls.take at' ++ [lot] ++ ls.drop at', upd_same, ((all2_take al11 at').app (.cons (hlot.fix (Fix.of (s710.trans s11))) .nil)).app (all2_drop al11 at'), fun z hz => ?_, by rw [List.length_append, List.length_append, List.length_take, List.length_drop]; show _ + 1 + _ ≤ _; omega⟩
          rcases List.mem_append.mp hz with h | h
          · rcases List.mem_append.mp h with h | h
            · exact okj z (List.mem_of_mem_take h)
            · rw [List.mem_singleton.mp h]; exact okl lot (at_mem elot)
          · exact okj z (List.mem_of_mem_drop h)
        · rw [decide_eq_false (fun e => c (by injection e))]
          exact iteF ⟨g, ⟨_, _, _, rfl⟩, k14, hd4, ⟨g1, g2⟩, kg, jts, ls, eg4, alj4, okj, by omega⟩
    rintro σ H3 ⟨g, ⟨o3, o4, o5, rfl⟩, k3, hd3, ⟨g1, g2⟩, kg, jts, ls, eg, alj, okj, lj⟩
    exact ⟨_, rfl, q g jts ls H3 kg (kin _ k3) hd3 eg alj okj lj⟩
end
end K6

namespace K6
open PySem PySem.Spec PyProof.Rows L2 Hb St Sq Ow En Zp RZ Rd Xb Mn
/-! ### integers, numbers, by their data -/
def intD : PyData → Bool
  | .int _ => true
  | _ => false
def numD : PyData → Bool
  | .int i => decide (0 ≤ i)
  | _ => false
def bolD : PyData → Bool
  | .bool _ => true
  | _ => false
theorem kit_int {K : PySem.W.Frag} {H : Hp} {v : V} {d : PyData} (h : Dp K H v d) : PySem.W.kitOne K (tyD d) (.type "int") = some (intD d || bolD d) := by
  cases h with
  | non => exact kit_ty (a := "NoneType") (b := "int") (r := false) (by decide +kernel)
  | bl b => exact kit_ty (a := "bool") (b := "int") (r := true) (by decide +kernel)
  | int i => exact kit_ty (a := "int") (b := "int") (r := true) (by decide +kernel)
  | str x => exact kit_ty (a := "str") (b := "int") (r := false) (by decide +kernel)
  | lst _ _ => exact kit_ty (a := "list") (b := "int") (r := false) (by decide +kernel)
  | tup _ _ => exact kit_ty (a := "tuple") (b := "int") (r := false) (by decide +kernel)
theorem kit_bool {K : PySem.W.Frag} {H : Hp} {v : V} {d : PyData} (h : Dp K H v d) : PySem.W.kitOne K (tyD d) (.type "bool") = some (bolD d) := by
  cases h with
  | non => exact kit_ty (a := "NoneType") (b := "bool") (r := false) (by decide +kernel)
  | bl b => exact kit_ty (a := "bool") (b := "bool") (r := true) (by decide +kernel)
  | int i => exact kit_ty (a := "int") (b := "bool") (r := false) (by decide +kernel)
  | str x => exact kit_ty (a := "str") (b := "bool") (r := false) (by decide +kernel)
  | lst _ _ => exact kit_ty (a := "list") (b := "bool") (r := false) (by decide +kernel)
  | tup _ _ => exact kit_ty (a := "tuple") (b := "bool") (r := false) (by decide +kernel)
section
variable {P : Program} {w : World} {K : PySem.W.Frag} {mg : Str → Option Value} {base : Heap}
abbrev s_is_integer : Stmt := top 7
theorem sc_is_integer : FnScope ["value"] ["value"] (defScope s_is_integer) := ⟨rfl, rfl, rfl, by decide +kernel, rfl, by decide +kernel, by decide +kernel⟩
def spIsInt (K : PySem.W.Frag) : Sp := fun vs H Q _ => ∃ (v : V) (d : PyData), vs = [v] ∧ Dp K H v d ∧ Q (.bl (intD d)) H
theorem ok_int {f : Addr} {fd : FuncData} (F : Fun K "is_integer" "is_integer" s_is_integer f fd) (n_bool : mg "bool" = none) (n_int : mg "int" = none) (n_isinstance : mg "isinstance" = none) : FnOk P w K mg base CX0 1 f fd ["value"] (spIsInt K) := by
  refine F.ok sc_is_integer (fun vs H Q E h => ?_) (fun cdv A outer s H vs Q E hr h => ?_)
  · obtain ⟨_, _, rfl, _⟩ := h
    rfl
  · obtain ⟨v, d, rfl, hv, q⟩ := h
    refine ⟨_, (pss_one (ps_ret (pe_and (pe_callB call_isi (by rfl) n_isinstance (by decide +kernel) (pa_cons (pv 0) (pa_cons (pe_bltn (v := .ty "int") (by rfl) n_int (by decide +kernel) rfl) pa_nil))) (pe_one (pe_not (pe_callB call_isi (by rfl) n_isinstance (by decide +kernel) (pa_cons (pv 0) (pa_cons (pe_bltn (v := .ty "bool") (by rfl) n_bool (by decide +kernel) rfl) pa_nil)))))))), ?_⟩
    have ty := ty_dp hv
    have ki := kit_int hv
    have kb := kit_bool hv
    have e : intD d = ((intD d || bolD d) && !bolD d) := by cases d <;> rfl
    rw [e] at q
    refine ⟨_, rfl, _, .ty "int", _, _, _, rfl, .ty "int", ty, ki, _, rfl, ?_⟩
    cases c : (intD d || bolD d) with
    | false => rw [c] at q; exact iteF q
    | true =>
      rw [c] at q
      exact iteT ⟨_, rfl, _, .ty "bool", _, _, _, rfl, .ty "bool", ty, kb, _, rfl, q⟩
abbrev s_is_number : Stmt := top 8
theorem sc_is_number : FnScope ["value"] ["value"] (defScope s_is_number) := ⟨rfl, rfl, rfl, by decide +kernel, rfl, by decide +kernel, by decide +kernel⟩
def spIsNum (K : PySem.W.Frag) : Sp := fun vs H Q _ => ∃ (v : V) (d : PyData), vs = [v] ∧ Dp K H v d ∧ Q (.bl (numD d)) H
theorem ok_num {f : Addr} {fd : FuncData} (F : Fun K "is_number" "is_number" s_is_number f fd) (C_is_integer : Cl P w K mg base "is_integer" ["value"] [] 1 (spIsInt K)) : FnOk P w K mg base CX0 2 f fd ["value"] (spIsNum K) := by
  refine F.ok sc_is_number (fun vs H Q E h => ?_) (fun cdv A outer s H vs Q E hr h => ?_)
  · obtain ⟨_, _, rfl, _⟩ := h
    rfl
  · obtain ⟨v, d, rfl, hv, q⟩ := h
    refine ⟨_, (pss_one (ps_ret (pe_and (pe_use C_is_integer (hr.mono (by decide)) rfl (pa_cons (pv 0) pa_nil)) (pe_one (pe_cmpR op_ge (pv 0) pe_int (nomark _)))))), ?_⟩
    refine ⟨_, rfl, v, d, rfl, hv, _, rfl, ?_⟩
    cases hv with
    | int i => exact iteT ⟨_, rfl, _, _, rfl, rfl, q⟩
    | _ => exact iteF q
/-! ### need_prices -/
abbrev s_need_prices : Stmt := top 21
theorem sc_need_prices : FnScope ["missing", "extra"] ["missing", "extra"] (defScope s_need_prices) := ⟨rfl, rfl, rfl, by decide +kernel, rfl, by decide +kernel, by decide +kernel⟩
def errW (x : Str) : HO := .xd [(("word" : Str), .str x)]
def priceE (d e : PyData) : Option Str := if numD d = false then some "missing" else if numD e = false then some "extra" else none
def spPrices (K : PySem.W.Frag) (D : Addr) : Sp := fun vs H Q E => ∃ (v u : V) (d e : PyData), vs = [v, u] ∧ Dp K H v d ∧ Dp K H u e ∧ (priceE d e = none → Q .non H) ∧
  ∀ x, priceE d e = some x → ∀ dd H', Same H H' → H' dd = some (errW x) → E (.ref D) (some dd) H'
theorem ok_prices {f D fD : Addr} {fd : FuncData} (F : Fun K "need_prices" "need_prices" s_need_prices f fd) (TS : Xw.ErrC K mg "InvalidSize" D fD) (C_is_number : Cl P w K mg base "is_number" ["value"] [] 2 (spIsNum K)) : FnOk P w K mg base (L2.CX P w) 3 f fd ["missing", "extra"] (spPrices K D) := by
  refine F.okX sc_need_prices (fun vs H Q E h => ?_) (fun cdv A outer s H vs Q E hr h => ?_)
  · obtain ⟨_, _, _, _, rfl, _⟩ := h
    rfl
  · obtain ⟨v, u, d, e, rfl, hv, hu, q, qe⟩ := h
    refine ⟨_, (Evl.pss_cut (ps_if (pt_not (pt_val (pe_use C_is_number (hr.mono (by decide)) rfl (pa_cons (pv 0) pa_nil)))) (pss_one (Xw.ps_raiseAt rfl TS hr (takes_of rfl rfl rfl rfl) (pa_cons pe_str pa_nil) rfl)) pss_nil)
      (pss_one (ps_if (pt_not (pt_val (pe_use C_is_number (hr.mono (by decide)) rfl (pa_cons (pv 1) pa_nil)))) (pss_one (Xw.ps_raiseAt rfl TS hr (takes_of rfl rfl rfl rfl) (pa_cons pe_str pa_nil) rfl)) pss_nil))), ?_⟩
    unfold priceE at q qe
    refine ⟨fun σ H' => σ = [some v, some u] ∧ H' = H ∧ numD d = true, ?_, ?_⟩
    · refine ⟨_, rfl, v, d, rfl, hv, _, rfl, ?_⟩
      cases c : numD d with
      | true => exact iteF ⟨rfl, rfl, rfl⟩
      | false =>
        rw [c] at qe
        exact iteT ⟨_, rfl, fun dd hn => qe _ rfl dd _ (same_new hn _) upd_same⟩
    rintro σ H' ⟨rfl, rfl, c⟩
    rw [c] at q qe
    refine ⟨_, rfl, u, e, rfl, hu, _, rfl, ?_⟩
    cases c2 : numD e with
    | true => rw [c2] at q; exact iteF (q rfl)
    | false =>
      rw [c2] at qe
      exact iteT ⟨_, rfl, fun dd hn => qe _ rfl dd _ (same_new hn _) upd_same⟩
/-! ### pair_price -/
abbrev s_pair_price : Stmt := top 22
theorem sc_pair_price : FnScope ["lot", "heard", "missing", "extra", "both"] ["lot", "heard", "missing", "extra"] (defScope s_pair_price) := ⟨rfl, rfl, rfl, by decide +kernel, rfl, by decide +kernel, by decide +kernel⟩
def spPair (K : PySem.W.Frag) : Sp := fun vs H Q _ => ∃ (a b : Addr) (xs ys : List Str) (mi ex : Int), vs = [.ref a, .ref b, .int mi, .int ex] ∧ SqT K H a (xs.map V.str) ∧ SqT K H b (ys.map V.str) ∧ xs.length ≤ 1000 ∧ ys.length ≤ 1000 ∧ ∀ H', Same H H' → Q (.int (Kw.pp mi ex xs ys)) H'
theorem ok_pair {f : Addr} {fd : FuncData} (F : Fun K "pair_price" "pair_price" s_pair_price f fd) (C_thin_lot : Cl P w K mg base "thin_lot" ["lot", "names"] [] 1 (spThin K)) (n_len : mg "len" = none) : FnOk P w K mg base CX0 2 f fd ["lot", "heard", "missing", "extra"] (spPair K) := by
  refine F.ok sc_pair_price (fun vs H Q E h => ?_) (fun cdv A outer s H vs Q E hr h => ?_)
  · obtain ⟨_, _, _, _, _, _, rfl, _⟩ := h
    rfl
  · obtain ⟨a, b, xs, ys, mi, ex, rfl, ha, hb, l, l2, q⟩ := h
    refine ⟨_, (pss_cons (ps_set (i := 4) sc_pair_price.nd rfl (Or.inl rfl) (pe_callB call_len_seq (by rfl) n_len PySem.boot_len (pa_cons (pe_use C_thin_lot (hr.mono (by decide)) rfl (pa_cons (pv 0) (pa_cons (pv 1) pa_nil))) pa_nil)))
    (pss_one (ps_ret (pe_op op_add (pe_op op_mul (pv 2) (pe_op op_sub (pe_callB call_len_seq (by rfl) n_len PySem.boot_len (pa_cons (pv 0) pa_nil)) (pv 4))) (pe_op op_mul (pv 3) (pe_op op_sub (pe_callB call_len_seq (by rfl) n_len PySem.boot_len (pa_cons (pv 1) pa_nil)) (pv 4))))))), ?_⟩
    refine ⟨_, rfl, _, rfl, a, b, xs, ys, rfl, ha, hb, l, fun p H' s e => ?_⟩
    have hl : (xs.filter fun x => decide (x ∈ ys)).length ≤ xs.length := List.length_filter_le _ _
    refine ⟨p, _, rfl, .inr (SqT.of e), ?_⟩
    rw [List.length_map]
    refine ⟨_, rfl, _, rfl, a, _, rfl, .inr (tupFix (Fix.of s) ha), ?_⟩
    rw [List.length_map]
    refine ⟨_, rfl, _, _, rfl, rfl, _, _, rfl, rfl, .inr ⟨by omega, by omega⟩, _, rfl, _, rfl, b, _, rfl, .inr (tupFix (Fix.of s) hb), ?_⟩
    rw [List.length_map]
    exact ⟨_, rfl, _, _, rfl, rfl, _, _, rfl, rfl, .inr ⟨by omega, by omega⟩, _, _, rfl, rfl, q H' s⟩
end
end K6

namespace K6
open PySem PySem.Spec PyProof.Rows L2 Hb St Sq Ow En Zp RZ Rd Xb Mn
def StpV (H : Hp) (v : V) (s : Kw.Stp) : Prop := ∃ b, v = .ref b ∧ H b = some (.tup [natV s.1, natV s.2.1, .int s.2.2])
theorem StpV.same {H H' : Hp} {v : V} {s : Kw.Stp} (h : StpV H v s) (k : Same H H') : StpV H' v s := let ⟨b, e, t⟩ := h; ⟨b, e, k _ _ t⟩
theorem StpV.kept {H H' : Hp} {v : V} {s : Kw.Stp} {p : Addr} {xs : List V} (h : StpV H v s) (ep : H p = some (.lst xs)) (k : Kept p H H') : StpV H' v s := let ⟨b, e, t⟩ := h; ⟨b, e, k _ _ t (fun z => by rw [z, ep] at t; cases t)⟩
theorem all2_app {α β : Type} {R : α → β → Prop} : ∀ {xs xs' : List α} {ys ys' : List β}, All2 R xs ys → All2 R xs' ys' → All2 R (xs ++ xs') (ys ++ ys')
  | _, _, _, _, .nil, g => g
  | _, _, _, _, .cons r h, g => .cons r (all2_app h g)
theorem getD_some {α : Type} {l : List α} {i : Nat} {x d : α} (e : l[i]? = some x) : l.getD i d = x := by rw [List.getD_eq_getElem?_getD, e]; rfl
def grd (c : Prop) [Decidable c] (s : Kw.Stp) : List Kw.Stp := if c then [s] else []
theorem steps_grd (mi ex : Int) (ls hs : List (List Str)) (i j : Nat) : Kw.steps mi ex ls hs i j = (grd (0 < i ∧ 0 < j) (i - 1, j - 1, Kw.pp mi ex (ls.getD (i - 1) []) (hs.getD (j - 1) [])) ++ grd (0 < i) (i - 1, j, Kw.pp mi ex (ls.getD (i - 1) []) [])) ++ grd (0 < j) (i, j - 1, Kw.pp mi ex [] (hs.getD (j - 1) [])) := by
  rw [List.append_assoc]; rfl
section
variable {P : Program} {w : World} {K : PySem.W.Frag} {mg : Str → Option Value} {base : Heap}
abbrev s_steps_to : Stmt := top 23
theorem sc_steps_to : FnScope ["lots", "heard", "missing", "extra", "i", "j", "steps"] ["lots", "heard", "missing", "extra", "i", "j"] (defScope s_steps_to) := ⟨rfl, rfl, rfl, by decide +kernel, rfl, by decide +kernel, by decide +kernel⟩
def spSteps (K : PySem.W.Frag) : Sp := fun vs H Q _ => ∃ (a b : Addr) (ls hs : List (List Str)) (mi ex : Int) (i j : Nat), vs = [.ref a, .ref b, .int mi, .int ex, natV i, natV j] ∧ LT K H a ls ∧ LT K H b hs ∧ i ≤ ls.length ∧ j ≤ hs.length ∧ ls.length ≤ 1000 ∧ hs.length ≤ 1000 ∧ (∀ l ∈ ls, l.length ≤ 1000) ∧ (∀ h ∈ hs, h.length ≤ 1000) ∧
  ∀ p its H', Same H H' → H p = none → H' p = some (.lst its) → All2 (StpV H') its (Kw.steps mi ex ls hs i j) → Q (.ref p) H'
theorem ok_steps {f : Addr} {fd : FuncData} (F : Fun K "steps_to" "steps_to" s_steps_to f fd) (C_pair_price : Cl P w K mg base "pair_price" ["lot", "heard", "missing", "extra"] [] 2 (spPair K)) : FnOk P w K mg base CX0 3 f fd ["lots", "heard", "missing", "extra", "i", "j"] (spSteps K) := by
  refine F.ok sc_steps_to (fun vs H Q E h => ?_) (fun cdv A outer s H vs Q E hr h => ?_)
  · obtain ⟨_, _, _, _, _, _, _, _, rfl, _⟩ := h
    rfl
  · obtain ⟨a, b, ls, hs, mi, ex, i, j, rfl, ha, hb, hi, hj, l1, l2, l3, l4, q⟩ := h
    refine ⟨_, (pss_cons (ps_set (i := 6) sc_steps_to.nd rfl (Or.inl rfl) (pe_lst pa_nil))
    (Evl.pss_cut (ps_if (PW.pt (pw_and (pt_cmpR op_gt (pv 4) pe_int (nomark _)) (pw_and1 (pt_cmpR op_gt (pv 5) pe_int (nomark _))))) (pss_one (ps_expr (pe_bm PySem.F.plainAttrs_list PySem.F.slot_list_append PySem.F.type_list_append mt_append (pv 6) (pa_cons (pe_tup (pa_cons (pe_op op_sub (pv 4) pe_int) (pa_cons (pe_op op_sub (pv 5) pe_int) (pa_cons (pe_use C_pair_price (hr.mono (by decide)) rfl (pa_cons (pe_ix ix_tup (pv 0) (pe_op op_sub (pv 4) pe_int) (fun _ _ => rfl)) (pa_cons (pe_ix ix_tup (pv 1) (pe_op op_sub (pv 5) pe_int) (fun _ _ => rfl)) (pa_cons (pv 2) (pa_cons (pv 3) pa_nil))))) pa_nil)))) pa_nil)))) pss_nil)
    (Evl.pss_cut (ps_if (pt_cmpR op_gt (pv 4) pe_int (nomark _)) (pss_one (ps_expr (pe_bm PySem.F.plainAttrs_list PySem.F.slot_list_append PySem.F.type_list_append mt_append (pv 6) (pa_cons (pe_tup (pa_cons (pe_op op_sub (pv 4) pe_int) (pa_cons (pv 5) (pa_cons (pe_use C_pair_price (hr.mono (by decide)) rfl (pa_cons (pe_ix ix_tup (pv 0) (pe_op op_sub (pv 4) pe_int) (fun _ _ => rfl)) (pa_cons (pe_tup pa_nil) (pa_cons (pv 2) (pa_cons (pv 3) pa_nil))))) pa_nil)))) pa_nil)))) pss_nil)
    (Evl.pss_cut (ps_if (pt_cmpR op_gt (pv 5) pe_int (nomark _)) (pss_one (ps_expr (pe_bm PySem.F.plainAttrs_list PySem.F.slot_list_append PySem.F.type_list_append mt_append (pv 6) (pa_cons (pe_tup (pa_cons (pv 4) (pa_cons (pe_op op_sub (pv 5) pe_int) (pa_cons (pe_use C_pair_price (hr.mono (by decide)) rfl (pa_cons (pe_tup pa_nil) (pa_cons (pe_ix ix_tup (pv 1) (pe_op op_sub (pv 5) pe_int) (fun _ _ => rfl)) (pa_cons (pv 2) (pa_cons (pv 3) pa_nil))))) pa_nil)))) pa_nil)))) pss_nil)
    (pss_one (ps_ret (pv 6))))))), ?_⟩
    refine ⟨by show 0 ≤ sizeLine; decide, fun p hp => ?_⟩
    have s0 := same_new hp (.lst [])
    have ep0 : upd H p (.lst []) p = some (.lst []) := upd_same
    have kin : ∀ H', Kept p (upd H p (.lst [])) H' → Same H H' := fun H' k x o e => k x o (s0 _ _ e) (ne_of_none e hp)
    generalize upd H p (.lst []) = H0 at s0 ep0 kin ⊢
    rw [steps_grd] at q
    let σ0 : L2.St := [some (.ref a), some (.ref b), some (.int mi), some (.int ex), some (natV i), some (natV j), some (.ref p)]
    let Iv : List Kw.Stp → L2.St → Hp → Prop := fun S σ H' => σ = σ0 ∧ Kept p H0 H' ∧ ∃ its, H' p = some (.lst its) ∧ All2 (StpV H') its S
    have put : ∀ {S : List Kw.Stp} {s : Kw.Stp} {H1 : Hp} {its : List V} {t : Addr}, Kept p H0 H1 → H1 p = some (.lst its) → All2 (StpV H1) its S → H1 t = some (.tup [natV s.1, natV s.2.1, .int s.2.2]) → Iv (S ++ [s]) σ0 (upd H1 p (.lst (its ++ [.ref t]))) := by
      intro S s H1 its t k1 e1 al et
      have k2 : Kept p H1 (upd H1 p (.lst (its ++ [.ref t]))) := fun x o e nx => by rw [upd_ne nx]; exact e
      refine ⟨rfl, k1.trans k2, _, upd_same, all2_app (al.imp fun _ _ r => r.kept e1 k2) (.cons ⟨t, rfl, k2 _ _ et (fun z => by rw [z, e1] at et; cases et)⟩ .nil)⟩
    have dec : ∀ n : Nat, (decide ((0 : Int) < (n : Nat))) = decide (0 < n) := fun n => decide_eq_decide.mpr (by omega)
    have prev : ∀ n : Nat, 0 < n → (((n : Nat) : Int) - 1) = ((n - 1 : Nat) : Int) := fun n h => by omega
    have lotA : ∀ H1, Kept p H0 H1 → 0 < i → ∃ its lb l, H1 a = some (.tup its) ∧ its[i - 1]? = some (.ref lb) ∧ ls.getD (i - 1) [] = l ∧ SqT K H1 lb (l.map V.str) ∧ l.length ≤ 1000 := fun H1 k h => by
      obtain ⟨its, e, al⟩ := ha.fix (Fix.of (kin _ k))
      obtain ⟨l, el⟩ : ∃ l, ls[i - 1]? = some l := ⟨_, List.getElem?_eq_getElem (by omega)⟩
      obtain ⟨z, ez, lb, rfl, hl⟩ := al.getR el
      exact ⟨its, lb, l, e, ez, getD_some el, hl, l3 l (at_mem el)⟩
    have lotB : ∀ H1, Kept p H0 H1 → 0 < j → ∃ its lb l, H1 b = some (.tup its) ∧ its[j - 1]? = some (.ref lb) ∧ hs.getD (j - 1) [] = l ∧ SqT K H1 lb (l.map V.str) ∧ l.length ≤ 1000 := fun H1 k h => by
      obtain ⟨its, e, al⟩ := hb.fix (Fix.of (kin _ k))
      obtain ⟨l, el⟩ : ∃ l, hs[j - 1]? = some l := ⟨_, List.getElem?_eq_getElem (by omega)⟩
      obtain ⟨z, ez, lb, rfl, hl⟩ := al.getR el
      exact ⟨its, lb, l, e, ez, getD_some el, hl, l4 l (at_mem el)⟩
    refine ⟨Iv (grd (0 < i ∧ 0 < j) (i - 1, j - 1, Kw.pp mi ex (ls.getD (i - 1) []) (hs.getD (j - 1) []))), ?_, ?_⟩
    · have no : ¬ (0 < i ∧ 0 < j) → Iv (grd (0 < i ∧ 0 < j) (i - 1, j - 1, Kw.pp mi ex (ls.getD (i - 1) []) (hs.getD (j - 1) []))) σ0 H0 := fun c => by
        unfold grd
        rw [if_neg c]
        exact ⟨rfl, Kept.refl _ _, [], ep0, .nil⟩
      refine ⟨_, rfl, _, _, rfl, rfl, _, rfl, ?_⟩
      rw [dec]
      by_cases c : 0 < i
      · rw [decide_eq_true c]
        refine iteT ⟨_, rfl, _, _, rfl, rfl, _, rfl, ?_⟩
        rw [dec]
        by_cases d : 0 < j
        · rw [decide_eq_true d]
          refine iteT ?_
          obtain ⟨its, lb, l, ea, ei, el, hl, ll⟩ := lotA H0 (Kept.refl _ _) c
          obtain ⟨jts, mb, m, eb, ej, em, hm, lm⟩ := lotB H0 (Kept.refl _ _) d
          refine ⟨_, rfl, .inl ⟨rfl, _, SqL.of ep0⟩, _, rfl, _, _, rfl, rfl, _, rfl, _, _, rfl, rfl, _, rfl, _, rfl, _, _, rfl, rfl, a, its, _, _, rfl, rfl, SqT.of ea, by rw [prev i c]; exact atI_nat ei, _, rfl, _, rfl, _, _, rfl, rfl, b, jts, _, _, rfl, rfl, SqT.of eb, by rw [prev j d]; exact atI_nat ej, _, rfl, _, rfl, lb, mb, l, m, mi, ex, rfl, hl, hm, ll, lm, fun H1 s1 => ⟨by show 3 ≤ sizeLine; decide, fun t ht => ?_⟩⟩
          have s2 := same_new ht (.tup [.int (((i : Nat) : Int) - 1), .int (((j : Nat) : Int) - 1), .int (Kw.pp mi ex l m)])
          have et : upd H1 t (.tup [.int (((i : Nat) : Int) - 1), .int (((j : Nat) : Int) - 1), .int (Kw.pp mi ex l m)]) t = some (.tup [natV (i - 1), natV (j - 1), .int (Kw.pp mi ex l m)]) := by
            rw [upd_same, prev i c, prev j d]; rfl
          have e2 := (s1.trans s2) _ _ ep0
          refine ⟨p, [], .ref t, rfl, rfl, e2, by show 0 + 1 ≤ sizeLine; decide, ?_⟩
          unfold grd
          rw [if_pos ⟨c, d⟩, el, em]
          have k1 : Kept p H0 (upd H1 t (.tup [.int (((i : Nat) : Int) - 1), .int (((j : Nat) : Int) - 1), .int (Kw.pp mi ex l m)])) := fun x o e _ => (s1.trans s2) x o e
          exact put (s := (i - 1, j - 1, Kw.pp mi ex l m)) k1 e2 .nil et
        · rw [decide_eq_false d]
          exact iteF (no fun z => d z.2)
      · rw [decide_eq_false c]
        exact iteF (iteF (no fun z => c z.1))
    rintro σ H1 ⟨rfl, k1, its1, e1, al1⟩
    generalize hS : grd (0 < i ∧ 0 < j) (i - 1, j - 1, Kw.pp mi ex (ls.getD (i - 1) []) (hs.getD (j - 1) [])) = S1 at q al1
    have n1 : S1.length ≤ 1 := by rw [← hS]; unfold grd; split <;> simp
    refine ⟨Iv (S1 ++ grd (0 < i) (i - 1, j, Kw.pp mi ex (ls.getD (i - 1) []) [])), ?_, ?_⟩
    · refine ⟨_, rfl, _, _, rfl, rfl, _, rfl, ?_⟩
      rw [dec]
      by_cases c : 0 < i
      · rw [decide_eq_true c]
        refine iteT ?_
        obtain ⟨its, lb, l, ea, ei, el, hl, ll⟩ := lotA H1 k1 c
        refine ⟨_, rfl, .inl ⟨rfl, _, SqL.of e1⟩, _, rfl, _, _, rfl, rfl, _, rfl, _, rfl, _, rfl, _, _, rfl, rfl, a, its, _, _, rfl, rfl, SqT.of ea, by rw [prev i c]; exact atI_nat ei, by show 0 ≤ sizeLine; decide, fun u hu => ?_⟩
        have s1 := same_new hu (.tup [])
        refine ⟨_, rfl, _, rfl, lb, u, l, [], mi, ex, rfl, tupFix (Fix.of s1) hl, SqT.of upd_same, ll, by decide, fun H2 s2 => ⟨by show 3 ≤ sizeLine; decide, fun t ht => ?_⟩⟩
        have s3 := same_new ht (.tup [.int (((i : Nat) : Int) - 1), natV j, .int (Kw.pp mi ex l [])])
        have s13 := (s1.trans s2).trans s3
        have et : upd H2 t (.tup [.int (((i : Nat) : Int) - 1), natV j, .int (Kw.pp mi ex l [])]) t = some (.tup [natV (i - 1), natV j, .int (Kw.pp mi ex l [])]) := by
          rw [upd_same, prev i c]; rfl
        have e2 := s13 _ _ e1
        refine ⟨p, its1, .ref t, rfl, rfl, e2, by rw [al1.len, sizeLine_eq]; omega, ?_⟩
        unfold grd
        rw [if_pos c, el]
        exact put (s := (i - 1, j, Kw.pp mi ex l [])) (k1.trans fun x o e _ => s13 x o e) e2 (al1.imp fun _ _ r => r.same s13) et
      · rw [decide_eq_false c]
        refine iteF ?_
        unfold grd
        rw [if_neg c, List.append_nil]
        exact ⟨rfl, k1, its1, e1, al1⟩
    clear k1 e1 al1
    rintro σ H1 ⟨rfl, k1, its1, e1, al1⟩
    generalize hT : S1 ++ grd (0 < i) (i - 1, j, Kw.pp mi ex (ls.getD (i - 1) []) []) = S2 at q al1
    have n2 : S2.length ≤ 2 := by
      rw [← hT, List.length_append]
      have : (grd (0 < i) (i - 1, j, Kw.pp mi ex (ls.getD (i - 1) []) [])).length ≤ 1 := by unfold grd; split <;> simp
      omega
    refine ⟨Iv (S2 ++ grd (0 < j) (i, j - 1, Kw.pp mi ex [] (hs.getD (j - 1) []))), ?_, ?_⟩
    · refine ⟨_, rfl, _, _, rfl, rfl, _, rfl, ?_⟩
      rw [dec]
      by_cases d : 0 < j
      · rw [decide_eq_true d]
        refine iteT ?_
        refine ⟨_, rfl, .inl ⟨rfl, _, SqL.of e1⟩, _, rfl, _, rfl, _, _, rfl, rfl, by show 0 ≤ sizeLine; decide, fun u hu => ?_⟩
        have s1 := same_new hu (.tup [])
        obtain ⟨jts, mb, m, eb, ej, em, hm, lm⟩ := lotB (upd H1 u (.tup [])) (k1.trans fun x o e _ => s1 x o e) d
        refine ⟨_, rfl, _, rfl, _, _, rfl, rfl, b, jts, _, _, rfl, rfl, SqT.of eb, by rw [prev j d]; exact atI_nat ej, _, rfl, _, rfl, u, mb, [], m, mi, ex, rfl, SqT.of upd_same, hm, by decide, lm, fun H2 s2 => ⟨by show 3 ≤ sizeLine; decide, fun t ht => ?_⟩⟩
        have s3 := same_new ht (.tup [natV i, .int (((j : Nat) : Int) - 1), .int (Kw.pp mi ex [] m)])
        have s13 := (s1.trans s2).trans s3
        have et : upd H2 t (.tup [natV i, .int (((j : Nat) : Int) - 1), .int (Kw.pp mi ex [] m)]) t = some (.tup [natV i, natV (j - 1), .int (Kw.pp mi ex [] m)]) := by
          rw [upd_same, prev j d]; rfl
        have e2 := s13 _ _ e1
        refine ⟨p, its1, .ref t, rfl, rfl, e2, by rw [al1.len, sizeLine_eq]; omega, ?_⟩
        unfold grd
        rw [if_pos d, em]
        exact put (s := (i, j - 1, Kw.pp mi ex [] m)) (k1.trans fun x o e _ => s13 x o e) e2 (al1.imp fun _ _ r => r.same s13) et
      · rw [decide_eq_false d]
        refine iteF ?_
        unfold grd
        rw [if_neg d, List.append_nil]
        exact ⟨rfl, k1, its1, e1, al1⟩
    clear k1 e1 al1
    rintro σ H1 ⟨rfl, k1, its1, e1, al1⟩
    exact ⟨_, rfl, q p its1 H1 (kin _ k1) hp e1 al1⟩
end
end K6

namespace K6
open PySem PySem.Spec PyProof.Rows L2 Hb St Sq Ow En Zp RZ Rd Xb Mn
/-! ### what goes in, and how it is refused -/
structure BIn (K : PySem.W.Frag) (H : Hp) (v u x y : V) (d e f g : PyData) (ls hs : List (List Str)) (mi ex : Int) : Prop where
  t : TIn K H v u d e ls hs
  dx : Dp K H x f
  dy : Dp K H y g
  pr : priceE f g = none → x = .int mi ∧ y = .int ex
theorem BIn.same {K : PySem.W.Frag} {H H' : Hp} {v u x y : V} {d e f g : PyData} {ls hs : List (List Str)} {mi ex : Int} (t : BIn K H v u x y d e f g ls hs mi ex) (s : Same H H') : BIn K H' v u x y d e f g ls hs mi ex :=
  ⟨t.t.same s, dp_same s t.dx, dp_same s t.dy, t.pr⟩
def BRef (C D : Addr) (E : XK) (H : Hp) (d e f g : PyData) : Prop :=
  (∀ k, firstNo [d, e] = some k → ∀ dd H', Same H H' → H' dd = some (errH (k : Nat)) → E (.ref C) (some dd) H') ∧
  (firstNo [d, e] = none → ∀ x, priceE f g = some x → ∀ dd H', Same H H' → H' dd = some (errW x) → E (.ref D) (some dd) H')
def rowTo (mi ex : Int) (ls hs : List (List Str)) (i j : Nat) : List Int := (List.range j).map fun j => Kw.W mi ex ls hs i j
def rowsTo (mi ex : Int) (ls hs : List (List Str)) (i : Nat) : List (List Int) := (List.range i).map fun k => rowTo mi ex ls hs k (hs.length + 1)
def Wg (mi ex : Int) (ls hs : List (List Str)) : List (List Int) := rowsTo mi ex ls hs (ls.length + 1)
def RowT (H : Hp) (v : V) (r : List Int) : Prop := ∃ b, v = .ref b ∧ H b = some (.tup (r.map V.int))
theorem RowT.same {H H' : Hp} {v : V} {r : List Int} (h : RowT H v r) (k : Same H H') : RowT H' v r := let ⟨b, e, t⟩ := h; ⟨b, e, k _ _ t⟩
theorem RowT.fix {H H' : Hp} {v : V} {r : List Int} (h : RowT H v r) (k : Fix H H') : RowT H' v r := let ⟨b, e, t⟩ := h; ⟨b, e, k _ _ t (not_mut_tup _)⟩
theorem rowTo_len (mi ex : Int) (ls hs : List (List Str)) (i j : Nat) : (rowTo mi ex ls hs i j).length = j := by unfold rowTo; rw [List.length_map, List.length_range]
theorem rowTo_at (mi ex : Int) (ls hs : List (List Str)) (i : Nat) {j n : Nat} (h : j < n) : (rowTo mi ex ls hs i n)[j]? = some (Kw.W mi ex ls hs i j) := by
  unfold rowTo
  rw [List.getElem?_map, List.getElem?_range h]; rfl
theorem rowTo_succ (mi ex : Int) (ls hs : List (List Str)) (i j : Nat) : rowTo mi ex ls hs i (j + 1) = rowTo mi ex ls hs i j ++ [Kw.W mi ex ls hs i j] := by
  unfold rowTo
  rw [List.range_succ, List.map_append]; rfl
theorem rowsTo_len (mi ex : Int) (ls hs : List (List Str)) (i : Nat) : (rowsTo mi ex ls hs i).length = i := by unfold rowsTo; rw [List.length_map, List.length_range]
theorem rowsTo_at (mi ex : Int) (ls hs : List (List Str)) {i n : Nat} (h : i < n) : (rowsTo mi ex ls hs n)[i]? = some (rowTo mi ex ls hs i (hs.length + 1)) := by
  unfold rowsTo
  rw [List.getElem?_map, List.getElem?_range h]; rfl
theorem rowsTo_succ (mi ex : Int) (ls hs : List (List Str)) (i : Nat) : rowsTo mi ex ls hs (i + 1) = rowsTo mi ex ls hs i ++ [rowTo mi ex ls hs i (hs.length + 1)] := by
  unfold rowsTo
  rw [List.range_succ, List.map_append]; rfl
/-- a list of lists of integers, all as long -/
def RL (m : Nat) (H : Hp) (r : Addr) (row : List Int) : Prop := H r = some (.lst (row.map V.int)) ∧ row.length = m + 1
theorem ne_ints {m : Nat} {H : Hp} {r w : Addr} {row : List Int} {rs : List Addr} (h : RL m H r row) (e : H w = some (.lst (rs.map V.ref))) : r ≠ w := by
  rintro rfl
  obtain ⟨h1, h2⟩ := h
  rw [e] at h1
  have h1 : rs.map V.ref = row.map V.int := by injection h1 with h1; injection h1
  cases row with
  | nil => cases h2
  | cons y row =>
    cases rs with
    | nil => cases h1
    | cons z rs => rw [List.map_cons, List.map_cons] at h1; injection h1 with h1 _; cases h1
theorem ne_len {m : Nat} {H : Hp} {r x : Addr} {row row' : List Int} (h : RL m H x row) (e : H r = some (.lst (row'.map V.int))) (l : row'.length ≤ m) : x ≠ r := by
  rintro rfl
  obtain ⟨h1, h2⟩ := h
  rw [e] at h1
  have h1 : row'.map V.int = row.map V.int := by injection h1 with h1; injection h1
  have := congrArg List.length h1
  rw [List.length_map, List.length_map] at this
  omega
theorem RL.same {m : Nat} {H H' : Hp} {r : Addr} {row : List Int} (h : RL m H r row) (k : Same H H') : RL m H' r row := ⟨k _ _ h.1, h.2⟩
theorem stp_len (mi ex : Int) (ls hs : List (List Str)) (i j : Nat) : (Kw.steps mi ex ls hs i j).length ≤ 3 := by
  rw [steps_grd, List.length_append, List.length_append]
  unfold grd
  split <;> split <;> split <;> simp
section
variable {P : Program} {w : World} {K : PySem.W.Frag} {mg : Str → Option Value} {base : Heap}
abbrev s_blame_worths : Stmt := top 24
theorem sc_blame_worths : FnScope ["lots", "heard", "missing", "extra", "worths", "i", "j", "steps", "row", "k", "m", "price"] ["lots", "heard", "missing", "extra"] (defScope s_blame_worths) := ⟨rfl, rfl, rfl, by decide +kernel, rfl, by decide +kernel, by decide +kernel⟩
def spWorths (K : PySem.W.Frag) (C D : Addr) : Sp := fun vs H Q E => ∃ (v u x y : V) (d e f g : PyData) (ls hs : List (List Str)) (mi ex : Int), vs = [v, u, x, y] ∧ BIn K H v u x y d e f g ls hs mi ex ∧
  (firstNo [d, e] = none → priceE f g = none → ∀ p its H', Same H H' → H' p = some (.tup its) → All2 (RowT H') its (Wg mi ex ls hs) → Q (.ref p) H') ∧ BRef C D E H d e f g
theorem ok_worths {f fn C D : Addr} {fd : FuncData} (F : Fun K "blame_worths" "blame_worths" s_blame_worths f fd) (N : FnR P w K mg base (L2.CX P w) 4 fn (spNeedR K C)) (gN : mg "need_tales" = some (.ref fn)) (kN : PySem.W.keepIn K (.ref fn) = true)
    (C_need_prices : Cx_ P w K mg base "need_prices" ["missing", "extra"] 3 (spPrices K D)) (C_steps_to : Cl P w K mg base "steps_to" ["lots", "heard", "missing", "extra", "i", "j"] [] 3 (spSteps K)) (n_len : mg "len" = none) (n_min : mg "min" = none) (n_range : mg "range" = none) (n_tuple : mg "tuple" = none) :
    FnOk P w K mg base (L2.CX P w) 5 f fd ["lots", "heard", "missing", "extra"] (spWorths K C D) := by
  refine F.okX sc_blame_worths (fun vs H Q E h => ?_) (fun cdv A outer s H vs Q E hr h => ?_)
  · obtain ⟨_, _, _, _, _, _, _, _, _, _, _, _, rfl, _⟩ := h
    rfl
  · obtain ⟨v, u, x, y, d, e, f, g, ls, hs, mi, ex, rfl, bi, q, qe1, qe2⟩ := h
    refine ⟨_, (pss_cons (ps_expr (pe_goR N gN kN (hr.mono (by decide)) (fun σ => passAt (takes_of rfl rfl rfl rfl) σ) rfl (pa_cons (pv 0) (pa_cons (pv 1) pa_nil))))
    (pss_cons (ps_expr (pe_useX C_need_prices (hr.mono (by decide)) (fun σ => passAt (takes_of rfl rfl rfl rfl) σ) rfl (pa_cons (pv 2) (pa_cons (pv 3) pa_nil))))
    (pss_cons (ps_set (i := 4) sc_blame_worths.nd rfl (Or.inr rfl) (pe_lst pa_nil))
    (Evl.pss_cut (ps_for (passes_of rfl) rfl (pi_range1 (by rfl) n_range (pa_cons (pe_op op_add (pe_callB call_len_seq (by rfl) n_len PySem.boot_len (pa_cons (pv 0) pa_nil)) pe_int) pa_nil)) (pg_name (i := 5) sc_blame_worths.nd rfl (Or.inl rfl))
      (pss_cons (ps_expr (pe_bm PySem.F.plainAttrs_list PySem.F.slot_list_append PySem.F.type_list_append mt_append (pv 4) (pa_cons (pe_lst pa_nil) pa_nil)))
    (pss_one (ps_for (passes_of rfl) rfl (pi_range1 (by rfl) n_range (pa_cons (pe_op op_add (pe_callB call_len_seq (by rfl) n_len PySem.boot_len (pa_cons (pv 1) pa_nil)) pe_int) pa_nil)) (pg_name (i := 6) sc_blame_worths.nd rfl (Or.inl rfl))
      (pss_cons (ps_set (i := 7) sc_blame_worths.nd rfl (Or.inl rfl) (pe_use C_steps_to (hr.mono (by decide)) rfl (pa_cons (pv 0) (pa_cons (pv 1) (pa_cons (pv 2) (pa_cons (pv 3) (pa_cons (pv 5) (pa_cons (pv 6) pa_nil))))))))
    (pss_one (ps_expr (pe_bm PySem.F.plainAttrs_list PySem.F.slot_list_append PySem.F.type_list_append mt_append (pe_ix ix_list (pv 4) (pv 5) (fun _ _ => rfl)) (pa_cons (pe_callBK (cr_minDf rfl hr.units) (by rfl) n_min (by decide +kernel) (pa_cons (pe_lc (own := [("k", 9), ("m", 10), ("price", 11)]) (g := gTup K 3 (gCons (gName 9) (gCons (gName 10) (gCons (gName 11) gNil)))) rfl sc_blame_worths.nd (pi_seq (pv 7)) (blkOk_by (N := ["lots", "heard", "missing", "extra", "worths", "i", "j", "steps", "row", "k", "m", "price"]) (sc := defScope s_blame_worths) (by decide +kernel)) (fun _ _ _ _ _ => pg_tup rfl (pgs_cons (pg_name (i := 9) sc_blame_worths.nd rfl (Or.inl rfl)) (pgs_cons (pg_name (i := 10) sc_blame_worths.nd rfl (Or.inl rfl)) (pgs_cons (pg_name (i := 11) sc_blame_worths.nd rfl (Or.inl rfl)) pgs_nil)))) (fun _ _ _ _ _ => pts_nil) (fun _ _ _ _ _ => pe_op op_add (pe_ix (r := rIxL K) ix_list (pe_ix (r := rIxL K) ix_list (pv 4) (pv 9) (fun _ _ => rfl)) (pv 10) (fun _ _ => rfl)) (pv 11))) pa_nil) (pk_cons pe_int pk_nil)) pa_nil)))))))))
    (pss_one (ps_ret (pe_callTy call_tuple_of (by rfl) n_tuple (by decide +kernel) (pa_cons (pe_lc (own := [("row", 8)]) (g := gName 8) rfl sc_blame_worths.nd (pi_seq (pv 4)) (blkOk_by (N := ["lots", "heard", "missing", "extra", "worths", "i", "j", "steps", "row", "k", "m", "price"]) (sc := defScope s_blame_worths) (by decide +kernel)) (fun _ _ _ _ _ => pg_name (i := 8) sc_blame_worths.nd rfl (Or.inl rfl)) (fun _ _ _ _ _ => pts_nil) (fun _ _ _ _ _ => pe_callTy (T := "tuple") (r := rTupE K) call_tupE (by rfl) n_tuple (by decide +kernel) (pa_cons (pv 8) pa_nil))) pa_nil)))))))), ?_⟩
    refine ⟨_, rfl, _, rfl, [], [v, u], rfl, rfl, by show 2 ≤ sizeLine; decide, fun p hp => ?_⟩
    have s1 := same_new hp (.tup [v, u])
    refine ⟨p, [v, u], [d, e], rfl, upd_same, .cons (dp_same s1 bi.t.dv) (.cons (dp_same s1 bi.t.du) .nil), by show 2 ≤ 1000; decide, fun d' hd' => ?_, fun no H2 s2 => ?_, fun k hk dd H2 s2 ed => qe1 k hk dd H2 (s1.trans s2) ed⟩
    · rcases List.mem_cons.mp hd' with rfl | z
      · exact bi.t.sd
      · rw [List.mem_singleton.mp z]; exact bi.t.se
    have s02 := s1.trans s2
    have b2 := bi.same s02
    refine ⟨_, rfl, _, rfl, x, y, f, g, rfl, b2.dx, b2.dy, fun np => ?_, fun xx hxx dd H3 s3 ed => qe2 no xx hxx dd H3 (s02.trans s3) ed⟩
    obtain ⟨a, b, rfl, rfl, ha, hb⟩ := b2.t.ok no
    obtain ⟨rfl, rfl⟩ := b2.pr np
    have l1 := b2.t.ll
    have l2 := b2.t.lh
    have l3 := b2.t.l4
    have l4 := b2.t.l3
    have q := q no np
    refine ⟨by show 0 ≤ sizeLine; decide, fun w0 hw0 => ?_⟩
    have sw := same_new hw0 (.lst [])
    have ew : upd H2 w0 (.lst []) w0 = some (.lst []) := upd_same
    generalize upd H2 w0 (.lst []) = B0 at sw ew ⊢
    let S5 : Option V → Option V → Option V → Option V → Option V → Option V → Option V → L2.St := fun o5 o6 o7 o8 o9 o10 o11 => [some (.ref a), some (.ref b), some (.int mi), some (.int ex), some (.ref w0), o5, o6, o7, o8, o9, o10, o11]
    let Rw : Nat → List Addr → Hp → Prop := fun i rs H' => Same H2 H' ∧ H' w0 = some (.lst (rs.map V.ref)) ∧ All2 (RL hs.length H') rs (rowsTo mi ex ls hs i)
    refine ⟨fun σ H' => (∃ o5 o6 o7 o8 o9 o10 o11, σ = S5 o5 o6 o7 o8 o9 o10 o11) ∧ ∃ rs, Rw (ls.length + 1) rs H', ?_, ?_⟩
    · obtain ⟨aits, ea, ala⟩ := ha.fix (Fix.of sw)
      have lna : aits.length = ls.length := ala.len
      refine ⟨_, rfl, a, _, rfl, .inr (SqT.of ea), _, _, rfl, rfl, _, rfl, by omega, by omega, ?_⟩
      rw [lna, show ((ls.length : Nat) + 1 : Int).toNat = ls.length + 1 by omega]
      refine for_range (fun i σ H' => (∃ o5 o6 o7 o8 o9 o10 o11, σ = S5 o5 o6 o7 o8 o9 o10 o11) ∧ ∃ rs, Rw i rs H') ⟨⟨_, _, _, _, _, _, _, rfl⟩, [], sw, ew, .nil⟩ ?_ (fun σ H' z => z)
      rintro i σ H3 hi ⟨⟨o5, o6, o7, o8, o9, o10, o11, rfl⟩, rs, s3, e3, al3⟩
      rw [Int.zero_add]
      refine ⟨_, rfl, .inl ⟨rfl, _, SqL.of e3⟩, by show 0 ≤ sizeLine; decide, fun r hr0 => ?_⟩
      have nrw : r ≠ w0 := (ne_of_none e3 hr0).symm
      have e3' : upd H3 r (.lst []) w0 = some (.lst (rs.map V.ref)) := by rw [upd_ne nrw.symm]; exact e3
      have lrs : rs.length = i := by have := al3.len; rwa [rowsTo_len] at this
      refine ⟨w0, _, .ref r, rfl, rfl, e3', by rw [List.length_map, sizeLine_eq]; omega, ?_⟩
      obtain ⟨H4, eH4⟩ : ∃ H4, H4 = upd (upd H3 r (.lst [])) w0 (.lst (rs.map V.ref ++ [V.ref r])) := ⟨_, rfl⟩
      rw [← eH4]
      have n2w : ∀ b o, H2 b = some o → b ≠ w0 ∧ b ≠ r := fun b o e => ⟨ne_of_none e hw0, ne_of_none (s3 _ _ e) hr0⟩
      have s4 : Same H2 H4 := fun b o e => by rw [eH4, upd_ne (n2w b o e).1, upd_ne (n2w b o e).2]; exact s3 _ _ e
      have e4 : H4 w0 = some (.lst (rs.map V.ref ++ [V.ref r])) := by rw [eH4]; exact upd_same
      have er4 : H4 r = some (.lst ((rowTo mi ex ls hs i 0).map V.int)) := by rw [eH4, upd_ne nrw]; exact upd_same
      have al4 : All2 (RL hs.length H4) rs (rowsTo mi ex ls hs i) := al3.imp fun z row h => ⟨by rw [eH4, upd_ne (ne_ints h e3), upd_ne (ne_of_none h.1 hr0)]; exact h.1, h.2⟩
      clear eH4
      obtain ⟨bits, eb, alb⟩ := hb.fix (Fix.of s4)
      have lnb : bits.length = hs.length := alb.len
      refine ⟨_, rfl, b, _, rfl, .inr (SqT.of eb), _, _, rfl, rfl, _, rfl, by omega, by omega, ?_⟩
      rw [lnb, show ((hs.length : Nat) + 1 : Int).toNat = hs.length + 1 by omega]
      let In : Nat → Hp → Prop := fun j H' => Same H2 H' ∧ H' w0 = some (.lst (rs.map V.ref ++ [V.ref r])) ∧ All2 (RL hs.length H') rs (rowsTo mi ex ls hs i) ∧ H' r = some (.lst ((rowTo mi ex ls hs i j).map V.int))
      refine for_range (fun j σ H' => (∃ o6 o7 o8 o9 o10 o11, σ = S5 (some (natV i)) o6 o7 o8 o9 o10 o11) ∧ In j H') ⟨⟨_, _, _, _, _, _, rfl⟩, s4, e4, al4, er4⟩ ?_ ?_
      · clear s4 e4 er4 al4 o5 o6 o7 o8 o9 o10 o11
        rintro j σ H5 hj ⟨⟨o6, o7, o8, o9, o10, o11, rfl⟩, s5, e5, al5, er5⟩
        rw [Int.zero_add]
        refine ⟨_, rfl, _, rfl, _, rfl, _, rfl, _, rfl, _, rfl, a, b, ls, hs, mi, ex, i, j, rfl, ha.fix (Fix.of s5), hb.fix (Fix.of s5), by omega, by omega, l1, l2, l3, l4, fun p its H6 s6 _ ep al6 => ?_⟩
        have e6 := s6 _ _ e5
        have er6 := s6 _ _ er5
        have aw : atI (rs.map V.ref ++ [V.ref r]) ((i : Nat) : Int) = some (.ref r) := atI_nat (by rw [List.getElem?_append_right (by rw [List.length_map]; omega), List.length_map, lrs, Nat.sub_self]; rfl)
        refine ⟨_, rfl, _, rfl, w0, _, _, _, rfl, rfl, SqL.of e6, aw, .inl ⟨rfl, _, SqL.of er6⟩, ?_⟩
        have n6 : its.length = (Kw.steps mi ex ls hs i j).length := al6.len
        have n3 := stp_len mi ex ls hs i j
        refine ⟨_, rfl, p, its, rfl, SqX.lst ep, fun J S W z0 D hD => ?_⟩
        have al66 := al5.imp fun _ _ h => h.same s6
        refine lc_mf (ds := Kw.steps mi ex ls hs i j) W (fun _ => true) (fun _ y s => y = .int (Kw.W mi ex ls hs s.1 s.2.1 + s.2.2)) z0 hD n6 (fun t x s H7 ex7 es7 s7 m7 => ?_) (fun H7 ys s7 e7 al7 => ?_)
        · obtain ⟨s', es', tb, rfl, et⟩ := al6.get ex7
          rw [es7] at es'
          obtain rfl := Option.some.inj es'
          have mem := at_mem es7
          obtain ⟨q1, q2, q3, _, _⟩ := Kw.stp_low mem
          have e7 := s7 _ _ e6
          obtain ⟨b1, row, h1, h2, h3⟩ : ∃ (b1 : Addr) (row : List Int), (rs.map V.ref ++ [V.ref r])[s.1]? = some (.ref b1) ∧ H7 b1 = some (.lst (row.map V.int)) ∧ row[s.2.1]? = some (Kw.W mi ex ls hs s.1 s.2.1) := by
            by_cases c : s.1 < i
            · have ea := rowsTo_at mi ex ls hs c
              obtain ⟨b1, eb1, hb1⟩ := al66.getR ea
              refine ⟨b1, rowTo mi ex ls hs s.1 (hs.length + 1), ?_, s7 _ _ hb1.1, rowTo_at mi ex ls hs s.1 (by omega)⟩
              rw [List.getElem?_append_left (by rw [List.length_map]; omega), List.getElem?_map, eb1]; rfl
            · have c' : s.1 = i := by omega
              refine ⟨r, rowTo mi ex ls hs i j, ?_, s7 _ _ er6, by rw [c']; exact rowTo_at mi ex ls hs i (by omega)⟩
              rw [c', List.getElem?_append_right (by rw [List.length_map]; omega), List.length_map, lrs, Nat.sub_self]; rfl
          exact ⟨tb, _, rfl, SqT.of (s7 _ _ et), rfl, _, _, rfl, _, _, rfl, _, _, rfl, rfl, rfl, _, rfl, _, rfl, w0, _, _, _, rfl, rfl, SqL.of e7, atI_nat h1, _, rfl, b1, _, _, _, rfl, rfl, SqL.of h2, atI_nat (by rw [List.getElem?_map, h3]; rfl), _, rfl, _, _, rfl, rfl, mf_yes m7 hD (fun _ _ _ _ _ h => h) es7 (by omega) (Same.refl _) rfl rfl⟩
        · rw [Rd.filter_all] at al7
          have ey := al7.map_eq (f := fun s : Kw.Stp => V.int (Kw.W mi ex ls hs s.1 s.2.1 + s.2.2)) fun _ _ h => h
          have s27 := s5.trans (s6.trans s7)
          have er7 := s7 _ _ er6
          have fin : ∀ z, z = Kw.W mi ex ls hs i j → ∃ (pp : Addr) (xs : List V) (v : V), V.ref r = .ref pp ∧ [V.int z] = [v] ∧ H7 pp = some (.lst xs) ∧ xs.length + 1 ≤ sizeLine ∧ In (j + 1) (upd H7 pp (.lst (xs ++ [v]))) := fun z hz => by
            refine ⟨r, _, _, rfl, rfl, er7, by rw [List.length_map, rowTo_len, sizeLine_eq]; omega, ?_⟩
            have k : ∀ b o, H7 b = some o → b ≠ r → upd H7 r (.lst ((rowTo mi ex ls hs i j).map V.int ++ [V.int z])) b = some o := fun b o e n => by rw [upd_ne n]; exact e
            refine ⟨fun b o e => k _ _ (s27 _ _ e) (n2w b o e).2, k _ _ (s7 _ _ e6) nrw.symm, ?_, ?_⟩
            · exact al66.imp fun z row h => ⟨k _ _ (s7 _ _ h.1) (ne_len (h.same s7) er7 (by rw [rowTo_len]; omega)), h.2⟩
            · rw [upd_same, rowTo_succ, List.map_append, hz]; rfl
          refine ⟨D, (Kw.steps mi ex ls hs i j).map fun s => Kw.W mi ex ls hs s.1 s.2.1 + s.2.2, 0, rfl, rfl, SqL.of (by rw [e7, ey, List.map_map]; rfl), fun en => ?_, fun z h1 h2 => ?_⟩
          · obtain ⟨pp, xs, v, a1, a2, a3, a4, a5⟩ := fin 0 (Kw.wr_minNil en).symm
            exact ⟨pp, xs, v, a1, a2, a3, a4, ⟨_, _, _, _, _, _, rfl⟩, a5⟩
          · obtain ⟨pp, xs, v, a1, a2, a3, a4, a5⟩ := fin z (Kw.wr_min (by omega) (by omega) h1 h2)
            exact ⟨pp, xs, v, a1, a2, a3, a4, ⟨_, _, _, _, _, _, rfl⟩, a5⟩
      · rintro σ H5 ⟨⟨o6, o7, o8, o9, o10, o11, rfl⟩, s5, e5, al5, er5⟩
        refine ⟨⟨_, _, _, _, _, _, _, rfl⟩, rs ++ [r], s5, by rw [List.map_append]; exact e5, ?_⟩
        rw [rowsTo_succ]
        exact all2_app al5 (.cons ⟨er5, rowTo_len ..⟩ .nil)
    rintro σ H3 ⟨⟨o5, o6, o7, o8, o9, o10, o11, rfl⟩, rs, s3, e3, al3⟩
    refine ⟨_, rfl, w0, _, rfl, SqX.lst e3, fun J S W z0 D hD => ?_⟩
    have n3 : (rs.map V.ref).length = (Wg mi ex ls hs).length := by rw [List.length_map]; exact al3.len
    have n4 : (Wg mi ex ls hs).length = ls.length + 1 := rowsTo_len ..
    refine lc_mf (ds := Wg mi ex ls hs) W (fun _ => true) (fun H y r => RowT H y r) z0 hD n3 (fun t x s H7 ex7 es7 s7 m7 => ?_) (fun H7 ys s7 e7 al7 => ?_)
    · obtain ⟨r, er⟩ : ∃ r, rs[t]? = some r := ⟨_, List.getElem?_eq_getElem (by have := (List.getElem?_eq_some_iff.mp ex7).1; rwa [List.length_map] at this)⟩
      obtain ⟨row, erow, hrow⟩ := al3.get er
      have es7' : (rowsTo mi ex ls hs (ls.length + 1))[t]? = some s := es7
      rw [es7'] at erow
      obtain rfl := Option.some.inj erow
      rw [List.getElem?_map, er] at ex7
      obtain rfl := Option.some.inj ex7
      have hr7 := s7 _ _ hrow.1
      exact ⟨rfl, _, rfl, r, _, rfl, .inl ⟨SqL.of hr7, fun l hl => mf_yes m7 hD (fun _ _ _ _ f h => h.fix f) es7 (by omega) (same_new hl _) rfl ⟨l, rfl, upd_same⟩⟩⟩
    · rw [Rd.filter_all] at al7
      refine ⟨D, _, rfl, .inl ⟨SqL.of e7, fun l hl => q l ys _ ((s02.trans s3).trans (s7.trans (same_new hl _))) upd_same ?_⟩⟩
      exact al7.imp fun _ _ h => h.same (same_new hl _)
end
end K6

namespace K6
open PySem PySem.Spec PyProof.Rows L2 Hb St Sq Ow En Zp RZ Rd Xb Mn
def PrV (H : Hp) (v : V) (p : Kw.Pr) : Prop := ∃ b, v = .ref b ∧ H b = some (.tup [optV p.1, optV p.2])
theorem PrV.same {H H' : Hp} {v : V} {p : Kw.Pr} (h : PrV H v p) (k : Same H H') : PrV H' v p := let ⟨b, e, t⟩ := h; ⟨b, e, k _ _ t⟩
theorem PrV.kept {H H' : Hp} {v : V} {s : Kw.Pr} {p : Addr} {xs : List V} (h : PrV H v s) (ep : H p = some (.lst xs)) (k : Kept p H H') : PrV H' v s := let ⟨b, e, t⟩ := h; ⟨b, e, k _ _ t (fun z => by rw [z, ep] at t; cases t)⟩
theorem all2_rev {α β : Type} {R : α → β → Prop} : ∀ {xs : List α} {ys : List β}, All2 R xs ys → All2 R xs.reverse ys.reverse
  | _, _, .nil => .nil
  | _, _, .cons h t => by
    rw [List.reverse_cons, List.reverse_cons]
    exact all2_app (all2_rev t) (.cons h .nil)
abbrev TlS (mi ex : Int) (ls hs : List (List Str)) (i j : Nat) (t : List Kw.Pr) : Prop := Kw.Tl (A := Kw.pA mi ex) (B := Kw.pB mi ex) (C := Kw.pp mi ex) ls hs i j t
/-- the cell of a table of worths -/
theorem wcell {H : Hp} {w0 : Addr} {its : List V} {mi ex : Int} {ls hs : List (List Str)} {i j : Nat} (e : H w0 = some (.tup its)) (al : All2 (RowT H) its (Wg mi ex ls hs)) (hi : i ≤ ls.length) (hj : j ≤ hs.length) :
    ∃ (b : Addr) (row : List V), atI its ((i : Nat) : Int) = some (.ref b) ∧ H b = some (.tup row) ∧ atI row ((j : Nat) : Int) = some (.int (Kw.W mi ex ls hs i j)) := by
  have ea : (Wg mi ex ls hs)[i]? = some _ := rowsTo_at mi ex ls hs (show i < ls.length + 1 by omega)
  obtain ⟨z, ez, b, rfl, hb⟩ := al.getR ea
  exact ⟨b, _, atI_nat ez, hb, atI_nat (by rw [List.getElem?_map, rowTo_at mi ex ls hs i (show j < hs.length + 1 by omega)]; rfl)⟩
section
variable {P : Program} {w : World} {K : PySem.W.Frag} {mg : Str → Option Value} {base : Heap}
abbrev s_least_blame : Stmt := top 25
theorem sc_least_blame : FnScope ["lots", "heard", "missing", "extra", "worths", "i", "j", "telling", "k", "m", "price"] ["lots", "heard", "missing", "extra"] (defScope s_least_blame) := ⟨rfl, rfl, rfl, by decide +kernel, rfl, by decide +kernel, by decide +kernel⟩
def spBlame (K : PySem.W.Frag) (C D : Addr) : Sp := fun vs H Q E => ∃ (v u x y : V) (d e f g : PyData) (ls hs : List (List Str)) (mi ex : Int), vs = [v, u, x, y] ∧ BIn K H v u x y d e f g ls hs mi ex ∧
  (firstNo [d, e] = none → priceE f g = none → ∀ p t its T H', Same H H' → H' p = some (.tup [.int (Kw.W mi ex ls hs ls.length hs.length), .ref t]) → H' t = some (.tup its) → All2 (PrV H') its T → TlS mi ex ls hs 0 0 T → Q (.ref p) H') ∧ BRef C D E H d e f g
theorem ok_blame {f C D : Addr} {fd : FuncData} (F : Fun K "least_blame" "least_blame" s_least_blame f fd)
    (C_blame_worths : Cx_ P w K mg base "blame_worths" ["lots", "heard", "missing", "extra"] 5 (spWorths K C D)) (C_steps_to : Cl P w K mg base "steps_to" ["lots", "heard", "missing", "extra", "i", "j"] [] 3 (spSteps K)) (n_len : mg "len" = none) (n_tuple : mg "tuple" = none) :
    FnOk P w K mg base (L2.CX P w) 6 f fd ["lots", "heard", "missing", "extra"] (spBlame K C D) := by
  refine F.okX sc_least_blame (fun vs H Q E h => ?_) (fun cdv A outer s H vs Q E hr h => ?_)
  · obtain ⟨_, _, _, _, _, _, _, _, _, _, _, _, rfl, _⟩ := h
    rfl
  · obtain ⟨v, u, x, y, d, e, f, g, ls, hs, mi, ex, rfl, bi, q, qe1, qe2⟩ := h
    refine ⟨_, (pss_cons (ps_set (i := 4) sc_least_blame.nd rfl (Or.inl rfl) (pe_useX C_blame_worths (hr.mono (by decide)) (fun σ => passAt (takes_of rfl rfl rfl rfl) σ) rfl (pa_cons (pv 0) (pa_cons (pv 1) (pa_cons (pv 2) (pa_cons (pv 3) pa_nil))))))
    (pss_cons (ps_par (i := 5) (j := 6) (by rfl) sc_least_blame.nd rfl rfl (by decide) rfl rfl (pa_cons (pe_callB call_len_seq (by rfl) n_len PySem.boot_len (pa_cons (pv 0) pa_nil)) (pa_cons (pe_callB call_len_seq (by rfl) n_len PySem.boot_len (pa_cons (pv 1) pa_nil)) pa_nil)) (by rfl))
    (pss_cons (ps_set (i := 7) sc_least_blame.nd rfl (Or.inl rfl) (pe_lst pa_nil))
    (Evl.pss_cut (ps_while (passes_of rfl) (PW.pt (pw_or (pt_cmpR op_gt (pv 5) pe_int (nomark _)) (pw_or1 (pt_cmpR op_gt (pv 6) pe_int (nomark _)))))
      (Evl.pss_cut (ps_for (passes_of rfl) rfl (pi_seq (pe_use C_steps_to (hr.mono (by decide)) rfl (pa_cons (pv 0) (pa_cons (pv 1) (pa_cons (pv 2) (pa_cons (pv 3) (pa_cons (pv 5) (pa_cons (pv 6) pa_nil)))))))) (pg_tup rfl (pgs_cons (pg_name (i := 8) sc_least_blame.nd rfl (Or.inl rfl)) (pgs_cons (pg_name (i := 9) sc_least_blame.nd rfl (Or.inl rfl)) (pgs_cons (pg_name (i := 10) sc_least_blame.nd rfl (Or.inl rfl)) pgs_nil))))
      (pss_one (ps_if (pt_cmpR op_eq (pe_op op_add (pe_ix (r := rIxT K) ix_tup (pe_ix (r := rIxT K) ix_tup (pv 4) (pv 8) (fun _ _ => rfl)) (pv 9) (fun _ _ => rfl)) (pv 10)) (pe_ix (r := rIxT K) ix_tup (pe_ix (r := rIxT K) ix_tup (pv 4) (pv 5) (fun _ _ => rfl)) (pv 6) (fun _ _ => rfl)) (nomark _)) (pss_one (ps_break)) pss_nil)))
    (pss_cons (ps_expr (pe_bm PySem.F.plainAttrs_list PySem.F.slot_list_append PySem.F.type_list_append mt_append (pv 7) (pa_cons (pe_tup (pa_cons (pe_ifExp (pt_cmpR op_lt (pv 8) (pv 5) (nomark _)) (pv 8) pe_non) (pa_cons (pe_ifExp (pt_cmpR op_lt (pv 9) (pv 6) (nomark _)) (pv 9) pe_non) pa_nil))) pa_nil)))
    (pss_one (ps_par (i := 5) (j := 6) (by rfl) sc_least_blame.nd rfl rfl (by decide) rfl rfl (pa_cons (pv 8) (pa_cons (pv 9) pa_nil)) (by rfl))))))
    (pss_one (ps_ret (pe_tup (pa_cons (pe_ix (r := rIxT K) ix_tup (pe_ix (r := rIxT K) ix_tup (pv 4) (pe_un un_neg pe_int) (fun _ _ => rfl)) (pe_un un_neg pe_int) (fun _ _ => rfl)) (pa_cons (pe_callTy call_tuple_of (by rfl) n_tuple (by decide +kernel) (pa_cons (pe_revK K (pv 7) (pe_un un_neg pe_int) (fun _ _ _ q => ⟨1, rfl, q⟩)) pa_nil)) pa_nil))))))))), ?_⟩
    refine ⟨_, rfl, _, rfl, _, rfl, _, rfl, v, u, x, y, d, e, f, g, ls, hs, mi, ex, rfl, bi, fun no np wp wits H1 s1 ew alw => ?_, qe1, qe2⟩
    have b1 := bi.same s1
    obtain ⟨a, b, rfl, rfl, ha, hb⟩ := b1.t.ok no
    obtain ⟨rfl, rfl⟩ := b1.pr np
    have l1 := b1.t.ll
    have l2 := b1.t.lh
    have l3 := b1.t.l4
    have l4 := b1.t.l3
    have q := q no np
    obtain ⟨aits, ea, ala⟩ := id ha
    obtain ⟨bits, eb, alb⟩ := id hb
    have lna : aits.length = ls.length := ala.len
    have lnb : bits.length = hs.length := alb.len
    refine ⟨_, rfl, a, _, rfl, .inr (SqT.of ea), _, rfl, b, _, rfl, .inr (SqT.of eb), ?_⟩
    rw [lna, lnb]
    refine ⟨_, _, rfl, by show 0 ≤ sizeLine; decide, fun tl htl => ?_⟩
    have st := same_new htl (.lst [])
    have et : upd H1 tl (.lst []) tl = some (.lst []) := upd_same
    have kin : ∀ H', Kept tl (upd H1 tl (.lst [])) H' → Same H1 H' := fun H' k x o e => k x o (st _ _ e) (ne_of_none e htl)
    generalize upd H1 tl (.lst []) = B0 at st et kin ⊢
    let S5 : Nat → Nat → Option V → Option V → Option V → L2.St := fun i j o8 o9 o10 => [some (.ref a), some (.ref b), some (.int mi), some (.int ex), some (.ref wp), some (natV i), some (natV j), some (.ref tl), o8, o9, o10]
    let Iv : Nat → Nat → Hp → Prop := fun i j H' => i ≤ ls.length ∧ j ≤ hs.length ∧ Kept tl B0 H' ∧ ∃ its T, H' tl = some (.lst its) ∧ All2 (PrV H') its T ∧ TlS mi ex ls hs i j T.reverse
    refine ⟨fun σ H' => (∃ o8 o9 o10, σ = S5 0 0 o8 o9 o10) ∧ Iv 0 0 H', ?_, ?_⟩
    · refine ⟨fun m σ H' => ∃ i j, m = i + j ∧ (∃ o8 o9 o10, σ = S5 i j o8 o9 o10) ∧ Iv i j H', ⟨_, ls.length, hs.length, rfl, ⟨_, _, _, rfl⟩, Nat.le_refl _, Nat.le_refl _, Kept.refl _ _, [], [], et, .nil, Kw.Tl.nil ls hs⟩, ?_⟩
      rintro m σ H2 ⟨i, j, rfl, ⟨o8, o9, o10, rfl⟩, hi, hj, k2, its, T, e2, al2, tl2⟩
      have dec : ∀ n : Nat, (decide ((0 : Int) < (n : Nat))) = decide (0 < n) := fun n => decide_eq_decide.mpr (by omega)
      have k12 := kin _ k2
      have ew2 := k12 _ _ ew
      have alw2 := alw.imp fun _ _ h => h.same k12
      let N : L2.St → Hp → Prop := fun σ' H' => ∃ i' j', i' + j' < i + j ∧ (∃ o8 o9 o10, σ' = S5 i' j' o8 o9 o10) ∧ Iv i' j' H'
      have hN : ∀ σ' H', N σ' H' → ∃ m', m' < i + j ∧ (fun m σ H' => ∃ i j, m = i + j ∧ (∃ o8 o9 o10, σ = S5 i j o8 o9 o10) ∧ Iv i j H') m' σ' H' := fun σ' H' ⟨i', j', lt, r⟩ => ⟨_, lt, i', j', rfl, r⟩
      suffices body : (0 < i ∨ 0 < j) → _ from by
        refine ⟨_, rfl, _, _, rfl, rfl, _, rfl, ?_⟩
        rw [dec]
        by_cases c : 0 < i
        · rw [decide_eq_true c]
          exact iteT (iteT ⟨N, hN, body (.inl c)⟩)
        · rw [decide_eq_false c]
          refine iteF ⟨_, rfl, _, _, rfl, rfl, _, rfl, ?_⟩
          rw [dec]
          by_cases c2 : 0 < j
          · rw [decide_eq_true c2]
            exact iteT ⟨N, hN, body (.inr c2)⟩
          · rw [decide_eq_false c2]
            obtain rfl : i = 0 := by omega
            obtain rfl : j = 0 := by omega
            exact iteF ⟨⟨_, _, _, rfl⟩, hi, hj, k2, its, T, e2, al2, tl2⟩
      intro c
      refine ⟨fun σ H' => ∃ s : Kw.Stp, s ∈ Kw.steps mi ex ls hs i j ∧ Kw.W mi ex ls hs s.1 s.2.1 + s.2.2 = Kw.W mi ex ls hs i j ∧ σ = S5 i j (some (natV s.1)) (some (natV s.2.1)) (some (.int s.2.2)) ∧ Same H2 H', ?_, ?_⟩
      · refine ⟨_, rfl, _, rfl, _, rfl, _, rfl, _, rfl, _, rfl, a, b, ls, hs, mi, ex, i, j, rfl, ha.fix (Fix.of k12), hb.fix (Fix.of k12), hi, hj, l1, l2, l3, l4, fun p pits H3 s3 _ ep al3 => ?_⟩
        refine ⟨p, pits, rfl, SqX.lst ep, fun J S W z0 => ?_⟩
        have n6 : pits.length = (Kw.steps mi ex ls hs i j).length := al3.len
        refine for_sq W (fun t σ H' => (∃ o8 o9 o10, σ = S5 i j o8 o9 o10) ∧ Same H3 H' ∧ ∀ s ∈ (Kw.steps mi ex ls hs i j).take t, Kw.W mi ex ls hs s.1 s.2.1 + s.2.2 ≠ Kw.W mi ex ls hs i j) ⟨⟨_, _, _, rfl⟩, Same.refl _, fun s hs => by cases hs⟩ (fun t σ H' pv => W.keep (fun o e => pv.2.1 _ _ e) z0) ?_ ?_
        · rintro t σ H4 x ex4 ⟨⟨o8, o9, o10, rfl⟩, s4, all⟩
          obtain ⟨s, es, tb, rfl, etb⟩ := al3.get ex4
          have mem := at_mem es
          obtain ⟨q1, q2, q3, _, _⟩ := Kw.stp_low mem
          have s14 := k12.trans (s3.trans s4)
          obtain ⟨c1, row1, a1, a2, a3⟩ := wcell (s14 _ _ ew) (alw.imp fun _ _ h => h.same s14) (show s.1 ≤ ls.length by omega) (show s.2.1 ≤ hs.length by omega)
          obtain ⟨c2, row2, b1, b2, b3⟩ := wcell (s14 _ _ ew) (alw.imp fun _ _ h => h.same s14) hi hj
          refine ⟨tb, _, rfl, SqT.of (s4 _ _ etb), rfl, _, _, rfl, _, _, rfl, _, _, rfl, rfl, ?_⟩
          refine ⟨_, rfl, _, rfl, wp, _, _, _, rfl, rfl, SqT.of (s14 _ _ ew), a1, _, rfl, c1, row1, _, _, rfl, rfl, SqT.of a2, a3, _, rfl, _, _, rfl, rfl, ?_⟩
          refine ⟨_, rfl, _, rfl, wp, _, _, _, rfl, rfl, SqT.of (s14 _ _ ew), b1, _, rfl, c2, row2, _, _, rfl, rfl, SqT.of b2, b3, rfl, _, rfl, ?_⟩
          refine iteD (fun y => ?_) (fun y => ?_)
          · have z : Kw.W mi ex ls hs s.1 s.2.1 + s.2.2 = Kw.W mi ex ls hs i j := by injection y
            exact ⟨s, mem, z, rfl, s3.trans s4⟩
          · have z : Kw.W mi ex ls hs s.1 s.2.1 + s.2.2 ≠ Kw.W mi ex ls hs i j := fun z => y (congrArg V.int z)
            refine ⟨⟨_, _, _, rfl⟩, s4, fun s' hs' => ?_⟩
            rw [List.take_add_one, es] at hs'
            rcases List.mem_append.mp hs' with m | m
            · exact all s' m
            · rw [List.mem_singleton.mp m]; exact z
        · rintro σ H4 ⟨_, s4, all⟩
          rw [n6, List.take_length] at all
          obtain ⟨s, ms, es⟩ := Kw.stp_is (A := Kw.pA mi ex) (B := Kw.pB mi ex) (C := Kw.pp mi ex) hi hj c
          exact absurd es (all s ms)
      rintro σ H3 ⟨s, mem, es, rfl, s3⟩
      obtain ⟨q1, q2, q3, _, _⟩ := Kw.stp_low mem
      have e3 := s3 _ _ e2
      have k3 : Kept tl B0 H3 := k2.trans fun x o e _ => s3 x o e
      have T' : TlS mi ex ls hs s.1 s.2.1 (Kw.prOf i j s :: T.reverse) := tl2.cons hi hj mem es
      have lT : T.length ≤ 2000 := by have := tl2.len; rw [List.length_reverse] at this; omega
      have lits : its.length = T.length := al2.len
      have fin : ∀ t, H3 t = none → ∃ (p : Addr) (xs : List V) (x : V), V.ref tl = .ref p ∧ [V.ref t] = [x] ∧ upd H3 t (.tup [optV (Kw.prOf i j s).1, optV (Kw.prOf i j s).2]) p = some (.lst xs) ∧ xs.length + 1 ≤ sizeLine ∧ Iv s.1 s.2.1 (upd (upd H3 t (.tup [optV (Kw.prOf i j s).1, optV (Kw.prOf i j s).2])) p (.lst (xs ++ [x]))) := fun t ht => by
        have s4 := same_new ht (.tup [optV (Kw.prOf i j s).1, optV (Kw.prOf i j s).2])
        have et4 : upd H3 t (.tup [optV (Kw.prOf i j s).1, optV (Kw.prOf i j s).2]) t = some (.tup [optV (Kw.prOf i j s).1, optV (Kw.prOf i j s).2]) := upd_same
        have e4 := s4 _ _ e3
        generalize upd H3 t (.tup [optV (Kw.prOf i j s).1, optV (Kw.prOf i j s).2]) = H4 at s4 et4 e4 ⊢
        have k5 : Kept tl H4 (upd H4 tl (.lst (its ++ [V.ref t]))) := fun x o e nx => by rw [upd_ne nx]; exact e
        refine ⟨tl, its, .ref t, rfl, rfl, e4, by rw [sizeLine_eq]; omega, by omega, by omega, (k3.trans fun x o e _ => s4 x o e).trans k5, _, T ++ [Kw.prOf i j s], upd_same, ?_, ?_⟩
        · exact all2_app (al2.imp fun _ _ r => (r.same (s3.trans s4)).kept e4 k5) (.cons ⟨t, rfl, k5 _ _ et4 (fun z => by rw [z, e4] at et4; cases et4)⟩ .nil)
        · rw [List.reverse_append]; exact T'
      refine ⟨_, rfl, .inl ⟨rfl, _, SqL.of e3⟩, ?_⟩
      have lt1 : (decide (((s.1 : Nat) : Int) < (i : Nat))) = decide (s.1 < i) := decide_eq_decide.mpr (by omega)
      have lt2 : (decide (((s.2.1 : Nat) : Int) < (j : Nat))) = decide (s.2.1 < j) := decide_eq_decide.mpr (by omega)
      have par : ∀ t (p : Addr) (xs : List V) (x : V), Iv s.1 s.2.1 (upd (upd H3 t (.tup [optV (Kw.prOf i j s).1, optV (Kw.prOf i j s).2])) p (.lst (xs ++ [x]))) → N (S5 s.1 s.2.1 (some (natV s.1)) (some (natV s.2.1)) (some (.int s.2.2))) (upd (upd H3 t (.tup [optV (Kw.prOf i j s).1, optV (Kw.prOf i j s).2])) p (.lst (xs ++ [x]))) := fun t p xs x z => ⟨s.1, s.2.1, by omega, ⟨_, _, _, rfl⟩, z⟩
      unfold Kw.prOf at fin par
      refine ⟨_, rfl, _, rfl, _, _, rfl, rfl, _, rfl, ?_⟩
      rw [lt1]
      by_cases d1 : s.1 < i
      · rw [decide_eq_true d1]
        refine iteT ⟨_, rfl, _, rfl, _, rfl, _, _, rfl, rfl, _, rfl, ?_⟩
        rw [lt2]
        by_cases d2 : s.2.1 < j
        · rw [decide_eq_true d2]
          refine iteT ⟨_, rfl, by show 2 ≤ sizeLine; decide, fun t ht => ?_⟩
          simp only [if_pos d1, if_pos d2] at fin par
          obtain ⟨p, xs, x, a1, a2, a3, a4, a5⟩ := fin t ht
          exact ⟨p, xs, x, a1, a2, a3, a4, _, rfl, _, rfl, _, _, rfl, par t p xs x a5⟩
        · rw [decide_eq_false d2]
          refine iteF ⟨by show 2 ≤ sizeLine; decide, fun t ht => ?_⟩
          simp only [if_pos d1, if_neg d2] at fin par
          obtain ⟨p, xs, x, a1, a2, a3, a4, a5⟩ := fin t ht
          exact ⟨p, xs, x, a1, a2, a3, a4, _, rfl, _, rfl, _, _, rfl, par t p xs x a5⟩
      · rw [decide_eq_false d1]
        refine iteF ⟨_, rfl, _, rfl, _, _, rfl, rfl, _, rfl, ?_⟩
        rw [lt2]
        by_cases d2 : s.2.1 < j
        · rw [decide_eq_true d2]
          refine iteT ⟨_, rfl, by show 2 ≤ sizeLine; decide, fun t ht => ?_⟩
          simp only [if_neg d1, if_pos d2] at fin par
          obtain ⟨p, xs, x, a1, a2, a3, a4, a5⟩ := fin t ht
          exact ⟨p, xs, x, a1, a2, a3, a4, _, rfl, _, rfl, _, _, rfl, par t p xs x a5⟩
        · omega
    rintro σ H2 ⟨⟨o8, o9, o10, rfl⟩, hi, hj, k2, its, T, e2, al2, tl2⟩
    have k12 := kin _ k2
    obtain ⟨zs, z, ez, ⟨rb, rfl, erb⟩, _⟩ := all2_snoc (show All2 (RowT H2) wits (rowsTo mi ex ls hs ls.length ++ [rowTo mi ex ls hs ls.length (hs.length + 1)]) by
      rw [← rowsTo_succ]; exact alw.imp fun _ _ h => h.same k12)
    subst ez
    rw [rowTo_succ, List.map_append] at erb
    refine ⟨_, rfl, 1, rfl, wp, _, _, _, rfl, rfl, SqT.of (k12 _ _ ew), atI_last _ _, 1, rfl, rb, _, _, _, rfl, rfl, SqT.of erb, atI_last _ _, ?_⟩
    refine ⟨_, rfl, tl, its, rfl, SqL.of e2, fun rl hrl => ?_⟩
    have s3 := same_new hrl (.lst its.reverse)
    refine ⟨rl, _, rfl, .inl ⟨SqL.of upd_same, fun t ht => ⟨by show 2 ≤ sizeLine; decide, fun p hp => ?_⟩⟩⟩
    have s4 := same_new ht (.tup its.reverse)
    have s5 := same_new hp (.tup [V.int (Kw.W mi ex ls hs ls.length hs.length), V.ref t])
    exact q p t its.reverse T.reverse _ (s1.trans (k12.trans ((s3.trans s4).trans s5))) upd_same (s5 _ _ upd_same) (all2_rev (al2.imp fun _ _ r => r.same ((s3.trans s4).trans s5))) tl2
end
end K6

namespace K6
open PySem PySem.Spec PyProof.Rows L2 Hb St Sq Ow En Zp RZ Rd Xb Mn Wa
/-! ### grids, by their data -/
def lenD (c : Nat) : PyData → Bool
  | .tuple es => decide (es.length = c)
  | _ => false
def itD : PyData → List PyData
  | .tuple es => es
  | _ => []
def gridD (r c : Nat) : PyData → Bool
  | .tuple ds => decide (ds.length = r) && (ds.all (lenD c) && (ds.flatMap itD).all intD)
  | _ => false
/-- numbers, bools, None -/
def flatE : PyData → Bool
  | .int _ => true
  | .bool _ => true
  | .none => true
  | _ => false
def SmR : PyData → Prop
  | .tuple es => es.length ≤ 1000 ∧ es.all flatE = true
  | _ => True
def SmG : PyData → Prop
  | .tuple ds => ds.length ≤ 1000 ∧ ∀ d ∈ ds, SmR d
  | _ => True
/-- a value as it stands: tuples of tuples in the heap itself -/
def DR (K : PySem.W.Frag) (H : Hp) (y : V) (e : PyData) : Prop := (∃ b ys es, y = .ref b ∧ e = .tuple es ∧ H b = some (.tup ys) ∧ All2 (Dp K H) ys es) ∨ (isTupD e = false ∧ Dp K H y e)
def DG (K : PySem.W.Frag) (H : Hp) (v : V) (d : PyData) : Prop := (∃ a its ds, v = .ref a ∧ d = .tuple ds ∧ H a = some (.tup its) ∧ All2 (DR K H) its ds) ∨ (isTupD d = false ∧ Dp K H v d)
theorem dpa_ofL {K : PySem.W.Frag} {H : Hp} : ∀ {vs : List V} {ds : List PyData}, All2 (Dp K H) vs ds → DpAll K H vs ds
  | _, _, .nil => .nil
  | _, _, .cons a b => .cons a (dpa_ofL b)
theorem DR.dp {K : PySem.W.Frag} {H : Hp} {y : V} {e : PyData} (h : DR K H y e) : Dp K H y e := by
  rcases h with ⟨b, ys, es, rfl, rfl, e, al⟩ | ⟨_, h⟩
  · exact .tup (SqT.of e) (dpa_ofL al)
  · exact h
theorem DG.dp {K : PySem.W.Frag} {H : Hp} {y : V} {e : PyData} (h : DG K H y e) : Dp K H y e := by
  rcases h with ⟨b, ys, es, rfl, rfl, e, al⟩ | ⟨_, h⟩
  · exact .tup (SqT.of e) (dpa_ofL (al.imp fun _ _ r => r.dp))
  · exact h
theorem DR.same {K : PySem.W.Frag} {H H' : Hp} {y : V} {e : PyData} (h : DR K H y e) (s : Same H H') : DR K H' y e := by
  rcases h with ⟨b, ys, es, rfl, rfl, e, al⟩ | ⟨t, h⟩
  · exact .inl ⟨b, ys, es, rfl, rfl, s _ _ e, al.imp fun _ _ r => dp_same s r⟩
  · exact .inr ⟨t, dp_same s h⟩
theorem DG.same {K : PySem.W.Frag} {H H' : Hp} {y : V} {e : PyData} (h : DG K H y e) (s : Same H H') : DG K H' y e := by
  rcases h with ⟨b, ys, es, rfl, rfl, e, al⟩ | ⟨t, h⟩
  · exact .inl ⟨b, ys, es, rfl, rfl, s _ _ e, al.imp fun _ _ r => r.same s⟩
  · exact .inr ⟨t, dp_same s h⟩
def rLenK (K : PySem.W.Frag) : List V → Hp → VK → Prop := fun xs H Q => ∃ p ys, xs = [V.ref p] ∧ (SqL K H p ys ∨ SqT K H p ys) ∧ Q (V.int (ys.length : Nat)) H
theorem itD_len {n : Nat} {ds : List PyData} (h1 : ∀ d ∈ ds, (itD d).length ≤ n) : (ds.flatMap itD).length ≤ ds.length * n := by
  induction ds with
  | nil => exact Nat.zero_le _
  | cons d ds ih =>
    rw [List.flatMap_cons, List.length_append, List.length_cons, Nat.add_mul, Nat.one_mul]
    have := ih fun x m => h1 x (.tail _ m)
    have := h1 d (.head _)
    omega
section
variable {P : Program} {w : World} {K : PySem.W.Frag} {mg : Str → Option Value} {base : Heap}
abbrev s_is_grid : Stmt := top 27
theorem sc_is_grid : FnScope ["value", "rows", "columns", "row", "worth"] ["value", "rows", "columns"] (defScope s_is_grid) := ⟨rfl, rfl, rfl, by decide +kernel, rfl, by decide +kernel, by decide +kernel⟩
def spGrid (K : PySem.W.Frag) : Sp := fun vs H Q _ => ∃ (v : V) (d : PyData) (r c : Nat), vs = [v, natV r, natV c] ∧ DG K H v d ∧ SmG d ∧ r ≤ 1001 ∧ c ≤ 1001 ∧ ∀ H', Same H H' → Q (.bl (gridD r c d)) H'
theorem ok_grid {f : Addr} {fd : FuncData} (F : Fun K "is_grid" "is_grid" s_is_grid f fd) (C_is_integer : Cl P w K mg base "is_integer" ["value"] [] 1 (spIsInt K)) (n_all : mg "all" = none) (n_isinstance : mg "isinstance" = none) (n_len : mg "len" = none) (n_tuple : mg "tuple" = none) : FnOk P w K mg base CX0 2 f fd ["value", "rows", "columns"] (spGrid K) := by
  refine F.ok sc_is_grid (fun vs H Q E h => ?_) (fun cdv A outer s H vs Q E hr h => ?_)
  · obtain ⟨_, _, _, _, rfl, _⟩ := h
    rfl
  · obtain ⟨v, d, r, c, rfl, hv, sm, lr, lc, q⟩ := h
    refine ⟨_, (Evl.pss_cut (ps_if (PW.pt (pw_or (pt_not (pt_val (pe_callB call_isi (by rfl) n_isinstance (by decide +kernel) (pa_cons (pv 0) (pa_cons (pe_bltn (v := .ty "tuple") (by rfl) n_tuple (by decide +kernel) rfl) pa_nil))))) (pw_or1 (pt_cmpR op_ne (pe_callB call_len_seq (by rfl) n_len PySem.boot_len (pa_cons (pv 0) pa_nil)) (pv 1) (nomark _))))) (pss_one (ps_ret pe_bl)) pss_nil)
    (Evl.pss_cut (ps_if (pt_not (pt_val (pe_callB (cr_all rfl) (by rfl) n_all (by decide +kernel) (pa_cons (pe_lc (own := [("row", 3)]) (g := gName 3) rfl sc_is_grid.nd (pi_seq (pv 0)) (blkOk_by (N := ["value", "rows", "columns", "row", "worth"]) (sc := defScope s_is_grid) (by decide +kernel)) (fun _ _ _ _ _ => pg_name (i := 3) sc_is_grid.nd rfl (Or.inl rfl)) (fun _ _ _ _ _ => pts_nil) (fun _ _ _ _ _ => pe_and (pe_callB (r := rIsi K) call_isi (by rfl) n_isinstance (by decide +kernel) (pa_cons (pv 3) (pa_cons (pe_bltn (v := .ty "tuple") (by rfl) n_tuple (by decide +kernel) rfl) pa_nil))) (pe_one (pe_cmpR op_eq (pe_callB (r := rLenK K) call_len_seq (by rfl) n_len PySem.boot_len (pa_cons (pv 3) pa_nil)) (pv 2) (nomark _))))) pa_nil)))) (pss_one (ps_ret pe_bl)) pss_nil)
    (pss_one (ps_ret (pe_callB (cr_all rfl) (by rfl) n_all (by decide +kernel) (pa_cons (pe_lc2 (own := [("row", 3), ("worth", 4)]) (vs1 := [4]) (g := gName 3) (g1 := gName 4) (wi1 := iSeq K (tVar 3)) rfl sc_is_grid.nd (pi_seq (pv 0)) (blkOk_by (N := ["value", "rows", "columns", "row", "worth"]) (sc := defScope s_is_grid) (by decide +kernel)) (by decide) (fun _ _ _ _ _ => pg_name (i := 3) sc_is_grid.nd rfl (Or.inl rfl)) (fun _ _ _ _ _ => pts_nil) (fun _ _ _ _ _ => by exact pi_seq (pv 3)) (fun _ _ _ _ _ => pg_name (i := 4) sc_is_grid.nd rfl (Or.inl rfl)) (fun _ _ _ _ _ => pts_nil) (fun _ _ _ _ _ => pe_use C_is_integer (hr.mono (by decide)) rfl (pa_cons (pv 4) pa_nil))) pa_nil)))))), ?_⟩
    have ty := ty_dp hv.dp
    have kt := kit_tup hv.dp
    rcases hv with ⟨a, xs, ds, rfl, rfl, ha0, al⟩ | ⟨nt, hv⟩
    · have ht := SqT.of (K := K) ha0
      have sm : ds.length ≤ 1000 ∧ ∀ d ∈ ds, SmR d := sm
      have hl := al.len
      have q : ∀ H', Same H H' → Q (.bl (decide (ds.length = r) && (ds.all (lenD c) && (ds.flatMap itD).all intD))) H' := q
      let σ0 : L2.St := [some (.ref a), some (natV r), some (natV c), none, none]
      refine ⟨fun σ H' => σ = σ0 ∧ H' = H ∧ ds.length = r, ?_, ?_⟩
      · refine ⟨_, rfl, _, .ty "tuple", _, _, _, rfl, .ty "tuple", ty, kt, true, rfl, iteF ?_⟩
        refine ⟨_, rfl, a, _, rfl, .inr ht, _, rfl, rfl, _, rfl, ?_⟩
        rw [hl]
        by_cases e : ds.length = r
        · rw [decide_eq_true (by rw [e]; rfl)]
          exact iteF ⟨rfl, rfl, e⟩
        · rw [decide_eq_false (fun y => e (by have y : ((ds.length : Nat) : Int) = (r : Nat) := by injection y
                                              omega))]
          have q := q H (Same.refl _)
          rw [decide_eq_false e] at q
          exact iteT q
      rintro σ H0 ⟨rfl, rfl, e⟩
      rw [decide_eq_true e] at q
      refine ⟨fun σ H' => σ = σ0 ∧ Same H0 H' ∧ ds.all (lenD c) = true, ?_, ?_⟩
      · refine ⟨_, rfl, a, _, rfl, .inr ht, fun J S W s0 D hD => ?_⟩
        refine lc_mf (ds := ds) W (fun _ => true) (fun _ y d => y = .bl (lenD c d)) s0 hD hl (fun i x d H' ex ed s m => ?_) (fun H' ys s e al2 => ?_)
        · have hx := dp_same s (at2 al ex ed).dp
          have tx := ty_dp hx
          have kx := kit_tup hx
          refine ⟨rfl, _, rfl, _, .ty "tuple", _, _, _, rfl, .ty "tuple", tx, kx, _, rfl, ?_⟩
          cases hx with
          | @tup b ys es hb he =>
            have le : ys.length = es.length := (dpa_all he).len
            refine iteT ⟨_, rfl, b, _, rfl, .inr hb, _, rfl, rfl, ?_⟩
            refine mf_yes m hD (fun _ _ _ _ _ h => h) ed (by omega) (Same.refl _) rfl ?_
            rw [le]
            show V.bl _ = V.bl (decide (es.length = c))
            congr 1
            exact decide_eq_decide.mpr ⟨fun y => by have y : ((es.length : Nat) : Int) = (c : Nat) := by injection y
                                                    omega, fun y => by rw [y]; rfl⟩
          | _ => exact iteF (mf_yes m hD (fun _ _ _ _ _ h => h) ed (by omega) (Same.refl _) rfl rfl)
        · rw [Rd.filter_all] at al2
          have ey := bl_map al2
          refine ⟨D, _, rfl, SqL.of (by rw [← ey]; exact e), _, rfl, ?_⟩
          rw [all_map]
          cases c2 : ds.all (lenD c) with
          | true => exact iteF ⟨rfl, s, rfl⟩
          | false =>
            have q := q H' s
            rw [c2, Bool.false_and, Bool.and_false] at q
            exact iteT q
      rintro σ H1 ⟨rfl, s1, c2⟩
      rw [c2] at q
      have h1 := tupFix (Fix.of s1) ht
      have len1 : ∀ d ∈ ds, (itD d).length ≤ 1000 := fun d m => by
        have := sm.2 d m
        cases d with
        | tuple es => exact this.1
        | _ => exact Nat.zero_le _
      refine ⟨_, rfl, a, _, rfl, .inr h1, fun J S W z0 D hD => ?_⟩
      let M : List Bool → Hp → Prop := fun bs H' => Same H1 H' ∧ H' D = some (.lst (bs.map V.bl))
      have grow : ∀ {bs : List Bool} {b : Bool} {H' : Hp}, M bs H' → M (bs ++ [b]) (upd H' D (.lst (bs.map V.bl ++ [.bl b]))) := fun {bs b H'} m =>
        ⟨fun x o e => by rw [upd_ne (ne_of_none e hD)]; exact m.1 _ _ e, by rw [upd_same, List.map_append]; rfl⟩
      refine wk_go W (fun i H' => M (((ds.take i).flatMap itD).map intD) H') ⟨same_new hD _, upd_same⟩ (fun i H' m => W.keep (fun o e => m.1 _ _ e) z0) (fun i x H' ex m => ?_) (fun H' m => ?_)
      · obtain ⟨d, ed, hx⟩ := al.get ex
        have hc := List.all_eq_true.mp c2 d (at_mem ed)
        have hsm := sm.2 d (at_mem ed)
        have tk : ds.take (i + 1) = ds.take i ++ [d] := by rw [List.take_add_one, ed]; rfl
        have lt : ((ds.take i).flatMap itD).length ≤ 1000 * 1000 := Nat.le_trans (itD_len fun d m => len1 d (List.mem_of_mem_take m)) (Nat.mul_le_mul_right 1000 (Nat.le_trans (List.length_take_le' ..) sm.1))
        rcases hx with ⟨b, ys, es, rfl, rfl, hb0, al3⟩ | ⟨nt, hx⟩
        · have hb1 := s1 _ _ hb0
          have hb := SqT.of (K := K) (m.1 _ _ hb1)
          have le : es.length ≤ 1000 := hsm.1
          refine ⟨rfl, _, rfl, b, _, rfl, .inr hb, fun J1 S1 W1 z1 => ?_⟩
          rw [tk, List.flatMap_append, List.map_append]
          have nb : b ≠ D := ne_of_none hb1 hD
          refine wk_go W1 (fun j G => M (((ds.take i).flatMap itD).map intD ++ (es.take j).map intD) G ∧ Kept D H' G) ⟨by rw [List.take_zero, List.map_nil, List.append_nil]; exact m, Kept.refl _ _⟩ (fun j G m => W1.keep (fun o e => m.2 _ _ e nb) z1) (fun j y G ey m2 => ?_) (fun G m2 => ?_)
          · obtain ⟨e0, ee, hy⟩ := al3.get ey
            have le2 : (((ds.take i).flatMap itD).map intD ++ (es.take j).map intD).length ≤ 1000 * 1000 + 1000 := by
              rw [List.length_append, List.length_map, List.length_map]
              have : (es.take j).length ≤ es.length := List.length_take_le' ..
              omega
            have tk2 : es.take (j + 1) = es.take j ++ [e0] := by rw [List.take_add_one, ee]; rfl
            have G2 := grow (b := intD e0) m2.1
            rw [tk2, List.map_append, ← List.append_assoc]
            exact ⟨rfl, _, rfl, y, e0, rfl, dp_same (s1.trans m2.1.1) hy, _, m2.1.2, by rw [List.length_map, sizeLine_eq]; omega, G2, fun x o e n => by rw [upd_ne n]; exact m2.2 _ _ e n⟩
          · rw [show es.take ys.length = es by rw [al3.len, List.take_length]] at m2
            rw [show [PyData.tuple es].flatMap itD = es by simp [itD]]
            exact m2.1
        · cases d with
          | tuple es => cases nt
          | _ => cases hc
      · rw [show ds.take xs.length = ds by rw [hl, List.take_length]] at m
        refine ⟨D, _, rfl, SqL.of m.2, ?_⟩
        have q := q H' (s1.trans m.1)
        rw [List.all_map]
        exact q
    · have gf : gridD r c d = false := by
        cases d with
        | tuple es => cases nt
        | _ => rfl
      rw [gf] at q
      rw [nt] at kt
      exact ⟨fun _ _ => False, ⟨_, rfl, _, .ty "tuple", _, _, _, rfl, .ty "tuple", ty, kt, _, rfl, iteT (q _ (Same.refl _))⟩, fun _ _ h => h.elim⟩
end
end K6

namespace K6
open PySem PySem.Spec PyProof.Rows L2 Hb St Sq Ow En Zp RZ Rd Xb Mn Wa
def cell (rows : List (List Int)) (i j : Nat) : Int := (rows.getD i []).getD j 0
def intOf : PyData → Int
  | .int i => i
  | _ => 0
def rowsD (d : PyData) : List (List Int) := (itD d).map fun e => (itD e).map intOf
def cellOk (mi ex : Int) (ls hs : List (List Str)) (rows : List (List Int)) (i j : Nat) : Bool := (Kw.steps mi ex ls hs i j).all fun s => decide (cell rows i j ≤ cell rows s.1 s.2.1 + s.2.2)
def rowOk (mi ex : Int) (ls hs : List (List Str)) (rows : List (List Int)) (i : Nat) : Bool := (List.range (hs.length + 1)).all (cellOk mi ex ls hs rows i)
def holdB (mi ex : Int) (ls hs : List (List Str)) (pr : Int) (rows : List (List Int)) : Bool := decide (cell rows 0 0 = 0) && (decide (pr ≤ cell rows ls.length hs.length) && (List.range (ls.length + 1)).all (rowOk mi ex ls hs rows))
def holdV (mi ex : Int) (ls hs : List (List Str)) (pr : Int) (d : PyData) : Bool := gridD (ls.length + 1) (hs.length + 1) d && holdB mi ex ls hs pr (rowsD d)
theorem ints_of {K : PySem.W.Frag} {H : Hp} : ∀ {ys : List V} {es : List PyData}, All2 (Dp K H) ys es → es.all intD = true → ys = (es.map intOf).map V.int
  | _, _, .nil, _ => rfl
  | _, _, .cons (b := e) h t, a => by
    rw [List.all_cons, Bool.and_eq_true] at a
    rw [List.map_cons, List.map_cons, ints_of t a.2]
    cases h with
    | int i => rfl
    | _ => cases a.1
theorem rows_of {K : PySem.W.Frag} {H : Hp} {c : Nat} : ∀ {its : List V} {ds : List PyData}, All2 (DR K H) its ds → ds.all (lenD c) = true → (ds.flatMap itD).all intD = true → All2 (RowT H) its (ds.map fun e => (itD e).map intOf) ∧ ∀ x ∈ ds.map (fun e => (itD e).map intOf), x.length = c
  | _, _, .nil, _, _ => ⟨.nil, fun x h => by cases h⟩
  | _, _, .cons (b := e) h t, a, b => by
    rw [List.all_cons, Bool.and_eq_true] at a
    rw [List.flatMap_cons, List.all_append, Bool.and_eq_true] at b
    obtain ⟨r1, r2⟩ := rows_of t a.2 b.2
    rcases h with ⟨bb, ys, es, rfl, rfl, e, al⟩ | ⟨nt, h⟩
    · have ey := ints_of al b.1
      refine ⟨.cons ⟨bb, rfl, by rw [e, ey]; rfl⟩ r1, fun x hx => ?_⟩
      rcases List.mem_cons.mp hx with rfl | z
      · have a1 : decide (es.length = c) = true := a.1
        show ((es.map intOf)).length = c
        rw [List.length_map]; exact of_decide_eq_true a1
      · exact r2 x z
    · cases e with
      | tuple es => cases nt
      | _ => cases a.1
theorem grid_of {K : PySem.W.Frag} {H : Hp} {v : V} {d : PyData} {r c : Nat} (h : DG K H v d) (g : gridD r c d = true) : ∃ a its, v = .ref a ∧ H a = some (.tup its) ∧ All2 (RowT H) its (rowsD d) ∧ (rowsD d).length = r ∧ ∀ x ∈ rowsD d, x.length = c := by
  rcases h with ⟨a, its, ds, rfl, rfl, e, al⟩ | ⟨nt, h⟩
  · have g : (decide (ds.length = r) && (ds.all (lenD c) && (ds.flatMap itD).all intD)) = true := g
    simp only [Bool.and_eq_true, decide_eq_true_eq] at g
    obtain ⟨g1, g2, g3⟩ := g
    obtain ⟨r1, r2⟩ := rows_of al g2 g3
    exact ⟨a, its, rfl, e, r1, by show (ds.map _).length = r; rw [List.length_map]; exact g1, r2⟩
  · cases d with
    | tuple es => cases nt
    | _ => cases g
theorem atI_end {α : Type} {xs : List α} {v : α} (h : xs[xs.length - 1]? = some v) : atI xs (-1) = some v := by
  rcases List.eq_nil_or_concat xs with rfl | ⟨l, b, rfl⟩
  · cases h
  · rw [List.concat_eq_append] at *
    rw [List.length_append, List.length_singleton, Nat.add_sub_cancel, List.getElem?_append_right (Nat.le_refl _), Nat.sub_self] at h
    cases h
    exact atI_last _ _
section
variable {H : Hp} {a : Addr} {its : List V} {rows : List (List Int)} {r c : Nat}
theorem cell_at (al : All2 (RowT H) its rows) (hr : rows.length = r) (hc : ∀ x ∈ rows, x.length = c) {i j : Nat} (hi : i < r) (hj : j < c) : ∃ (b : Addr) (row : List Int), its[i]? = some (.ref b) ∧ H b = some (.tup (row.map V.int)) ∧ row.length = c ∧ row[j]? = some (cell rows i j) := by
  obtain ⟨row, er⟩ : ∃ row, rows[i]? = some row := ⟨_, List.getElem?_eq_getElem (by omega)⟩
  obtain ⟨z, ez, b, rfl, hb⟩ := al.getR er
  have lr := hc row (at_mem er)
  refine ⟨b, row, ez, hb, lr, ?_⟩
  have : cell rows i j = row.getD j 0 := by unfold cell; rw [getD_some er]
  rw [this, List.getD_eq_getElem?_getD, List.getElem?_eq_getElem (by omega)]; rfl
theorem cell_atI (al : All2 (RowT H) its rows) (hr : rows.length = r) (hc : ∀ x ∈ rows, x.length = c) {i j : Nat} (hi : i < r) (hj : j < c) : ∃ (b : Addr) (row : List V), atI its ((i : Nat) : Int) = some (.ref b) ∧ H b = some (.tup row) ∧ atI row ((j : Nat) : Int) = some (.int (cell rows i j)) := by
  obtain ⟨b, row, h1, h2, h3, h4⟩ := cell_at al hr hc hi hj
  exact ⟨b, _, atI_nat h1, h2, atI_nat (by rw [List.getElem?_map, h4]; rfl)⟩
theorem cell_end (al : All2 (RowT H) its rows) (hr : rows.length = r + 1) (hc : ∀ x ∈ rows, x.length = c + 1) : ∃ (b : Addr) (row : List V), atI its (-1) = some (.ref b) ∧ H b = some (.tup row) ∧ atI row (-1) = some (.int (cell rows r c)) := by
  obtain ⟨b, row, h1, h2, h3, h4⟩ := cell_at al hr hc (i := r) (j := c) (by omega) (by omega)
  exact ⟨b, _, atI_end (by rw [al.len, hr]; exact h1), h2, atI_end (by rw [List.length_map, h3, List.getElem?_map]; show Option.map _ row[c]? = _; rw [h4]; rfl)⟩
end
section
variable {P : Program} {w : World} {K : PySem.W.Frag} {mg : Str → Option Value} {base : Heap}
abbrev s_worths_hold : Stmt := top 26
theorem sc_worths_hold : FnScope ["lots", "heard", "missing", "extra", "price", "value", "i", "j", "steps", "k", "m", "cost"] ["lots", "heard", "missing", "extra", "price", "value"] (defScope s_worths_hold) := ⟨rfl, rfl, rfl, by decide +kernel, rfl, by decide +kernel, by decide +kernel⟩
def spHold (K : PySem.W.Frag) (C D : Addr) : Sp := fun vs H Q E => ∃ (v u x y val : V) (d e f g dv : PyData) (ls hs : List (List Str)) (mi ex pr : Int), vs = [v, u, x, y, .int pr, val] ∧ BIn K H v u x y d e f g ls hs mi ex ∧ DG K H val dv ∧ SmG dv ∧
  (firstNo [d, e] = none → priceE f g = none → ∀ H', Same H H' → Q (.bl (holdV mi ex ls hs pr dv)) H') ∧ BRef C D E H d e f g
theorem ok_hold {f fn C D : Addr} {fd : FuncData} (F : Fun K "worths_hold" "worths_hold" s_worths_hold f fd) (N : FnR P w K mg base (L2.CX P w) 4 fn (spNeedR K C)) (gN : mg "need_tales" = some (.ref fn)) (kN : PySem.W.keepIn K (.ref fn) = true)
    (C_need_prices : Cx_ P w K mg base "need_prices" ["missing", "extra"] 3 (spPrices K D)) (C_is_grid : Cl P w K mg base "is_grid" ["value", "rows", "columns"] [] 2 (spGrid K)) (C_steps_to : Cl P w K mg base "steps_to" ["lots", "heard", "missing", "extra", "i", "j"] [] 3 (spSteps K)) (n_all : mg "all" = none) (n_len : mg "len" = none) (n_range : mg "range" = none) :
    FnOk P w K mg base (L2.CX P w) 5 f fd ["lots", "heard", "missing", "extra", "price", "value"] (spHold K C D) := by
  refine F.okX sc_worths_hold (fun vs H Q E h => ?_) (fun cdv A outer s H vs Q E hr h => ?_)
  · obtain ⟨_, _, _, _, _, _, _, _, _, _, _, _, _, _, _, rfl, _⟩ := h
    rfl
  · obtain ⟨v, u, x, y, val, d, e, f, g, dv, ls, hs, mi, ex, pr, rfl, bi, gv, sm, q, qe1, qe2⟩ := h
    refine ⟨_, (pss_cons (ps_expr (pe_goR N gN kN (hr.mono (by decide)) (fun σ => passAt (takes_of rfl rfl rfl rfl) σ) rfl (pa_cons (pv 0) (pa_cons (pv 1) pa_nil))))
    (pss_cons (ps_expr (pe_useX C_need_prices (hr.mono (by decide)) (fun σ => passAt (takes_of rfl rfl rfl rfl) σ) rfl (pa_cons (pv 2) (pa_cons (pv 3) pa_nil))))
    (Evl.pss_cut (ps_if (PW.pt (pw_or (pt_not (pt_val (pe_use C_is_grid (hr.mono (by decide)) rfl (pa_cons (pv 5) (pa_cons (pe_op op_add (pe_callB call_len_seq (by rfl) n_len PySem.boot_len (pa_cons (pv 0) pa_nil)) pe_int) (pa_cons (pe_op op_add (pe_callB call_len_seq (by rfl) n_len PySem.boot_len (pa_cons (pv 1) pa_nil)) pe_int) pa_nil)))))) (pw_or (pt_cmpR op_ne (pe_ix (r := rIxT K) ix_tup (pe_ix (r := rIxT K) ix_tup (pv 5) pe_int (fun _ _ => rfl)) pe_int (fun _ _ => rfl)) pe_int (nomark _)) (pw_or1 (pt_cmpR op_lt (pe_ix (r := rIxT K) ix_tup (pe_ix (r := rIxT K) ix_tup (pv 5) (pe_un un_neg pe_int) (fun _ _ => rfl)) (pe_un un_neg pe_int) (fun _ _ => rfl)) (pv 4) (nomark _)))))) (pss_one (ps_ret pe_bl)) pss_nil)
    (Evl.pss_cut (ps_for (passes_of rfl) rfl (pi_range1 (by rfl) n_range (pa_cons (pe_op op_add (pe_callB call_len_seq (by rfl) n_len PySem.boot_len (pa_cons (pv 0) pa_nil)) pe_int) pa_nil)) (pg_name (i := 6) sc_worths_hold.nd rfl (Or.inr rfl))
      (pss_one (ps_for (passes_of rfl) rfl (pi_range1 (by rfl) n_range (pa_cons (pe_op op_add (pe_callB call_len_seq (by rfl) n_len PySem.boot_len (pa_cons (pv 1) pa_nil)) pe_int) pa_nil)) (pg_name (i := 7) sc_worths_hold.nd rfl (Or.inr rfl))
      (pss_cons (ps_set (i := 8) sc_worths_hold.nd rfl (Or.inl rfl) (pe_use C_steps_to (hr.mono (by decide)) rfl (pa_cons (pv 0) (pa_cons (pv 1) (pa_cons (pv 2) (pa_cons (pv 3) (pa_cons (pv 6) (pa_cons (pv 7) pa_nil))))))))
    (pss_one (ps_if (pt_not (pt_val (pe_callB (cr_all rfl) (by rfl) n_all (by decide +kernel) (pa_cons (pe_lc (own := [("k", 9), ("m", 10), ("cost", 11)]) (g := gTup K 3 (gCons (gName 9) (gCons (gName 10) (gCons (gName 11) gNil)))) rfl sc_worths_hold.nd (pi_seq (pv 8)) (blkOk_by (N := ["lots", "heard", "missing", "extra", "price", "value", "i", "j", "steps", "k", "m", "cost"]) (sc := defScope s_worths_hold) (by decide +kernel)) (fun _ _ _ _ _ => pg_tup rfl (pgs_cons (pg_name (i := 9) sc_worths_hold.nd rfl (Or.inl rfl)) (pgs_cons (pg_name (i := 10) sc_worths_hold.nd rfl (Or.inl rfl)) (pgs_cons (pg_name (i := 11) sc_worths_hold.nd rfl (Or.inl rfl)) pgs_nil)))) (fun _ _ _ _ _ => pts_nil) (fun _ _ _ _ _ => pe_cmpR op_le (pe_ix (r := rIxT K) ix_tup (pe_ix (r := rIxT K) ix_tup (pv 5) (pv 6) (fun _ _ => rfl)) (pv 7) (fun _ _ => rfl)) (pe_op op_add (pe_ix (r := rIxT K) ix_tup (pe_ix (r := rIxT K) ix_tup (pv 5) (pv 9) (fun _ _ => rfl)) (pv 10) (fun _ _ => rfl)) (pv 11)) (nomark _))) pa_nil)))) (pss_one (ps_ret pe_bl)) pss_nil))))))
    (pss_one (ps_ret pe_bl)))))), ?_⟩
    refine ⟨_, rfl, _, rfl, [], [v, u], rfl, rfl, by show 2 ≤ sizeLine; decide, fun p hp => ?_⟩
    have s1 := same_new hp (.tup [v, u])
    refine ⟨p, [v, u], [d, e], rfl, upd_same, .cons (dp_same s1 bi.t.dv) (.cons (dp_same s1 bi.t.du) .nil), by show 2 ≤ 1000; decide, fun d' hd' => ?_, fun no H2 s2 => ?_, fun k hk dd H2 s2 ed => qe1 k hk dd H2 (s1.trans s2) ed⟩
    · rcases List.mem_cons.mp hd' with rfl | z
      · exact bi.t.sd
      · rw [List.mem_singleton.mp z]; exact bi.t.se
    have s02 := s1.trans s2
    have b2 := bi.same s02
    refine ⟨_, rfl, _, rfl, x, y, f, g, rfl, b2.dx, b2.dy, fun np => ?_, fun xx hxx dd H3 s3 ed => qe2 no xx hxx dd H3 (s02.trans s3) ed⟩
    obtain ⟨a, b, rfl, rfl, ha, hb⟩ := b2.t.ok no
    obtain ⟨rfl, rfl⟩ := b2.pr np
    have l1 := b2.t.ll
    have l2 := b2.t.lh
    have l3 := b2.t.l4
    have l4 := b2.t.l3
    have q : ∀ H', Same H2 H' → Q (.bl (holdV mi ex ls hs pr dv)) H' := fun H' s => q no np H' (s02.trans s)
    have gv2 := gv.same s02
    obtain ⟨aits, ea, ala⟩ := id ha
    obtain ⟨bits, eb, alb⟩ := id hb
    have lna : aits.length = ls.length := ala.len
    have lnb : bits.length = hs.length := alb.len
    let S0 : V → Option V → Option V → Option V → Option V → Option V → Option V → L2.St := fun val o6 o7 o8 o9 o10 o11 => [some (.ref a), some (.ref b), some (.int mi), some (.int ex), some (.int pr), some val, o6, o7, o8, o9, o10, o11]
    let n := ls.length
    let m := hs.length
    refine ⟨fun σ H' => ∃ vp its, σ = S0 (.ref vp) none none none none none none ∧ Same H2 H' ∧ H' vp = some (.tup its) ∧ All2 (RowT H') its (rowsD dv) ∧ gridD (n + 1) (m + 1) dv = true ∧ (rowsD dv).length = n + 1 ∧ (∀ x ∈ rowsD dv, x.length = m + 1) ∧ cell (rowsD dv) 0 0 = 0 ∧ pr ≤ cell (rowsD dv) n m, ?_, ?_⟩
    · refine ⟨_, rfl, _, rfl, a, _, rfl, .inr (SqT.of ea), _, _, rfl, rfl, _, rfl, b, _, rfl, .inr (SqT.of eb), _, _, rfl, rfl, ?_⟩
      rw [lna, lnb]
      refine ⟨val, dv, n + 1, m + 1, rfl, gv2, sm, by omega, by omega, fun H3 s3 => ⟨_, rfl, ?_⟩⟩
      cases cg : gridD (n + 1) (m + 1) dv with
      | false =>
        refine iteT (iteT ?_)
        have q := q H3 s3
        have hv : holdV mi ex ls hs pr dv = false := by unfold holdV; rw [cg]; rfl
        rw [hv] at q
        exact q
      | true =>
        obtain ⟨vp, its, rfl, ev, al, lr, lc⟩ := grid_of (gv2.same s3) cg
        obtain ⟨c1, row1, a1, a2, a3⟩ := cell_atI al lr lc (i := 0) (j := 0) (by omega) (by omega)
        obtain ⟨c2, row2, b1, b2, b3⟩ := cell_end al lr lc
        have gd : holdV mi ex ls hs pr dv = holdB mi ex ls hs pr (rowsD dv) := by unfold holdV; rw [cg]; rfl
        refine iteF ⟨_, rfl, vp, its, _, _, rfl, rfl, SqT.of ev, a1, c1, row1, _, _, rfl, rfl, SqT.of a2, a3, rfl, _, rfl, ?_⟩
        by_cases z1 : cell (rowsD dv) 0 0 = 0
        · rw [z1, decide_eq_true rfl]
          refine iteF ⟨_, rfl, 1, rfl, vp, its, _, _, rfl, rfl, SqT.of ev, b1, 1, rfl, c2, row2, _, _, rfl, rfl, SqT.of b2, b3, _, rfl, _, _, rfl, rfl, _, rfl, ?_⟩
          refine iteD (fun z2 => ?_) (fun z2 => ?_)
          · have q := q H3 s3
            have hv : holdV mi ex ls hs pr dv = false := by
              rw [gd]; unfold holdB
              rw [decide_eq_false (show ¬ pr ≤ cell (rowsD dv) ls.length hs.length from fun h => by have h : pr ≤ cell (rowsD dv) n m := h; omega), Bool.false_and, Bool.and_false]
            rw [hv] at q
            exact q
          · exact ⟨vp, its, rfl, s3, ev, al, rfl, lr, lc, rfl, by omega⟩
        · rw [decide_eq_false (fun y => z1 (by injection y))]
          refine iteT (iteT ?_)
          have q := q H3 s3
          have hv : holdV mi ex ls hs pr dv = false := by
            rw [gd]; unfold holdB
            rw [decide_eq_false z1]; rfl
          rw [hv] at q
          exact q
    rintro σ H3 ⟨vp, its, rfl, s3, ev, al, cg, lr, lc, z1, z2⟩
    have gd : holdV mi ex ls hs pr dv = (List.range (n + 1)).all (rowOk mi ex ls hs (rowsD dv)) := by
      unfold holdV holdB
      rw [cg, decide_eq_true z1, decide_eq_true z2]; rfl
    rw [gd] at q
    generalize hR : rowsD dv = rows at *
    have bad : ∀ i j, i < n + 1 → j < m + 1 → cellOk mi ex ls hs rows i j = false → ∀ H', Same H3 H' → Q (.bl false) H' := fun i j hi hj hf H' s => by
      have q := q H' (s3.trans s)
      have : (List.range (n + 1)).all (rowOk mi ex ls hs rows) = false := by
        cases e : (List.range (n + 1)).all (rowOk mi ex ls hs rows) with
        | false => rfl
        | true =>
          have h1 := List.all_eq_true.mp e i (List.mem_range.mpr hi)
          have h2 := List.all_eq_true.mp h1 j (List.mem_range.mpr hj)
          rw [hf] at h2; cases h2
      rw [this] at q
      exact q
    refine ⟨fun σ H' => (∃ o6 o7 o8 o9 o10 o11, σ = S0 (.ref vp) o6 o7 o8 o9 o10 o11) ∧ Same H3 H' ∧ ∀ i < n + 1, rowOk mi ex ls hs rows i = true, ?_, ?_⟩
    · refine ⟨_, rfl, a, _, rfl, .inr (SqT.of ((s3) _ _ ea)), _, _, rfl, rfl, _, rfl, by omega, by omega, ?_⟩
      rw [lna, show ((ls.length : Nat) + 1 : Int).toNat = n + 1 by omega]
      refine for_range (fun i σ H' => (∃ o6 o7 o8 o9 o10 o11, σ = S0 (.ref vp) o6 o7 o8 o9 o10 o11) ∧ Same H3 H' ∧ ∀ i' < i, rowOk mi ex ls hs rows i' = true) ⟨⟨_, _, _, _, _, _, rfl⟩, Same.refl _, fun i h => absurd h (Nat.not_lt_zero _)⟩ ?_ (fun σ H' z => z)
      rintro i σ H4 hi ⟨⟨o6, o7, o8, o9, o10, o11, rfl⟩, s4, all⟩
      rw [Int.zero_add]
      refine ⟨_, rfl, b, _, rfl, .inr (SqT.of ((s3.trans s4) _ _ eb)), _, _, rfl, rfl, _, rfl, by omega, by omega, ?_⟩
      rw [lnb, show ((hs.length : Nat) + 1 : Int).toNat = m + 1 by omega]
      refine for_range (fun j σ H' => (∃ o7 o8 o9 o10 o11, σ = S0 (.ref vp) (some (natV i)) o7 o8 o9 o10 o11) ∧ Same H4 H' ∧ ∀ j' < j, cellOk mi ex ls hs rows i j' = true) ⟨⟨_, _, _, _, _, rfl⟩, Same.refl _, fun i h => absurd h (Nat.not_lt_zero _)⟩ ?_ ?_
      · clear o7 o8 o9 o10 o11
        rintro j σ H5 hj ⟨⟨o7, o8, o9, o10, o11, rfl⟩, s5, all2⟩
        rw [Int.zero_add]
        have s25 := s3.trans (s4.trans s5)
        refine ⟨_, rfl, _, rfl, _, rfl, _, rfl, _, rfl, _, rfl, a, b, ls, hs, mi, ex, i, j, rfl, ha.fix (Fix.of s25), hb.fix (Fix.of s25), by omega, by omega, l1, l2, l3, l4, fun p pits H6 s6 _ ep al6 => ?_⟩
        have n6 : pits.length = (Kw.steps mi ex ls hs i j).length := al6.len
        have n3 := stp_len mi ex ls hs i j
        refine ⟨_, rfl, p, pits, rfl, SqX.lst ep, fun J S W z0 D hD => ?_⟩
        refine lc_mf (ds := Kw.steps mi ex ls hs i j) W (fun _ => true) (fun _ y s => y = .bl (decide (cell rows i j ≤ cell rows s.1 s.2.1 + s.2.2))) z0 hD n6 (fun t x s H7 ex7 es7 s7 m7 => ?_) (fun H7 ys s7 e7 al7 => ?_)
        · obtain ⟨s', es', tb, rfl, et⟩ := al6.get ex7
          rw [es7] at es'
          obtain rfl := Option.some.inj es'
          have mem := at_mem es7
          obtain ⟨q1, q2, q3, _, _⟩ := Kw.stp_low mem
          have s37 := s4.trans (s5.trans (s6.trans s7))
          have ev7 := s37 _ _ ev
          have al77 := al.imp fun _ _ h => h.same s37
          obtain ⟨c1, row1, a1, a2, a3⟩ := cell_atI al77 lr lc (i := i) (j := j) (by omega) (by omega)
          obtain ⟨c2, row2, b1, b2, b3⟩ := cell_atI al77 lr lc (i := s.1) (j := s.2.1) (by omega) (by omega)
          refine ⟨tb, _, rfl, SqT.of (s7 _ _ et), rfl, _, _, rfl, _, _, rfl, _, _, rfl, rfl, rfl, ?_⟩
          refine ⟨_, rfl, _, rfl, vp, its, _, _, rfl, rfl, SqT.of ev7, a1, _, rfl, c1, row1, _, _, rfl, rfl, SqT.of a2, a3, ?_⟩
          exact ⟨_, rfl, _, rfl, vp, its, _, _, rfl, rfl, SqT.of ev7, b1, _, rfl, c2, row2, _, _, rfl, rfl, SqT.of b2, b3, _, rfl, _, _, rfl, rfl, _, _, rfl, rfl, mf_yes m7 hD (fun _ _ _ _ _ h => h) es7 (by omega) (Same.refl _) rfl rfl⟩
        · rw [Rd.filter_all] at al7
          have ey := bl_map al7
          refine ⟨D, _, rfl, SqL.of (by rw [← ey]; exact e7), _, rfl, ?_⟩
          rw [all_map]
          have s57 := s5.trans (s6.trans s7)
          show if (!cellOk mi ex ls hs rows i j) = true then _ else _
          cases cc : cellOk mi ex ls hs rows i j with
          | true =>
            refine iteF ⟨⟨_, _, _, _, _, rfl⟩, s57, fun j' hj' => ?_⟩
            by_cases e : j' = j
            · rw [e]; exact cc
            · exact all2 j' (by omega)
          | false => exact iteT (bad i j hi hj cc H7 (s4.trans s57))
      · rintro σ H5 ⟨⟨o7, o8, o9, o10, o11, rfl⟩, s5, all2⟩
        refine ⟨⟨_, _, _, _, _, _, rfl⟩, s4.trans s5, fun i' hi' => ?_⟩
        by_cases e : i' = i
        · rw [e]; exact List.all_eq_true.mpr fun j hj => all2 j (List.mem_range.mp hj)
        · exact all i' (by omega)
    rintro σ H4 ⟨_, s4, all⟩
    have q := q H4 (s3.trans s4)
    rw [show (List.range (n + 1)).all (rowOk mi ex ls hs rows) = true from List.all_eq_true.mpr fun i hi => all i (List.mem_range.mp hi)] at q
    exact q
end
end K6

namespace K6
open PySem PySem.Spec PyProof.Rows L2 Hb St Sq Ow En Zp RZ Rd Xb Mn Wa Da
theorem notin_strs {K : PySem.W.Frag} {H : Hp} {a : Addr} {ns : List Str} {x : Str} {Q : VK} (h : SqX K H a (ns.map V.str)) (q : Q (.bl (!decide (x ∈ ns))) H) : rIn K true (.str x) (.ref a) H Q :=
  ⟨a, _, rfl, h, rfl, flat_strs ns, by rw [inV_strs]; exact q⟩
theorem sum_const {α : Type} (c : Int) : ∀ l : List α, (l.map fun _ => c).sum = c * (l.length : Nat)
  | [] => by simp
  | x :: l => by
    rw [List.map_cons, List.sum_cons, sum_const c l, List.length_cons]
    show c + c * _ = c * ((l.length : Int) + 1)
    rw [Int.mul_add, Int.mul_one, Int.add_comm]
theorem min2 (i j : Int) : (if j < i then j else i) = min i j := by
  split <;> omega
/-- a list of lots -/
def LLst (H : Hp) (a : Addr) (ls : List (List Str)) : Prop := ∃ its, H a = some (.lst its) ∧ All2 (LotH H) its ls
theorem LLst.same {H H' : Hp} {a : Addr} {ls : List (List Str)} (h : LLst H a ls) (s : Same H H') : LLst H' a ls := let ⟨its, e, al⟩ := h; ⟨its, s _ _ e, al.imp fun _ _ r => r.fix (Fix.of s)⟩
section
variable {P : Program} {w : World} {K : PySem.W.Frag} {mg : Str → Option Value} {base : Heap}
/-! ### _law_price -/
abbrev s__law_price : Stmt := top 34
theorem sc__law_price : FnScope ["lot", "names", "missing", "extra", "name"] ["lot", "names", "missing", "extra"] (defScope s__law_price) := ⟨rfl, rfl, rfl, by decide +kernel, rfl, by decide +kernel, by decide +kernel⟩
def spPrice (K : PySem.W.Frag) : Sp := fun vs H Q _ => ∃ (a b : Addr) (xs ys : List Str) (mi ex : Int), vs = [.ref a, .ref b, .int mi, .int ex] ∧ SqT K H a (xs.map V.str) ∧ SqT K H b (ys.map V.str) ∧ xs.length ≤ 1000 ∧ ys.length ≤ 1000 ∧ ∀ H', Same H H' → Q (.int (Kw.pl mi ex xs ys)) H'
theorem ok_price {f : Addr} {fd : FuncData} (F : Fun K "_law_price" "_law_price" s__law_price f fd) (n_sum : mg "sum" = none) : FnOk P w K mg base CX0 1 f fd ["lot", "names", "missing", "extra"] (spPrice K) := by
  refine F.ok sc__law_price (fun vs H Q E h => ?_) (fun cdv A outer s H vs Q E hr h => ?_)
  · obtain ⟨_, _, _, _, _, _, rfl, _⟩ := h
    rfl
  · obtain ⟨a, b, xs, ys, mi, ex, rfl, ha, hb, l1, l2, q⟩ := h
    refine ⟨_, (pss_one (ps_ret (pe_op op_add (pe_callB (cr_sum rfl) (by rfl) n_sum (by decide +kernel) (pa_cons (pe_lc (own := [("name", 4)]) (g := gName 4) rfl sc__law_price.nd (pi_seq (pv 0)) (blkOk_by (N := ["lot", "names", "missing", "extra", "name"]) (sc := defScope s__law_price) (by decide +kernel)) (fun _ _ _ _ _ => pg_name (i := 4) sc__law_price.nd rfl (Or.inl rfl)) (fun _ _ _ _ _ => pts_one (pt_cmpR (r := rIn K true) op_notIn_seq (pv 4) (pv 1) rfl)) (fun _ _ _ _ _ => pv 2)) pa_nil)) (pe_callB (cr_sum rfl) (by rfl) n_sum (by decide +kernel) (pa_cons (pe_lc (own := [("name", 4)]) (g := gName 4) rfl sc__law_price.nd (pi_seq (pv 1)) (blkOk_by (N := ["lot", "names", "missing", "extra", "name"]) (sc := defScope s__law_price) (by decide +kernel)) (fun _ _ _ _ _ => pg_name (i := 4) sc__law_price.nd rfl (Or.inl rfl)) (fun _ _ _ _ _ => pts_one (pt_cmpR (r := rIn K true) op_notIn_seq (pv 4) (pv 0) rfl)) (fun _ _ _ _ _ => pv 3)) pa_nil))))), ?_⟩
    refine ⟨_, rfl, a, _, rfl, .inr ha, fun J S W s0 D hD => ?_⟩
    refine lc_mf (ds := xs) W (fun x => !decide (x ∈ ys)) (fun _ y d => y = .int mi) s0 hD (by simp) (fun i x d H' ex' ed s m => ?_) (fun H1 zs s1 e al => ?_)
    · rw [at_map ex' ed]
      refine ⟨rfl, _, rfl, _, rfl, notin_strs (.inr (tupFix (Fix.of s) hb)) ⟨_, rfl, ?_⟩⟩
      cases c : (!decide (d ∈ ys)) with
      | true => exact iteT ⟨_, rfl, mf_yes m hD (fun _ _ _ _ _ h => h) ed (by omega) (Same.refl _) c rfl⟩
      | false => exact iteF (mf_no m (fun _ _ _ _ _ h => h) ed (Same.refl _) c)
    · have ez := al.map_eq (f := fun _ => V.int mi) fun _ _ h => h
      refine ⟨D, (xs.filter fun x => !decide (x ∈ ys)).map fun _ => mi, rfl, SqL.of (by rw [e, ez, List.map_map]; rfl), ?_⟩
      rw [sum_const]
      refine ⟨_, rfl, b, _, rfl, .inr (tupFix (Fix.of s1) hb), fun J S W s0 D2 hD2 => ?_⟩
      refine lc_mf (ds := ys) W (fun x => !decide (x ∈ xs)) (fun _ y d => y = .int ex) s0 hD2 (by simp) (fun i x d H' ex' ed s m => ?_) (fun H2 zs2 s2 e2 al2 => ?_)
      · rw [at_map ex' ed]
        refine ⟨rfl, _, rfl, _, rfl, notin_strs (.inr (tupFix (Fix.of (s1.trans s)) ha)) ⟨_, rfl, ?_⟩⟩
        cases c : (!decide (d ∈ xs)) with
        | true => exact iteT ⟨_, rfl, mf_yes m hD2 (fun _ _ _ _ _ h => h) ed (by omega) (Same.refl _) c rfl⟩
        | false => exact iteF (mf_no m (fun _ _ _ _ _ h => h) ed (Same.refl _) c)
      · have ez2 := al2.map_eq (f := fun _ => V.int ex) fun _ _ h => h
        refine ⟨D2, (ys.filter fun x => !decide (x ∈ xs)).map fun _ => ex, rfl, SqL.of (by rw [e2, ez2, List.map_map]; rfl), ?_⟩
        rw [sum_const]
        exact ⟨_, _, rfl, rfl, q H2 (s1.trans s2)⟩
/-! ### _law_least -/
abbrev s__law_least : Stmt := top 35
theorem sc__law_least : FnScope ["lots", "heard", "missing", "extra", "best", "lot"] ["lots", "heard", "missing", "extra"] (defScope s__law_least) := ⟨rfl, rfl, rfl, by decide +kernel, rfl, by decide +kernel, by decide +kernel⟩
def spLeast (n : Nat) : Sp := fun vs H Q _ => ∃ (a b : Addr) (ls hs : List (List Str)) (ns : List Str) (mi ex : Int), vs = [.ref a, .ref b, .int mi, .int ex] ∧ LLst H a ls ∧ LLst H b hs ∧ NsOk ns ∧ (∀ l ∈ ls, LotOk ns l) ∧ (∀ h ∈ hs, LotOk ns h) ∧ ls.length + hs.length < n ∧ n ≤ 20 ∧ ∀ H', Same H H' → Q (.int (Kw.least mi ex ls hs)) H'
theorem ok_leastP {n : Nat} {f : Addr} {fd : FuncData} (F : Fun K "_law_least" "_law_least" s__law_least f fd) (C__law_least : Cl P w K mg base "_law_least" ["lots", "heard", "missing", "extra"] [] (n + 2) (spLeast n)) (C__law_price : Cl P w K mg base "_law_price" ["lot", "names", "missing", "extra"] [] 1 (spPrice K)) (n_len : mg "len" = none) (n_min : mg "min" = none) (n_sum : mg "sum" = none) : FnOk P w K mg base CX0 (n + 3) f fd ["lots", "heard", "missing", "extra"] (spLeast (n + 1)) := by
  refine F.ok sc__law_least (fun vs H Q E h => ?_) (fun cdv A outer s H vs Q E hr h => ?_)
  · obtain ⟨_, _, _, _, _, _, _, rfl, _⟩ := h
    rfl
  · obtain ⟨a, b, ls, hs, ns, mi, ex, rfl, ha, hb, nok, okl, okh, ln, n20, q⟩ := h
    refine ⟨_, (Evl.pss_cut (ps_if (PW.pt (pw_or (pt_cmpR (op_eqD hr.units) (pv 0) (pe_lst pa_nil) (nomark _)) (pw_or1 (pt_cmpR (op_eqD hr.units) (pv 1) (pe_lst pa_nil) (nomark _))))) (pss_one (ps_ret (pe_op op_add (pe_callB (cr_sum rfl) (by rfl) n_sum (by decide +kernel) (pa_cons (pe_lc (own := [("lot", 5)]) (g := gName 5) rfl sc__law_least.nd (pi_seq (pv 0)) (blkOk_by (N := ["lots", "heard", "missing", "extra", "best", "lot"]) (sc := defScope s__law_least) (by decide +kernel)) (fun _ _ _ _ _ => pg_name (i := 5) sc__law_least.nd rfl (Or.inl rfl)) (fun _ _ _ _ _ => pts_nil) (fun _ _ _ _ _ => pe_op op_mul (pv 2) (pe_callB (r := rLenK K) call_len_seq (by rfl) n_len PySem.boot_len (pa_cons (pv 5) pa_nil)))) pa_nil)) (pe_callB (cr_sum rfl) (by rfl) n_sum (by decide +kernel) (pa_cons (pe_lc (own := [("lot", 5)]) (g := gName 5) rfl sc__law_least.nd (pi_seq (pv 1)) (blkOk_by (N := ["lots", "heard", "missing", "extra", "best", "lot"]) (sc := defScope s__law_least) (by decide +kernel)) (fun _ _ _ _ _ => pg_name (i := 5) sc__law_least.nd rfl (Or.inl rfl)) (fun _ _ _ _ _ => pts_nil) (fun _ _ _ _ _ => pe_op op_mul (pv 3) (pe_callB (r := rLenK K) call_len_seq (by rfl) n_len PySem.boot_len (pa_cons (pv 5) pa_nil)))) pa_nil))))) pss_nil)
    (pss_cons (ps_set (i := 4) sc__law_least.nd rfl (Or.inl rfl) (pe_op op_add (pe_op op_mul (pv 2) (pe_callB call_len_seq (by rfl) n_len PySem.boot_len (pa_cons (pe_ix ix_list (pv 0) pe_int (fun _ _ => rfl)) pa_nil))) (pe_use C__law_least (hr.mono (Nat.le_refl _)) rfl (pa_cons (pe_slice (r := rSlL K) sl_list (pv 0) (po_some pe_int) po_none) (pa_cons (pv 1) (pa_cons (pv 2) (pa_cons (pv 3) pa_nil)))))))
    (pss_cons (ps_set (i := 4) sc__law_least.nd rfl (Or.inl rfl) (pe_callB (call_min2 rfl) (by rfl) n_min (by decide +kernel) (pa_cons (pv 4) (pa_cons (pe_op op_add (pe_op op_mul (pv 3) (pe_callB call_len_seq (by rfl) n_len PySem.boot_len (pa_cons (pe_ix ix_list (pv 1) pe_int (fun _ _ => rfl)) pa_nil))) (pe_use C__law_least (hr.mono (Nat.le_refl _)) rfl (pa_cons (pv 0) (pa_cons (pe_slice (r := rSlL K) sl_list (pv 1) (po_some pe_int) po_none) (pa_cons (pv 2) (pa_cons (pv 3) pa_nil)))))) pa_nil))))
    (pss_one (ps_ret (pe_callB (call_min2 rfl) (by rfl) n_min (by decide +kernel) (pa_cons (pv 4) (pa_cons (pe_op op_add (pe_use C__law_price (hr.mono (by omega)) rfl (pa_cons (pe_ix ix_list (pv 0) pe_int (fun _ _ => rfl)) (pa_cons (pe_ix ix_list (pv 1) pe_int (fun _ _ => rfl)) (pa_cons (pv 2) (pa_cons (pv 3) pa_nil))))) (pe_use C__law_least (hr.mono (Nat.le_refl _)) rfl (pa_cons (pe_slice (r := rSlL K) sl_list (pv 0) (po_some pe_int) po_none) (pa_cons (pe_slice (r := rSlL K) sl_list (pv 1) (po_some pe_int) po_none) (pa_cons (pv 2) (pa_cons (pv 3) pa_nil)))))) pa_nil)))))))), ?_⟩
    have shL : ∀ ls : List (List Str), (∀ l ∈ ls, LotOk ns l) → SeqAt.shaped (.list (ls.map fun l => .tuple (l.map .str))) = true := fun ls ok => (sh_lst (n := 1) fun l hl => sh_lot fun x hx => nok.nm x ((ok l hl).2.2 x hx)).ok (by decide)
    obtain ⟨aits, ea, ala⟩ := id ha
    obtain ⟨bits, eb, alb⟩ := id hb
    have lna : aits.length = ls.length := ala.len
    have lnb : bits.length = hs.length := alb.len
    let σ0 : L2.St := [some (.ref a), some (.ref b), some (.int mi), some (.int ex), none, none]
    have sumP : ∀ (c : Int) {xs : List V} {us : List (List Str)}, xs = (us.map fun l => V.int (c * ((l.length : Nat) : Int))) → xs = (us.map fun l => c * ((l.length : Nat) : Int)).map V.int := fun c xs us e => by rw [e, List.map_map]; rfl
    have len4 : ∀ {l : List Str}, LotOk ns l → l.length ≤ 4 := fun h => Nat.le_trans (nodup_len (asc_nodupS h.2.1) h.2.2) nok.ln
    refine ⟨fun σ H' => σ = σ0 ∧ Same H H' ∧ ls ≠ [] ∧ hs ≠ [], ?_, ?_⟩
    · refine ⟨_, rfl, by show 0 ≤ sizeLine; decide, fun t kt => ?_⟩
      have s1 := same_new kt (.lst [])
      refine ⟨.list (ls.map fun l => .tuple (l.map .str)), .list [], .lst (SqL.of (s1 _ _ ea)) (dp_all (fun _ _ h => h.dp) (ala.imp fun _ _ r => r.fix (Fix.of s1))), .lst (SqL.of upd_same) .nil, shL ls okl, by decide, _, rfl, ?_⟩
      rw [eqv_none .none]
      by_cases c1 : ls = []
      · rw [decide_eq_true (by rw [c1]; rfl)]
        refine iteT (iteT ?_)
        have hz : ls = [] ∨ hs = [] := .inl c1
        have sB := s1
        generalize upd H t (.lst []) = HB at sB ⊢
        have q : ∀ H', Same H H' → Q (.int (Kw.sumI (ls.map fun l => mi * ((l.length : Nat) : Int)) + Kw.sumI (hs.map fun h => ex * ((h.length : Nat) : Int)))) H' := fun H' s => by
          have q := q H' s
          rw [Kw.least, Kw.lst_empty hz] at q
          exact q
        refine ⟨_, rfl, a, _, rfl, SqX.lst (sB _ _ ea), fun J S W s0 D hD => ?_⟩
        refine lc_mf (ds := ls) W (fun _ => true) (fun _ y l => y = .int (mi * ((l.length : Nat) : Int))) s0 hD lna (fun i x l H' ex' el s m => ?_) (fun H3 zs s3 e al => ?_)
        · obtain ⟨l', el', lb, rfl, hl⟩ := ala.get ex'
          rw [el] at el'
          obtain rfl := Option.some.inj el'
          have l4 := len4 (okl l (at_mem el))
          refine ⟨rfl, _, rfl, _, rfl, lb, _, rfl, .inr (SqT.of ((sB.trans s) _ _ hl)), ?_⟩
          rw [List.length_map]
          exact ⟨_, _, rfl, rfl, .inr ⟨by omega, by omega⟩, mf_yes m hD (fun _ _ _ _ _ h => h) el (by omega) (Same.refl _) rfl rfl⟩
        · rw [Rd.filter_all] at al
          have ez := al.map_eq (f := fun l : List Str => V.int (mi * ((l.length : Nat) : Int))) fun _ _ h => h
          refine ⟨D, ls.map fun l : List Str => mi * ((l.length : Nat) : Int), rfl, SqL.of (by rw [e, sumP mi ez]), ?_⟩
          refine ⟨_, rfl, b, _, rfl, SqX.lst ((sB.trans s3) _ _ eb), fun J S W s0 D2 hD2 => ?_⟩
          refine lc_mf (ds := hs) W (fun _ => true) (fun _ y l => y = .int (ex * ((l.length : Nat) : Int))) s0 hD2 lnb (fun i x l H' ex' el s m => ?_) (fun H4 zs2 s4 e2 al2 => ?_)
          · obtain ⟨l', el', lb, rfl, hl⟩ := alb.get ex'
            rw [el] at el'
            obtain rfl := Option.some.inj el'
            have l4 := len4 (okh l (at_mem el))
            refine ⟨rfl, _, rfl, _, rfl, lb, _, rfl, .inr (SqT.of ((sB.trans (s3.trans s)) _ _ hl)), ?_⟩
            rw [List.length_map]
            exact ⟨_, _, rfl, rfl, .inr ⟨by omega, by omega⟩, mf_yes m hD2 (fun _ _ _ _ _ h => h) el (by omega) (Same.refl _) rfl rfl⟩
          · rw [Rd.filter_all] at al2
            have ez2 := al2.map_eq (f := fun l : List Str => V.int (ex * ((l.length : Nat) : Int))) fun _ _ h => h
            exact ⟨D2, hs.map fun l : List Str => ex * ((l.length : Nat) : Int), rfl, SqL.of (by rw [e2, sumP ex ez2]), _, _, rfl, rfl, q H4 (sB.trans (s3.trans s4))⟩
      · rw [decide_eq_false (fun z => c1 (List.map_eq_nil_iff.mp z))]
        refine iteF ⟨_, rfl, by show 0 ≤ sizeLine; decide, fun t2 kt2 => ?_⟩
        have s2 := s1.trans (same_new kt2 (.lst []))
        refine ⟨.list (hs.map fun l => .tuple (l.map .str)), .list [], .lst (SqL.of (s2 _ _ eb)) (dp_all (fun _ _ h => h.dp) (alb.imp fun _ _ r => r.fix (Fix.of s2))), .lst (SqL.of upd_same) .nil, shL hs okh, by decide, _, rfl, ?_⟩
        rw [eqv_none .none]
        by_cases c2 : hs = []
        · rw [decide_eq_true (by rw [c2]; rfl)]
          refine iteT ?_
          have hz : ls = [] ∨ hs = [] := .inr c2
          have sB := s2
          generalize upd (upd H t (.lst [])) t2 (.lst []) = HB at sB ⊢
          have q : ∀ H', Same H H' → Q (.int (Kw.sumI (ls.map fun l => mi * ((l.length : Nat) : Int)) + Kw.sumI (hs.map fun h => ex * ((h.length : Nat) : Int)))) H' := fun H' s => by
            have q := q H' s
            rw [Kw.least, Kw.lst_empty hz] at q
            exact q
          refine ⟨_, rfl, a, _, rfl, SqX.lst (sB _ _ ea), fun J S W s0 D hD => ?_⟩
          refine lc_mf (ds := ls) W (fun _ => true) (fun _ y l => y = .int (mi * ((l.length : Nat) : Int))) s0 hD lna (fun i x l H' ex' el s m => ?_) (fun H3 zs s3 e al => ?_)
          · obtain ⟨l', el', lb, rfl, hl⟩ := ala.get ex'
            rw [el] at el'
            obtain rfl := Option.some.inj el'
            have l4 := len4 (okl l (at_mem el))
            refine ⟨rfl, _, rfl, _, rfl, lb, _, rfl, .inr (SqT.of ((sB.trans s) _ _ hl)), ?_⟩
            rw [List.length_map]
            exact ⟨_, _, rfl, rfl, .inr ⟨by omega, by omega⟩, mf_yes m hD (fun _ _ _ _ _ h => h) el (by omega) (Same.refl _) rfl rfl⟩
          · rw [Rd.filter_all] at al
            have ez := al.map_eq (f := fun l : List Str => V.int (mi * ((l.length : Nat) : Int))) fun _ _ h => h
            refine ⟨D, ls.map fun l : List Str => mi * ((l.length : Nat) : Int), rfl, SqL.of (by rw [e, sumP mi ez]), ?_⟩
            refine ⟨_, rfl, b, _, rfl, SqX.lst ((sB.trans s3) _ _ eb), fun J S W s0 D2 hD2 => ?_⟩
            refine lc_mf (ds := hs) W (fun _ => true) (fun _ y l => y = .int (ex * ((l.length : Nat) : Int))) s0 hD2 lnb (fun i x l H' ex' el s m => ?_) (fun H4 zs2 s4 e2 al2 => ?_)
            · obtain ⟨l', el', lb, rfl, hl⟩ := alb.get ex'
              rw [el] at el'
              obtain rfl := Option.some.inj el'
              have l4 := len4 (okh l (at_mem el))
              refine ⟨rfl, _, rfl, _, rfl, lb, _, rfl, .inr (SqT.of ((sB.trans (s3.trans s)) _ _ hl)), ?_⟩
              rw [List.length_map]
              exact ⟨_, _, rfl, rfl, .inr ⟨by omega, by omega⟩, mf_yes m hD2 (fun _ _ _ _ _ h => h) el (by omega) (Same.refl _) rfl rfl⟩
            · rw [Rd.filter_all] at al2
              have ez2 := al2.map_eq (f := fun l : List Str => V.int (ex * ((l.length : Nat) : Int))) fun _ _ h => h
              exact ⟨D2, hs.map fun l : List Str => ex * ((l.length : Nat) : Int), rfl, SqL.of (by rw [e2, sumP ex ez2]), _, _, rfl, rfl, q H4 (sB.trans (s3.trans s4))⟩
        · rw [decide_eq_false (fun z => c2 (List.map_eq_nil_iff.mp z))]
          exact iteF ⟨rfl, s2, c1, c2⟩
    rintro σ H0 ⟨rfl, s0, ne1, ne2⟩
    obtain ⟨l0, lr, rfl⟩ := List.exists_cons_of_ne_nil ne1
    obtain ⟨h0, hr', rfl⟩ := List.exists_cons_of_ne_nil ne2
    cases ala with
    | @cons x0 _ ar _ hx0 alr =>
    cases alb with
    | @cons y0 _ br _ hy0 blr =>
    obtain ⟨xb, rfl, ex0⟩ := hx0
    obtain ⟨yb, rfl, ey0⟩ := hy0
    have ea0 := s0 _ _ ea
    have eb0 := s0 _ _ eb
    have l4 := len4 (okl l0 (.head _))
    have h4 := len4 (okh h0 (.head _))
    have alr0 := alr.imp fun _ _ r => r.fix (Fix.of s0)
    have blr0 := blr.imp fun _ _ r => r.fix (Fix.of s0)
    simp only [List.length_cons] at ln
    have q : ∀ H', Same H0 H' → Q (.int (min (min (mi * ((l0.length : Nat) : Int) + Kw.least mi ex lr (h0 :: hr')) (ex * ((h0.length : Nat) : Int) + Kw.least mi ex (l0 :: lr) hr')) (Kw.pl mi ex l0 h0 + Kw.least mi ex lr hr'))) H' := fun H' s => by
      have q := q H' (s0.trans s)
      unfold Kw.least at q ⊢
      rw [Kw.lst_cons] at q
      exact q
    refine ⟨_, rfl, _, rfl, a, _, _, .ref xb, rfl, rfl, SqL.of ea0, atI_nat (j := 0) rfl, xb, _, rfl, .inr (SqT.of (s0 _ _ ex0)), ?_⟩
    rw [List.length_map]
    refine ⟨_, _, rfl, rfl, .inr ⟨by omega, by omega⟩, _, rfl, 1, rfl, a, _, rfl, SqL.of ea0, fun p1 kp1 => ?_⟩
    have sp1 := same_new kp1 (.lst (cutV (V.ref xb :: ar) (some 1) none))
    have ep1 : upd H0 p1 (.lst (cutV (V.ref xb :: ar) (some 1) none)) p1 = some (.lst ar) := by rw [upd_same, cut1]
    generalize upd H0 p1 (.lst (cutV (V.ref xb :: ar) (some 1) none)) = B1 at sp1 ep1 ⊢
    have LA : ∀ {H' : Hp}, Same H0 H' → LLst H' a (l0 :: lr) := fun s => ⟨_, s _ _ ea0, .cons ⟨xb, rfl, s _ _ (s0 _ _ ex0)⟩ (alr0.imp fun _ _ r => r.fix (Fix.of s))⟩
    have LB : ∀ {H' : Hp}, Same H0 H' → LLst H' b (h0 :: hr') := fun s => ⟨_, s _ _ eb0, .cons ⟨yb, rfl, s _ _ (s0 _ _ ey0)⟩ (blr0.imp fun _ _ r => r.fix (Fix.of s))⟩
    have okl' : ∀ l ∈ lr, LotOk ns l := fun l m => okl l (.tail _ m)
    have okh' : ∀ l ∈ hr', LotOk ns l := fun l m => okh l (.tail _ m)
    refine ⟨_, rfl, _, rfl, _, rfl, p1, b, lr, h0 :: hr', ns, mi, ex, rfl, ⟨ar, ep1, alr0.imp fun _ _ r => r.fix (Fix.of sp1)⟩, LB sp1, nok, okl', okh, by simp only [List.length_cons]; omega, by omega, fun H1 s1 => ?_⟩
    have s01 := sp1.trans s1
    refine ⟨_, _, rfl, rfl, ?_⟩
    refine ⟨_, rfl, _, rfl, _, rfl, b, _, _, .ref yb, rfl, rfl, SqL.of (s01 _ _ eb0), atI_nat (j := 0) rfl, yb, _, rfl, .inr (SqT.of (s01 _ _ (s0 _ _ ey0))), ?_⟩
    rw [List.length_map]
    refine ⟨_, _, rfl, rfl, .inr ⟨by omega, by omega⟩, _, rfl, _, rfl, 1, rfl, b, _, rfl, SqL.of (s01 _ _ eb0), fun p2 kp2 => ?_⟩
    have sp2 := same_new kp2 (.lst (cutV (V.ref yb :: br) (some 1) none))
    have ep2 : upd H1 p2 (.lst (cutV (V.ref yb :: br) (some 1) none)) p2 = some (.lst br) := by rw [upd_same, cut1]
    generalize upd H1 p2 (.lst (cutV (V.ref yb :: br) (some 1) none)) = B2 at sp2 ep2 ⊢
    have s02 := s01.trans sp2
    refine ⟨_, rfl, _, rfl, a, p2, l0 :: lr, hr', ns, mi, ex, rfl, LA s02, ⟨br, ep2, blr0.imp fun _ _ r => r.fix (Fix.of s02)⟩, nok, okl, okh', by simp only [List.length_cons]; omega, by omega, fun H2 s2 => ?_⟩
    have s03 := s02.trans s2
    refine ⟨_, _, rfl, rfl, _, _, rfl, ?_⟩
    refine ⟨_, rfl, _, rfl, a, _, _, .ref xb, rfl, rfl, SqL.of (s03 _ _ ea0), atI_nat (j := 0) rfl, _, rfl, b, _, _, .ref yb, rfl, rfl, SqL.of (s03 _ _ eb0), atI_nat (j := 0) rfl, _, rfl, _, rfl, xb, yb, l0, h0, mi, ex, rfl, SqT.of (s03 _ _ (s0 _ _ ex0)), SqT.of (s03 _ _ (s0 _ _ ey0)), by omega, by omega, fun H3 s3 => ?_⟩
    have s04 := s03.trans s3
    refine ⟨_, rfl, 1, rfl, a, _, rfl, SqL.of (s04 _ _ ea0), fun p3 kp3 => ?_⟩
    have sp3 := same_new kp3 (.lst (cutV (V.ref xb :: ar) (some 1) none))
    have ep3 : upd H3 p3 (.lst (cutV (V.ref xb :: ar) (some 1) none)) p3 = some (.lst ar) := by rw [upd_same, cut1]
    generalize upd H3 p3 (.lst (cutV (V.ref xb :: ar) (some 1) none)) = B3 at sp3 ep3 ⊢
    have s05 := s04.trans sp3
    refine ⟨_, rfl, 1, rfl, b, _, rfl, SqL.of (s05 _ _ eb0), fun p4 kp4 => ?_⟩
    have sp4 := same_new kp4 (.lst (cutV (V.ref yb :: br) (some 1) none))
    have ep4 : upd B3 p4 (.lst (cutV (V.ref yb :: br) (some 1) none)) p4 = some (.lst br) := by rw [upd_same, cut1]
    have ep34 := sp4 _ _ ep3
    generalize upd B3 p4 (.lst (cutV (V.ref yb :: br) (some 1) none)) = B4 at sp4 ep4 ep34 ⊢
    have s06 := s05.trans sp4
    refine ⟨_, rfl, _, rfl, p3, p4, lr, hr', ns, mi, ex, rfl, ⟨ar, ep34, alr0.imp fun _ _ r => r.fix (Fix.of s06)⟩, ⟨br, ep4, blr0.imp fun _ _ r => r.fix (Fix.of s06)⟩, nok, okl', okh', by omega, by omega, fun H4 s4 => ?_⟩
    refine ⟨_, _, rfl, rfl, _, _, rfl, ?_⟩
    have q := q H4 (s06.trans s4)
    rw [← min2, ← min2] at q
    exact q
theorem rec_leastP {f : Addr} {fd : FuncData} (F : Fun K "_law_least" "_law_least" s__law_least f fd) (hm : mg "_law_least" = some (.ref f)) (hk : PySem.W.keepIn K (.ref f) = true) (hb : Binds K fd ["lots", "heard", "missing", "extra"] []) (C__law_price : Cl P w K mg base "_law_price" ["lot", "names", "missing", "extra"] [] 1 (spPrice K)) (n_len : mg "len" = none) (n_min : mg "min" = none) (n_sum : mg "sum" = none) :
    ∀ n, FnOk P w K mg base CX0 (n + 2) f fd ["lots", "heard", "missing", "extra"] (spLeast n)
  | 0 => by
    refine F.ok sc__law_least (fun vs H Q E h => ?_) (fun cdv A outer s H vs Q E hr h => ?_)
    · obtain ⟨_, _, _, _, _, _, _, rfl, _⟩ := h
      rfl
    · obtain ⟨_, _, _, _, _, _, _, _, _, _, _, _, _, lt, _⟩ := h
      exact absurd lt (Nat.not_lt_zero _)
  | n + 1 => ok_leastP F ⟨⟨f, fd, [], rec_leastP F hm hk hb C__law_price n_len n_min n_sum n, hm, hk, hb, .nil⟩⟩ C__law_price n_len n_min n_sum
end
end K6

namespace K6
open PySem PySem.Spec PyProof.Rows L2 Hb St Sq Ow En Zp RZ Rd Xb Mn Wa Da
def lotOf (ls : List (List Str)) : Option Nat → List Str
  | none => []
  | some a => ls.getD a []
def tcL (mi ex : Int) (ls hs : List (List Str)) (p : Kw.Pr) : Int := Kw.pl mi ex (lotOf ls p.1) (lotOf hs p.2)
theorem opt_map {α : Type} (g : α → Option Nat) : ∀ T : List α, (T.filter fun p => (g p).isSome).map (fun p => optV (g p)) = (T.filterMap g).map natV
  | [] => rfl
  | p :: T => by
    rw [List.filter_cons, List.filterMap_cons]
    cases c : g p with
    | none => rw [Option.isSome_none, if_neg (by decide)]; exact opt_map g T
    | some a =>
      rw [Option.isSome_some, if_pos rfl, List.map_cons, c]
      show _ :: _ = _ :: _
      rw [opt_map g T]; rfl
theorem tl_cost {mi ex : Int} {ls hs : List (List Str)} {T : List Kw.Pr} (tl : TlS mi ex ls hs 0 0 T) (nl : ∀ l ∈ ls, l.Nodup) (nh : ∀ h ∈ hs, h.Nodup) : Kw.sumI (T.map (tcL mi ex ls hs)) = Kw.least mi ex ls hs := by
  have h := tl.sum
  rw [Kw.wr_zero, Int.add_zero, Kw.least_eq mi ex nl nh] at h
  rw [← h]
  congr 1
  refine List.map_congr_left fun p hp => ?_
  have nd : ∀ (xs : List (List Str)) (a : Nat), (∀ l ∈ xs, l.Nodup) → (xs.getD a []).Nodup := fun xs a h => by
    rw [List.getD_eq_getElem?_getD]
    cases e : xs[a]? with
    | none => exact List.nodup_nil
    | some l => exact h l (at_mem e)
  obtain ⟨o1, o2⟩ := p
  cases o1 with
  | none =>
    cases o2 with
    | none => exact absurd rfl (tl.any _ hp)
    | some b => show Kw.pl mi ex [] (hs.getD b []) = Kw.pB mi ex (hs.getD b []); rw [Kw.pl_nilL, Kw.pB_eq]
  | some a =>
    cases o2 with
    | none => show Kw.pl mi ex (ls.getD a []) [] = Kw.pA mi ex (ls.getD a []); rw [Kw.pl_nilR, Kw.pA_eq]
    | some b => show Kw.pl mi ex (ls.getD a []) (hs.getD b []) = Kw.pp mi ex (ls.getD a []) (hs.getD b []); rw [Kw.pp_pl mi ex (nd _ _ nl) (nd _ _ nh)]
theorem rg_nat (N : Nat) : rgV 0 (N : Nat) = (List.range N).map natV := by
  unfold rgV
  rw [show ((N : Int) - 0).toNat = N by omega]
  refine List.map_congr_left fun i _ => ?_
  rw [Int.zero_add]; rfl
def natI (l : List Nat) : List Int := l.map fun (n : Nat) => (n : Int)
theorem natI_V (l : List Nat) : l.map natV = (natI l).map V.int := by unfold natI; rw [List.map_map]; rfl
theorem optV_dec (o : Option Nat) : (!decide (optV o = V.non)) = o.isSome := by cases o <;> rfl
section
variable {P : Program} {w : World} {K : PySem.W.Frag} {mg : Str → Option Value} {base : Heap}
/-! ### _law_telling_right -/
abbrev s__law_telling_right : Stmt := top 36
theorem sc__law_telling_right : FnScope ["lots", "heard", "missing", "extra", "price", "telling", "side", "many", "total", "one", "other", "names", "pair"] ["lots", "heard", "missing", "extra", "price", "telling"] (defScope s__law_telling_right) := ⟨rfl, rfl, rfl, by decide +kernel, rfl, by decide +kernel, by decide +kernel⟩
def spTelling : Sp := fun vs H Q _ => ∃ (a b t : Addr) (ls hs : List (List Str)) (ns : List Str) (mi ex : Int) (tits : List V) (T : List Kw.Pr), vs = [.ref a, .ref b, .int mi, .int ex, .int (Kw.least mi ex ls hs), .ref t] ∧ LLst H a ls ∧ LLst H b hs ∧ NsOk ns ∧ (∀ l ∈ ls, LotOk ns l) ∧ (∀ h ∈ hs, LotOk ns h) ∧ ls.length ≤ 1000 ∧ hs.length ≤ 1000 ∧ H t = some (.tup tits) ∧ All2 (PrV H) tits T ∧ TlS mi ex ls hs 0 0 T ∧ ∀ H', Same H H' → Q (.bl true) H'
theorem ok_telling {f : Addr} {fd : FuncData} (F : Fun K "_law_telling_right" "_law_telling_right" s__law_telling_right f fd) (C__law_price : Cl P w K mg base "_law_price" ["lot", "names", "missing", "extra"] [] 1 (spPrice K)) (n_isinstance : mg "isinstance" = none) (n_len : mg "len" = none) (n_list : mg "list" = none) (n_range : mg "range" = none) (n_tuple : mg "tuple" = none) : FnOk P w K mg base CX0 2 f fd ["lots", "heard", "missing", "extra", "price", "telling"] spTelling := by
  refine F.ok sc__law_telling_right (fun vs H Q E h => ?_) (fun cdv A outer s H vs Q E hr h => ?_)
  · obtain ⟨_, _, _, _, _, _, _, _, _, _, rfl, _⟩ := h
    rfl
  · obtain ⟨a, b, t, ls, hs, ns, mi, ex, tits, T, rfl, ha, hb, nok, okl, okh, l1, l2, et, alt, tl, q⟩ := h
    refine ⟨_, (Evl.pss_cut (ps_if (pt_not (pt_val (pe_callB call_isi (by rfl) n_isinstance (by decide +kernel) (pa_cons (pv 5) (pa_cons (pe_bltn (v := .ty "tuple") (by rfl) n_tuple (by decide +kernel) rfl) pa_nil))))) (pss_one (ps_ret pe_bl)) pss_nil)
    (Evl.pss_cut (ps_for PassesOwn.never rfl (pi_seq (pe_tup (pa_cons (pe_tup (pa_cons pe_int (pa_cons (pe_callB call_len_seq (by rfl) n_len PySem.boot_len (pa_cons (pv 0) pa_nil)) pa_nil))) (pa_cons (pe_tup (pa_cons pe_int (pa_cons (pe_callB call_len_seq (by rfl) n_len PySem.boot_len (pa_cons (pv 1) pa_nil)) pa_nil))) pa_nil)))) (pg_tup rfl (pgs_cons (pg_name (i := 6) sc__law_telling_right.nd rfl (Or.inr rfl)) (pgs_cons (pg_name (i := 7) sc__law_telling_right.nd rfl (Or.inl rfl)) pgs_nil)))
      (pss_one (ps_if (pt_cmpR (op_neD hr.units) (pe_lc (own := [("pair", 12)]) (g := gName 12) rfl sc__law_telling_right.nd (pi_seq (pv 5)) (blkOk_by (N := ["lots", "heard", "missing", "extra", "price", "telling", "side", "many", "total", "one", "other", "names", "pair"]) (sc := defScope s__law_telling_right) (by decide +kernel)) (fun _ _ _ _ _ => pg_name (i := 12) sc__law_telling_right.nd rfl (Or.inl rfl)) (fun _ _ _ _ _ => pts_one (pt_cmpR op_notN (pe_ix (r := rIxT K) ix_tup (pv 12) (pv 6) (fun _ _ => rfl)) pe_non (nomark _))) (fun _ _ _ _ _ => pe_ix (r := rIxT K) ix_tup (pv 12) (pv 6) (fun _ _ => rfl))) (pe_listRg rfl (by rfl) n_list (prg_1 (by rfl) n_range (pv 7))) (nomark _)) (pss_one (ps_ret pe_bl)) pss_nil)))
    (pss_cons (ps_set (i := 8) sc__law_telling_right.nd rfl (Or.inl rfl) pe_int)
    (Evl.pss_cut (ps_for PassesOwn.never rfl (pi_seq (pv 5)) (pg_tup rfl (pgs_cons (pg_name (i := 9) sc__law_telling_right.nd rfl (Or.inl rfl)) (pgs_cons (pg_name (i := 10) sc__law_telling_right.nd rfl (Or.inl rfl)) pgs_nil)))
      (Evl.pss_cut (ps_if (PW.pt (pw_and (pt_cmpR op_isN (pv 9) pe_non (nomark _)) (pw_and1 (pt_cmpR op_isN (pv 10) pe_non (nomark _))))) (pss_one (ps_ret pe_bl)) pss_nil)
    (Evl.pss_cut (ps_set (i := 11) sc__law_telling_right.nd rfl (Or.inl rfl) (pe_ifExp (pt_cmpR op_isN (pv 10) pe_non (nomark _)) (pe_tup pa_nil) (pe_ix ix_list (pv 1) (pv 10) (fun _ _ => rfl))))
    (pss_one (ps_aug (i := 8) sc__law_telling_right.nd rfl (Or.inl rfl) (pe_use C__law_price (hr.mono (by decide)) rfl (pa_cons (pe_ifExp (pt_cmpR op_isN (pv 9) pe_non (nomark _)) (pe_tup pa_nil) (pe_ix ix_list (pv 0) (pv 9) (fun _ _ => rfl))) (pa_cons (pv 11) (pa_cons (pv 2) (pa_cons (pv 3) pa_nil))))) ip_add)))))
    (pss_one (ps_ret (pe_cmpR op_eq (pv 8) (pv 4) (nomark _)))))))), ?_⟩
    obtain ⟨aits, ea, ala⟩ := id ha
    obtain ⟨bits, eb, alb⟩ := id hb
    have lna : aits.length = ls.length := ala.len
    have lnb : bits.length = hs.length := alb.len
    have lnT : tits.length = T.length := alt.len
    have lT : T.length ≤ 2000 := by have := tl.len; omega
    let S0 : Option V → Option V → Option V → Option V → Option V → Option V → L2.St := fun o6 o7 o8 o9 o10 o11 => [some (.ref a), some (.ref b), some (.int mi), some (.int ex), some (.int (Kw.least mi ex ls hs)), some (.ref t), o6, o7, o8, o9, o10, o11, none]
    have ty : TyX K H (.ref t) (.type "tuple") := ty_tup (SqT.of et)
    refine ⟨fun σ H' => σ = S0 none none none none none none ∧ H' = H, ?_, ?_⟩
    · exact ⟨_, rfl, _, .ty "tuple", _, _, _, rfl, .ty "tuple", ty, kit_ty (a := "tuple") (b := "tuple") (r := true) (by decide +kernel), _, rfl, iteF ⟨rfl, rfl⟩⟩
    rintro σ H0 ⟨rfl, rfl⟩
    refine ⟨fun σ H' => (∃ o6 o7, σ = S0 o6 o7 none none none none) ∧ Same H0 H', ?_, ?_⟩
    · refine ⟨_, rfl, a, _, rfl, .inl (SqL.of ea), by show 2 ≤ sizeLine; decide, fun p1 kp1 => ?_⟩
      rw [lna]
      have s1 := same_new kp1 (.tup [V.int 0, V.int (ls.length : Nat)])
      have e1 : upd H0 p1 (.tup [V.int 0, V.int (ls.length : Nat)]) p1 = some (.tup [natV 0, natV ls.length]) := upd_same
      generalize upd H0 p1 (.tup [V.int 0, V.int (ls.length : Nat)]) = H1 at s1 e1 ⊢
      refine ⟨_, rfl, b, _, rfl, .inl (SqL.of (s1 _ _ eb)), by show 2 ≤ sizeLine; decide, fun p2 kp2 => ?_⟩
      rw [lnb]
      have s2 := same_new kp2 (.tup [V.int 1, V.int (hs.length : Nat)])
      have e2 : upd H1 p2 (.tup [V.int 1, V.int (hs.length : Nat)]) p2 = some (.tup [natV 1, natV hs.length]) := upd_same
      generalize upd H1 p2 (.tup [V.int 1, V.int (hs.length : Nat)]) = H2 at s2 e2 ⊢
      refine ⟨by show 2 ≤ sizeLine; decide, fun p3 kp3 => ⟨p3, _, rfl, .inr (SqT.of upd_same), fun J S W z0 => ?_⟩⟩
      have s3 := same_new kp3 (.tup [V.ref p1, V.ref p2])
      generalize upd H2 p3 (.tup [V.ref p1, V.ref p2]) = H3 at s3 z0 ⊢
      refine for_sq W (fun i σ H' => (∃ o6 o7, σ = S0 o6 o7 none none none none) ∧ Same H3 H') ⟨⟨_, _, rfl⟩, Same.refl _⟩ (fun i σ H' pv => W.keep (fun o e => pv.2 _ _ e) z0) ?_ (fun σ H' pv => ⟨pv.1, ((s1.trans s2).trans s3).trans pv.2⟩)
      rintro i σ H4 x ex4 ⟨⟨o6, o7, rfl⟩, s4⟩
      have s14 := (s1.trans s2).trans (s3.trans s4)
      obtain ⟨pb, sd, N, rfl, epb, eN, eSd, lN⟩ : ∃ (pb : Addr) (sd : Kw.Pr → Option Nat) (N : Nat), x = .ref pb ∧ H4 pb = some (.tup [natV i, natV N]) ∧ T.filterMap sd = List.range N ∧ (∀ p : Kw.Pr, [optV p.1, optV p.2][i]? = some (optV (sd p))) ∧ N ≤ 1000 := by
        match i, ex4 with
        | 0, ex4 =>
          cases ex4
          exact ⟨p1, (·.1), ls.length, rfl, (s2.trans (s3.trans s4)) _ _ e1, by rw [tl.fst, List.range_eq_range']; rfl, fun p => rfl, l1⟩
        | 1, ex4 =>
          cases ex4
          exact ⟨p2, (·.2), hs.length, rfl, (s3.trans s4) _ _ e2, by rw [tl.snd, List.range_eq_range']; rfl, fun p => rfl, l2⟩
      refine ⟨pb, _, rfl, SqT.of epb, rfl, _, _, rfl, _, _, rfl, rfl, ?_⟩
      refine ⟨_, rfl, t, tits, rfl, .inr (SqT.of (s14 _ _ et)), fun J2 S2 W2 z2 D hD => ?_⟩
      refine lc_mf (ds := T) W2 (fun p => (sd p).isSome) (fun _ y p => y = optV (sd p)) z2 hD lnT (fun k x p H5 ex5 ep s5 m5 => ?_) (fun H5 ys s5 e5 al5 => ?_)
      · obtain ⟨p', ep', tb, rfl, etb⟩ := alt.get ex5
        rw [ep] at ep'
        obtain rfl := Option.some.inj ep'
        have et5 := SqT.of (K := K) ((s14.trans s5) _ _ etb)
        refine ⟨rfl, _, rfl, _, rfl, tb, _, _, _, rfl, rfl, et5, atI_nat (eSd p), rfl, _, rfl, ?_⟩
        rw [optV_dec]
        cases c : (sd p).isSome with
        | true => exact iteT ⟨_, rfl, _, rfl, tb, _, _, _, rfl, rfl, et5, atI_nat (eSd p), mf_yes m5 hD (fun _ _ _ _ _ h => h) ep (by omega) (Same.refl _) c rfl⟩
        | false => exact iteF (mf_no m5 (fun _ _ _ _ _ h => h) ep (Same.refl _) c)
      · have ey := al5.map_eq (f := fun p : Kw.Pr => optV (sd p)) fun _ _ h => h
        rw [opt_map, eN] at ey
        rw [ey] at e5
        refine ⟨_, rfl, _, rfl, RgOk.of_le (by decide) (by omega) (by decide) (by omega), fun r kr => ?_⟩
        have s6 := same_new kr (.lst (rgV 0 (N : Nat)))
        have er : upd H5 r (.lst (rgV 0 (N : Nat))) r = some (.lst ((List.range N).map natV)) := by rw [upd_same, rg_nat]
        have e6 := s6 _ _ e5
        rw [natI_V] at er e6
        refine ⟨_, _, .lst (SqL.of e6) (dp_ints _), .lst (SqL.of er) (dp_ints _), shp_ints _, shp_ints _, _, rfl, ?_⟩
        rw [SeqAt.eqv_refl _ (SeqAt.canLay_of_shaped (shp_ints _))]
        exact iteF ⟨⟨_, _, rfl⟩, s4.trans (s5.trans s6)⟩
    rintro σ H1 ⟨⟨o6, o7, rfl⟩, s1⟩
    refine ⟨fun σ H' => (∃ o9 o10 o11, σ = S0 o6 o7 (some (.int (Kw.least mi ex ls hs))) o9 o10 o11) ∧ Same H0 H', ?_, ?_⟩
    · refine ⟨_, rfl, t, tits, rfl, .inr (SqT.of (s1 _ _ et)), fun J S W z0 => ?_⟩
      refine for_sq W (fun i σ H' => (∃ o9 o10 o11, σ = S0 o6 o7 (some (.int (Kw.sumI ((T.take i).map (tcL mi ex ls hs))))) o9 o10 o11) ∧ Same H1 H') ⟨⟨none, none, none, rfl⟩, Same.refl _⟩ (fun i σ H' pv => W.keep (fun o e => pv.2 _ _ e) z0) ?_ ?_
      · rintro i σ H2 x ex2 ⟨⟨o9, o10, o11, rfl⟩, s2⟩
        obtain ⟨p, ep, tb, rfl, etb⟩ := alt.get ex2
        have s02 := s1.trans s2
        have tk : Kw.sumI ((T.take (i + 1)).map (tcL mi ex ls hs)) = Kw.sumI ((T.take i).map (tcL mi ex ls hs)) + tcL mi ex ls hs p := by
          rw [List.take_add_one, ep, List.map_append, Kw.sumI_app]
          congr 1
          show tcL mi ex ls hs p + 0 = _
          omega
        have mem := at_mem ep
        obtain ⟨p1, p2⟩ := p
        have v1 : ∀ a', p1 = some a' → a' < ls.length := fun a' e => by
          have : a' ∈ T.filterMap (·.1) := List.mem_filterMap.mpr ⟨(p1, p2), mem, e⟩
          rw [tl.fst, List.mem_range'_1] at this; omega
        have v2 : ∀ a', p2 = some a' → a' < hs.length := fun a' e => by
          have : a' ∈ T.filterMap (·.2) := List.mem_filterMap.mpr ⟨(p1, p2), mem, e⟩
          rw [tl.snd, List.mem_range'_1] at this; omega
        refine ⟨tb, _, rfl, SqT.of (s02 _ _ etb), rfl, _, _, rfl, _, _, rfl, rfl, ?_⟩
        refine ⟨fun σ H' => σ = S0 o6 o7 (some (.int (Kw.sumI ((T.take i).map (tcL mi ex ls hs))))) (some (optV p1)) (some (optV p2)) o11 ∧ H' = H2, ?_, ?_⟩
        · refine ⟨_, rfl, rfl, _, rfl, ?_⟩
          cases p1 with
          | some a' => exact iteF (iteF ⟨rfl, rfl⟩)
          | none =>
            refine iteT ⟨_, rfl, rfl, _, rfl, ?_⟩
            cases p2 with
            | some b' => exact iteF ⟨rfl, rfl⟩
            | none => exact absurd rfl (tl.any _ mem)
        rintro σ H3 ⟨rfl, rfl⟩
        refine ⟨fun σ H' => ∃ nb, σ = S0 o6 o7 (some (.int (Kw.sumI ((T.take i).map (tcL mi ex ls hs))))) (some (optV p1)) (some (optV p2)) (some (.ref nb)) ∧ Same H3 H' ∧ H' nb = some (.tup ((lotOf hs p2).map V.str)) ∧ (lotOf hs p2).length ≤ 1000, ?_, ?_⟩
        · refine ⟨_, rfl, rfl, _, rfl, ?_⟩
          cases p2 with
          | none => exact iteT ⟨by show 0 ≤ sizeLine; decide, fun nb knb => ⟨nb, rfl, same_new knb _, upd_same, Nat.zero_le _⟩⟩
          | some b' =>
            obtain ⟨l, el⟩ : ∃ l, hs[b']? = some l := ⟨_, List.getElem?_eq_getElem (v2 b' rfl)⟩
            obtain ⟨z, ez, lb, rfl, hl⟩ := alb.getR el
            have eg : lotOf hs (some b') = l := getD_some el
            refine iteF ⟨_, rfl, _, rfl, b, _, _, _, rfl, rfl, SqL.of (s02 _ _ eb), atI_nat ez, lb, rfl, Same.refl _, by rw [eg]; exact s02 _ _ hl, ?_⟩
            rw [eg]
            have : l.length ≤ 4 := Nat.le_trans (nodup_len (asc_nodupS (okh l (at_mem el)).2.1) (okh l (at_mem el)).2.2) nok.ln
            omega
        rintro σ H4 ⟨nb, rfl, s4, enb, lnb'⟩
        refine ⟨_, rfl, ?_⟩
        have done : ∀ H6, Same H4 H6 → (∃ o9 o10 o11, List.set (S0 o6 o7 (some (.int (Kw.sumI ((T.take i).map (tcL mi ex ls hs))))) (some (optV p1)) (some (optV p2)) (some (.ref nb))) 8 (some (.int (Kw.sumI ((T.take i).map (tcL mi ex ls hs)) + tcL mi ex ls hs (p1, p2)))) = S0 o6 o7 (some (.int (Kw.sumI ((T.take (i + 1)).map (tcL mi ex ls hs))))) o9 o10 o11) ∧ Same H1 H6 := fun H6 s6 =>
          ⟨⟨_, _, _, by rw [tk]; rfl⟩, s2.trans (s4.trans s6)⟩
        refine ⟨_, rfl, rfl, _, rfl, ?_⟩
        cases p1 with
        | none =>
          refine iteT ⟨by show 0 ≤ sizeLine; decide, fun lb klb => ⟨_, rfl, _, rfl, _, rfl, ?_⟩⟩
          have s5 := same_new klb (.tup [])
          exact ⟨lb, nb, [], lotOf hs p2, mi, ex, rfl, SqT.of upd_same, SqT.of (s5 _ _ enb), Nat.zero_le _, lnb', fun H6 s6 => ⟨_, _, rfl, rfl, done H6 (s5.trans s6)⟩⟩
        | some a' =>
          obtain ⟨l, el⟩ : ∃ l, ls[a']? = some l := ⟨_, List.getElem?_eq_getElem (v1 a' rfl)⟩
          obtain ⟨z, ez, lb, rfl, hl⟩ := ala.getR el
          have eg : lotOf ls (some a') = l := getD_some el
          have l4 : l.length ≤ 4 := Nat.le_trans (nodup_len (asc_nodupS (okl l (at_mem el)).2.1) (okl l (at_mem el)).2.2) nok.ln
          refine iteF ⟨_, rfl, _, rfl, a, _, _, _, rfl, rfl, SqL.of ((s02.trans s4) _ _ ea), atI_nat ez, _, rfl, _, rfl, _, rfl, ?_⟩
          refine ⟨lb, nb, l, lotOf hs p2, mi, ex, rfl, SqT.of ((s02.trans s4) _ _ hl), SqT.of enb, by omega, lnb', fun H6 s6 => ⟨_, _, rfl, rfl, ?_⟩⟩
          rw [← eg]
          exact done H6 s6
      · rintro σ H2 ⟨⟨o9, o10, o11, rfl⟩, s2⟩
        rw [lnT, List.take_length, tl_cost tl (fun l m => asc_nodupS (okl l m).2.1) (fun h m => asc_nodupS (okh h m).2.1)]
        exact ⟨⟨_, _, _, rfl⟩, s1.trans s2⟩
    rintro σ H2 ⟨⟨o9, o10, o11, rfl⟩, s2⟩
    refine ⟨_, rfl, _, rfl, rfl, ?_⟩
    have q := q H2 s2
    rw [decide_eq_true rfl]
    exact q
end
end K6

namespace K6
open PySem PySem.Spec PyProof.Rows L2 Hb St Sq Ow En Zp RZ Rd Xb Mn Wa Da
/-! ### tuples whose things are of a kind, cut and put together -/
def FVv (K : PySem.W.Frag) (y : V) : Prop := ∃ e, flatE e = true ∧ ∀ H, Dp K H y e
def KpL (X : List Addr) (H H' : Hp) : Prop := ∀ b o, H b = some o → (∀ z ∈ X, b ≠ z) → H' b = some o
def Lsts (X : List Addr) (H : Hp) : Prop := ∀ z ∈ X, ∃ ys, H z = some (.lst ys)
def TIx (I : V → Prop) (H : Hp) (n : Nat) (a : Addr) : Prop := ∃ its, H a = some (.tup its) ∧ its.length ≤ n ∧ ∀ y ∈ its, I y
def Itm (K : PySem.W.Frag) (X : List Addr) (H : Hp) (y : V) : Prop := (∃ b, y = .ref b ∧ TIx (FVv K) H 200 b) ∨ (∃ b ys, y = .ref b ∧ H b = some (.lst ys) ∧ (∀ z ∈ X, b ≠ z) ∧ ∀ y ∈ ys, FVv K y)
def Odd (K : PySem.W.Frag) (X : List Addr) (H : Hp) (x : V) : Prop := (∃ a, x = .ref a ∧ TIx (Itm K X H) H 400 a) ∨ (∃ q its, x = .ref q ∧ H q = some (.lst its) ∧ (∀ z ∈ X, q ≠ z) ∧ ∀ y ∈ its, Itm K X H y) ∨ FVv K x ∧ ∀ a, x ≠ .ref a
theorem KpL.same {X : List Addr} {H H' : Hp} (s : Same H H') : KpL X H H' := fun b o e _ => s b o e
theorem KpL.trans {X : List Addr} {H H1 H2 : Hp} (a : KpL X H H1) (b : KpL X H1 H2) : KpL X H H2 := fun c o e n => b c o (a c o e n) n
theorem Itm.same {K : PySem.W.Frag} {X : List Addr} {H H' : Hp} {y : V} (h : Itm K X H y) (s : Same H H') : Itm K X H' y := by
  rcases h with ⟨b, e, its, h1, h2, h3⟩ | ⟨b, ys, e, h1, h2, h3⟩
  · exact .inl ⟨b, e, its, s _ _ h1, h2, h3⟩
  · exact .inr ⟨b, ys, e, s _ _ h1, h2, h3⟩
theorem TIx.same {K : PySem.W.Frag} {X : List Addr} {H H' : Hp} {n : Nat} {a : Addr} (h : TIx (Itm K X H) H n a) (s : Same H H') : TIx (Itm K X H') H' n a := let ⟨its, e, l, al⟩ := h; ⟨its, s _ _ e, l, fun y m => (al y m).same s⟩
theorem TIx.sameF {K : PySem.W.Frag} {H H' : Hp} {n : Nat} {a : Addr} (h : TIx (FVv K) H n a) (s : Same H H') : TIx (FVv K) H' n a := let ⟨its, e, l, al⟩ := h; ⟨its, s _ _ e, l, al⟩
theorem TIx.le {I : V → Prop} {H : Hp} {n m : Nat} {a : Addr} (h : TIx I H n a) (l : n ≤ m) : TIx I H m a := let ⟨its, e, k, al⟩ := h; ⟨its, e, Nat.le_trans k l, al⟩
theorem Odd.same {K : PySem.W.Frag} {X : List Addr} {H H' : Hp} {y : V} (h : Odd K X H y) (s : Same H H') : Odd K X H' y := by
  rcases h with ⟨a, e, t⟩ | ⟨q, its, e, h1, h2, h3⟩ | h
  · exact .inl ⟨a, e, t.same s⟩
  · exact .inr (.inl ⟨q, its, e, s _ _ h1, h2, fun y m => (h3 y m).same s⟩)
  · exact .inr (.inr h)
/-- one more list, made behind it -/
theorem Itm.add {K : PySem.W.Frag} {X : List Addr} {H : Hp} {y : V} {o : Addr} (h : Itm K X H y) (n : H o = none) : Itm K (o :: X) H y := by
  rcases h with h | ⟨b, ys, e, h1, h2, h3⟩
  · exact .inl h
  · refine .inr ⟨b, ys, e, h1, fun z m => ?_, h3⟩
    rcases List.mem_cons.mp m with rfl | m
    · exact ne_of_none h1 n
    · exact h2 z m
theorem Odd.add {K : PySem.W.Frag} {X : List Addr} {H : Hp} {y : V} {o : Addr} (h : Odd K X H y) (n : H o = none) : Odd K (o :: X) H y := by
  rcases h with ⟨a, e, its, h1, h2, h3⟩ | ⟨q, its, e, h1, h2, h3⟩ | h
  · exact .inl ⟨a, e, its, h1, h2, fun y m => (h3 y m).add n⟩
  · refine .inr (.inl ⟨q, its, e, h1, fun z m => ?_, fun y m => (h3 y m).add n⟩)
    rcases List.mem_cons.mp m with rfl | m
    · exact ne_of_none h1 n
    · exact h2 z m
  · exact .inr (.inr h)
theorem ne_lsts {X : List Addr} {H : Hp} {a : Addr} {its : List V} (h : Lsts X H) (e : H a = some (.tup its)) : ∀ z ∈ X, a ≠ z := by
  rintro z m rfl
  obtain ⟨ys, e'⟩ := h _ m
  rw [e] at e'; cases e'
theorem all2_choose {R : V → PyData → Prop} : ∀ {ys : List V}, (∀ y ∈ ys, ∃ e, R y e) → ∃ es, All2 R ys es
  | [], _ => ⟨[], .nil⟩
  | y :: ys, h => let ⟨e, r⟩ := h y (.head _); let ⟨es, t⟩ := all2_choose fun y m => h y (.tail _ m); ⟨e :: es, .cons r t⟩
theorem all2_mem {α β : Type} {R : α → β → Prop} {Pb : β → Prop} : ∀ {xs : List α} {ys : List β}, All2 R xs ys → (∀ x y, R x y → Pb y) → ∀ y ∈ ys, Pb y
  | _, _, .nil, _ => fun y h => by cases h
  | _, _, .cons r t, f => fun y h => by
    rcases List.mem_cons.mp h with rfl | m
    · exact f _ _ r
    · exact all2_mem t f y m
theorem Itm.nr {K : PySem.W.Frag} {X : List Addr} {H : Hp} {y : V} (h : Itm K X H y) (L : Lsts X H) : ∃ e, SmR e ∧ ∀ H', KpL X H H' → DR K H' y e := by
  rcases h with ⟨b, rfl, its, h1, h2, h3⟩ | ⟨b, ys, rfl, h1, h2, h3⟩
  · obtain ⟨es, al⟩ := all2_choose (R := fun y e => flatE e = true ∧ ∀ H, Dp K H y e) h3
    refine ⟨.tuple es, ⟨by rw [← al.len]; omega, List.all_eq_true.mpr (all2_mem al fun _ _ r => r.1)⟩, fun H' k => .inl ⟨b, its, es, rfl, rfl, k _ _ h1 (ne_lsts L h1), al.imp fun _ _ r => r.2 H'⟩⟩
  · obtain ⟨es, al⟩ := all2_choose (R := fun y e => flatE e = true ∧ ∀ H, Dp K H y e) h3
    exact ⟨.list es, trivial, fun H' k => .inr ⟨rfl, .lst (SqL.of (k _ _ h1 h2)) (dpa_ofL (al.imp fun _ _ r => r.2 H'))⟩⟩
theorem Odd.ng {K : PySem.W.Frag} {X : List Addr} {H : Hp} {x : V} (h : Odd K X H x) (L : Lsts X H) : ∃ d, SmG d ∧ ∀ H', KpL X H H' → DG K H' x d := by
  rcases h with ⟨a, rfl, its, h1, h2, h3⟩ | ⟨q, its, rfl, h1, h2, h3⟩ | ⟨⟨e, _, h⟩, nr⟩
  · obtain ⟨ds, al⟩ := all2_choose (R := fun y e => SmR e ∧ ∀ H', KpL X H H' → DR K H' y e) fun y m => (h3 y m).nr L
    exact ⟨.tuple ds, ⟨by rw [← al.len]; omega, all2_mem al fun _ _ r => r.1⟩, fun H' k => .inl ⟨a, its, ds, rfl, rfl, k _ _ h1 (ne_lsts L h1), al.imp fun _ _ r => r.2 H' k⟩⟩
  · obtain ⟨ds, al⟩ := all2_choose (R := fun y e => SmR e ∧ ∀ H', KpL X H H' → DR K H' y e) fun y m => (h3 y m).nr L
    exact ⟨.list ds, trivial, fun H' k => .inr ⟨rfl, .lst (SqL.of (k _ _ h1 h2)) (dpa_ofL (al.imp fun _ _ r => (r.2 H' k).dp))⟩⟩
  · have he : isTupD e = false := by
      have := h fun _ => none
      cases this with
      | tup h _ => exact absurd rfl (nr _)
      | _ => rfl
    refine ⟨e, ?_, fun H' _ => .inr ⟨he, h H'⟩⟩
    cases e with
    | tuple _ => cases he
    | _ => trivial
theorem cut_mem {xs : List V} {lo hi : Option Int} {y : V} (h : y ∈ cutV xs lo hi) : y ∈ xs := by
  unfold cutV at h
  first
    | exact List.mem_of_mem_drop (List.mem_of_mem_take h)
    | exact List.mem_of_mem_take (List.mem_of_mem_drop h)
theorem cut_len {xs : List V} {lo hi : Option Int} : (cutV xs lo hi).length ≤ xs.length := by
  unfold cutV
  simp only [List.length_take, List.length_drop]
  omega
section
variable {K : PySem.W.Frag} {H : Hp} {Q : VK} {I : Hp → V → Prop} {n m : Nat} {a b : Addr}
theorem sl_ti {lo hi : Option Int} (mono : ∀ H H' y, Same H H' → I H y → I H' y) (t : TIx (I H) H n a) (q : ∀ p H', Same H H' → TIx (I H') H' n p → Q (.ref p) H') : rSlA K (.ref a) lo hi H Q := by
  obtain ⟨its, e, l, al⟩ := id t
  refine ⟨a, its, rfl, SqT.of e, fun _ => q a H (Same.refl _) t, fun _ p kp => ?_⟩
  have s := same_new kp (.tup (cutV its lo hi))
  exact q p _ s ⟨_, upd_same, Nat.le_trans cut_len l, fun y hy => mono _ _ _ s (al y (cut_mem hy))⟩
theorem cat_ti (mono : ∀ H H' y, Same H H' → I H y → I H' y) (ta : TIx (I H) H n a) (tb : TIx (I H) H m b) (hz : n + m ≤ 1000000) (q : ∀ p H', Same H H' → TIx (I H') H' (n + m) p → Q (.ref p) H') : rCatA K (.ref a) (.ref b) H Q := by
  obtain ⟨its, e, l, al⟩ := id ta
  obtain ⟨jts, f, k, bl⟩ := id tb
  refine ⟨a, b, its, jts, rfl, rfl, SqT.of e, SqT.of f, by rw [sizeLine_eq]; omega, fun _ => q b H (Same.refl _) (tb.le (by omega)), fun _ _ => q a H (Same.refl _) (ta.le (by omega)), fun _ _ p kp => ?_⟩
  have s := same_new kp (.tup (its ++ jts))
  refine q p _ s ⟨_, upd_same, by rw [List.length_append]; omega, fun y hy => mono _ _ _ s ?_⟩
  rcases List.mem_append.mp hy with h | h
  · exact al y h
  · exact bl y h
end
/-! ### xs[k] += e -/
def rGetL : V → V → Hp → VK → Prop := fun o i H Q => ∃ (p : Addr) (xs : List V) (k : Int) (v : V), o = .ref p ∧ i = .int k ∧ H p = some (.lst xs) ∧ 0 ≤ k ∧ k < 2 ^ 60 ∧ xs[k.toNat]? = some v ∧ Q v H
theorem get_list {X : Cx} : PGet X rGetL := by
  intro pins s σ H o i ov w Q I ro ri h
  obtain ⟨p, xs, k, v, rfl, rfl, hp, k0, k1, hv, q⟩ := h
  cases ro
  obtain ⟨t, rfl⟩ := ri
  obtain ⟨its, r, pl, _⟩ := I.list (SqL.of hp)
  obtain ⟨u, hu, ru⟩ := r.get hv
  exact wpAny_getItem_list pl.isList k0 (by omega) (by simpa using hu) ⟨v, H, I, ru, q⟩
theorem itm_mono {K : PySem.W.Frag} {X : List Addr} : ∀ H H' y, Same H H' → Itm K X H y → Itm K X H' y := fun _ _ _ s h => h.same s
theorem fv_mono {K : PySem.W.Frag} : ∀ (H H' : Hp) y, Same H H' → FVv K y → FVv K y := fun _ _ _ _ h => h
theorem fv_int {K : PySem.W.Frag} (i : Int) : FVv K (.int i) := ⟨.int i, rfl, fun _ => .int i⟩
theorem fv_non {K : PySem.W.Frag} : FVv K .non := ⟨.none, rfl, fun _ => .non⟩
theorem fv_bl {K : PySem.W.Frag} (b : Bool) : FVv K (.bl b) := ⟨.bool b, rfl, fun _ => .bl b⟩
end K6

namespace K6
open PySem PySem.Spec PyProof.Rows L2 Hb St Sq Ow En Zp RZ Rd Xb Mn Wa Da
theorem Itm.on {K : PySem.W.Frag} {X : List Addr} {H H' : Hp} {y : V} (h : Itm K X H y) (L : Lsts X H) (k : KpL X H H') : Itm K X H' y := by
  rcases h with ⟨b, e, its, h1, h2, h3⟩ | ⟨b, ys, e, h1, h2, h3⟩
  · exact .inl ⟨b, e, its, k _ _ h1 (ne_lsts L h1), h2, h3⟩
  · exact .inr ⟨b, ys, e, k _ _ h1 h2, h2, h3⟩
theorem Odd.on {K : PySem.W.Frag} {X : List Addr} {H H' : Hp} {y : V} (h : Odd K X H y) (L : Lsts X H) (k : KpL X H H') : Odd K X H' y := by
  rcases h with ⟨a, e, its, h1, h2, h3⟩ | ⟨q, its, e, h1, h2, h3⟩ | h
  · exact .inl ⟨a, e, its, k _ _ h1 (ne_lsts L h1), h2, fun y m => (h3 y m).on L k⟩
  · exact .inr (.inl ⟨q, its, e, k _ _ h1 h2, h2, fun y m => (h3 y m).on L k⟩)
  · exact .inr (.inr h)
def rListK (K : PySem.W.Frag) : List V → Hp → VK → Prop := fun xs H Q => ∃ p ys, xs = [.ref p] ∧ (SqL K H p ys ∨ SqT K H p ys) ∧ ∀ l, H l = none → Q (.ref l) (upd H l (.lst ys))
def IntL (m : Nat) (H : Hp) (r : Addr) : Prop := ∃ row : List Int, H r = some (.lst (row.map V.int)) ∧ row.length = m
def Fnd (K : PySem.W.Frag) (n : Nat) (H : Hp) (f : Addr) : Prop := ∃ fits, H f = some (.tup fits) ∧ fits.length = n ∧ ∀ y ∈ fits, ∃ b, y = .ref b ∧ TIx (FVv K) H 50 b
theorem Fnd.kept {K : PySem.W.Frag} {n : Nat} {X : List Addr} {H H' : Hp} {f : Addr} (h : Fnd K n H f) (L : Lsts X H) (k : KpL X H H') : Fnd K n H' f := by
  obtain ⟨fits, e, l, al⟩ := h
  refine ⟨fits, k _ _ e (ne_lsts L e), l, fun y m => ?_⟩
  obtain ⟨b, eb, its, h1, h2, h3⟩ := al y m
  exact ⟨b, eb, its, k _ _ h1 (ne_lsts L h1), h2, h3⟩
theorem Fnd.ti {K : PySem.W.Frag} {n : Nat} {X : List Addr} {H : Hp} {f : Addr} (h : Fnd K n H f) : TIx (Itm K X H) H n f := by
  obtain ⟨fits, e, l, al⟩ := h
  refine ⟨fits, e, by omega, fun y m => ?_⟩
  obtain ⟨b, eb, t⟩ := al y m
  exact .inl ⟨b, eb, t.le (by omega)⟩
theorem Fnd.at {K : PySem.W.Frag} {n : Nat} {H : Hp} {f : Addr} (h : Fnd K n H f) {i : Nat} (hi : i < n) : ∃ fits b, H f = some (.tup fits) ∧ atI fits ((i : Nat) : Int) = some (.ref b) ∧ TIx (FVv K) H 50 b := by
  obtain ⟨fits, e, l, al⟩ := h
  obtain ⟨y, ey⟩ : ∃ y, fits[i]? = some y := ⟨_, List.getElem?_eq_getElem (by omega)⟩
  obtain ⟨b, rfl, t⟩ := al y (at_mem ey)
  exact ⟨fits, b, e, atI_nat ey, t⟩
theorem np {K : PySem.W.Frag} {σ : L2.St} {H : Hp} {a : Addr} {lo : Option Int} {Q : VK} (h : rSlA K (.ref a) lo none H Q) : tNoPart σ H fun u H3 => rSlA K (.ref a) lo u H3 Q := h
section
variable {P : Program} {w : World} {K : PySem.W.Frag} {mg : Str → Option Value} {base : Heap}
/-! ### _law_bent -/
abbrev s__law_bent : Stmt := top 37
theorem sc__law_bent : FnScope ["heap", "worths", "at", "to", "form", "rows", "found", "odd", "row"] ["heap", "worths"] (defScope s__law_bent) := ⟨rfl, rfl, rfl, by decide +kernel, rfl, by decide +kernel, by decide +kernel⟩
def spBent (K : PySem.W.Frag) : Sp := fun vs H Q _ => ∃ (p l wp : Addr) (wits : List V) (rows : List (List Int)) (m : Nat), vs = [.ref p, .ref wp] ∧ DealAt H p l ∧ H wp = some (.tup wits) ∧ All2 (RowT H) wits rows ∧ (1 ≤ rows.length ∧ rows.length ≤ 50) ∧ (∀ r ∈ rows, r.length = m) ∧ (1 ≤ m ∧ m ≤ 50) ∧
  ∀ v d H', Kept2 p l H H' → DealAt H' p l → SmG d → (∀ H'', Kept2 p l H' H'' → DG K H'' v d) → Q v H'
theorem ok_bent {f : Addr} {fd : FuncData} (F : Fun K "_law_bent" "_law_bent" s__law_bent f fd) (C__law_draw : Cl P w K mg base "_law_draw" ["heap", "many"] [] 1 spDraw) (C__law_pick : Cl P w K mg base "_law_pick" ["heap", "some"] [] 2 (spPick K)) (n_len : mg "len" = none) (n_list : mg "list" = none) (n_tuple : mg "tuple" = none) : FnOk P w K mg base CX0 3 f fd ["heap", "worths"] (spBent K) := by
  refine F.ok sc__law_bent (fun vs H Q E h => ?_) (fun cdv A outer s H vs Q E hr h => ?_)
  · obtain ⟨_, _, _, _, _, _, rfl, _⟩ := h
    rfl
  · obtain ⟨p, l, wp, wits, rows, m1, rfl, hd, ew, alw, ⟨n1, n2⟩, hm, ⟨m2, m3⟩, q⟩ := h
    refine ⟨_, (pss_cons (ps_par3 (i := 2) (j := 3) (l := 4) (by rfl) sc__law_bent.nd rfl rfl rfl (by decide) (by decide) (by decide) rfl rfl rfl (pa_cons (pe_use C__law_draw (hr.mono (by decide)) rfl (pa_cons (pv 0) (pa_cons (pe_callB call_len_seq (by rfl) n_len PySem.boot_len (pa_cons (pv 1) pa_nil)) pa_nil))) (pa_cons (pe_use C__law_draw (hr.mono (by decide)) rfl (pa_cons (pv 0) (pa_cons (pe_callB call_len_seq (by rfl) n_len PySem.boot_len (pa_cons (pe_ix ix_tup (pv 1) pe_int (fun _ _ => rfl)) pa_nil)) pa_nil))) (pa_cons (pe_use C__law_draw (hr.mono (by decide)) rfl (pa_cons (pv 0) (pa_cons pe_int pa_nil))) pa_nil))) (by rfl))
    (Evl.pss_cut (ps_setLc (i := 5) (own := [("row", 8)]) (g := gName 8) (by rfl) sc__law_bent.nd rfl rfl (sw_true rfl rfl rfl (by decide +kernel)) (pi_seq (pv 1)) (blkOk_by (N := ["heap", "worths", "at", "to", "form", "rows", "found", "odd", "row"]) (sc := defScope s__law_bent) (by decide +kernel)) (fun _ _ _ _ _ => pg_name (i := 8) sc__law_bent.nd rfl (Or.inl rfl)) (fun _ _ _ _ _ => pts_nil) (fun _ _ _ _ _ => pe_callTy (T := "list") (r := rListK K) call_list_of (by rfl) n_list (by decide +kernel) (pa_cons (pv 8) pa_nil)))
    (Evl.pss_cut (ps_if (pt_cmpR op_lt (pv 4) pe_int (nomark _)) (pss_one (ps_augS (pe_ix ix_list (pv 5) (pv 2) (fun _ _ => rfl)) (pv 3) get_list (pe_ix ix_list (pe_lst (pa_cons pe_int (pa_cons pe_int (pa_cons (pe_op op_sub pe_int pe_int) (pa_cons (pe_op op_sub pe_int pe_int) (pa_cons pe_int pa_nil)))))) (pv 4) (fun _ _ => rfl)) ip_add set_list)) pss_nil)
    (Evl.pss_cut (ps_set (i := 6) sc__law_bent.nd rfl (Or.inl rfl) (pe_callTy call_tuple_of (by rfl) n_tuple (by decide +kernel) (pa_cons (pe_lc (own := [("row", 8)]) (g := gName 8) rfl sc__law_bent.nd (pi_seq (pv 5)) (blkOk_by (N := ["heap", "worths", "at", "to", "form", "rows", "found", "odd", "row"]) (sc := defScope s__law_bent) (by decide +kernel)) (fun _ _ _ _ _ => pg_name (i := 8) sc__law_bent.nd rfl (Or.inl rfl)) (fun _ _ _ _ _ => pts_nil) (fun _ _ _ _ _ => pe_callTy (T := "tuple") (r := rTupE K) call_tupE (by rfl) n_tuple (by decide +kernel) (pa_cons (pv 8) pa_nil))) pa_nil)))
    (Evl.pss_cut (ps_set (i := 7) sc__law_bent.nd rfl (Or.inl rfl) (pe_lst (pa_cons (pe_callTy call_list_of (by rfl) n_list (by decide +kernel) (pa_cons (pv 6) pa_nil)) (pa_cons (pe_slice (r := rSlA K) sl_tupA (pv 6) po_none (po_some (pe_un un_neg pe_int))) (pa_cons (pe_op op_catA (pv 6) (pe_slice (r := rSlA K) sl_tupA (pv 6) po_none (po_some pe_int))) (pa_cons (pe_op op_catA (pe_op op_catA (pe_slice (r := rSlA K) sl_tupA (pv 6) po_none (po_some (pv 2))) (pe_tup (pa_cons (pe_callTy call_list_of (by rfl) n_list (by decide +kernel) (pa_cons (pe_ix ix_tup (pv 6) (pv 2) (fun _ _ => rfl)) pa_nil)) pa_nil))) (pe_slice (r := rSlA K) sl_tupA (pv 6) (po_some (pe_op op_add (pv 2) pe_int)) po_none)) (pa_cons pe_non (pa_cons pe_int pa_nil))))))))
    (Evl.pss_cut (ps_expr (pe_bm PySem.F.plainAttrs_list PySem.F.slot_list_append PySem.F.type_list_append mt_append (pv 7) (pa_cons (pe_op op_catA (pe_op op_catA (pe_slice (r := rSlA K) sl_tupA (pv 6) po_none (po_some (pv 2))) (pe_tup (pa_cons (pe_slice (r := rSlA K) sl_tupA (pe_ix ix_tup (pv 6) (pv 2) (fun _ _ => rfl)) po_none (po_some (pe_un un_neg pe_int))) pa_nil))) (pe_slice (r := rSlA K) sl_tupA (pv 6) (po_some (pe_op op_add (pv 2) pe_int)) po_none)) pa_nil)))
    (Evl.pss_cut (ps_expr (pe_bm PySem.F.plainAttrs_list PySem.F.slot_list_append PySem.F.type_list_append mt_append (pv 7) (pa_cons (pe_op op_catA (pe_op op_catA (pe_slice (r := rSlA K) sl_tupA (pv 6) po_none (po_some (pv 2))) (pe_tup (pa_cons (pe_op op_catA (pe_slice (r := rSlA K) sl_tupA (pe_ix ix_tup (pv 6) (pv 2) (fun _ _ => rfl)) po_none (po_some (pe_un un_neg pe_int))) (pe_tup (pa_cons pe_non pa_nil))) pa_nil))) (pe_slice (r := rSlA K) sl_tupA (pv 6) (po_some (pe_op op_add (pv 2) pe_int)) po_none)) pa_nil)))
    (Evl.pss_cut (ps_expr (pe_bm PySem.F.plainAttrs_list PySem.F.slot_list_append PySem.F.type_list_append mt_append (pv 7) (pa_cons (pe_op op_catA (pe_tup (pa_cons (pe_op op_catA (pe_tup (pa_cons pe_bl pa_nil)) (pe_slice (r := rSlA K) sl_tupA (pe_ix ix_tup (pv 6) pe_int (fun _ _ => rfl)) (po_some pe_int) po_none)) pa_nil)) (pe_slice (r := rSlA K) sl_tupA (pv 6) (po_some pe_int) po_none)) pa_nil)))
    (pss_one (ps_ret (pe_ifExp (pt_cmpR op_eq (pv 4) pe_int (nomark _)) (pe_use C__law_pick (hr.mono (by decide)) rfl (pa_cons (pv 0) (pa_cons (pv 7) pa_nil))) (pv 6)))))))))))), ?_⟩
    have lnw : wits.length = rows.length := alw.len
    refine ⟨_, rfl, _, rfl, wp, _, rfl, .inr (SqT.of ew), p, l, _, rfl, ⟨by omega, by omega⟩, hd, fun d1 H1 d10 d11 k1 hd1 => ?_⟩
    rw [lnw] at d11
    have nw := hd.ne_tup ew
    have ew1 := k1 _ _ ew nw.1 nw.2
    have alw1 := alw.imp fun _ _ r => r.fix (k1.fix hd)
    obtain ⟨row0, e0⟩ : ∃ r, rows[0]? = some r := ⟨_, List.getElem?_eq_getElem (by omega)⟩
    obtain ⟨z0, ez0, rb, rfl, erb⟩ := alw1.getR e0
    have lr0 := hm row0 (at_mem e0)
    refine ⟨_, rfl, _, rfl, wp, _, _, .ref rb, rfl, rfl, SqT.of ew1, atI_nat ez0, rb, _, rfl, .inr (SqT.of erb), p, l, _, rfl, ⟨by rw [List.length_map]; omega, by rw [List.length_map]; omega⟩, hd1, fun d2 H2 d20 d21 k2 hd2 => ?_⟩
    rw [List.length_map, lr0] at d21
    refine ⟨_, rfl, p, l, 8, rfl, ⟨by decide, by decide⟩, hd2, fun d3 H3 d30 d31 k3 hd3 => ⟨_, _, _, rfl, ?_⟩⟩
    obtain ⟨at', rfl⟩ := Int.eq_ofNat_of_zero_le d10
    obtain ⟨to', rfl⟩ := Int.eq_ofNat_of_zero_le d20
    have k03 := (k1.trans k2).trans k3
    have ew3 := k03 _ _ ew nw.1 nw.2
    have alw3 := alw.imp fun _ _ r => r.fix (k03.fix hd)
    let S : Option V → Option V → Option V → L2.St := fun o5 o6 o7 => [some (.ref p), some (.ref wp), some (natV at'), some (natV to'), some (.int d3), o5, o6, o7, none]
    refine ⟨fun σ H' => ∃ (rp : Addr) (rs : List Addr), σ = S (some (.ref rp)) none none ∧ Kept2 p l H H' ∧ DealAt H' p l ∧ H' rp = some (.lst (rs.map V.ref)) ∧ rs.length = rows.length ∧ ∀ r ∈ rs, IntL m1 H' r ∧ r ≠ rp ∧ H r = none, ?_, ?_⟩
    · refine ⟨_, rfl, wp, _, rfl, .inr (SqT.of ew3), fun J S' W z0 D hD => ?_⟩
      refine wk_go W (fun i H' => Same H3 H' ∧ ∃ rs : List Addr, H' D = some (.lst (rs.map V.ref)) ∧ rs.length = i ∧ ∀ r ∈ rs, IntL m1 H' r ∧ r ≠ D ∧ H r = none) ⟨same_new hD _, [], upd_same, rfl, fun r h => by cases h⟩ (fun i H' m => W.keep (fun o e => m.1 _ _ e) z0) (fun i x H' ex m => ?_) (fun H' m => ?_)
      · obtain ⟨s3, rs, eD, lrs, al⟩ := m
        obtain ⟨row, erow, wb, rfl, hwb⟩ := alw3.get ex
        have lrow := hm row (at_mem erow)
        have hd' := hd3.same s3
        refine ⟨rfl, _, rfl, wb, _, rfl, .inr (SqT.of (s3 _ _ hwb)), fun r kr => ?_⟩
        have fr : H r = none := fresh2 (k03.trans (Kept2.same s3)) hd' kr
        have s4 := same_new kr (.lst (row.map V.int))
        have eD4 := s4 _ _ eD
        have nrD : r ≠ D := (ne_of_none eD kr).symm
        have er4 : upd H' r (.lst (row.map V.int)) r = some (.lst (row.map V.int)) := upd_same
        generalize upd H' r (.lst (row.map V.int)) = H4 at s4 eD4 er4 ⊢
        refine ⟨_, eD4, by rw [List.length_map, sizeLine_eq]; have := (List.getElem?_eq_some_iff.mp ex).1; omega, fun b o e => by rw [upd_ne (ne_of_none e hD)]; exact (s3.trans s4) _ _ e, rs ++ [r], by rw [upd_same, List.map_append]; rfl, by rw [List.length_append, lrs]; rfl, fun x hx => ?_⟩
        rcases List.mem_append.mp hx with h | h
        · obtain ⟨⟨row', h1, h2⟩, h3, h4⟩ := al x h
          exact ⟨⟨row', by rw [upd_ne h3]; exact s4 _ _ h1, h2⟩, h3, h4⟩
        · rw [List.mem_singleton.mp h]
          exact ⟨⟨row, by rw [upd_ne nrD]; exact er4, lrow⟩, nrD, fr⟩
      · obtain ⟨s3, rs, eD, lrs, al⟩ := m
        exact ⟨D, rs, rfl, k03.trans (Kept2.same s3), hd3.same s3, eD, by rw [lrs, lnw], al⟩
    clear k1 k2 k3 hd1 hd2 hd3 k03 ew1 ew3 alw1 alw3 erb ez0
    rintro σ H4 ⟨rp, rs, rfl, k4, hd4, e4, lrs, al4⟩
    refine ⟨fun σ H' => σ = S (some (.ref rp)) none none ∧ Kept2 p l H H' ∧ DealAt H' p l ∧ H' rp = some (.lst (rs.map V.ref)) ∧ ∀ r ∈ rs, IntL m1 H' r, ?_, ?_⟩
    · refine ⟨_, rfl, _, _, rfl, rfl, _, rfl, iteD (fun c => ?_) (fun c => ⟨rfl, k4, hd4, e4, fun r m => (al4 r m).1⟩)⟩
      obtain ⟨r, er⟩ : ∃ r, rs[at']? = some r := ⟨_, List.getElem?_eq_getElem (by omega)⟩
      obtain ⟨⟨row, hrow, lrow⟩, nrp, fr⟩ := al4 r (at_mem er)
      obtain ⟨z, ez⟩ : ∃ z, row[to']? = some z := ⟨_, List.getElem?_eq_getElem (by omega)⟩
      obtain ⟨δ, hδ⟩ : ∃ δ, atI [V.int 1, .int 1, .int (0 - 1), .int (0 - 1), .int 3] d3 = some (.int δ) := by
        have : d3 = 0 ∨ d3 = 1 ∨ d3 = 2 ∨ d3 = 3 ∨ d3 = 4 := by omega
        rcases this with rfl | rfl | rfl | rfl | rfl <;> exact ⟨_, rfl⟩
      refine ⟨_, rfl, _, rfl, rp, _, _, .ref r, rfl, rfl, SqL.of e4, atI_nat (by rw [List.getElem?_map, er]; rfl), ?_⟩
      refine ⟨_, rfl, r, row.map V.int, _, .int z, rfl, rfl, hrow, by omega, by omega, by rw [Int.toNat_natCast, List.getElem?_map, ez]; rfl, ?_⟩
      refine ⟨_, _, rfl, rfl, _, _, rfl, rfl, by show 5 ≤ sizeLine; decide, fun t kt => ?_⟩
      have s5 := same_new kt (.lst [V.int 1, .int 1, .int (0 - 1), .int (0 - 1), .int 3])
      have et5 : upd H4 t (.lst [V.int 1, .int 1, .int (0 - 1), .int (0 - 1), .int 3]) t = some (.lst [V.int 1, .int 1, .int (0 - 1), .int (0 - 1), .int 3]) := upd_same
      refine ⟨_, rfl, t, _, _, _, rfl, rfl, SqL.of et5, hδ, _, _, rfl, rfl, ?_⟩
      have hd5 := hd4.same s5
      have k5 := k4.trans (Kept2.same s5)
      have e5 := s5 _ _ e4
      have hr5 := s5 _ _ hrow
      refine ⟨r, row.map V.int, _, to', rfl, rfl, hr5, by rw [List.length_map]; exact Evl.ixN_nat (by omega), ?_⟩
      have kr : ∀ b o, (upd H4 t (.lst [V.int 1, .int 1, .int (0 - 1), .int (0 - 1), .int 3])) b = some o → b ≠ r → upd (upd H4 t (.lst [V.int 1, .int 1, .int (0 - 1), .int (0 - 1), .int 3])) r (.lst ((row.map V.int).set to' (.int (z + δ)))) b = some o := fun b o e n => by rw [upd_ne n]; exact e
      generalize upd H4 t (.lst [V.int 1, .int 1, .int (0 - 1), .int (0 - 1), .int 3]) = H5 at s5 hd5 k5 e5 hr5 kr ⊢
      have frp : p ≠ r ∧ l ≠ r := by
        obtain ⟨_, _, h1, h2, _⟩ := hd
        exact ⟨ne_of_none h1 fr, ne_of_none h2 fr⟩
      refine ⟨rfl, fun b o e n1 n2 => kr _ _ (k5 _ _ e n1 n2) (ne_of_none e fr), hd5.put frp.1 frp.2, kr _ _ e5 nrp.symm, fun x hx => ?_⟩
      by_cases c' : x = r
      · subst c'
        exact ⟨row.set to' (z + δ), by rw [upd_same, List.map_set], by rw [List.length_set]; exact lrow⟩
      · obtain ⟨⟨row', h1, h2⟩, _⟩ := al4 x hx
        exact ⟨row', kr _ _ (s5 _ _ h1) c', h2⟩
    rintro σ H5 ⟨rfl, k5, hd5, e5, al5⟩
    clear al4 hd4 e4 k4
    have L : ∀ {H' : Hp}, DealAt H' p l → Lsts [p, l] H' := fun d z m => by
      obtain ⟨_, _, h1, h2, _⟩ := d
      rcases List.mem_cons.mp m with rfl | m
      · exact ⟨_, h1⟩
      · rw [List.mem_singleton.mp m]; exact ⟨_, h2⟩
    refine ⟨fun σ H' => ∃ f, σ = S (some (.ref rp)) (some (.ref f)) none ∧ Kept2 p l H H' ∧ DealAt H' p l ∧ Fnd K rows.length H' f, ?_, ?_⟩
    · refine ⟨_, rfl, rp, _, rfl, SqX.lst e5, fun J S' W z0 D hD => ?_⟩
      refine lc_mf (ds := rs) W (fun _ => true) (fun H y _ => ∃ b, y = .ref b ∧ ∃ row : List Int, H b = some (.tup (row.map V.int)) ∧ row.length = m1) z0 hD (by rw [List.length_map]) (fun i x r H6 ex er s6 m6 => ?_) (fun H6 ys s6 e6 al6 => ?_)
      · rw [List.getElem?_map, er] at ex
        obtain rfl := Option.some.inj ex
        obtain ⟨row, h1, h2⟩ := al5 r (at_mem er)
        exact ⟨rfl, _, rfl, r, _, rfl, .inl ⟨SqL.of (s6 _ _ h1), fun b kb => mf_yes m6 hD (fun _ _ _ _ f ⟨b, e, row, h1, h2⟩ => ⟨b, e, row, f _ _ h1 (not_mut_tup _), h2⟩) er (by omega) (same_new kb _) rfl ⟨b, rfl, row, upd_same, h2⟩⟩⟩
      · rw [Rd.filter_all] at al6
        refine ⟨D, _, rfl, .inl ⟨SqL.of e6, fun f kf => ?_⟩⟩
        have s7 := same_new kf (.tup ys)
        refine ⟨f, rfl, k5.trans (Kept2.same (s6.trans s7)), hd5.same (s6.trans s7), ys, upd_same, by rw [al6.len, lrs], fun y hy => ?_⟩
        obtain ⟨i, ei⟩ := List.mem_iff_getElem?.mp hy
        obtain ⟨r, _, b, rfl, row, h1, h2⟩ := al6.get ei
        exact ⟨b, rfl, _, s7 _ _ h1, by rw [List.length_map]; omega, fun v hv => by obtain ⟨z, _, rfl⟩ := List.mem_map.mp hv; exact fv_int z⟩
    clear k5 hd5 e5 al5
    rintro σ H6 ⟨f, rfl, k6, hd6, F6⟩
    have lat : at' < rows.length := by omega
    let n := rows.length
    let X := [p, l]
    have FS : ∀ {H'}, Same H6 H' → Fnd K n H' f := fun s => F6.kept (L hd6) (KpL.same s)
    refine ⟨fun σ H' => ∃ (o : Addr) (xs : List V), σ = S (some (.ref rp)) (some (.ref f)) (some (.ref o)) ∧ Same H6 H' ∧ H6 o = none ∧ H' o = some (.lst xs) ∧ xs.length = 6 ∧ ∀ x ∈ xs, Odd K [o, p, l] H' x, ?_, ?_⟩
    · obtain ⟨fits, ef, lf, alf⟩ := id F6
      refine ⟨_, rfl, f, fits, rfl, .inr (SqT.of ef), fun q1 kq1 => ?_⟩
      have s1 := same_new kq1 (.lst fits)
      have O1 : Odd K X (upd H6 q1 (.lst fits)) (.ref q1) := .inr (.inl ⟨q1, fits, rfl, upd_same, fun z m => by
        obtain ⟨n1, n2⟩ := hd6.ne_none kq1
        rcases List.mem_cons.mp m with rfl | m
        · exact n1
        · rw [List.mem_singleton.mp m]; exact n2, fun y hy => by
        obtain ⟨b, eb, t⟩ := alf y hy
        exact .inl ⟨b, eb, (t.le (by omega)).sameF s1⟩⟩)
      generalize upd H6 q1 (.lst fits) = H7 at s1 O1 ⊢
      refine ⟨_, rfl, 1, rfl, _, rfl, ?_⟩
      refine sl_ti (I := Itm K X) itm_mono (FS s1).ti fun p2 H8 s8 t8 => ?_
      have s2 := s1.trans s8
      refine ⟨_, rfl, _, rfl, _, rfl, ?_⟩
      refine sl_ti (I := Itm K X) itm_mono (FS s2).ti fun c3 H9 s9 t9 => ?_
      have s3 := s2.trans s9
      refine cat_ti (I := Itm K X) itm_mono (FS s3).ti t9 (by omega) fun p3 H10 s10 t10 => ?_
      have s4 := s3.trans s10
      refine ⟨_, rfl, _, rfl, _, rfl, ?_⟩
      refine sl_ti (I := Itm K X) itm_mono (FS s4).ti fun c4 H11 s11 t11 => ?_
      have s5 := s4.trans s11
      obtain ⟨fits5, b5, ef5, ea5, ys5, eb5, ly5, al5⟩ := (FS s5).at lat
      refine ⟨_, rfl, _, rfl, f, fits5, _, .ref b5, rfl, rfl, SqT.of ef5, ea5, b5, ys5, rfl, .inr (SqT.of eb5), fun q4 kq4 => ⟨by show 1 ≤ sizeLine; decide, fun t4 kt4 => ?_⟩⟩
      have s12 := same_new kq4 (.lst ys5)
      have s13 := same_new kt4 (.tup [V.ref q4])
      have hd11 := hd6.same s5
      have I4 : Itm K X (upd (upd H11 q4 (.lst ys5)) t4 (.tup [V.ref q4])) (.ref q4) := .inr ⟨q4, ys5, rfl, s13 _ _ upd_same, fun z m => by
        obtain ⟨n1, n2⟩ := hd11.ne_none kq4
        rcases List.mem_cons.mp m with rfl | m
        · exact n1
        · rw [List.mem_singleton.mp m]; exact n2, al5⟩
      have T4 : TIx (Itm K X (upd (upd H11 q4 (.lst ys5)) t4 (.tup [V.ref q4]))) (upd (upd H11 q4 (.lst ys5)) t4 (.tup [V.ref q4])) 1 t4 := ⟨[V.ref q4], upd_same, Nat.le_refl 1, fun y hy => by rw [List.mem_singleton.mp hy]; exact I4⟩
      have s14 := s12.trans s13
      generalize upd (upd H11 q4 (.lst ys5)) t4 (.tup [V.ref q4]) = H12 at s14 T4 ⊢
      refine cat_ti (I := Itm K X) itm_mono (t11.same s14) T4 (by omega) fun c5 H13 s15 t15 => ?_
      have s16 := s5.trans (s14.trans s15)
      refine ⟨_, rfl, _, rfl, _, _, rfl, rfl, _, rfl, ?_⟩
      refine np ?_
      refine sl_ti (I := Itm K X) itm_mono (FS s16).ti fun c6 H14 s17 t17 => ?_
      refine cat_ti (I := Itm K X) itm_mono (t15.same s17) t17 (by omega) fun p4 H15 s18 t18 => ?_
      have s19 := s16.trans (s17.trans s18)
      refine ⟨by show 6 ≤ sizeLine; decide, fun o ko => ?_⟩
      have s20 := same_new ko (.lst [V.ref q1, V.ref p2, V.ref p3, V.ref p4, V.non, V.int 3])
      refine ⟨o, _, rfl, s19.trans s20, ?_, upd_same, rfl, ?_⟩
      · cases e : H6 o with
        | none => rfl
        | some ob => rw [s19 _ _ e] at ko; cases ko
      · have cv : ∀ x, Odd K X H15 x → Odd K [o, p, l] (upd H15 o (.lst [V.ref q1, V.ref p2, V.ref p3, V.ref p4, V.non, V.int 3])) x := fun x h => (h.add ko).same s20
        have s8_15 : Same H8 H15 := (s9.trans (s10.trans (s11.trans (s14.trans (s15.trans (s17.trans s18))))))
        have s10_15 : Same H10 H15 := (s11.trans (s14.trans (s15.trans (s17.trans s18))))
        intro x hx
        simp only [List.mem_cons, List.not_mem_nil, or_false] at hx
        rcases hx with rfl | rfl | rfl | rfl | rfl | rfl
        · exact cv _ (O1.same (s8.trans s8_15))
        · exact cv _ (.inl ⟨p2, rfl, (t8.same s8_15).le (by omega)⟩)
        · exact cv _ (.inl ⟨p3, rfl, (t10.same s10_15).le (by omega)⟩)
        · exact cv _ (.inl ⟨p4, rfl, t18.le (by omega)⟩)
        · exact cv _ (.inr (.inr ⟨fv_non, fun a z => by cases z⟩))
        · exact cv _ (.inr (.inr ⟨fv_int 3, fun a z => by cases z⟩))
    rintro σ H7 ⟨o, xs, rfl, s7, no, eo, lx, odds⟩
    let Y := [o, p, l]
    have LY : ∀ {H'}, Kept o H7 H' → (∃ ys, H' o = some (.lst ys)) → Lsts Y H' := fun k e z m => by
      have nop := (hd6.ne_none no)
      rcases List.mem_cons.mp m with rfl | m
      · exact e
      · obtain ⟨_, _, h1, h2, _⟩ := hd6.same s7
        rcases List.mem_cons.mp m with rfl | m
        · exact ⟨_, k _ _ h1 nop.1.symm⟩
        · rw [List.mem_singleton.mp m]; exact ⟨_, k _ _ h2 nop.2.symm⟩
    let Iv : Nat → L2.St → Hp → Prop := fun k σ H' => ∃ xs : List V, σ = S (some (.ref rp)) (some (.ref f)) (some (.ref o)) ∧ Kept o H7 H' ∧ H' o = some (.lst xs) ∧ xs.length = k ∧ ∀ x ∈ xs, Odd K Y H' x
    have dlH : ∀ {H'}, Kept o H7 H' → DealAt H' p l := fun {H'} k => by
      have nop := (hd6.ne_none no)
      obtain ⟨ns, b, h1, h2, r⟩ := hd6.same s7
      exact ⟨ns, b, k _ _ h1 nop.1.symm, k _ _ h2 nop.2.symm, r⟩
    have FK : ∀ {H'}, Kept o H7 H' → Fnd K n H' f := fun {H'} k => (FS s7).kept (X := [o]) (fun z m => by rw [List.mem_singleton.mp m]; exact ⟨_, eo⟩) fun b ob e nz => k _ _ e (nz o (.head _))
    /- one more odd thing -/
    have put : ∀ {k : Nat} {H8 H9 : Hp} {ys : List V} {x : V}, Kept o H7 H8 → H8 o = some (.lst ys) → ys.length = k → (∀ x ∈ ys, Odd K Y H8 x) → Same H8 H9 → Odd K Y H9 x → Iv (k + 1) (S (some (.ref rp)) (some (.ref f)) (some (.ref o))) (upd H9 o (.lst (ys ++ [x]))) := by
      intro k H8 H9 ys x k8 e8 l8 od s9 ox
      have k9 : Kept o H7 H9 := k8.trans fun b ob e _ => s9 b ob e
      have k10 : Kept o H9 (upd H9 o (.lst (ys ++ [x]))) := fun b ob e nb => by rw [upd_ne nb]; exact e
      have LL := LY k9 ⟨_, s9 _ _ e8⟩
      have kp : KpL Y H9 (upd H9 o (.lst (ys ++ [x]))) := fun b ob e nz => k10 _ _ e (nz o (.head _))
      refine ⟨_, rfl, k9.trans k10, upd_same, by rw [List.length_append, l8]; rfl, fun y hy => ?_⟩
      rcases List.mem_append.mp hy with h | h
      · exact ((od y h).same s9).on LL kp
      · rw [List.mem_singleton.mp h]; exact ox.on LL kp
    refine ⟨Iv 7, ?_, ?_⟩
    · have F := FK (Kept.refl o H7)
      refine ⟨_, rfl, .inl ⟨rfl, _, SqL.of eo⟩, ?_⟩
      refine ⟨_, rfl, _, rfl, _, rfl, ?_⟩
      refine sl_ti (I := Itm K Y) itm_mono F.ti fun c1 H8 s8 t8 => ?_
      obtain ⟨fits, b, ef, ea, tb⟩ := (FS (s7.trans s8)).at lat
      refine ⟨_, rfl, _, rfl, f, fits, _, .ref b, rfl, rfl, SqT.of ef, ea, 1, rfl, _, rfl, ?_⟩
      refine sl_ti (I := fun _ => FVv K) fv_mono tb fun c2 H9 s9 t9 => ⟨by show 1 ≤ sizeLine; decide, fun t4 kt4 => ?_⟩
      have s10 := same_new kt4 (.tup [V.ref c2])
      have T4 : TIx (Itm K Y (upd H9 t4 (.tup [V.ref c2]))) (upd H9 t4 (.tup [V.ref c2])) 1 t4 := ⟨[V.ref c2], upd_same, Nat.le_refl 1, fun y hy => by rw [List.mem_singleton.mp hy]; exact .inl ⟨c2, rfl, (t9.le (by omega)).sameF s10⟩⟩
      generalize upd H9 t4 (.tup [V.ref c2]) = H10 at s10 T4 ⊢
      refine cat_ti (I := Itm K Y) itm_mono (t8.same (s9.trans s10)) T4 (by omega) fun c5 H11 s11 t11 => ?_
      have s7_11 := s7.trans (s8.trans (s9.trans (s10.trans s11)))
      refine ⟨_, rfl, _, rfl, _, _, rfl, rfl, _, rfl, ?_⟩
      refine np ?_
      refine sl_ti (I := Itm K Y) itm_mono (FS s7_11).ti fun c6 H12 s12 t12 => ?_
      refine cat_ti (I := Itm K Y) itm_mono (t11.same s12) t12 (by omega) fun p4 H13 s13 t13 => ?_
      have s8_13 := s8.trans (s9.trans (s10.trans (s11.trans (s12.trans s13))))
      exact ⟨o, xs, .ref p4, rfl, rfl, s8_13 _ _ eo, by rw [lx, sizeLine_eq]; omega, put (Kept.refl _ _) eo lx odds s8_13 (.inl ⟨p4, rfl, t13.le (by omega)⟩)⟩
    clear odds lx
    rintro σ H8 ⟨xs, rfl, k8, e8, lx, odds⟩
    refine ⟨Iv 8, ?_, ?_⟩
    · have F := FK k8
      refine ⟨_, rfl, .inl ⟨rfl, _, SqL.of e8⟩, ?_⟩
      refine ⟨_, rfl, _, rfl, _, rfl, ?_⟩
      refine sl_ti (I := Itm K Y) itm_mono F.ti fun c1 H9 s9 t9 => ?_
      have FS8 : ∀ {H'}, Same H8 H' → Fnd K n H' f := fun s => FK (k8.trans fun b ob e _ => s b ob e)
      obtain ⟨fits, b, ef, ea, tb⟩ := (FS8 s9).at lat
      refine ⟨_, rfl, _, rfl, f, fits, _, .ref b, rfl, rfl, SqT.of ef, ea, 1, rfl, _, rfl, ?_⟩
      refine sl_ti (I := fun _ => FVv K) fv_mono tb fun c2 H10 s10 t10 => ⟨by show 1 ≤ sizeLine; decide, fun t3 kt3 => ?_⟩
      have s11 := same_new kt3 (.tup [V.non])
      have T3 : TIx (FVv K) (upd H10 t3 (.tup [V.non])) 1 t3 := ⟨[V.non], upd_same, Nat.le_refl 1, fun y hy => by rw [List.mem_singleton.mp hy]; exact fv_non⟩
      generalize upd H10 t3 (.tup [V.non]) = H11 at s11 T3 ⊢
      refine cat_ti (I := fun _ => FVv K) fv_mono (t10.sameF s11) T3 (by omega) fun c3 H12 s12 t12 => ⟨by show 1 ≤ sizeLine; decide, fun t4 kt4 => ?_⟩
      have s13 := same_new kt4 (.tup [V.ref c3])
      have T4 : TIx (Itm K Y (upd H12 t4 (.tup [V.ref c3]))) (upd H12 t4 (.tup [V.ref c3])) 1 t4 := ⟨[V.ref c3], upd_same, Nat.le_refl 1, fun y hy => by rw [List.mem_singleton.mp hy]; exact .inl ⟨c3, rfl, (t12.le (by omega)).sameF s13⟩⟩
      generalize upd H12 t4 (.tup [V.ref c3]) = H13 at s13 T4 ⊢
      have s9_13 := s10.trans (s11.trans (s12.trans s13))
      refine cat_ti (I := Itm K Y) itm_mono (t9.same s9_13) T4 (by omega) fun c5 H14 s14 t14 => ?_
      have s8_14 := s9.trans (s9_13.trans s14)
      refine ⟨_, rfl, _, rfl, _, _, rfl, rfl, _, rfl, ?_⟩
      refine np ?_
      refine sl_ti (I := Itm K Y) itm_mono (FS8 s8_14).ti fun c6 H15 s15 t15 => ?_
      refine cat_ti (I := Itm K Y) itm_mono (t14.same s15) t15 (by omega) fun p4 H16 s16 t16 => ?_
      have s8_16 := s8_14.trans (s15.trans s16)
      exact ⟨o, xs, .ref p4, rfl, rfl, s8_16 _ _ e8, by rw [lx, sizeLine_eq]; omega, put k8 e8 lx odds s8_16 (.inl ⟨p4, rfl, t16.le (by omega)⟩)⟩
    clear odds lx e8 k8
    rintro σ H8 ⟨xs, rfl, k8, e8, lx, odds⟩
    refine ⟨Iv 9, ?_, ?_⟩
    · have FS8 : ∀ {H'}, Same H8 H' → Fnd K n H' f := fun s => FK (k8.trans fun b ob e _ => s b ob e)
      refine ⟨_, rfl, .inl ⟨rfl, _, SqL.of e8⟩, by show 1 ≤ sizeLine; decide, fun t1 kt1 => ?_⟩
      have s9 := same_new kt1 (.tup [V.bl false])
      have T1 : TIx (FVv K) (upd H8 t1 (.tup [V.bl false])) 1 t1 := ⟨[V.bl false], upd_same, Nat.le_refl 1, fun y hy => by rw [List.mem_singleton.mp hy]; exact fv_bl false⟩
      generalize upd H8 t1 (.tup [V.bl false]) = H9 at s9 T1 ⊢
      obtain ⟨fits, b, ef, ea, tb⟩ := (FS8 s9).at (i := 0) (by omega)
      refine ⟨_, rfl, f, fits, _, .ref b, rfl, rfl, SqT.of ef, ea, _, rfl, ?_⟩
      refine np ?_
      refine sl_ti (I := fun _ => FVv K) fv_mono tb fun c2 H10 s10 t10 => ?_
      refine cat_ti (I := fun _ => FVv K) fv_mono (T1.sameF s10) t10 (by omega) fun c3 H11 s11 t11 => ⟨by show 1 ≤ sizeLine; decide, fun t4 kt4 => ?_⟩
      have s12 := same_new kt4 (.tup [V.ref c3])
      have T4 : TIx (Itm K Y (upd H11 t4 (.tup [V.ref c3]))) (upd H11 t4 (.tup [V.ref c3])) 1 t4 := ⟨[V.ref c3], upd_same, Nat.le_refl 1, fun y hy => by rw [List.mem_singleton.mp hy]; exact .inl ⟨c3, rfl, (t11.le (by omega)).sameF s12⟩⟩
      generalize upd H11 t4 (.tup [V.ref c3]) = H12 at s12 T4 ⊢
      have s8_12 := s9.trans (s10.trans (s11.trans s12))
      refine ⟨_, rfl, _, rfl, ?_⟩
      refine np ?_
      refine sl_ti (I := Itm K Y) itm_mono (FS8 s8_12).ti fun c6 H13 s13 t13 => ?_
      refine cat_ti (I := Itm K Y) itm_mono (T4.same s13) t13 (by omega) fun p4 H14 s14 t14 => ?_
      have s8_14 := s8_12.trans (s13.trans s14)
      exact ⟨o, xs, .ref p4, rfl, rfl, s8_14 _ _ e8, by rw [lx, sizeLine_eq]; omega, put k8 e8 lx odds s8_14 (.inl ⟨p4, rfl, t14.le (by omega)⟩)⟩
    clear odds lx e8 k8
    rintro σ H8 ⟨xs, rfl, k8, e8, lx, odds⟩
    have hd8 := dlH k8
    have nop := hd6.ne_none no
    have kH8 : Kept2 p l H H8 := fun b ob e n1 n2 => k8 _ _ (s7 _ _ (k6 _ _ e n1 n2)) (ne_of_none (k6 _ _ e n1 n2) no)
    have LL := LY k8 ⟨_, e8⟩
    have fin : ∀ x H9, Odd K Y H8 x → Kept2 p l H8 H9 → DealAt H9 p l → Q x H9 := fun x H9 ox k9 hd9 => by
      obtain ⟨d, sm, ng⟩ := ox.ng LL
      refine q x d H9 (kH8.trans k9) hd9 sm fun H'' k10 => ng H'' fun b ob e nz => (k9.trans k10) _ _ e (nz p (.tail _ (.head _))) (nz l (.tail _ (.tail _ (.head _))))
    refine ⟨_, rfl, rfl, _, rfl, iteD (fun c => ?_) (fun c => ?_)⟩
    · exact ⟨_, rfl, _, rfl, p, l, o, xs, rfl, hd8, fun H' k => SqX.lst (k _ _ e8 nop.1 nop.2), ⟨by omega, by omega⟩, fun x H9 hx k9 hd9 => fin x H9 (odds x hx) k9 hd9⟩
    · exact ⟨_, rfl, fin _ H8 (.inl ⟨f, rfl, (FK k8).ti.le (by omega)⟩) (Kept2.refl _ _ _) hd8⟩
end
end K6

namespace K6
open PySem PySem.Spec PyProof.Rows L2 Hb St Sq Ow En Zp RZ Rd Xb Mn Wa Da
theorem flat_sh {e : PyData} (h : flatE e = true) : Sh 0 e := by
  cases e with
  | int i => exact ⟨rfl, Nat.zero_le _⟩
  | bool b => exact ⟨rfl, Nat.zero_le _⟩
  | none => exact ⟨rfl, Nat.zero_le _⟩
  | _ => cases h
theorem flat_dp {K : PySem.W.Frag} {H : Hp} {y : V} {e : PyData} (h : Dp K H y e) (f : flatE e = true) : ∀ H', Dp K H' y e := fun H' => by
  cases h with
  | int i => exact .int i
  | bl b => exact .bl b
  | non => exact .non
  | str x => cases f
  | lst _ _ => cases f
  | tup _ _ => cases f
theorem flats_sh {es : List PyData} (h : ∀ e ∈ es, flatE e = true) : SeqAt.shaped (.list es) = true := by
  have := (sh_lst (n := 0) (f := fun e : PyData => e) (l := es) fun e m => flat_sh (h e m)).ok (by decide)
  rwa [List.map_id'] at this
def rowG (c : Nat) (d : PyData) : Bool := lenD c d && (itD d).all intD
theorem grid_rows (r c : Nat) (ds : List PyData) : gridD r c (.tuple ds) = (decide (ds.length = r) && ds.all (rowG c)) := by
  show (decide (ds.length = r) && (ds.all (lenD c) && (ds.flatMap itD).all intD)) = _
  congr 1
  induction ds with
  | nil => rfl
  | cons d ds ih =>
    rw [List.flatMap_cons, List.all_append, List.all_cons, List.all_cons, ← ih]
    unfold rowG
    cases lenD c d <;> cases ds.all (lenD c) <;> cases (itD d).all intD <;> rfl
theorem grd_all (c : Prop) [Decidable c] (s : Kw.Stp) (f : Kw.Stp → Bool) : (grd c s).all f = (!decide c || f s) := by
  unfold grd
  by_cases h : c
  · rw [if_pos h, decide_eq_true h]; simp
  · rw [if_neg h, decide_eq_false h]; rfl
/-- the law's three looks at a cell -/
def lkA (mi : Int) (ls : List (List Str)) (rows : List (List Int)) (i j : Nat) : Bool := !decide (0 < i) || !decide (mi * (((ls.getD (i - 1) []).length : Nat) : Int) < cell rows i j - cell rows (i - 1) j)
def lkB (ex : Int) (hs : List (List Str)) (rows : List (List Int)) (i j : Nat) : Bool := !decide (0 < j) || !decide (ex * (((hs.getD (j - 1) []).length : Nat) : Int) < cell rows i j - cell rows i (j - 1))
def lkC (mi ex : Int) (ls hs : List (List Str)) (rows : List (List Int)) (i j : Nat) : Bool := !decide (0 < i ∧ 0 < j) || !decide (Kw.pl mi ex (ls.getD (i - 1) []) (hs.getD (j - 1) []) < cell rows i j - cell rows (i - 1) (j - 1))
theorem nd_getD {xs : List (List Str)} (a : Nat) (h : ∀ l ∈ xs, l.Nodup) : (xs.getD a []).Nodup := by
  rw [List.getD_eq_getElem?_getD]
  cases e : xs[a]? with
  | none => exact List.nodup_nil
  | some l => exact h l (at_mem e)
theorem cell_lks (mi ex : Int) {ls hs : List (List Str)} (rows : List (List Int)) (i j : Nat) (nl : ∀ l ∈ ls, l.Nodup) (nh : ∀ h ∈ hs, h.Nodup) : cellOk mi ex ls hs rows i j = (lkA mi ls rows i j && (lkB ex hs rows i j && lkC mi ex ls hs rows i j)) := by
  unfold cellOk
  rw [steps_grd, List.all_append, List.all_append, grd_all, grd_all, grd_all]
  unfold lkA lkB lkC
  dsimp only
  have e1 : Kw.pp mi ex (ls.getD (i - 1) []) [] = mi * (((ls.getD (i - 1) []).length : Nat) : Int) := Kw.pA_eq mi ex _
  have e2 : Kw.pp mi ex [] (hs.getD (j - 1) []) = ex * (((hs.getD (j - 1) []).length : Nat) : Int) := Kw.pB_eq mi ex _
  rw [e1, e2, Kw.pp_pl mi ex (nd_getD _ nl) (nd_getD _ nh)]
  have f : ∀ x y z : Int, decide (x ≤ y + z) = !decide (z < x - y) := fun x y z => by
    rw [← decide_not]
    exact decide_eq_decide.mpr (by omega)
  rw [f, f, f]
  generalize (!decide (0 < i) || _) = a
  generalize (!decide (0 < j) || _) = b
  generalize (!decide (0 < i ∧ 0 < j) || _) = c
  cases a <;> cases b <;> cases c <;> rfl
section
variable {P : Program} {w : World} {K : PySem.W.Frag} {mg : Str → Option Value} {base : Heap}
/-! ### _law_holds -/
abbrev s__law_holds : Stmt := top 38
theorem sc__law_holds : FnScope ["lots", "heard", "missing", "extra", "price", "value", "row", "at", "to", "price_here", "one"] ["lots", "heard", "missing", "extra", "price", "value"] (defScope s__law_holds) := ⟨rfl, rfl, rfl, by decide +kernel, rfl, by decide +kernel, by decide +kernel⟩
def spHolds (K : PySem.W.Frag) : Sp := fun vs H Q _ => ∃ (a b : Addr) (ls hs : List (List Str)) (ns : List Str) (mi ex pr : Int) (val : V) (dv : PyData), vs = [.ref a, .ref b, .int mi, .int ex, .int pr, val] ∧ LLst H a ls ∧ LLst H b hs ∧ NsOk ns ∧ (∀ l ∈ ls, LotOk ns l) ∧ (∀ h ∈ hs, LotOk ns h) ∧ ls.length ≤ 1000 ∧ hs.length ≤ 1000 ∧ DG K H val dv ∧ SmG dv ∧
  ∀ H', Same H H' → Q (.bl (holdV mi ex ls hs pr dv)) H'
theorem ok_holds {f : Addr} {fd : FuncData} (F : Fun K "_law_holds" "_law_holds" s__law_holds f fd) (C__law_price : Cl P w K mg base "_law_price" ["lot", "names", "missing", "extra"] [] 1 (spPrice K)) (n_bool : mg "bool" = none) (n_int : mg "int" = none) (n_isinstance : mg "isinstance" = none) (n_len : mg "len" = none) (n_range : mg "range" = none) (n_tuple : mg "tuple" = none) : FnOk P w K mg base CX0 2 f fd ["lots", "heard", "missing", "extra", "price", "value"] (spHolds K) := by
  refine F.ok sc__law_holds (fun vs H Q E h => ?_) (fun cdv A outer s H vs Q E hr h => ?_)
  · obtain ⟨_, _, _, _, _, _, _, _, _, _, rfl, _⟩ := h
    rfl
  · obtain ⟨a, b, ls, hs, ns, mi, ex, pr, val, dv, rfl, ha, hb, nok, okl, okh, l1, l2, gv, sm, q⟩ := h
    refine ⟨_, (Evl.pss_cut (ps_if (PW.pt (pw_or (pt_not (pt_val (pe_callB call_isi (by rfl) n_isinstance (by decide +kernel) (pa_cons (pv 5) (pa_cons (pe_bltn (v := .ty "tuple") (by rfl) n_tuple (by decide +kernel) rfl) pa_nil))))) (pw_or1 (pt_cmpR op_ne (pe_callB call_len_seq (by rfl) n_len PySem.boot_len (pa_cons (pv 5) pa_nil)) (pe_op op_add (pe_callB call_len_seq (by rfl) n_len PySem.boot_len (pa_cons (pv 0) pa_nil)) pe_int) (nomark _))))) (pss_one (ps_ret pe_bl)) pss_nil)
    (Evl.pss_cut (ps_for PassesOwn.never rfl (pi_seq (pv 5)) (pg_name (i := 6) sc__law_holds.nd rfl (Or.inl rfl))
      (Evl.pss_cut (ps_if (PW.pt (pw_or (pt_not (pt_val (pe_callB call_isi (by rfl) n_isinstance (by decide +kernel) (pa_cons (pv 6) (pa_cons (pe_bltn (v := .ty "tuple") (by rfl) n_tuple (by decide +kernel) rfl) pa_nil))))) (pw_or1 (pt_cmpR op_ne (pe_callB call_len_seq (by rfl) n_len PySem.boot_len (pa_cons (pv 6) pa_nil)) (pe_op op_add (pe_callB call_len_seq (by rfl) n_len PySem.boot_len (pa_cons (pv 1) pa_nil)) pe_int) (nomark _))))) (pss_one (ps_ret pe_bl)) pss_nil)
    (pss_one (ps_if (pt_cmpR (op_neD hr.units) (pe_lc (own := [("one", 10)]) (g := gName 10) rfl sc__law_holds.nd (pi_seq (pv 6)) (blkOk_by (N := ["lots", "heard", "missing", "extra", "price", "value", "row", "at", "to", "price_here", "one"]) (sc := defScope s__law_holds) (by decide +kernel)) (fun _ _ _ _ _ => pg_name (i := 10) sc__law_holds.nd rfl (Or.inl rfl)) (fun _ _ _ _ _ => pts_one (PW.pt (pw_or (pt_not (pt_val (pe_callB (r := rIsi K) call_isi (by rfl) n_isinstance (by decide +kernel) (pa_cons (pv 10) (pa_cons (pe_bltn (v := .ty "int") (by rfl) n_int (by decide +kernel) rfl) pa_nil))))) (pw_or1 (pt_val (pe_callB (r := rIsi K) call_isi (by rfl) n_isinstance (by decide +kernel) (pa_cons (pv 10) (pa_cons (pe_bltn (v := .ty "bool") (by rfl) n_bool (by decide +kernel) rfl) pa_nil)))))))) (fun _ _ _ _ _ => pv 10)) (pe_lst pa_nil) (nomark _)) (pss_one (ps_ret pe_bl)) pss_nil))))
    (Evl.pss_cut (ps_for PassesOwn.never rfl (pi_range1 (by rfl) n_range (pa_cons (pe_op op_add (pe_callB call_len_seq (by rfl) n_len PySem.boot_len (pa_cons (pv 0) pa_nil)) pe_int) pa_nil)) (pg_name (i := 7) sc__law_holds.nd rfl (Or.inl rfl))
      (pss_one (ps_for PassesOwn.never rfl (pi_range1 (by rfl) n_range (pa_cons (pe_op op_add (pe_callB call_len_seq (by rfl) n_len PySem.boot_len (pa_cons (pv 1) pa_nil)) pe_int) pa_nil)) (pg_name (i := 8) sc__law_holds.nd rfl (Or.inl rfl))
      (Evl.pss_cut (ps_if (PW.pt (pw_and (pt_cmpR op_gt (pv 7) pe_int (nomark _)) (pw_and1 (pt_cmpR op_gt (pe_op op_sub (pe_ix (r := rIxT K) ix_tup (pe_ix (r := rIxT K) ix_tup (pv 5) (pv 7) (fun _ _ => rfl)) (pv 8) (fun _ _ => rfl)) (pe_ix (r := rIxT K) ix_tup (pe_ix (r := rIxT K) ix_tup (pv 5) (pe_op op_sub (pv 7) pe_int) (fun _ _ => rfl)) (pv 8) (fun _ _ => rfl))) (pe_op op_mul (pv 2) (pe_callB call_len_seq (by rfl) n_len PySem.boot_len (pa_cons (pe_ix ix_list (pv 0) (pe_op op_sub (pv 7) pe_int) (fun _ _ => rfl)) pa_nil))) (nomark _))))) (pss_one (ps_ret pe_bl)) pss_nil)
    (Evl.pss_cut (ps_if (PW.pt (pw_and (pt_cmpR op_gt (pv 8) pe_int (nomark _)) (pw_and1 (pt_cmpR op_gt (pe_op op_sub (pe_ix (r := rIxT K) ix_tup (pe_ix (r := rIxT K) ix_tup (pv 5) (pv 7) (fun _ _ => rfl)) (pv 8) (fun _ _ => rfl)) (pe_ix (r := rIxT K) ix_tup (pe_ix (r := rIxT K) ix_tup (pv 5) (pv 7) (fun _ _ => rfl)) (pe_op op_sub (pv 8) pe_int) (fun _ _ => rfl))) (pe_op op_mul (pv 3) (pe_callB call_len_seq (by rfl) n_len PySem.boot_len (pa_cons (pe_ix ix_list (pv 1) (pe_op op_sub (pv 8) pe_int) (fun _ _ => rfl)) pa_nil))) (nomark _))))) (pss_one (ps_ret pe_bl)) pss_nil)
    (pss_one (ps_if (PW.pt (pw_and (pt_cmpR op_gt (pv 7) pe_int (nomark _)) (pw_and1 (pt_cmpR op_gt (pv 8) pe_int (nomark _))))) (pss_cons (ps_set (i := 9) sc__law_holds.nd rfl (Or.inl rfl) (pe_use C__law_price (hr.mono (by decide)) rfl (pa_cons (pe_ix ix_list (pv 0) (pe_op op_sub (pv 7) pe_int) (fun _ _ => rfl)) (pa_cons (pe_ix ix_list (pv 1) (pe_op op_sub (pv 8) pe_int) (fun _ _ => rfl)) (pa_cons (pv 2) (pa_cons (pv 3) pa_nil))))))
    (pss_one (ps_if (pt_cmpR op_gt (pe_op op_sub (pe_ix (r := rIxT K) ix_tup (pe_ix (r := rIxT K) ix_tup (pv 5) (pv 7) (fun _ _ => rfl)) (pv 8) (fun _ _ => rfl)) (pe_ix (r := rIxT K) ix_tup (pe_ix (r := rIxT K) ix_tup (pv 5) (pe_op op_sub (pv 7) pe_int) (fun _ _ => rfl)) (pe_op op_sub (pv 8) pe_int) (fun _ _ => rfl))) (pv 9) (nomark _)) (pss_one (ps_ret pe_bl)) pss_nil))) pss_nil)))))))
    (pss_one (ps_ret (pe_and (pe_cmpR op_eq (pe_ix (r := rIxT K) ix_tup (pe_ix (r := rIxT K) ix_tup (pv 5) pe_int (fun _ _ => rfl)) pe_int (fun _ _ => rfl)) pe_int (nomark _)) (pe_one (pe_cmpR op_ge (pe_ix (r := rIxT K) ix_tup (pe_ix (r := rIxT K) ix_tup (pv 5) (pe_un un_neg pe_int) (fun _ _ => rfl)) (pe_un un_neg pe_int) (fun _ _ => rfl)) (pv 4) (nomark _))))))))), ?_⟩
    obtain ⟨aits, ea, ala⟩ := id ha
    obtain ⟨bits, eb, alb⟩ := id hb
    have lna : aits.length = ls.length := ala.len
    have lnb : bits.length = hs.length := alb.len
    have nl : ∀ l ∈ ls, l.Nodup := fun l m => asc_nodupS (okl l m).2.1
    have nh : ∀ l ∈ hs, l.Nodup := fun l m => asc_nodupS (okh l m).2.1
    have ty := ty_dp gv.dp
    have kt := kit_tup gv.dp
    have qf : gridD (ls.length + 1) (hs.length + 1) dv = false → ∀ H', Same H H' → Q (.bl false) H' := fun cg H' s => by
      have q := q H' s
      have hv : holdV mi ex ls hs pr dv = false := by unfold holdV; rw [cg]; rfl
      rw [hv] at q
      exact q
    rcases id gv with ⟨vp, its, ds, rfl, rfl, ev, al⟩ | ⟨nt, hv⟩
    · let n := ls.length
      let m := hs.length
      have lnv : its.length = ds.length := al.len
      let S0 : Option V → Option V → Option V → Option V → L2.St := fun o6 o7 o8 o9 => [some (.ref a), some (.ref b), some (.int mi), some (.int ex), some (.int pr), some (.ref vp), o6, o7, o8, o9, none]
      refine ⟨fun σ H' => σ = S0 none none none none ∧ H' = H ∧ ds.length = n + 1, ?_, ?_⟩
      · refine ⟨_, rfl, _, .ty "tuple", _, _, _, rfl, .ty "tuple", ty, kt, true, rfl, iteF ?_⟩
        refine ⟨_, rfl, vp, _, rfl, .inr (SqT.of ev), _, rfl, a, _, rfl, .inl (SqL.of ea), ?_⟩
        rw [lna, lnv]
        refine ⟨_, _, rfl, rfl, rfl, _, rfl, ?_⟩
        by_cases e : ds.length = n + 1
        · rw [decide_eq_true (by rw [e]; rfl)]
          exact iteF ⟨rfl, rfl, e⟩
        · rw [decide_eq_false (fun y => e (by have y : ((ds.length : Nat) : Int) = (ls.length : Nat) + 1 := by injection y
                                              omega))]
          refine iteT (qf ?_ H (Same.refl _))
          rw [grid_rows, decide_eq_false e]; rfl
      rintro σ H0 ⟨rfl, rfl, ln⟩
      have gr : ∀ k < ds.length, (∀ d, ds[k]? = some d → rowG (m + 1) d = false) → gridD (n + 1) (m + 1) (.tuple ds) = false := fun k hk hf => by
        rw [grid_rows]
        cases e : ds.all (rowG (m + 1)) with
        | false => rw [Bool.and_false]
        | true =>
          have := List.all_eq_true.mp e _ (List.getElem_mem hk)
          rw [hf _ (List.getElem?_eq_getElem hk)] at this; cases this
      refine ⟨fun σ H' => (∃ o6, σ = S0 o6 none none none) ∧ Same H0 H' ∧ ds.all (rowG (m + 1)) = true, ?_, ?_⟩
      · refine ⟨_, rfl, vp, its, rfl, .inr (SqT.of ev), fun J S W z0 => ?_⟩
        refine for_sq W (fun k σ H' => (∃ o6, σ = S0 o6 none none none) ∧ Same H0 H' ∧ ∀ d ∈ ds.take k, rowG (m + 1) d = true) ⟨⟨none, rfl⟩, Same.refl _, fun d h => by cases h⟩ (fun k σ H' pv => W.keep (fun o e => pv.2.1 _ _ e) z0) ?_ ?_
        · rintro k σ H1 x exk ⟨⟨o6, rfl⟩, s1, all⟩
          obtain ⟨d, ed, hx⟩ := al.get exk
          have hk : k < ds.length := (List.getElem?_eq_some_iff.mp ed).1
          have bad : rowG (m + 1) d = false → ∀ H', Same H0 H' → Q (.bl false) H' := fun hf H' s => qf (gr k hk fun d' e' => by rw [ed] at e'; cases e'; exact hf) H' s
          have hx1 := hx.same s1
          have tx := ty_dp hx1.dp
          have kx := kit_tup hx1.dp
          refine ⟨fun σ H' => σ = S0 (some x) none none none ∧ H' = H1 ∧ lenD (m + 1) d = true, ?_, ?_⟩
          · refine ⟨_, rfl, _, .ty "tuple", _, _, _, rfl, .ty "tuple", tx, kx, _, rfl, ?_⟩
            rcases hx1 with ⟨xb, ys, es, rfl, rfl, exb, aly⟩ | ⟨nt, hx1⟩
            · have ly : ys.length = es.length := aly.len
              refine iteF ⟨_, rfl, xb, _, rfl, .inr (SqT.of exb), _, rfl, b, _, rfl, .inl (SqL.of (s1 _ _ eb)), ?_⟩
              rw [lnb, ly]
              refine ⟨_, _, rfl, rfl, rfl, _, rfl, ?_⟩
              by_cases e : es.length = m + 1
              · rw [decide_eq_true (by rw [e]; rfl)]
                exact iteF ⟨rfl, rfl, decide_eq_true e⟩
              · rw [decide_eq_false (fun y => e (by have y : ((es.length : Nat) : Int) = (hs.length : Nat) + 1 := by injection y
                                                    omega))]
                refine iteT (bad ?_ H1 s1)
                show (decide (es.length = m + 1) && _) = false
                rw [decide_eq_false e]; rfl
            · rw [nt]
              have hf : rowG (m + 1) d = false := by
                cases d with
                | tuple _ => cases nt
                | _ => rfl
              exact iteT (iteT (bad hf H1 s1))
          rintro σ H2 ⟨rfl, rfl, cl⟩
          rcases hx1 with ⟨xb, ys, es, rfl, rfl, exb, aly⟩ | ⟨nt, _⟩
          · obtain ⟨ses, fes⟩ : es.length ≤ 1000 ∧ es.all flatE = true := sm.2 _ (at_mem ed)
            refine ⟨_, rfl, xb, ys, rfl, .inr (SqT.of exb), fun J2 S2 W2 z2 D hD => ?_⟩
            refine lc_mf (ds := es) W2 (fun e => !intD e) (fun _ y e => ∀ H', Dp K H' y e) z2 hD aly.len (fun t y e H3 ey ee s3 m3 => ?_) (fun H3 zs s3 e3 al3 => ?_)
            · have hy := at2 aly ey ee
              have fe := List.all_eq_true.mp fes e (at_mem ee)
              have hy3 := flat_dp hy fe
              have ty3 := ty_dp (hy3 H3)
              have ki := kit_int (hy3 H3)
              have kb := kit_bool (hy3 H3)
              refine ⟨rfl, _, rfl, _, .ty "int", _, _, _, rfl, .ty "int", ty3, ki, _, rfl, ?_⟩
              cases c1 : (intD e || bolD e) with
              | false =>
                have : intD e = false := by cases c2 : intD e with
                  | false => rfl
                  | true => rw [c2] at c1; cases c1
                exact iteT (iteT ⟨_, rfl, mf_yes m3 hD (fun _ _ _ _ _ h => h) ee (by omega) (Same.refl _) (by rw [this]; rfl) hy3⟩)
              | true =>
                refine iteF ⟨_, rfl, _, .ty "bool", _, _, _, rfl, .ty "bool", ty3, kb, _, rfl, ?_⟩
                cases c2 : bolD e with
                | true =>
                  have : intD e = false := by cases e with
                    | int _ => cases c2
                    | _ => rfl
                  exact iteT ⟨_, rfl, mf_yes m3 hD (fun _ _ _ _ _ h => h) ee (by omega) (Same.refl _) (by rw [this]; rfl) hy3⟩
                | false =>
                  have : intD e = true := by rw [c2, Bool.or_false] at c1; exact c1
                  exact iteF (mf_no m3 (fun _ _ _ _ _ h => h) ee (Same.refl _) (by rw [this]; rfl))
            · refine ⟨by show 0 ≤ sizeLine; decide, fun t kt => ?_⟩
              have s4 := same_new kt (.lst [])
              refine ⟨.list (es.filter fun e => !intD e), .list [], .lst (SqL.of (s4 _ _ e3)) (dpa_ofL (al3.imp fun _ _ r => r _)), .lst (SqL.of upd_same) .nil, flats_sh fun e m => List.all_eq_true.mp fes e (List.mem_filter.mp m).1, by decide, _, rfl, ?_⟩
              rw [eqv_none .none]
              by_cases e : es.filter (fun e => !intD e) = []
              · rw [decide_eq_true e]
                refine iteF ⟨⟨_, rfl⟩, s1.trans (s3.trans s4), fun d' hd' => ?_⟩
                rw [List.take_add_one, ed] at hd'
                rcases List.mem_append.mp hd' with h | h
                · exact all d' h
                · rw [List.mem_singleton.mp h]
                  show (lenD (m + 1) (.tuple es) && es.all intD) = true
                  rw [cl, Bool.true_and, List.all_eq_true]
                  intro e' m'
                  cases c : intD e' with
                  | true => rfl
                  | false =>
                    have : e' ∈ es.filter (fun e => !intD e) := List.mem_filter.mpr ⟨m', by rw [c]; rfl⟩
                    rw [e] at this; cases this
              · rw [decide_eq_false e]
                refine iteT (bad ?_ _ (s1.trans (s3.trans s4)))
                show (lenD (m + 1) (.tuple es) && es.all intD) = false
                cases c : es.all intD with
                | false => rw [Bool.and_false]
                | true => exact absurd (List.filter_eq_nil_iff.mpr fun e' m' => by rw [List.all_eq_true.mp c e' m']; decide) e
          · cases d with
            | tuple _ => cases nt
            | _ => cases cl
        · rintro σ H1 ⟨⟨o6, rfl⟩, s1, all⟩
          rw [lnv, List.take_length] at all
          exact ⟨⟨_, rfl⟩, s1, List.all_eq_true.mpr all⟩
      rintro σ H1 ⟨⟨o6, rfl⟩, s1, allr⟩
      have cg : gridD (n + 1) (m + 1) (.tuple ds) = true := by rw [grid_rows, decide_eq_true ln, allr]; rfl
      obtain ⟨vp', its', e', ev', alR, lr, lc⟩ := grid_of gv cg
      obtain rfl : vp = vp' := by injection e'
      rw [ev] at ev'
      obtain rfl : its = its' := by injection ev' with ev'; injection ev'
      clear ev' e'
      have hv : holdV mi ex ls hs pr (.tuple ds) = holdB mi ex ls hs pr (rowsD (.tuple ds)) := by unfold holdV; rw [cg]; rfl
      rw [hv] at q
      generalize hR : rowsD (.tuple ds) = rows at *
      have bad : ∀ i j, i < n + 1 → j < m + 1 → cellOk mi ex ls hs rows i j = false → ∀ H', Same H0 H' → Q (.bl false) H' := fun i j hi hj hf H' s => by
        have q := q H' s
        have : (List.range (n + 1)).all (rowOk mi ex ls hs rows) = false := by
          cases e : (List.range (n + 1)).all (rowOk mi ex ls hs rows) with
          | false => rfl
          | true =>
            have h1 := List.all_eq_true.mp e i (List.mem_range.mpr hi)
            have h2 := List.all_eq_true.mp h1 j (List.mem_range.mpr hj)
            rw [hf] at h2; cases h2
        unfold holdB at q
        rw [this, Bool.and_false, Bool.and_false] at q
        exact q
      have dec : ∀ n : Nat, (decide ((0 : Int) < (n : Nat))) = decide (0 < n) := fun n => decide_eq_decide.mpr (by omega)
      have prev : ∀ n : Nat, 0 < n → (((n : Nat) : Int) - 1) = ((n - 1 : Nat) : Int) := fun n h => by omega
      refine ⟨fun σ H' => (∃ o7 o8 o9, σ = S0 o6 o7 o8 o9) ∧ Same H0 H' ∧ ∀ i < n + 1, rowOk mi ex ls hs rows i = true, ?_, ?_⟩
      · refine ⟨_, rfl, a, _, rfl, .inl (SqL.of (s1 _ _ ea)), _, _, rfl, rfl, _, rfl, by omega, by omega, ?_⟩
        rw [lna, show ((ls.length : Nat) + 1 : Int).toNat = n + 1 by omega]
        refine for_range (fun i σ H' => (∃ o7 o8 o9, σ = S0 o6 o7 o8 o9) ∧ Same H0 H' ∧ ∀ i' < i, rowOk mi ex ls hs rows i' = true) ⟨⟨_, _, _, rfl⟩, s1, fun i h => absurd h (Nat.not_lt_zero _)⟩ ?_ (fun σ H' z => z)
        rintro i σ H2 hi ⟨⟨o7, o8, o9, rfl⟩, s2, all⟩
        rw [Int.zero_add]
        refine ⟨_, rfl, b, _, rfl, .inl (SqL.of (s2 _ _ eb)), _, _, rfl, rfl, _, rfl, by omega, by omega, ?_⟩
        rw [lnb, show ((hs.length : Nat) + 1 : Int).toNat = m + 1 by omega]
        refine for_range (fun j σ H' => (∃ o8 o9, σ = S0 o6 (some (natV i)) o8 o9) ∧ Same H0 H' ∧ ∀ j' < j, cellOk mi ex ls hs rows i j' = true) ⟨⟨_, _, rfl⟩, s2, fun i h => absurd h (Nat.not_lt_zero _)⟩ ?_ ?_
        · clear o8 o9
          rintro j σ H3 hj ⟨⟨o8, o9, rfl⟩, s3, all2⟩
          rw [Int.zero_add]
          have lk := cell_lks mi ex rows i j nl nh
          have bad' : (lkA mi ls rows i j && (lkB ex hs rows i j && lkC mi ex ls hs rows i j)) = false → ∀ H', Same H0 H' → Q (.bl false) H' := fun z => bad i j hi hj (lk.trans z)
          have ev3 := s3 _ _ ev
          have al3 := alR.imp fun _ _ h => h.same s3
          have CV : ∀ i' j', i' < n + 1 → j' < m + 1 → ∃ (b : Addr) (row : List V), atI its ((i' : Nat) : Int) = some (.ref b) ∧ H3 b = some (.tup row) ∧ atI row ((j' : Nat) : Int) = some (.int (cell rows i' j')) := fun i' j' h g => cell_atI al3 lr lc h g
          obtain ⟨c0, row0, z1, z2, z3⟩ := CV i j hi hj
          have LA : 0 < i → ∃ lb l, aits[i - 1]? = some (.ref lb) ∧ ls.getD (i - 1) [] = l ∧ H3 lb = some (.tup (l.map V.str)) ∧ l.length ≤ 4 := fun h => by
            obtain ⟨l, el⟩ : ∃ l, ls[i - 1]? = some l := ⟨_, List.getElem?_eq_getElem (by omega)⟩
            obtain ⟨z, ez, lb, rfl, hl⟩ := ala.getR el
            exact ⟨lb, l, ez, getD_some el, s3 _ _ hl, Nat.le_trans (nodup_len (asc_nodupS (okl l (at_mem el)).2.1) (okl l (at_mem el)).2.2) nok.ln⟩
          have LB : 0 < j → ∃ lb l, bits[j - 1]? = some (.ref lb) ∧ hs.getD (j - 1) [] = l ∧ H3 lb = some (.tup (l.map V.str)) ∧ l.length ≤ 4 := fun h => by
            obtain ⟨l, el⟩ : ∃ l, hs[j - 1]? = some l := ⟨_, List.getElem?_eq_getElem (by omega)⟩
            obtain ⟨z, ez, lb, rfl, hl⟩ := alb.getR el
            exact ⟨lb, l, ez, getD_some el, s3 _ _ hl, Nat.le_trans (nodup_len (asc_nodupS (okh l (at_mem el)).2.1) (okh l (at_mem el)).2.2) nok.ln⟩
          refine ⟨fun σ H' => σ = S0 o6 (some (natV i)) (some (natV j)) o9 ∧ H' = H3 ∧ lkA mi ls rows i j = true, ?_, ?_⟩
          · refine ⟨_, rfl, _, _, rfl, rfl, _, rfl, ?_⟩
            rw [dec]
            by_cases c : 0 < i
            · rw [decide_eq_true c]
              obtain ⟨c1, row1, a1, a2, a3⟩ := CV (i - 1) j (by omega) hj
              obtain ⟨lb, l, el, eg, hl, l4⟩ := LA c
              refine iteT ⟨_, rfl, _, rfl, vp, its, _, _, rfl, rfl, SqT.of ev3, z1, _, rfl, c0, row0, _, _, rfl, rfl, SqT.of z2, z3, ?_⟩
              refine ⟨_, rfl, _, rfl, _, _, rfl, rfl, vp, its, _, _, rfl, rfl, SqT.of ev3, by rw [prev i c]; exact a1, _, rfl, c1, row1, _, _, rfl, rfl, SqT.of a2, a3, _, _, rfl, rfl, ?_⟩
              refine ⟨_, rfl, _, rfl, _, rfl, _, _, rfl, rfl, a, aits, _, _, rfl, rfl, SqL.of (s3 _ _ ea), by rw [prev i c]; exact atI_nat el, lb, _, rfl, .inr (SqT.of hl), ?_⟩
              rw [List.length_map]
              refine ⟨_, _, rfl, rfl, .inr ⟨by omega, by omega⟩, _, _, rfl, rfl, _, rfl, ?_⟩
              have e : lkA mi ls rows i j = !decide (mi * ((l.length : Nat) : Int) < cell rows i j - cell rows (i - 1) j) := by
                unfold lkA; rw [decide_eq_true c, eg]; rfl
              refine iteD (fun y => ?_) (fun y => ?_)
              · exact bad' (by rw [e, decide_eq_true y]; rfl) H3 s3
              · exact ⟨rfl, rfl, by rw [e, decide_eq_false y]; rfl⟩
            · rw [decide_eq_false c]
              exact iteF (iteF ⟨rfl, rfl, by unfold lkA; rw [decide_eq_false c]; rfl⟩)
          rintro σ H4 ⟨rfl, rfl, kA⟩
          rw [kA, Bool.true_and] at bad' lk
          refine ⟨fun σ H' => σ = S0 o6 (some (natV i)) (some (natV j)) o9 ∧ H' = H4 ∧ lkB ex hs rows i j = true, ?_, ?_⟩
          · refine ⟨_, rfl, _, _, rfl, rfl, _, rfl, ?_⟩
            rw [dec]
            by_cases c : 0 < j
            · rw [decide_eq_true c]
              obtain ⟨c1, row1, a1, a2, a3⟩ := CV i (j - 1) hi (by omega)
              obtain ⟨lb, l, el, eg, hl, l4⟩ := LB c
              refine iteT ⟨_, rfl, _, rfl, vp, its, _, _, rfl, rfl, SqT.of ev3, z1, _, rfl, c0, row0, _, _, rfl, rfl, SqT.of z2, z3, ?_⟩
              refine ⟨_, rfl, _, rfl, vp, its, _, _, rfl, rfl, SqT.of ev3, a1, _, rfl, _, _, rfl, rfl, c1, row1, _, _, rfl, rfl, SqT.of a2, by rw [prev j c]; exact a3, _, _, rfl, rfl, ?_⟩
              refine ⟨_, rfl, _, rfl, _, rfl, _, _, rfl, rfl, b, bits, _, _, rfl, rfl, SqL.of (s3 _ _ eb), by rw [prev j c]; exact atI_nat el, lb, _, rfl, .inr (SqT.of hl), ?_⟩
              rw [List.length_map]
              refine ⟨_, _, rfl, rfl, .inr ⟨by omega, by omega⟩, _, _, rfl, rfl, _, rfl, ?_⟩
              have e : lkB ex hs rows i j = !decide (ex * ((l.length : Nat) : Int) < cell rows i j - cell rows i (j - 1)) := by
                unfold lkB; rw [decide_eq_true c, eg]; rfl
              refine iteD (fun y => ?_) (fun y => ?_)
              · exact bad' (by rw [e, decide_eq_true y]; rfl) H4 s3
              · exact ⟨rfl, rfl, by rw [e, decide_eq_false y]; rfl⟩
            · rw [decide_eq_false c]
              exact iteF (iteF ⟨rfl, rfl, by unfold lkB; rw [decide_eq_false c]; rfl⟩)
          rintro σ H5 ⟨rfl, rfl, kB⟩
          rw [kB, Bool.true_and] at bad' lk
          have good : lkC mi ex ls hs rows i j = true → ∀ j' < j + 1, cellOk mi ex ls hs rows i j' = true := fun kC j' hj' => by
            by_cases e : j' = j
            · rw [e, lk]; exact kC
            · exact all2 j' (by omega)
          refine ⟨_, rfl, _, _, rfl, rfl, _, rfl, ?_⟩
          rw [dec]
          by_cases c : 0 < i
          · rw [decide_eq_true c]
            refine iteT ⟨_, rfl, _, _, rfl, rfl, _, rfl, ?_⟩
            rw [dec]
            by_cases d : 0 < j
            · rw [decide_eq_true d]
              obtain ⟨c1, row1, a1, a2, a3⟩ := CV (i - 1) (j - 1) (by omega) (by omega)
              obtain ⟨lb, l, el, eg, hl, l4⟩ := LA c
              obtain ⟨mb, h, em, eh, hm, h4⟩ := LB d
              refine iteT ⟨_, rfl, _, rfl, _, _, rfl, rfl, a, aits, _, _, rfl, rfl, SqL.of (s3 _ _ ea), by rw [prev i c]; exact atI_nat el, ?_⟩
              refine ⟨_, rfl, _, rfl, _, _, rfl, rfl, b, bits, _, _, rfl, rfl, SqL.of (s3 _ _ eb), by rw [prev j d]; exact atI_nat em, _, rfl, _, rfl, lb, mb, l, h, mi, ex, rfl, SqT.of hl, SqT.of hm, by omega, by omega, fun H6 s6 => ?_⟩
              have e : lkC mi ex ls hs rows i j = !decide (Kw.pl mi ex l h < cell rows i j - cell rows (i - 1) (j - 1)) := by
                unfold lkC; rw [decide_eq_true (show 0 < i ∧ 0 < j from ⟨c, d⟩), eg, eh]; rfl
              refine ⟨_, rfl, _, rfl, vp, its, _, _, rfl, rfl, SqT.of (s6 _ _ ev3), z1, _, rfl, c0, row0, _, _, rfl, rfl, SqT.of (s6 _ _ z2), z3, ?_⟩
              refine ⟨_, rfl, _, rfl, _, _, rfl, rfl, vp, its, _, _, rfl, rfl, SqT.of (s6 _ _ ev3), by rw [prev i c]; exact a1, _, rfl, _, _, rfl, rfl, c1, row1, _, _, rfl, rfl, SqT.of (s6 _ _ a2), by rw [prev j d]; exact a3, _, _, rfl, rfl, ?_⟩
              refine ⟨_, rfl, _, _, rfl, rfl, _, rfl, ?_⟩
              refine iteD (fun y => ?_) (fun y => ?_)
              · exact bad' (by rw [e, decide_eq_true y]; rfl) H6 (s3.trans s6)
              · exact ⟨⟨_, _, rfl⟩, s3.trans s6, good (by rw [e, decide_eq_false y]; rfl)⟩
            · rw [decide_eq_false d]
              exact iteF ⟨⟨_, _, rfl⟩, s3, good (by unfold lkC; rw [decide_eq_false (fun z => d z.2)]; rfl)⟩
          · rw [decide_eq_false c]
            exact iteF (iteF ⟨⟨_, _, rfl⟩, s3, good (by unfold lkC; rw [decide_eq_false (fun z => c z.1)]; rfl)⟩)
        · rintro σ H3 ⟨⟨o8', o9', rfl⟩, s3, all2⟩
          refine ⟨⟨_, _, _, rfl⟩, s3, fun i' hi' => ?_⟩
          by_cases e : i' = i
          · rw [e]; exact List.all_eq_true.mpr fun j hj => all2 j (List.mem_range.mp hj)
          · exact all i' (by omega)
      rintro σ H2 ⟨⟨o7, o8, o9, rfl⟩, s2, all⟩
      have q := q H2 s2
      unfold holdB at q
      rw [show (List.range (ls.length + 1)).all (rowOk mi ex ls hs rows) = true from List.all_eq_true.mpr fun i hi => all i (List.mem_range.mp hi), Bool.and_true] at q
      have ev2 := s2 _ _ ev
      have al2 := alR.imp fun _ _ h => h.same s2
      obtain ⟨c1, row1, a1, a2, a3⟩ := cell_atI al2 lr lc (i := 0) (j := 0) (by omega) (by omega)
      obtain ⟨c2, row2, b1, b2, b3⟩ := cell_end al2 lr lc
      refine ⟨_, rfl, vp, its, _, _, rfl, rfl, SqT.of ev2, a1, c1, row1, _, _, rfl, rfl, SqT.of a2, a3, rfl, _, rfl, ?_⟩
      by_cases z1 : cell rows 0 0 = 0
      · rw [z1, decide_eq_true rfl]
        rw [z1, decide_eq_true rfl, Bool.true_and] at q
        exact iteT ⟨_, rfl, 1, rfl, vp, its, _, _, rfl, rfl, SqT.of ev2, b1, 1, rfl, c2, row2, _, _, rfl, rfl, SqT.of b2, b3, _, rfl, _, _, rfl, rfl, q⟩
      · rw [decide_eq_false (fun y => z1 (by injection y))]
        rw [decide_eq_false z1, Bool.false_and] at q
        exact iteF q
    · rw [nt] at kt
      have cg : gridD (ls.length + 1) (hs.length + 1) dv = false := by
        cases dv with
        | tuple _ => cases nt
        | _ => rfl
      exact ⟨fun _ _ => False, ⟨_, rfl, _, .ty "tuple", _, _, _, rfl, .ty "tuple", ty, kt, _, rfl, iteT (iteT (qf cg _ (Same.refl _)))⟩, fun _ _ h => h.elim⟩
end
end K6

namespace K6
open PySem PySem.Spec PyProof.Rows L2 Hb St Sq Ow En Zp RZ Rd Xb Mn Wa Da Lg LamX Ty
/-! ### _law_told -/
abbrev s__law_told : Stmt := top 39
theorem sc__law_told : FnScope ["work", "wrong"] ["work"] (defScope s__law_told) := ⟨rfl, rfl, rfl, by decide +kernel, rfl, by decide +kernel, by decide +kernel⟩
/-- what a told error leaves: the two ends of its list -/
def eTold (C D : Addr) (Q : VK) : XK := fun cls d H => ∃ dd : Addr, d = some dd ∧
  ((cls = .ref C ∧ ∃ k : Int, H dd = some (errH k) ∧ ∀ t H', Same H H' → H' t = some (.lst [.str (Str.ofString "heard"), .int k]) → Q (.ref t) H') ∨
   (cls = .ref D ∧ ∃ x : Str, H dd = some (errW x) ∧ ∀ t H', Same H H' → H' t = some (.lst [.str (Str.ofString "size"), .str x]) → Q (.ref t) H'))
def TTold2 (C D : Addr) : (XK → Hp → VK → Prop) → Hp → VK → Prop := fun tl H Q => tl (eTold C D Q) H Q
theorem told2 {X : Cx} {q : Str} {g C D fC fD : Addr} {cdg : Value} (T : ErrC X.K X.mg "InvalidHeard" C fC) (TS : Xw.ErrC X.K X.mg "InvalidSize" D fD) (eRC : PySem.W.exmOne X.K (.ref D) (.ref C) = some false) :
    GivesTo X ["work", "wrong"] "_law_told" (defScope s__law_told) g cdg (defBody s__law_told) "work" q (TTold2 C D) := by
  intro f c' s H Q tl act hc h
  refine ⟨_, pss_one (ps_try_asM (X := (cxOf C8.CX0 X.prog X.w X.K X.mg X.base ["work", "wrong"] "_law_told" (defScope s__law_told) g cdg X.A X.stack s H C8.E0).nox) (i := 1) (n := "wrong")
      (l := [(.ref C, _), (.ref D, _)])
      (tb := fun W D σ H => ∃ Ech : XK, (∀ cls d σ' H', Ech cls d H' → W cls d σ' H') ∧ σ[0]? = some (some (.ref f)) ∧ H c' = some (CodeO c' q) ∧ tl Ech H D.rt)
      rfl rfl sc__law_told.nd rfl rfl LamX.takes0 (fun W pn xe tk _ => ?_)
      (.cons ⟨rfl, by decide, .inl T.gC⟩ (fun a oe cls d pn hz hf => pss_one (ps_ret (pe_lst (pa_cons pe_str (pa_cons (pe_xf T.xf T.noN hz hf (pv 1)) pa_nil)))))
        (.cons ⟨rfl, by decide, .inl TS.gC⟩ (fun a oe cls d pn hz hf => pss_one (ps_ret (pe_lst (pa_cons pe_str (pa_cons (pe_xf TS.xf TS.noN hz hf (pv 1)) pa_nil))))) .nil))), ?_⟩
  · refine ⟨fun pins s' σ H' D I h' => ?_⟩
    obtain ⟨Ech, hW, h1, h2, h3⟩ := h'
    exact (pss_one (ps_ret (act W pn xe Ech _ _ tk hW))).run pins s' σ H' D I ⟨h1, h2, h3⟩
  · refine ⟨eTold C D Q, fun cls d σ' H' he => ?_, rfl, hc, h⟩
    obtain ⟨dd, rfl, ⟨rfl, k, ed, hq⟩ | ⟨rfl, x, ed, hq⟩⟩ := he
    · refine ⟨true, T.te, fun _ z hz ln => ?_, fun y => (by cases y)⟩
      match σ', ln with
      | [o0, o1], _ =>
        refine ⟨_, rfl, rfl, rfl, dd, _, .int k, rfl, ed, rfl, by show 2 ≤ sizeLine; decide, fun t ht => hq t _ (same_new ht _) upd_same⟩
    · refine ⟨false, eRC, fun y => (by cases y), fun _ => ⟨true, TS.te, fun _ z hz ln => ?_, fun y => (by cases y)⟩⟩
      match σ', ln with
      | [o0, o1], _ =>
        refine ⟨_, rfl, rfl, rfl, dd, _, .str x, rfl, ed, rfl, by show 2 ≤ sizeLine; decide, fun t ht => hq t _ (same_new ht _) upd_same⟩
end K6

namespace K6
open PySem PySem.Spec PyProof.Rows L2 Hb St Sq Ow En Zp RZ Rd Xb Mn Wa Da Lg LamX Ty Lc Lp
def tD (ls : List (List Str)) : PyData := .tuple (ls.map fun l => .tuple (l.map .str))
theorem nm_B {x : Str} (h : IsNm x) : nmB x = true := by
  unfold nmB
  rw [decide_eq_true h.2.1, nm_ascii h, nm_alpha h, nm_lower h]; rfl
theorem asc_D : ∀ l : List Str, l.Pairwise sLt → ascD (l.map .str) = true
  | [], _ => rfl
  | [_], _ => rfl
  | x :: y :: r, h => by
    obtain ⟨h1, h2⟩ := List.pairwise_cons.mp h
    show (decide (x.cps.toList < y.cps.toList) && ascD ((y :: r).map .str)) = true
    rw [asc_D (y :: r) h2, decide_eq_true (show x.cps.toList < y.cps.toList from h1 y List.mem_cons_self)]; rfl
theorem lot_D {nms l : List Str} (nok : NsOk nms) (h : LotOk nms l) : lotD (.tuple (l.map .str)) = true := by
  obtain ⟨h1, h2, h3⟩ := h
  show (!(l.map PyData.str).isEmpty && ((l.map PyData.str).all nmD && ascD (l.map .str))) = true
  have e1 : (l.map PyData.str).isEmpty = false := by cases l with | nil => exact absurd rfl h1 | cons _ _ => rfl
  have e2 : (l.map PyData.str).all nmD = true := by
    rw [List.all_map, List.all_eq_true]
    exact fun x hx => nm_B (nok.nm x (h3 x hx))
  rw [e1, e2, asc_D l h2]; rfl
theorem tale_D {nms : List Str} {ls : List (List Str)} (nok : NsOk nms) (h : ∀ x ∈ ls, LotOk nms x) : taleD (tD ls) = true := by
  show (ls.map fun l => PyData.tuple (l.map .str)).all lotD = true
  rw [List.all_map, List.all_eq_true]
  exact fun l hl => lot_D nok (h l hl)
theorem lot_len {nms l : List Str} (nok : NsOk nms) (h : LotOk nms l) : l.length ≤ 4 := Nat.le_trans (nodup_len (asc_nodupS h.2.1) h.2.2) nok.ln
theorem lot_sm {nms l : List Str} (nok : NsOk nms) (h : LotOk nms l) : Sm1 (.tuple (l.map .str)) := by
  refine ⟨by rw [List.length_map]; have := lot_len nok h; omega, fun d hd => ?_⟩
  obtain ⟨x, hx, rfl⟩ := List.mem_map.mp hd
  have := (nok.nm x (h.2.2 x hx)).2.1
  show x.length ≤ 1000
  omega
theorem tale_sm {nms : List Str} {ls : List (List Str)} (nok : NsOk nms) (h : ∀ x ∈ ls, LotOk nms x) (n : ls.length ≤ 1000) : Sm2 (tD ls) := by
  refine ⟨by rw [List.length_map]; exact n, fun d hd => ?_⟩
  obtain ⟨l, hl, rfl⟩ := List.mem_map.mp hd
  exact lot_sm nok (h l hl)
theorem tale_dp {K : PySem.W.Frag} {H : Hp} {t : Addr} {its : List V} {ls : List (List Str)} (e : H t = some (.tup its)) (al : All2 (LotH H) its ls) : Dp K H (.ref t) (tD ls) := .tup (SqT.of e) (dp_all (fun _ _ h => h.dp) al)
theorem lotH_S {K : PySem.W.Frag} {H : Hp} {v : V} {l : List Str} (h : LotH H v l) : TupS K H v l := let ⟨b, e, t⟩ := h; ⟨b, e, SqT.of t⟩
theorem tin_of {K : PySem.W.Frag} {H : Hp} {t u : Addr} {its jts : List V} {nms : List Str} {ls hs : List (List Str)} (nok : NsOk nms) (et : H t = some (.tup its)) (eu : H u = some (.tup jts)) (al : All2 (LotH H) its ls) (bl : All2 (LotH H) jts hs)
    (okl : ∀ x ∈ ls, LotOk nms x) (okh : ∀ x ∈ hs, LotOk nms x) (n : ls.length ≤ 1000) (m : hs.length ≤ 1000) : TIn K H (.ref t) (.ref u) (tD ls) (tD hs) ls hs :=
  ⟨tale_dp et al, tale_dp eu bl, tale_sm nok okl n, tale_sm nok okh m, fun _ => ⟨t, u, rfl, rfl, ⟨its, et, al.imp fun _ _ h => lotH_S h⟩, ⟨jts, eu, bl.imp fun _ _ h => lotH_S h⟩⟩, n, m, fun h hh => by have := lot_len nok (okh h hh); omega, fun h hh => by have := lot_len nok (okl h hh); omega⟩
theorem no_first {d e : PyData} (h1 : taleD d = true) (h2 : taleD e = true) : firstNo [d, e] = none := by
  unfold firstNo
  rw [List.findIdx?_eq_none_iff]
  intro x hx
  simp only [List.mem_cons, List.not_mem_nil, or_false] at hx
  rcases hx with rfl | rfl
  · rw [h1]; rfl
  · rw [h2]; rfl
theorem first_0 {d e : PyData} (h1 : taleD d = false) : firstNo [d, e] = some 0 := by
  unfold firstNo
  rw [List.findIdx?_cons, h1]; rfl
theorem first_1 {d e : PyData} (h1 : taleD d = true) (h2 : taleD e = false) : firstNo [d, e] = some 1 := by
  unfold firstNo
  rw [List.findIdx?_cons, h1, List.findIdx?_cons, h2]; rfl
theorem notbl {xs : List V} : ∀ ps, HO.tup xs ≠ .tbl ps := fun ps z => by cases z
theorem notbl_l {xs : List V} : ∀ ps, HO.lst xs ≠ .tbl ps := fun ps z => by cases z
theorem lotH_ext {H H' : Hp} {v : V} {l : List Str} (h : LotH H v l) (e : LamX.ExtN H H') : LotH H' v l := let ⟨b, ev, eb⟩ := h; ⟨b, ev, e _ _ eb notbl⟩
theorem heard_sh (m : Int) : SeqAt.shaped (.list [.str (Str.ofString "heard"), .int m]) = true := by
  unfold SeqAt.shaped
  show ((PyData.strOk (Str.ofString "heard") && (true && true)) && decide (max 0 (max 0 0) + 1 ≤ 64)) = true
  rw [show PyData.strOk (Str.ofString "heard") = true by clear m; decide +kernel]; rfl
theorem sh_refl {d : PyData} (h : SeqAt.shaped d = true) : PyData.eqv d d = true := SeqAt.eqv_refl _ (SeqAt.canLay_of_shaped h)
def KpX (p l : Addr) (H H' : Hp) : Prop := ∀ b o, H b = some o → b ≠ p → b ≠ l → (∀ ps, o ≠ .tbl ps) → H' b = some o
theorem KpX.trans {p l : Addr} {H H1 H2 : Hp} (a : KpX p l H H1) (b : KpX p l H1 H2) : KpX p l H H2 := fun c o e n m t => b c o (a c o e n m t) n m t
theorem KpX.two {p l : Addr} {H H' : Hp} (k : Kept2 p l H H') : KpX p l H H' := fun b o e n m _ => k b o e n m
theorem KpX.same {p l : Addr} {H H' : Hp} (k : Same H H') : KpX p l H H' := fun b o e _ _ _ => k b o e
theorem KpX.ext {p l : Addr} {H H' : Hp} (k : ExtN H H') : KpX p l H H' := fun b o e _ _ t => k b o e t
/-- v holds d, wherever all but the box and the tables is as in H -/
def Nd (K : PySem.W.Frag) (p l : Addr) (H : Hp) (v : V) (d : PyData) : Prop := ∀ H', KpX p l H H' → Dp K H' v d
section
variable {K : PySem.W.Frag} {p l : Addr} {H H' : Hp} {v : V} {d : PyData}
theorem Nd.on (n : Nd K p l H v d) (k : KpX p l H H') : Nd K p l H' v d := fun H2 k2 => n H2 (k.trans k2)
theorem dpa_of {H : Hp} : ∀ {vs : List V} {ds : List PyData}, All2 (Dp K H) vs ds → DpAll K H vs ds
  | _, _, .nil => .nil
  | _, _, .cons h t => .cons h (dpa_of t)
theorem Nd.tup {a : Addr} {xs : List V} {ds : List PyData} (e : H a = some (.tup xs)) (hd : DealAt H p l) (al : All2 (Nd K p l H) xs ds) : Nd K p l H (.ref a) (.tuple ds) := fun H' k =>
  .tup (SqT.of (k _ _ e (hd.ne_tup e).1 (hd.ne_tup e).2 notbl)) (dpa_of (al.imp fun _ _ n => n H' k))
theorem Nd.lst {a : Addr} {xs : List V} {ds : List PyData} (e : H a = some (.lst xs)) (n1 : a ≠ p) (n2 : a ≠ l) (al : All2 (Nd K p l H) xs ds) : Nd K p l H (.ref a) (.list ds) := fun H' k =>
  .lst (SqL.of (k _ _ e n1 n2 notbl_l)) (dpa_of (al.imp fun _ _ n => n H' k))
theorem nd_str (x : Str) : Nd K p l H (.str x) (.str x) := fun _ _ => .str x
theorem nd_int (i : Int) : Nd K p l H (.int i) (.int i) := fun _ _ => .int i
theorem nd_non : Nd K p l H .non .none := fun _ _ => .non
theorem nd_strs : ∀ lot : List Str, All2 (Nd K p l H) (lot.map V.str) (lot.map .str)
  | [] => .nil
  | x :: r => .cons (nd_str x) (nd_strs r)
theorem nd_lot {lot : List Str} (hd : DealAt H p l) (h : LotH H v lot) : Nd K p l H v (.tuple (lot.map .str)) := by
  obtain ⟨b, rfl, e⟩ := h
  exact .tup e hd (nd_strs lot)
end
theorem nd_lots {K : PySem.W.Frag} {p l : Addr} {H : Hp} (hd : DealAt H p l) : ∀ {its : List V} {ls : List (List Str)}, All2 (LotH H) its ls → All2 (Nd K p l H) its (ls.map fun l => .tuple (l.map .str))
  | _, _, .nil => .nil
  | _, _, .cons h t => .cons (nd_lot hd h) (nd_lots hd t)
/-- no tale; a lot just if it is ("x",) -/
structure BadOk (d : PyData) : Prop where
  nt : taleD d = false
  s2 : Sm2 d
  s1 : Sm1 d
  sh : SeqAt.shaped d = true
  lt : lotD d = PyData.eqv d (.tuple [.str (Str.ofString "x")])
def shB : PyData → Bool
  | .str x => decide (x.length ≤ 1000)
  | _ => true
def sm1B : PyData → Bool
  | .tuple ds => decide (ds.length ≤ 1000) && ds.all shB
  | _ => true
def sm2B : PyData → Bool
  | .tuple ds => decide (ds.length ≤ 1000) && ds.all sm1B
  | _ => true
theorem sh_by : ∀ d : PyData, shB d = true → ShortD d
  | .str x, h => show x.length ≤ 1000 from of_decide_eq_true h
  | .int _, _ => trivial
  | .none, _ => trivial
  | .bool _, _ => trivial
  | .tuple _, _ => trivial
  | .list _, _ => trivial
  | .dict _, _ => trivial
theorem sm1_by : ∀ d : PyData, sm1B d = true → Sm1 d
  | .tuple ds, h => by
    have h : (decide (ds.length ≤ 1000) && ds.all shB) = true := h
    rw [Bool.and_eq_true, decide_eq_true_eq, List.all_eq_true] at h
    exact ⟨h.1, fun d hd => sh_by d (h.2 d hd)⟩
  | .int _, _ => trivial
  | .none, _ => trivial
  | .bool _, _ => trivial
  | .str _, _ => trivial
  | .list _, _ => trivial
  | .dict _, _ => trivial
theorem sm2_by : ∀ d : PyData, sm2B d = true → Sm2 d
  | .tuple ds, h => by
    have h : (decide (ds.length ≤ 1000) && ds.all sm1B) = true := h
    rw [Bool.and_eq_true, decide_eq_true_eq, List.all_eq_true] at h
    exact ⟨h.1, fun d hd => sm1_by d (h.2 d hd)⟩
  | .int _, _ => trivial
  | .none, _ => trivial
  | .bool _, _ => trivial
  | .str _, _ => trivial
  | .list _, _ => trivial
  | .dict _, _ => trivial
def badC (d : PyData) : Bool := !taleD d && (sm2B d && (sm1B d && (SeqAt.shaped d && (lotD d == PyData.eqv d (.tuple [.str (Str.ofString "x")])))))
theorem bad_by {d : PyData} (h : badC d = true) : BadOk d := by
  unfold badC at h
  simp only [Bool.and_eq_true, Bool.not_eq_true', beq_iff_eq] at h
  exact ⟨h.1, sm2_by d h.2.1, sm1_by d h.2.2.1, h.2.2.2.1, h.2.2.2.2⟩
theorem bad_list {ds : List PyData} (sh : SeqAt.shaped (.list ds) = true) : BadOk (.list ds) := ⟨rfl, trivial, trivial, sh, by cases ds <;> rfl⟩
theorem b_none : BadOk .none := bad_by (by decide +kernel)
theorem b_yx : BadOk (.tuple [.tuple [.str (Str.ofString "y"), .str (Str.ofString "x")]]) := bad_by (by decide +kernel)
theorem b_e : BadOk (.tuple [.tuple []]) := bad_by (by decide +kernel)
theorem b_x : BadOk (.tuple [.str (Str.ofString "x")]) := bad_by (by decide +kernel)
theorem b_xx : BadOk (.tuple [.tuple [.str (Str.ofString "x"), .str (Str.ofString "x")]]) := bad_by (by decide +kernel)
theorem b_3 : BadOk (.int 3) := bad_by (by decide +kernel)
theorem b_s : BadOk (.str (Str.ofString "x")) := bad_by (by decide +kernel)
theorem b_n : BadOk (.tuple [.tuple [.none]]) := bad_by (by decide +kernel)
theorem b_l : BadOk (.tuple [.list [.str (Str.ofString "x")]]) := bad_by (by decide +kernel)
theorem b_X : BadOk (.tuple [.tuple [.str (Str.ofString "X")]]) := bad_by (by decide +kernel)
theorem b_x3 : BadOk (.tuple [.tuple [.str (Str.ofString "x"), .int 3]]) := bad_by (by decide +kernel)
end K6

namespace K6
open PySem PySem.Spec PyProof.Rows L2 Hb St Sq Ow En Zp RZ Rd Xb Mn Wa Da Lg LamX Ty Lc Lp
/-! ### _law_refusals_right -/
abbrev s__law_refusals_right : Stmt := top 40
theorem sc__law_refusals_right : FnScope ["heap", "lots", "heard", "bad", "price", "work"] ["heap", "lots", "heard"] (defScope s__law_refusals_right) := ⟨rfl, rfl, rfl, by decide +kernel, rfl, by decide +kernel, by decide +kernel⟩
abbrev qRef : Str := (envOfC "_law_refusals_right" (defScope s__law_refusals_right) 0 0 .none).qual ++ "<lambda>"
def lamOf : Stmt → Expr
  | .For _ (.Tuple (_ :: _ :: l :: _) _ _) _ _ _ => l
  | _ => .Constant .none 0 ⟨0, 0, 0, 0⟩
abbrev lamE : Expr := lamOf ((defBody s__law_refusals_right).getD 1 (.Pass ⟨0, 0, 0, 0⟩))
def lPrm : Expr → Arguments
  | .Lambda p _ _ _ => p
  | _ => defArgs s__law_refusals_right
def lBod : Expr → Expr
  | .Lambda _ b _ _ => b
  | e => e
def lSc : Expr → Scope
  | .Lambda _ _ s _ => s
  | _ => defScope s__law_refusals_right
def spRefd (K : PySem.W.Frag) (C D : Addr) : Sp := fun vs H _ E => ∃ (v u x y : V) (d e f g : PyData) (ls hs : List (List Str)) (mi ex : Int), vs = [v, u, x, y] ∧ BIn K H v u x y d e f g ls hs mi ex ∧ (firstNo [d, e] = none → priceE f g = none → False) ∧ BRef C D E H d e f g
theorem refd_blame {K : PySem.W.Frag} {C D : Addr} {vs : List V} {H : Hp} {Q : VK} {E : XK} (h : spRefd K C D vs H Q E) : spBlame K C D vs H Q E := by
  obtain ⟨v, u, x, y, d, e, f, g, ls, hs, mi, ex, ev, bi, no, rf⟩ := h
  exact ⟨v, u, x, y, d, e, f, g, ls, hs, mi, ex, ev, bi, fun a b => (no a b).elim, rf⟩
theorem refd_worths {K : PySem.W.Frag} {C D : Addr} {vs : List V} {H : Hp} {Q : VK} {E : XK} (h : spRefd K C D vs H Q E) : spWorths K C D vs H Q E := by
  obtain ⟨v, u, x, y, d, e, f, g, ls, hs, mi, ex, ev, bi, no, rf⟩ := h
  exact ⟨v, u, x, y, d, e, f, g, ls, hs, mi, ex, ev, bi, fun a b => (no a b).elim, rf⟩
section
variable {P : Program} {w : World} {K : PySem.W.Frag} {mg : Str → Option Value} {base : Heap}
theorem sc_lam : FnScope ["one", "other", "low", "high"] ["one", "other", "low", "high"] (lSc lamE) := ⟨rfl, rfl, rfl, by decide +kernel, rfl, by decide +kernel, by decide +kernel⟩
theorem lam_ok {C D : Addr} (C_worths_hold : Cx_ P w K mg base "worths_hold" ["lots", "heard", "missing", "extra", "price", "value"] 5 (spHold K C D)) : LmOk P w K mg base (L2.CX P w) 5 qRef (lPrm lamE) (lBod lamE) (lSc lamE) ["one", "other", "low", "high"] ["one", "other", "low", "high"] (spRefd K C D) where
  S := sc_lam
  len := fun vs H Q E h => by
    obtain ⟨_, _, _, _, _, _, _, _, _, _, _, _, rfl, _⟩ := h
    rfl
  bind := fun us pm cv ct h => by
    match us, h with
    | [a, b, c, d], _ => rfl
  run := fun f c A outer s H vs Q E hr h => by
    obtain ⟨v, u, x, y, d, e, f, g, ls, hs, mi, ex, rfl, bi, no, rf⟩ := h
    refine ⟨_, pe_useX C_worths_hold hr (fun σ => passAt (takes_of rfl rfl rfl rfl) σ) rfl (pa_cons (pv 0) (pa_cons (pv 1) (pa_cons (pv 2) (pa_cons (pv 3) (pa_cons pe_int (pa_cons pe_non pa_nil)))))), ?_⟩
    exact ⟨_, rfl, _, rfl, _, rfl, _, rfl, v, u, x, y, .non, d, e, f, g, .none, ls, hs, mi, ex, 0, rfl, bi, .inr ⟨rfl, .non⟩, trivial, fun a b => (no a b).elim, rf⟩
end
end K6

namespace K6
open PySem PySem.Spec PyProof.Rows L2 Hb St Sq Ow En Zp RZ Rd Xb Mn Wa Da Lg LamX Ty Lc Lp
/-- what may be called at f, where H stands -/
def CallV (P : Program) (w : World) (K : PySem.W.Frag) (mg : Str → Option Value) (base : Heap) (lv : Nat) (sp : Sp) (H : Hp) (f : Addr) : Prop :=
  DfX P w K mg base lv f sp ∨ ∃ q prm bod sc c N ps j, LmOk P w K mg base (L2.CX P w) j q prm bod sc N ps sp ∧ j + 1 ≤ lv ∧ H f = some (LamO q prm bod sc c f) ∧ H c = some (CodeO c q)
theorem CallV.ext {P : Program} {w : World} {K : PySem.W.Frag} {mg : Str → Option Value} {base : Heap} {lv : Nat} {sp : Sp} {H H' : Hp} {f : Addr} (h : CallV P w K mg base lv sp H f) (x : ExtN H H') : CallV P w K mg base lv sp H' f := by
  rcases h with h | ⟨q, prm, bod, sc, c, N, ps, j, L, jl, e1, e2⟩
  · exact .inl h
  · exact .inr ⟨q, prm, bod, sc, c, N, ps, j, L, jl, x _ _ e1 (fun ps z => by unfold LamO at z; cases z), x _ _ e2 codeO_ne⟩
theorem varL_of {P : Program} {w : World} {K : PySem.W.Frag} {mg : Str → Option Value} {base : Heap} {lv i : Nat} {sp : Sp} {E : L2.St → XK} {ta : TA} {σ : L2.St} {H : Hp} {Q : VK} {f : Addr} {vs : List V} (ef : σ[i]? = some (some (.ref f))) (cv : CallV P w K mg base lv sp H f) (ht : ∀ R : List V → Hp → Prop, R vs H → ta σ H R) (hs : sp vs H Q (E σ)) : tVarL P w K mg base lv i sp E ta σ H Q := by
  refine ⟨f, ef, ?_⟩
  rcases cv with h | ⟨q, prm, bod, sc, c, N, ps, j, L, jl, e1, e2⟩
  · exact .inl ⟨h, ht _ hs⟩
  · exact .inr ⟨q, prm, bod, sc, c, N, ps, j, L, jl, e1, ht _ ⟨e1, e2, hs⟩⟩
/-- a price that is none -/
def PrBad (d : PyData) : Prop := numD d = false
theorem size_sh (x : Str) (h : SeqAt.shaped (.list [.str (Str.ofString "size"), .str x]) = true) : SeqAt.shaped (.list [.str (Str.ofString "size"), .str x]) = true := h
section
variable {P : Program} {w : World} {K : PySem.W.Frag} {mg : Str → Option Value} {base : Heap}
def spRefus (Pt : Addr) : Sp := fun vs H Q _ => ∃ (p l tt uu : Addr) (its jts : List V) (ls hs : List (List Str)) (ns : List Str), vs = [.ref p, .ref tt, .ref uu] ∧ DealAt H p l ∧ H Pt = some (.tbl #[]) ∧ H tt = some (.tup its) ∧ H uu = some (.tup jts) ∧ All2 (LotH H) its ls ∧ All2 (LotH H) jts hs ∧ NsOk ns ∧ (∀ x ∈ ls, LotOk ns x) ∧ (∀ x ∈ hs, LotOk ns x) ∧ ls.length ≤ 1000 ∧ hs.length ≤ 1000 ∧ ∀ H', Q (.bl true) H'
theorem ok_refus {f c Pt C D fC fD f1 f2 g : Addr} {fdg : FuncData} {oc : Value} {od an : Option Addr} {osl : Array (Option Value)} {kV doc pm ct : Value}
    (lk : K.lookup f = some ⟨oc, od, .func (PySem.W.fnOf "_law_refusals_right" "_law_refusals_right" (defArgs s__law_refusals_right) (defBody s__law_refusals_right) (defScope s__law_refusals_right) .none kV doc pm an (.ref c) ct), osl⟩) (cd : PySem.W.codeIn K (.ref c) "_law_refusals_right" = true) (TB : TabB base mg c Pt)
    (Fg : Fun K "_law_told" "_law_told" s__law_told g fdg) (bg0 : Binds K fdg ["work"] []) (mtold : mg "_law_told" = some (.ref g)) (T : ErrC K mg "InvalidHeard" C fC) (TS : Xw.ErrC K mg "InvalidSize" D fD) (eRC : PySem.W.exmOne K (.ref D) (.ref C) = some false)
    (g1 : mg "least_blame" = some (.ref f1)) (g2 : mg "blame_worths" = some (.ref f2)) (D1 : DfX P w K mg base 6 f1 (spRefd K C D)) (D2 : DfX P w K mg base 6 f2 (spRefd K C D))
    (C_worths_hold : Cx_ P w K mg base "worths_hold" ["lots", "heard", "missing", "extra", "price", "value"] 5 (spHold K C D)) (C__law_pick : Cl P w K mg base "_law_pick" ["heap", "some"] [] 2 (spPick K)) :
    FnOk P w K mg base CX0 9 f (PySem.W.fnOf "_law_refusals_right" "_law_refusals_right" (defArgs s__law_refusals_right) (defBody s__law_refusals_right) (defScope s__law_refusals_right) .none kV doc pm an (.ref c) ct) ["heap", "lots", "heard"] (spRefus Pt) := by
  obtain ⟨⟨ocg, odg, kVg, docg, pmg, ang, cdvg, ctg, oslg, rfl, lkg, cdg'⟩, kpg⟩ := Fg
  have bg := bg0
  refine okC lk cd sc__law_refusals_right (fun vs H Q E h => ?_) (fun A outer s H vs Q E hr h => ?_)
  · obtain ⟨_, _, _, _, _, _, _, _, _, rfl, _⟩ := h
    rfl
  · obtain ⟨p, l, tt, uu, its, jts, ls, hs, ns, rfl, hd, ePt, et, eu, al, bl, nok, okl, okh, l1, l2, q⟩ := h
    refine ⟨_, (pss_cons (ps_asg (pe_tup (pa_cons (pe_use C__law_pick (hr.mono (by decide)) rfl (pa_cons (pv 0) (pa_cons (pe_lst (pa_cons pe_non (pa_cons pe_str (pa_cons (pe_tup (pa_cons (pe_tup (pa_cons pe_str (pa_cons pe_str pa_nil))) pa_nil)) (pa_cons (pe_tup (pa_cons (pe_tup pa_nil) pa_nil)) (pa_cons pe_int pa_nil)))))) pa_nil))) (pa_cons (pe_use C__law_pick (hr.mono (by decide)) rfl (pa_cons (pv 0) (pa_cons (pe_lst (pa_cons (pe_op op_sub pe_int pe_int) (pa_cons pe_bl (pa_cons pe_non (pa_cons pe_str (pa_cons (pe_tup pa_nil) (pa_cons (pe_tup (pa_cons pe_int pa_nil)) pa_nil))))))) pa_nil))) pa_nil))) (pg_tup rfl (pgs_cons (pg_name (i := 3) sc__law_refusals_right.nd rfl (Or.inr rfl)) (pgs_cons (pg_name (i := 4) sc__law_refusals_right.nd rfl (Or.inr rfl)) pgs_nil))))
    (Evl.pss_cut (ps_for PassesOwn.never rfl (pi_seq (pe_tup (pa_cons (pe_glob (v := .ref f1) (by rfl) g1 rfl) (pa_cons (pe_glob (v := .ref f2) (by rfl) g2 rfl) (pa_cons (pe_lamP (T := [(Pt, qRef)]) TB rfl (List.mem_singleton.mpr rfl) (fun p hp _ => by rw [List.mem_singleton.mp hp] <;> rfl) rfl (by decide +kernel)) pa_nil))))) (pg_name (i := 5) sc__law_refusals_right.nd rfl (Or.inr rfl))
      (Evl.pss_cut (ps_if (pt_cmpR (op_neD hr.units) (pe_lamcall (T := [(Pt, qRef)]) (t := fun E => tVarL P w K mg base 6 5 (spRefd K C D) (fun _ => E) ((tCons (tVar 3) (tCons (tC .non) (tCons (tC .non) (tCons (tC .non) tNil)))))) (TT := TTold2 C D) (k := 6) (a := "work") (Ng := ["work", "wrong"]) rfl mtold kpg lkg cdg' bg sc__law_told rfl (.inl rfl) (told2 T TS eRC) TB rfl (List.mem_singleton.mpr rfl) (fun p hp _ => by rw [List.mem_singleton.mp hp] <;> rfl) (hr.mono (by decide)) (lamS_by rfl) rfl (fun _ _ _ _ _ => rfl) (fun A outer s H E f c' hr2 => pe_varL (lv := 6) (i := 5) (E := fun _ => E) rfl (.inr (.inr rfl)) hr2 (fun σ => passAt (takes_of rfl rfl rfl rfl) σ) ((pa_cons (pv 3) (pa_cons pe_non (pa_cons pe_non (pa_cons pe_non pa_nil))))))) (pe_lst (pa_cons pe_str (pa_cons pe_int pa_nil))) (nomark _)) (pss_one (ps_ret pe_bl)) pss_nil)
    (Evl.pss_cut (ps_if (pt_cmpR (op_neD hr.units) (pe_lamcall (T := [(Pt, qRef)]) (t := fun E => tVarL P w K mg base 6 5 (spRefd K C D) (fun _ => E) ((tCons (tVar 1) (tCons (tVar 3) (tCons (tC .non) (tCons (tC .non) tNil)))))) (TT := TTold2 C D) (k := 6) (a := "work") (Ng := ["work", "wrong"]) rfl mtold kpg lkg cdg' bg sc__law_told rfl (.inl rfl) (told2 T TS eRC) TB rfl (List.mem_singleton.mpr rfl) (fun p hp _ => by rw [List.mem_singleton.mp hp] <;> rfl) (hr.mono (by decide)) (lamS_by rfl) rfl (fun _ _ _ _ _ => rfl) (fun A outer s H E f c' hr2 => pe_varL (lv := 6) (i := 5) (E := fun _ => E) rfl (.inr (.inr rfl)) hr2 (fun σ => passAt (takes_of rfl rfl rfl rfl) σ) ((pa_cons (pv 1) (pa_cons (pv 3) (pa_cons pe_non (pa_cons pe_non pa_nil))))))) (pe_lst (pa_cons pe_str (pa_cons pe_int pa_nil))) (nomark _)) (pss_one (ps_ret pe_bl)) pss_nil)
    (Evl.pss_cut (ps_if (pt_cmpR (op_neD hr.units) (pe_lamcall (T := [(Pt, qRef)]) (t := fun E => tVarL P w K mg base 6 5 (spRefd K C D) (fun _ => E) ((tCons (tVar 1) (tCons (tVar 2) (tCons (tVar 4) (tCons (tC .non) tNil)))))) (TT := TTold2 C D) (k := 6) (a := "work") (Ng := ["work", "wrong"]) rfl mtold kpg lkg cdg' bg sc__law_told rfl (.inl rfl) (told2 T TS eRC) TB rfl (List.mem_singleton.mpr rfl) (fun p hp _ => by rw [List.mem_singleton.mp hp] <;> rfl) (hr.mono (by decide)) (lamS_by rfl) rfl (fun _ _ _ _ _ => rfl) (fun A outer s H E f c' hr2 => pe_varL (lv := 6) (i := 5) (E := fun _ => E) rfl (.inr (.inr rfl)) hr2 (fun σ => passAt (takes_of rfl rfl rfl rfl) σ) ((pa_cons (pv 1) (pa_cons (pv 2) (pa_cons (pv 4) (pa_cons pe_non pa_nil))))))) (pe_lst (pa_cons pe_str (pa_cons pe_str pa_nil))) (nomark _)) (pss_one (ps_ret pe_bl)) pss_nil)
    (pss_one (ps_if (pt_cmpR (op_neD hr.units) (pe_lamcall (T := [(Pt, qRef)]) (t := fun E => tVarL P w K mg base 6 5 (spRefd K C D) (fun _ => E) ((tCons (tVar 1) (tCons (tVar 2) (tCons (tC (.int 0)) (tCons (tVar 4) tNil)))))) (TT := TTold2 C D) (k := 6) (a := "work") (Ng := ["work", "wrong"]) rfl mtold kpg lkg cdg' bg sc__law_told rfl (.inl rfl) (told2 T TS eRC) TB rfl (List.mem_singleton.mpr rfl) (fun p hp _ => by rw [List.mem_singleton.mp hp] <;> rfl) (hr.mono (by decide)) (lamS_by rfl) rfl (fun _ _ _ _ _ => rfl) (fun A outer s H E f c' hr2 => pe_varL (lv := 6) (i := 5) (E := fun _ => E) rfl (.inr (.inr rfl)) hr2 (fun σ => passAt (takes_of rfl rfl rfl rfl) σ) ((pa_cons (pv 1) (pa_cons (pv 2) (pa_cons pe_int (pa_cons (pv 4) pa_nil))))))) (pe_lst (pa_cons pe_str (pa_cons pe_str pa_nil))) (nomark _)) (pss_one (ps_ret pe_bl)) pss_nil))))))
    (pss_one (ps_ret pe_bl)))), ?_⟩
    -- the bad tale
    refine ⟨_, rfl, by show 2 ≤ sizeLine; decide, fun a1 ka1 => ⟨by show 1 ≤ sizeLine; decide, fun a2 ka2 => ⟨by show 0 ≤ sizeLine; decide, fun a3 ka3 => ⟨by show 1 ≤ sizeLine; decide, fun a4 ka4 => ⟨by show 5 ≤ sizeLine; decide, fun bp kbp => ?_⟩⟩⟩⟩⟩
    have s1 := same_new ka1 (.tup [V.str (Str.ofString "y"), .str (Str.ofString "x")])
    have e1 : upd H a1 (.tup [V.str (Str.ofString "y"), .str (Str.ofString "x")]) a1 = some (.tup [V.str (Str.ofString "y"), .str (Str.ofString "x")]) := upd_same
    generalize upd H a1 (.tup [V.str (Str.ofString "y"), .str (Str.ofString "x")]) = H1 at s1 e1 ka2 ka3 ka4 kbp ⊢
    have s2 := same_new ka2 (.tup [V.ref a1])
    have e2 : upd H1 a2 (.tup [V.ref a1]) a2 = some (.tup [V.ref a1]) := upd_same
    generalize upd H1 a2 (.tup [V.ref a1]) = H2 at s2 e2 ka3 ka4 kbp ⊢
    have s3 := same_new ka3 (.tup [])
    have e3 : upd H2 a3 (.tup []) a3 = some (.tup []) := upd_same
    generalize upd H2 a3 (.tup []) = H3 at s3 e3 ka4 kbp ⊢
    have s4 := same_new ka4 (.tup [V.ref a3])
    have e4 : upd H3 a4 (.tup [V.ref a3]) a4 = some (.tup [V.ref a3]) := upd_same
    generalize upd H3 a4 (.tup [V.ref a3]) = H4 at s4 e4 kbp ⊢
    have s5 := same_new kbp (.lst [V.non, .str (Str.ofString "x"), .ref a2, .ref a4, .int 3])
    have e5 : upd H4 bp (.lst [V.non, .str (Str.ofString "x"), .ref a2, .ref a4, .int 3]) bp = some (.lst [V.non, .str (Str.ofString "x"), .ref a2, .ref a4, .int 3]) := upd_same
    have hd4 := hd.same (s1.trans (s2.trans (s3.trans s4)))
    have nbp := hd4.ne_none kbp
    have hd5 := hd4.same s5
    generalize upd H4 bp (.lst [V.non, .str (Str.ofString "x"), .ref a2, .ref a4, .int 3]) = H5 at s5 e5 hd5 ⊢
    have s15 := s1.trans (s2.trans (s3.trans (s4.trans s5)))
    have bads : ∀ v ∈ [V.non, .str (Str.ofString "x"), .ref a2, .ref a4, .int 3], ∃ d, Nd K p l H5 v d ∧ BadOk d := fun v hv => by
      simp only [List.mem_cons, List.not_mem_nil, or_false] at hv
      rcases hv with rfl | rfl | rfl | rfl | rfl
      · exact ⟨_, nd_non, b_none⟩
      · exact ⟨_, nd_str _, b_s⟩
      · exact ⟨_, .tup ((s3.trans (s4.trans s5)) _ _ e2) hd5 (.cons (.tup ((s2.trans (s3.trans (s4.trans s5))) _ _ e1) hd5 (.cons (nd_str _) (.cons (nd_str _) .nil))) .nil), b_yx⟩
      · exact ⟨_, .tup (s5 _ _ e4) hd5 (.cons (.tup ((s4.trans s5) _ _ e3) hd5 .nil) .nil), b_e⟩
      · exact ⟨_, nd_int _, b_3⟩
    refine ⟨p, l, bp, _, rfl, hd5, fun H' k => SqX.lst (k _ _ e5 nbp.1 nbp.2), ⟨by show 1 ≤ 5; decide, by show 5 ≤ 1000; decide⟩, fun bad H6 hbad k6 hd6 => ?_⟩
    obtain ⟨d, nd5, bk⟩ := bads bad hbad
    have nd6 := nd5.on (KpX.two k6)
    clear bads hbad nd5
    -- the bad price
    refine ⟨_, rfl, _, _, rfl, rfl, by show 0 ≤ sizeLine; decide, fun b1 kb1 => ⟨by show 1 ≤ sizeLine; decide, fun b2 kb2 => ⟨by show 6 ≤ sizeLine; decide, fun pp kpp => ?_⟩⟩⟩
    have s7 := same_new kb1 (.tup [])
    have e7 : upd H6 b1 (.tup []) b1 = some (.tup []) := upd_same
    generalize upd H6 b1 (.tup []) = H7 at s7 e7 kb2 kpp ⊢
    have s8 := same_new kb2 (.tup [V.int 1])
    have e8 : upd H7 b2 (.tup [V.int 1]) b2 = some (.tup [V.int 1]) := upd_same
    generalize upd H7 b2 (.tup [V.int 1]) = H8 at s8 e8 kpp ⊢
    have s9 := same_new kpp (.lst [V.int (0 - 1), .bl true, .non, .str (Str.ofString "1"), .ref b1, .ref b2])
    have e9 : upd H8 pp (.lst [V.int (0 - 1), .bl true, .non, .str (Str.ofString "1"), .ref b1, .ref b2]) pp = some (.lst [V.int (0 - 1), .bl true, .non, .str (Str.ofString "1"), .ref b1, .ref b2]) := upd_same
    have hd8 := hd6.same (s7.trans s8)
    have npp := hd8.ne_none kpp
    have hd9 := hd8.same s9
    generalize upd H8 pp (.lst [V.int (0 - 1), .bl true, .non, .str (Str.ofString "1"), .ref b1, .ref b2]) = H9 at s9 e9 hd9 ⊢
    have prs : ∀ v ∈ [V.int (0 - 1), .bl true, .non, .str (Str.ofString "1"), .ref b1, .ref b2], ∃ d, Nd K p l H9 v d ∧ numD d = false := fun v hv => by
      simp only [List.mem_cons, List.not_mem_nil, or_false] at hv
      rcases hv with rfl | rfl | rfl | rfl | rfl | rfl
      · exact ⟨_, nd_int _, by decide⟩
      · exact ⟨.bool true, fun _ _ => .bl true, rfl⟩
      · exact ⟨_, nd_non, rfl⟩
      · exact ⟨_, nd_str _, rfl⟩
      · exact ⟨_, .tup ((s8.trans s9) _ _ e7) hd9 .nil, rfl⟩
      · exact ⟨_, .tup (s9 _ _ e8) hd9 (.cons (nd_int _) .nil), rfl⟩
    refine ⟨p, l, pp, _, rfl, hd9, fun H' k => SqX.lst (k _ _ e9 npp.1 npp.2), ⟨by show 1 ≤ 6; decide, by show 6 ≤ 1000; decide⟩, fun pv' H10 hpv k10 hd10 => ⟨by show 2 ≤ sizeLine; decide, fun pr kpr => ⟨pr, _, rfl, SqT.of upd_same, rfl, _, _, rfl, _, _, rfl, rfl, ?_⟩⟩⟩
    obtain ⟨g', ndp, pbad⟩ := prs pv' hpv
    have s11 := same_new kpr (.tup [bad, pv'])
    have kz : Kept2 p l H (upd H10 pr (.tup [bad, pv'])) := (Kept2.same s15).trans (k6.trans ((Kept2.same (s7.trans (s8.trans s9))).trans (k10.trans (Kept2.same s11))))
    have ndb := nd6.on ((KpX.same (s7.trans (s8.trans s9))).trans ((KpX.two k10).trans (KpX.same s11)))
    have ndq := ndp.on ((KpX.two k10).trans (KpX.same s11))
    generalize upd H10 pr (.tup [bad, pv']) = Hz at s11 kz ndb ndq ⊢
    clear prs hpv ndp nd6 s11 k10 hd10 kpr s9 e9 hd9 npp kpp e8 s8 e7 s7 kb1 kb2 hd8 hd6 k6 s15 e5 hd5 nbp hd4 s5 kbp s4 e4 s3 e3 s2 e2 s1 e1 ka1 ka2 ka3 ka4
    have fz := kz.fix hd
    have etz := fz _ _ et (not_mut_tup _)
    have euz := fz _ _ eu (not_mut_tup _)
    have alz := al.imp fun _ _ r => r.fix fz
    have blz := bl.imp fun _ _ r => r.fix fz
    have ePz : Hz Pt = some (.tbl #[]) := by
      obtain ⟨_, _, h1, h2, _⟩ := hd
      refine kz _ _ ePt (fun z => ?_) (fun z => ?_)
      · rw [z, h1] at ePt; cases ePt
      · rw [z, h2] at ePt; cases ePt
    have badD : ∀ H', ExtN Hz H' → Dp K H' bad d := fun H' e => ndb H' (KpX.ext e)
    have prD : ∀ H', ExtN Hz H' → Dp K H' pv' g' := fun H' e => ndq H' (KpX.ext e)
    have tiD : ∀ H', ExtN Hz H' → Dp K H' (.ref tt) (tD ls) := fun H' e => tale_dp (e _ _ etz notbl) (alz.imp fun _ _ r => lotH_ext r e)
    have tjD : ∀ H', ExtN Hz H' → Dp K H' (.ref uu) (tD hs) := fun H' e => tale_dp (e _ _ euz notbl) (blz.imp fun _ _ r => lotH_ext r e)
    have taL := tale_D nok okl
    have taH := tale_D nok okh
    have smL := tale_sm nok okl (by omega)
    have smH := tale_sm nok okh (by omega)
    have in12 : ∀ H', ExtN Hz H' → TIn K H' (.ref tt) (.ref uu) (tD ls) (tD hs) ls hs := fun H' e =>
      ⟨tiD H' e, tjD H' e, smL, smH, fun _ => ⟨tt, uu, rfl, rfl, ⟨its, e _ _ etz notbl, alz.imp fun _ _ r => lotH_S (lotH_ext r e)⟩, ⟨jts, e _ _ euz notbl, blz.imp fun _ _ r => lotH_S (lotH_ext r e)⟩⟩, l1, l2, fun h m => by have := lot_len nok (okh h m); omega, fun h m => by have := lot_len nok (okl h m); omega⟩
    have no12 := no_first taL taH
    have pm : priceE g' .none = some (Str.ofString "missing") := by unfold priceE; rw [if_pos pbad]
    have px : priceE (.int 0) g' = some (Str.ofString "extra") := by unfold priceE; rw [if_neg (by decide), if_pos pbad]
    let σ0 : Option V → L2.St := fun o => [some (.ref p), some (.ref tt), some (.ref uu), some bad, some pv', o]
    refine ⟨fun σ H' => True, ?_, fun σ H' _ => q H'⟩
    refine ⟨fun q' hq => by rw [List.mem_singleton.mp hq]; exact TabS.nil ePz, fun fl c1 G0 xt tb0 nfl ec1 => ?_⟩
    generalize hL : LamO _ _ _ _ c1 fl = o
    have hL' : o = LamO qRef (lPrm lamE) (lBod lamE) (lSc lamE) c1 fl := hL.symm
    clear hL
    have sl := same_new nfl o
    have efl : upd G0 fl o fl = some (LamO qRef (lPrm lamE) (lBod lamE) (lSc lamE) c1 fl) := by rw [upd_same, hL']
    generalize upd G0 fl o = G1 at sl efl ⊢
    refine ⟨by show 3 ≤ sizeLine; decide, fun tp ktp => ⟨tp, _, rfl, .inr (SqT.of upd_same), fun J S W z0 => ?_⟩⟩
    have st := same_new ktp (.tup [V.ref f1, .ref f2, .ref fl])
    have etp : upd G1 tp (.tup [V.ref f1, .ref f2, .ref fl]) tp = some (.tup [V.ref f1, .ref f2, .ref fl]) := upd_same
    generalize upd G1 tp (.tup [V.ref f1, .ref f2, .ref fl]) = G2 at st etp z0 ⊢
    have xz : ExtN Hz G2 := xt.trans (ExtN.of (sl.trans st))
    have tb2 : Tabs [(Pt, qRef)] G2 := fun y m => (tb0 y m).ext (sl.trans st)
    have cvl : CallV P w K mg base 6 (spRefd K C D) G2 fl := .inr ⟨_, _, _, _, c1, _, _, 5, lam_ok C_worths_hold, by decide, st _ _ efl, (sl.trans st) _ _ ec1⟩
    refine for_sq W (fun k σ H' => (∃ o5, σ = σ0 o5) ∧ ExtN G2 H' ∧ Tabs [(Pt, qRef)] H') ⟨⟨none, rfl⟩, ExtN.refl _, tb2⟩ (fun k σ H' pv => W.keep (fun o e => by rw [etp] at e; cases e; exact pv.2.1 _ _ etp notbl) z0) ?_ (fun _ _ _ => trivial)
    rintro k σ H0 x ex ⟨⟨o5, rfl⟩, x0, tb⟩
    obtain ⟨fj, rfl, cv2⟩ : ∃ fj, x = .ref fj ∧ CallV P w K mg base 6 (spRefd K C D) G2 fj := by
      match k, ex with
      | 0, ex => cases ex; exact ⟨f1, rfl, .inl D1⟩
      | 1, ex => cases ex; exact ⟨f2, rfl, .inl D2⟩
      | 2, ex => cases ex; exact ⟨fl, rfl, cvl⟩
    have cv : ∀ {H'}, ExtN G2 H' → CallV P w K mg base 6 (spRefd K C D) H' fj := fun e => cv2.ext e
    clear cv2 cvl ex
    refine ⟨fun σ H' => σ = σ0 (some (.ref fj)) ∧ ExtN G2 H' ∧ Tabs [(Pt, qRef)] H', ?_, ?_⟩
    · refine ⟨tb, fun G3 x3 tb3 => ?_⟩
      have xg := x0.trans x3
      have xh := xz.trans xg
      show tVarL P w K mg base 6 5 (spRefd K C D) (fun _ => eTold C D _) _ _ _ _
      refine varL_of (f := fj) (vs := [bad, .non, .non, .non]) rfl (cv xg) (fun R r => ⟨_, rfl, r⟩) ?_
      refine ⟨bad, .non, .non, .non, d, .none, .none, .none, [], [], 0, 0, rfl, ⟨⟨badD G3 xh, .non, bk.s2, trivial, fun z => (by rw [first_0 bk.nt] at z; cases z), by decide, by decide, fun h hh => (by cases hh), fun h hh => (by cases hh)⟩, .non, .non, fun z => (by cases z)⟩, fun z => (by rw [first_0 bk.nt] at z; cases z), fun k hk dd H2 s2 ed => ?_, fun z => (by rw [first_0 bk.nt] at z; cases z)⟩
      rw [first_0 bk.nt] at hk
      cases hk
      refine ⟨dd, rfl, .inl ⟨rfl, _, ed, fun t H3 s3 et => ⟨by show 2 ≤ sizeLine; decide, fun t2 kt2 => ?_⟩⟩⟩
      have s4 := same_new kt2 (.lst [V.str (Str.ofString "heard"), .int 0])
      refine ⟨.list [.str (Str.ofString "heard"), .int 0], .list [.str (Str.ofString "heard"), .int 0], .lst (SqL.of (s4 _ _ et)) (.cons (.str _) (.cons (.int _) .nil)), .lst (SqL.of upd_same) (.cons (.str _) (.cons (.int _) .nil)), heard_sh _, heard_sh _, _, rfl, ?_⟩
      rw [sh_refl (heard_sh _)]
      have s24 := s2.trans (s3.trans s4)
      exact iteF ⟨rfl, xg.trans (ExtN.of s24), tb3.ext s24⟩
    clear x0 tb
    rintro σ H0 ⟨rfl, x0, tb⟩
    refine ⟨fun σ H' => σ = σ0 (some (.ref fj)) ∧ ExtN G2 H' ∧ Tabs [(Pt, qRef)] H', ?_, ?_⟩
    · refine ⟨tb, fun G3 x3 tb3 => ?_⟩
      have xg := x0.trans x3
      have xh := xz.trans xg
      show tVarL P w K mg base 6 5 (spRefd K C D) (fun _ => eTold C D _) _ _ _ _
      refine varL_of (f := fj) (vs := [.ref tt, bad, .non, .non]) rfl (cv xg) (fun R r => ⟨_, rfl, _, rfl, r⟩) ?_
      refine ⟨.ref tt, bad, .non, .non, tD ls, d, .none, .none, [], [], 0, 0, rfl, ⟨⟨tiD G3 xh, badD G3 xh, smL, bk.s2, fun z => (by rw [first_1 taL bk.nt] at z; cases z), by decide, by decide, fun h hh => (by cases hh), fun h hh => (by cases hh)⟩, .non, .non, fun z => (by cases z)⟩, fun z => (by rw [first_1 taL bk.nt] at z; cases z), fun k hk dd H2 s2 ed => ?_, fun z => (by rw [first_1 taL bk.nt] at z; cases z)⟩
      rw [first_1 taL bk.nt] at hk
      cases hk
      refine ⟨dd, rfl, .inl ⟨rfl, _, ed, fun t H3 s3 et => ⟨by show 2 ≤ sizeLine; decide, fun t2 kt2 => ?_⟩⟩⟩
      have s4 := same_new kt2 (.lst [V.str (Str.ofString "heard"), .int 1])
      refine ⟨.list [.str (Str.ofString "heard"), .int 1], .list [.str (Str.ofString "heard"), .int 1], .lst (SqL.of (s4 _ _ et)) (.cons (.str _) (.cons (.int _) .nil)), .lst (SqL.of upd_same) (.cons (.str _) (.cons (.int _) .nil)), heard_sh _, heard_sh _, _, rfl, ?_⟩
      rw [sh_refl (heard_sh _)]
      have s24 := s2.trans (s3.trans s4)
      exact iteF ⟨rfl, xg.trans (ExtN.of s24), tb3.ext s24⟩
    clear x0 tb
    rintro σ H0 ⟨rfl, x0, tb⟩
    refine ⟨fun σ H' => σ = σ0 (some (.ref fj)) ∧ ExtN G2 H' ∧ Tabs [(Pt, qRef)] H', ?_, ?_⟩
    · refine ⟨tb, fun G3 x3 tb3 => ?_⟩
      have xg := x0.trans x3
      have xh := xz.trans xg
      show tVarL P w K mg base 6 5 (spRefd K C D) (fun _ => eTold C D _) _ _ _ _
      refine varL_of (f := fj) (vs := [.ref tt, .ref uu, pv', .non]) rfl (cv xg) (fun R r => ⟨_, rfl, _, rfl, _, rfl, r⟩) ?_
      refine ⟨.ref tt, .ref uu, pv', .non, tD ls, tD hs, g', .none, ls, hs, 0, 0, rfl, ⟨in12 G3 xh, prD G3 xh, .non, fun z => (by rw [pm] at z; cases z)⟩, fun _ z => (by rw [pm] at z; cases z), fun k hk => (by rw [no12] at hk; cases hk), fun _ y hy dd H2 s2 ed => ?_⟩
      rw [pm] at hy
      cases hy
      refine ⟨dd, rfl, .inr ⟨rfl, _, ed, fun t H3 s3 et => ⟨by show 2 ≤ sizeLine; decide, fun t2 kt2 => ?_⟩⟩⟩
      have s4 := same_new kt2 (.lst [V.str (Str.ofString "size"), .str (Str.ofString "missing")])
      refine ⟨.list [.str (Str.ofString "size"), .str (Str.ofString "missing")], .list [.str (Str.ofString "size"), .str (Str.ofString "missing")], .lst (SqL.of (s4 _ _ et)) (.cons (.str _) (.cons (.str _) .nil)), .lst (SqL.of upd_same) (.cons (.str _) (.cons (.str _) .nil)), by decide +kernel, by decide +kernel, _, rfl, ?_⟩
      rw [sh_refl (by decide +kernel)]
      have s24 := s2.trans (s3.trans s4)
      exact iteF ⟨rfl, xg.trans (ExtN.of s24), tb3.ext s24⟩
    clear x0 tb
    rintro σ H0 ⟨rfl, x0, tb⟩
    refine ⟨tb, fun G3 x3 tb3 => ?_⟩
    have xg := x0.trans x3
    have xh := xz.trans xg
    show tVarL P w K mg base 6 5 (spRefd K C D) (fun _ => eTold C D _) _ _ _ _
    refine varL_of (f := fj) (vs := [.ref tt, .ref uu, .int 0, pv']) rfl (cv xg) (fun R r => ⟨_, rfl, _, rfl, _, rfl, r⟩) ?_
    refine ⟨.ref tt, .ref uu, .int 0, pv', tD ls, tD hs, .int 0, g', ls, hs, 0, 0, rfl, ⟨in12 G3 xh, .int 0, prD G3 xh, fun z => (by rw [px] at z; cases z)⟩, fun _ z => (by rw [px] at z; cases z), fun k hk => (by rw [no12] at hk; cases hk), fun _ y hy dd H2 s2 ed => ?_⟩
    rw [px] at hy
    cases hy
    refine ⟨dd, rfl, .inr ⟨rfl, _, ed, fun t H3 s3 et => ⟨by show 2 ≤ sizeLine; decide, fun t2 kt2 => ?_⟩⟩⟩
    have s4 := same_new kt2 (.lst [V.str (Str.ofString "size"), .str (Str.ofString "extra")])
    refine ⟨.list [.str (Str.ofString "size"), .str (Str.ofString "extra")], .list [.str (Str.ofString "size"), .str (Str.ofString "extra")], .lst (SqL.of (s4 _ _ et)) (.cons (.str _) (.cons (.str _) .nil)), .lst (SqL.of upd_same) (.cons (.str _) (.cons (.str _) .nil)), by decide +kernel, by decide +kernel, _, rfl, ?_⟩
    rw [sh_refl (by decide +kernel)]
    have s24 := s2.trans (s3.trans s4)
    exact iteF ⟨⟨_, rfl⟩, xg.trans (ExtN.of s24), tb3.ext s24⟩
end
end K6

namespace K6
open PySem PySem.Spec PyProof.Rows L2 Hb St Sq Ow En Zp RZ Rd Xb Mn Wa Da Lg LamX Ty Lc Lp Rb
/-! ### the law -/
abbrev s_law : Stmt := top 41
theorem sc_law : FnScope ["script", "heap", "names", "lots", "heard", "missing", "extra", "tale", "told", "price", "due", "worths", "at", "to", "bent", "goal", "holds", "laid", "lot"] ["script"] (defScope s_law) := ⟨rfl, rfl, rfl, by decide +kernel, rfl, by decide +kernel, by decide +kernel⟩
theorem DealAt.l_some {H : Hp} {p l : Addr} (d : DealAt H p l) : ∃ o, H l = some o := let ⟨_, _, _, h, _⟩ := d; ⟨_, h⟩
def nmC (x : Str) : Bool := decide (0 < x.length) && (decide (x.length ≤ 8) && x.cps.toList.all fun c => decide (97 ≤ c) && decide (c < 123))
theorem nm_by {x : Str} (h : nmC x = true) : IsNm x := by
  unfold nmC at h
  simp only [Bool.and_eq_true, decide_eq_true_eq, List.all_eq_true] at h
  exact ⟨h.1, h.2.1, fun c hc => h.2.2 c hc⟩
theorem nsok_by {ns : List Str} (h : (decide ns.Nodup && (!ns.isEmpty && (decide (ns.length ≤ 4) && ns.all nmC))) = true) : NsOk ns := by
  simp only [Bool.and_eq_true, decide_eq_true_eq, Bool.not_eq_true', List.all_eq_true] at h
  obtain ⟨h1, h2, h3, h4⟩ := h
  exact ⟨h1, (by intro z; rw [z] at h2; cases h2), h3, fun x hx => nm_by (h4 x hx)⟩
/-- what stands from the drawing of both tales on -/
structure WL (Pt p l nb a b : Addr) (its jts : List V) (ls hs : List (List Str)) (H : Hp) : Prop where
  hd : DealAt H p l
  eP : H Pt = some (.tbl #[])
  ea : H a = some (.lst its)
  eb : H b = some (.lst jts)
  al : All2 (LotH H) its ls
  bl : All2 (LotH H) jts hs
  na : (a ≠ p ∧ a ≠ l) ∧ (b ≠ p ∧ b ≠ l) ∧ (Pt ≠ p ∧ Pt ≠ l)
theorem WL.two {Pt p l nb a b : Addr} {its jts : List V} {ls hs : List (List Str)} {H H' : Hp} (w : WL Pt p l nb a b its jts ls hs H) (k : Kept2 p l H H') (hd : DealAt H' p l) : WL Pt p l nb a b its jts ls hs H' :=
  ⟨hd, k _ _ w.eP w.na.2.2.1 w.na.2.2.2, k _ _ w.ea w.na.1.1 w.na.1.2, k _ _ w.eb w.na.2.1.1 w.na.2.1.2, w.al.imp fun _ _ r => r.fix (k.fix w.hd), w.bl.imp fun _ _ r => r.fix (k.fix w.hd), w.na⟩
theorem WL.same {Pt p l nb a b : Addr} {its jts : List V} {ls hs : List (List Str)} {H H' : Hp} (w : WL Pt p l nb a b its jts ls hs H) (s : Same H H') : WL Pt p l nb a b its jts ls hs H' := w.two (Kept2.same s) (w.hd.same s)
theorem gr_lenLe {β : Type} {n : Nat} {ok : β → Nat → Bool} : ∀ (hs : List β) (k : Nat), (Ks.gr n ok hs k).length ≤ hs.length
  | [], k => Nat.zero_le _
  | h :: hs, k => by
    cases e : Ks.fst n ok k h with
    | none => rw [gr_cons_none e]; exact Nat.zero_le _
    | some a => rw [gr_cons_some e, List.length_cons, List.length_cons]; exact Nat.succ_le_succ (gr_lenLe hs (a + 1))
theorem stuck_len {ls hs : List (List Str)} (h : stuckN ls hs = none) : (grL ls hs).length = hs.length := by
  unfold stuckN at h
  have l : (grL ls hs).length ≤ hs.length := gr_lenLe hs 0
  by_cases c : (grL ls hs).length < hs.length
  · rw [if_pos c] at h; cases h
  · omega
theorem okL_in {ls : List (List Str)} : ∀ h k, okL ls h k = true → ∀ x ∈ h, x ∈ ls.getD k [] := fun h k e x m => of_decide_eq_true (List.all_eq_true.mp e x m)
/-! ### a table of worths, by its data -/
def gD (rows : List (List Int)) : PyData := .tuple (rows.map fun r => .tuple (r.map .int))
theorem dp_intA {K : PySem.W.Frag} {H : Hp} : ∀ r : List Int, All2 (Dp K H) (r.map V.int) (r.map PyData.int)
  | [] => .nil
  | i :: r => .cons (.int i) (dp_intA r)
theorem rows_dr {K : PySem.W.Frag} {H : Hp} : ∀ {its : List V} {rows : List (List Int)}, All2 (RowT H) its rows → All2 (DR K H) its (rows.map fun r => .tuple (r.map .int))
  | _, _, .nil => .nil
  | _, _, .cons (b := r) h t => by
    obtain ⟨b, rfl, e⟩ := h
    exact .cons (.inl ⟨b, _, _, rfl, rfl, e, dp_intA r⟩) (rows_dr t)
theorem gD_dg {K : PySem.W.Frag} {H : Hp} {a : Addr} {its : List V} {rows : List (List Int)} (e : H a = some (.tup its)) (al : All2 (RowT H) its rows) : DG K H (.ref a) (gD rows) := .inl ⟨a, its, _, rfl, rfl, e, rows_dr al⟩
theorem gD_sm {rows : List (List Int)} (l : rows.length ≤ 1000) (h : ∀ r ∈ rows, r.length ≤ 1000) : SmG (gD rows) := by
  refine ⟨by rw [List.length_map]; exact l, fun d m => ?_⟩
  obtain ⟨r, mr, rfl⟩ := List.mem_map.mp m
  exact ⟨by rw [List.length_map]; exact h r mr, by rw [List.all_map]; exact List.all_eq_true.mpr fun _ _ => rfl⟩
theorem gD_rows (rows : List (List Int)) : rowsD (gD rows) = rows := by
  show (rows.map fun r => PyData.tuple (r.map .int)).map (fun e => (itD e).map intOf) = rows
  rw [List.map_map]
  conv => rhs; rw [← List.map_id rows]
  refine List.map_congr_left fun r _ => ?_
  show (r.map PyData.int).map intOf = r
  rw [List.map_map]
  conv => rhs; rw [← List.map_id r]
  exact List.map_congr_left fun _ _ => rfl
theorem gD_grid {rows : List (List Int)} {r c : Nat} (l : rows.length = r) (h : ∀ x ∈ rows, x.length = c) : gridD r c (gD rows) = true := by
  unfold gD
  rw [grid_rows, List.length_map, decide_eq_true l, Bool.true_and, List.all_map, List.all_eq_true]
  intro x m
  show (decide ((x.map PyData.int).length = c) && (x.map PyData.int).all intD) = true
  rw [List.length_map, decide_eq_true (h x m), Bool.true_and, List.all_map, List.all_eq_true]
  exact fun _ _ => rfl
theorem Wg_lens (mi ex : Int) (ls hs : List (List Str)) : (Wg mi ex ls hs).length = ls.length + 1 ∧ ∀ x ∈ Wg mi ex ls hs, x.length = hs.length + 1 := by
  refine ⟨rowsTo_len .., fun x m => ?_⟩
  obtain ⟨k, _, rfl⟩ := List.mem_map.mp m
  exact rowTo_len ..
theorem cell_Wg (mi ex : Int) {ls hs : List (List Str)} {i j : Nat} (hi : i ≤ ls.length) (hj : j ≤ hs.length) : cell (Wg mi ex ls hs) i j = Kw.W mi ex ls hs i j := by
  have e1 : (Wg mi ex ls hs)[i]? = some _ := rowsTo_at mi ex ls hs (show i < ls.length + 1 by omega)
  unfold cell
  rw [getD_some e1, getD_some (rowTo_at mi ex ls hs i (show j < hs.length + 1 by omega))]
theorem hold_Wg (mi ex : Int) (ls hs : List (List Str)) (pr : Int) : holdV mi ex ls hs pr (gD (Wg mi ex ls hs)) = decide (pr ≤ Kw.W mi ex ls hs ls.length hs.length) := by
  obtain ⟨g1, g2⟩ := Wg_lens mi ex ls hs
  unfold holdV holdB
  rw [gD_grid g1 g2, gD_rows, cell_Wg mi ex (Nat.zero_le _) (Nat.zero_le _), cell_Wg mi ex (Nat.le_refl _) (Nat.le_refl _), show Kw.W mi ex ls hs 0 0 = 0 from Kw.wr_zero ls hs, decide_eq_true rfl, Bool.true_and, Bool.true_and]
  rw [show (List.range (ls.length + 1)).all (rowOk mi ex ls hs (Wg mi ex ls hs)) = true from ?_, Bool.and_true]
  refine List.all_eq_true.mpr fun i mi' => List.all_eq_true.mpr fun j mj => List.all_eq_true.mpr fun s ms => decide_eq_true ?_
  have hi : i ≤ ls.length := by have := List.mem_range.mp mi'; omega
  have hj : j ≤ hs.length := by have := List.mem_range.mp mj; omega
  obtain ⟨q1, q2, _⟩ := Kw.stp_low ms
  rw [cell_Wg mi ex hi hj, cell_Wg mi ex (by omega) (by omega)]
  exact Kw.stp_le hi hj s ms
section
variable {P : Program} {w : World} {K : PySem.W.Frag} {mg : Str → Option Value} {base : Heap}
def spLaw (K : PySem.W.Frag) (Pt : Addr) : Sp := fun vs H Q _ => ∃ (a : Addr) (ns : List Int), vs = [.ref a] ∧ SqL K H a (ns.map V.int) ∧ ns.length ≤ 63 ∧ H Pt = some (.tbl #[]) ∧ ∀ H', Q (.bl true) H'
theorem ok_law {f Pt C D R : Addr} {fd : FuncData} (F : Fun K "law" "law" s_law f fd)
    (C__law_draw : Cl P w K mg base "_law_draw" ["heap", "many"] [] 1 spDraw) (C__law_heap : Cl P w K mg base "_law_heap" ["script", "base"] [] 1 (spDeal K)) (C__law_less : Cl P w K mg base "_law_less" ["heap", "lots"] [] 3 (spLess K)) (C__law_pick : Cl P w K mg base "_law_pick" ["heap", "some"] [] 2 (spPick K)) (C__law_tale : Cl P w K mg base "_law_tale" ["heap", "names", "most"] [] 3 spTale)
    (C__law_least : Cl P w K mg base "_law_least" ["lots", "heard", "missing", "extra"] [] 11 (spLeast 9)) (C__law_telling_right : Cl P w K mg base "_law_telling_right" ["lots", "heard", "missing", "extra", "price", "telling"] [] 2 spTelling) (C__law_bent : Cl P w K mg base "_law_bent" ["heap", "worths"] [] 3 (spBent K)) (C__law_holds : Cl P w K mg base "_law_holds" ["lots", "heard", "missing", "extra", "price", "value"] [] 2 (spHolds K)) (C__law_refusals_right : Cl P w K mg base "_law_refusals_right" ["heap", "lots", "heard"] [] 9 (spRefus Pt))
    (C_least_blame : Cx_ P w K mg base "least_blame" ["lots", "heard", "missing", "extra"] 6 (spBlame K C D)) (C_worths_hold : Cx_ P w K mg base "worths_hold" ["lots", "heard", "missing", "extra", "price", "value"] 5 (spHold K C D)) (C_stuck_at : Cx_ P w K mg base "stuck_at" ["lots", "heard"] 5 (spStuck K C)) (C_first_laying : Cx_ P w K mg base "first_laying" ["lots", "heard"] 7 (spFirst K C R))
    (K_blame_worths : CkX P w K mg base "blame_worths" ["lots", "heard", "missing", "extra"] ["extra", "missing", "heard", "lots"] (fun _ zs => zs.reverse) 5 (spWorths K C D)) (K_worths_hold : CkX P w K mg base "worths_hold" ["lots", "heard", "missing", "extra", "price", "value"] ["value", "price", "extra", "missing", "heard", "lots"] (fun _ zs => zs.reverse) 5 (spHold K C D))
    (n_isinstance : mg "isinstance" = none) (n_len : mg "len" = none) (n_repr : mg "repr" = none) (n_sum : mg "sum" = none) (n_tuple : mg "tuple" = none) : FnOk P w K mg base CX0 12 f fd ["script"] (spLaw K Pt) := by
  refine F.ok sc_law (fun vs H Q E h => ?_) (fun cdv A outer s H vs Q E hr h => ?_)
  · obtain ⟨_, _, rfl, _⟩ := h
    rfl
  · obtain ⟨a0, ns, rfl, h0, l0, eP, q⟩ := h
    refine ⟨_, (pss_cons (ps_set (i := 1) sc_law.nd rfl (Or.inl rfl) (pe_use C__law_heap (hr.mono (by decide)) rfl (pa_cons (pv 0) (pa_cons pe_int pa_nil))))
    (pss_cons (ps_set (i := 2) sc_law.nd rfl (Or.inl rfl) (pe_use C__law_pick (hr.mono (by decide)) rfl (pa_cons (pv 1) (pa_cons (pe_lst (pa_cons (pe_tup (pa_cons pe_str (pa_cons pe_str (pa_cons pe_str pa_nil)))) (pa_cons (pe_tup (pa_cons pe_str (pa_cons pe_str pa_nil))) (pa_cons (pe_tup (pa_cons pe_str (pa_cons pe_str (pa_cons pe_str pa_nil)))) pa_nil)))) pa_nil))))
    (pss_cons (ps_set (i := 3) sc_law.nd rfl (Or.inl rfl) (pe_use C__law_tale (hr.mono (by decide)) rfl (pa_cons (pv 1) (pa_cons (pv 2) (pa_cons pe_int pa_nil)))))
    (Evl.pss_cut (ps_set (i := 4) sc_law.nd rfl (Or.inl rfl) (pe_ifExp (pt_cmpR op_gt (pe_use C__law_draw (hr.mono (by decide)) rfl (pa_cons (pv 1) (pa_cons pe_int pa_nil))) pe_int (nomark _)) (pe_slice (r := rSlL K) sl_list (pe_use C__law_less (hr.mono (by decide)) rfl (pa_cons (pv 1) (pa_cons (pv 3) pa_nil))) po_none (po_some pe_int)) (pe_use C__law_tale (hr.mono (by decide)) rfl (pa_cons (pv 1) (pa_cons (pv 2) (pa_cons pe_int pa_nil))))))
    (Evl.pss_cut (ps_par (i := 5) (j := 6) (by rfl) sc_law.nd rfl rfl (by decide) rfl rfl (pa_cons (pe_use C__law_draw (hr.mono (by decide)) rfl (pa_cons (pv 1) (pa_cons pe_int pa_nil))) (pa_cons (pe_use C__law_draw (hr.mono (by decide)) rfl (pa_cons (pv 1) (pa_cons pe_int pa_nil))) pa_nil)) (by rfl))
    (Evl.pss_cut (ps_if (pt_cmpR op_eq (pe_use C__law_draw (hr.mono (by decide)) rfl (pa_cons (pv 1) (pa_cons pe_int pa_nil))) pe_int (nomark _)) (pss_one (ps_set (i := 6) sc_law.nd rfl (Or.inl rfl) (pe_op op_add pe_int (pe_op op_mul (pv 5) (pe_callB (cr_sum rfl) (by rfl) n_sum (by decide +kernel) (pa_cons (pe_lc (own := [("lot", 18)]) (g := gName 18) rfl sc_law.nd (pi_seq (pv 3)) (blkOk_by (N := ["script", "heap", "names", "lots", "heard", "missing", "extra", "tale", "told", "price", "due", "worths", "at", "to", "bent", "goal", "holds", "laid", "lot"]) (sc := defScope s_law) (by decide +kernel)) (fun _ _ _ _ _ => pg_name (i := 18) sc_law.nd rfl (Or.inl rfl)) (fun _ _ _ _ _ => pts_nil) (fun _ _ _ _ _ => pe_callB (r := rLenK K) call_len_seq (by rfl) n_len PySem.boot_len (pa_cons (pv 18) pa_nil))) pa_nil)))))) pss_nil)
    (Evl.pss_cut (ps_par (i := 7) (j := 8) (by rfl) sc_law.nd rfl rfl (by decide) rfl rfl (pa_cons (pe_callTy call_tuple_of (by rfl) n_tuple (by decide +kernel) (pa_cons (pv 3) pa_nil)) (pa_cons (pe_callTy call_tuple_of (by rfl) n_tuple (by decide +kernel) (pa_cons (pv 4) pa_nil)) pa_nil)) (by rfl))
    (Evl.pss_cut (ps_par (i := 9) (j := 10) (by rfl) sc_law.nd rfl rfl (by decide) rfl rfl (pa_cons (pe_useX C_least_blame (hr.mono (by decide)) (fun σ => passAt L2.takes0 σ) rfl (pa_cons (pv 7) (pa_cons (pv 8) (pa_cons (pv 5) (pa_cons (pv 6) pa_nil))))) (pa_cons (pe_use C__law_least (hr.mono (by decide)) rfl (pa_cons (pv 3) (pa_cons (pv 4) (pa_cons (pv 5) (pa_cons (pv 6) pa_nil))))) pa_nil)) (by rfl))
    (Evl.pss_cut (ps_if (PW.pt (pw_or (pt_not (pt_val (pe_callB call_isi (by rfl) n_isinstance (by decide +kernel) (pa_cons (pv 9) (pa_cons (pe_bltn (v := .ty "tuple") (by rfl) n_tuple (by decide +kernel) rfl) pa_nil))))) (pw_or (pt_cmpR op_ne (pe_callB call_len_seq (by rfl) n_len PySem.boot_len (pa_cons (pv 9) pa_nil)) pe_int (nomark _)) (pw_or1 (pt_cmpR op_ne (pe_callB cr_reprN (by rfl) n_repr (by decide +kernel) (pa_cons (pe_ix (r := rIxT K) ix_tup (pv 9) pe_int (fun _ _ => rfl)) pa_nil)) (pe_callB cr_reprN (by rfl) n_repr (by decide +kernel) (pa_cons (pv 10) pa_nil)) (nomark _)))))) (pss_one (ps_ret pe_bl)) pss_nil)
    (Evl.pss_cut (ps_if (pt_not (pt_val (pe_use C__law_telling_right (hr.mono (by decide)) rfl (pa_cons (pv 3) (pa_cons (pv 4) (pa_cons (pv 5) (pa_cons (pv 6) (pa_cons (pv 10) (pa_cons (pe_ix (r := rIxT K) ix_tup (pv 9) pe_int (fun _ _ => rfl)) pa_nil))))))))) (pss_one (ps_ret pe_bl)) pss_nil)
    (Evl.pss_cut (ps_set (i := 11) sc_law.nd rfl (Or.inl rfl) (pe_useKX K_blame_worths (hr.mono (by decide)) (passes_call L2.takes0 fun _ _ _ _ h => h) rfl (pk_cons (pv 6) (pk_cons (pv 5) (pk_cons (pv 8) (pk_cons (pv 7) pk_nil))))))
    (Evl.pss_cut (ps_par (i := 12) (j := 13) (by rfl) sc_law.nd rfl rfl (by decide) rfl rfl (pa_cons (pe_use C__law_draw (hr.mono (by decide)) rfl (pa_cons (pv 1) (pa_cons (pe_op op_add (pe_callB call_len_seq (by rfl) n_len PySem.boot_len (pa_cons (pv 3) pa_nil)) pe_int) pa_nil))) (pa_cons (pe_use C__law_draw (hr.mono (by decide)) rfl (pa_cons (pv 1) (pa_cons (pe_op op_add (pe_callB call_len_seq (by rfl) n_len PySem.boot_len (pa_cons (pv 4) pa_nil)) pe_int) pa_nil))) pa_nil)) (by rfl))
    (Evl.pss_cut (ps_if (pt_cmpR op_ne (pe_ix (r := rIxT K) ix_tup (pe_ix (r := rIxT K) ix_tup (pv 11) (pv 12) (fun _ _ => rfl)) (pv 13) (fun _ _ => rfl)) (pe_use C__law_least (hr.mono (by decide)) rfl (pa_cons (pe_slice (r := rSlL K) sl_list (pv 3) po_none (po_some (pv 12))) (pa_cons (pe_slice (r := rSlL K) sl_list (pv 4) po_none (po_some (pv 13))) (pa_cons (pv 5) (pa_cons (pv 6) pa_nil))))) (nomark _)) (pss_one (ps_ret pe_bl)) pss_nil)
    (Evl.pss_cut (ps_if (PW.pt (pw_or (pt_not (pt_val (pe_useX C_worths_hold (hr.mono (by decide)) (fun σ => passAt L2.takes0 σ) rfl (pa_cons (pv 7) (pa_cons (pv 8) (pa_cons (pv 5) (pa_cons (pv 6) (pa_cons (pv 10) (pa_cons (pv 11) pa_nil))))))))) (pw_or1 (pt_val (pe_useX C_worths_hold (hr.mono (by decide)) (fun σ => passAt L2.takes0 σ) rfl (pa_cons (pv 7) (pa_cons (pv 8) (pa_cons (pv 5) (pa_cons (pv 6) (pa_cons (pe_op op_add (pv 10) pe_int) (pa_cons (pv 11) pa_nil))))))))))) (pss_one (ps_ret pe_bl)) pss_nil)
    (Evl.pss_cut (ps_par (i := 14) (j := 15) (by rfl) sc_law.nd rfl rfl (by decide) rfl rfl (pa_cons (pe_use C__law_bent (hr.mono (by decide)) rfl (pa_cons (pv 1) (pa_cons (pv 11) pa_nil))) (pa_cons (pe_op op_sub (pe_op op_add (pv 10) (pe_use C__law_draw (hr.mono (by decide)) rfl (pa_cons (pv 1) (pa_cons pe_int pa_nil)))) pe_int) pa_nil)) (by rfl))
    (Evl.pss_cut (ps_set (i := 16) sc_law.nd rfl (Or.inl rfl) (pe_useKX K_worths_hold (hr.mono (by decide)) (passes_call L2.takes0 fun _ _ _ _ h => h) rfl (pk_cons (pv 14) (pk_cons (pv 15) (pk_cons (pv 6) (pk_cons (pv 5) (pk_cons (pv 8) (pk_cons (pv 7) pk_nil))))))))
    (Evl.pss_cut (ps_if (pt_cmpR op_ne (pe_callB cr_reprB (by rfl) n_repr (by decide +kernel) (pa_cons (pv 16) pa_nil)) (pe_callB cr_reprB (by rfl) n_repr (by decide +kernel) (pa_cons (pe_use C__law_holds (hr.mono (by decide)) rfl (pa_cons (pv 3) (pa_cons (pv 4) (pa_cons (pv 5) (pa_cons (pv 6) (pa_cons (pv 15) (pa_cons (pv 14) pa_nil))))))) pa_nil)) (nomark _)) (pss_one (ps_ret pe_bl)) pss_nil)
    (Evl.pss_cut (ps_if (PW.pt (pw_and (pt_cmpR op_isN (pe_useX C_stuck_at (hr.mono (by decide)) (fun σ => passAt L2.takes0 σ) rfl (pa_cons (pv 7) (pa_cons (pv 8) pa_nil))) pe_non (nomark _)) (pw_and1 (pt_cmpR op_gt (pv 6) (pe_op op_mul (pv 5) (pe_callB (cr_sum rfl) (by rfl) n_sum (by decide +kernel) (pa_cons (pe_lc (own := [("lot", 18)]) (g := gName 18) rfl sc_law.nd (pi_seq (pv 3)) (blkOk_by (N := ["script", "heap", "names", "lots", "heard", "missing", "extra", "tale", "told", "price", "due", "worths", "at", "to", "bent", "goal", "holds", "laid", "lot"]) (sc := defScope s_law) (by decide +kernel)) (fun _ _ _ _ _ => pg_name (i := 18) sc_law.nd rfl (Or.inl rfl)) (fun _ _ _ _ _ => pts_nil) (fun _ _ _ _ _ => pe_callB (r := rLenK K) call_len_seq (by rfl) n_len PySem.boot_len (pa_cons (pv 18) pa_nil))) pa_nil))) (nomark _))))) (pss_cons (ps_set (i := 17) sc_law.nd rfl (Or.inl rfl) (pe_useX C_first_laying (hr.mono (by decide)) (fun σ => passAt L2.takes0 σ) rfl (pa_cons (pv 7) (pa_cons (pv 8) pa_nil))))
    (pss_one (ps_if (PW.pt (pw_or (pt_cmpR op_ne (pv 10) (pe_op op_mul (pv 5) (pe_op op_sub (pe_callB (cr_sum rfl) (by rfl) n_sum (by decide +kernel) (pa_cons (pe_lc (own := [("lot", 18)]) (g := gName 18) rfl sc_law.nd (pi_seq (pv 3)) (blkOk_by (N := ["script", "heap", "names", "lots", "heard", "missing", "extra", "tale", "told", "price", "due", "worths", "at", "to", "bent", "goal", "holds", "laid", "lot"]) (sc := defScope s_law) (by decide +kernel)) (fun _ _ _ _ _ => pg_name (i := 18) sc_law.nd rfl (Or.inl rfl)) (fun _ _ _ _ _ => pts_nil) (fun _ _ _ _ _ => pe_callB (r := rLenK K) call_len_seq (by rfl) n_len PySem.boot_len (pa_cons (pv 18) pa_nil))) pa_nil)) (pe_callB (cr_sum rfl) (by rfl) n_sum (by decide +kernel) (pa_cons (pe_lc (own := [("lot", 18)]) (g := gName 18) rfl sc_law.nd (pi_seq (pv 4)) (blkOk_by (N := ["script", "heap", "names", "lots", "heard", "missing", "extra", "tale", "told", "price", "due", "worths", "at", "to", "bent", "goal", "holds", "laid", "lot"]) (sc := defScope s_law) (by decide +kernel)) (fun _ _ _ _ _ => pg_name (i := 18) sc_law.nd rfl (Or.inl rfl)) (fun _ _ _ _ _ => pts_nil) (fun _ _ _ _ _ => pe_callB (r := rLenK K) call_len_seq (by rfl) n_len PySem.boot_len (pa_cons (pv 18) pa_nil))) pa_nil)))) (nomark _)) (pw_or1 (pt_cmpR op_ne (pe_callB call_len_seq (by rfl) n_len PySem.boot_len (pa_cons (pv 17) pa_nil)) (pe_callB call_len_seq (by rfl) n_len PySem.boot_len (pa_cons (pv 4) pa_nil)) (nomark _))))) (pss_one (ps_ret pe_bl)) pss_nil))) pss_nil)
    (pss_one (ps_ret (pe_use C__law_refusals_right (hr.mono (by decide)) rfl (pa_cons (pv 1) (pa_cons (pv 7) (pa_cons (pv 8) pa_nil)))))))))))))))))))))))), ?_⟩
    refine ⟨_, rfl, a0, ns, rfl, h0, l0, fun p l H1 kp kl s1 hd1 => ?_⟩
    have eP1 := s1 _ _ eP
    refine ⟨_, rfl, by show 3 ≤ sizeLine; decide, fun t1 k1 => ⟨by show 2 ≤ sizeLine; decide, fun t3 k3 => ⟨by show 3 ≤ sizeLine; decide, fun t4 k4 => ⟨by show 3 ≤ sizeLine; decide, fun tl ktl => ?_⟩⟩⟩⟩
    obtain ⟨H2, eH2⟩ : ∃ H2, H2 = upd (upd (upd (upd H1 t1 (.tup [V.str "x", V.str "y", V.str "z"])) t3 (.tup [V.str "x", V.str "y"])) t4 (.tup [V.str "ab", V.str "b", V.str "ba"])) tl (.lst [.ref t1, .ref t3, .ref t4]) := ⟨_, rfl⟩
    have s12 : Same H1 H2 := by rw [eH2]; exact (((same_new k1 _).trans (same_new k3 _)).trans (same_new k4 _)).trans (same_new ktl _)
    have etl : H2 tl = some (.lst [.ref t1, .ref t3, .ref t4]) := by rw [eH2, upd_same]
    have nm4 : ∀ x ∈ [V.ref t1, V.ref t3, V.ref t4], ∃ nb nms, x = .ref nb ∧ H2 nb = some (.tup (nms.map V.str)) ∧ NsOk nms := by
      have e4 := same_new ktl (.lst [V.ref t1, .ref t3, .ref t4])
      have e3 := (same_new k4 (.tup [V.str "ab", V.str "b", V.str "ba"])).trans e4
      have e2 := (same_new k3 (.tup [V.str "x", V.str "y"])).trans e3
      intro x hx
      simp only [List.mem_cons, List.not_mem_nil, or_false] at hx
      rcases hx with rfl | rfl | rfl
      · exact ⟨t1, ["x", "y", "z"], rfl, by rw [eH2]; exact e2 _ _ upd_same, nsok_by rfl⟩
      · exact ⟨t3, ["x", "y"], rfl, by rw [eH2]; exact e3 _ _ upd_same, nsok_by rfl⟩
      · exact ⟨t4, ["ab", "b", "ba"], rfl, by rw [eH2]; exact e4 _ _ upd_same, nsok_by rfl⟩
    have hd2 := hd1.same s12
    have tl1 : tl ≠ p ∧ tl ≠ l := by
      obtain ⟨ns', b', q1, q2, q3, _⟩ := hd2
      refine ⟨fun z => ?_, fun z => ?_⟩
      · rw [z, q1] at etl
        cases etl
      · have := ne_of_none (((same_new k1 _).trans (same_new k3 _)).trans (same_new k4 (.tup [V.str "ab", V.str "b", V.str "ba"])) _ _ ((DealAt.l_some hd1).choose_spec)) ktl
        exact this z.symm
    rw [← eH2]
    refine ⟨p, l, tl, _, rfl, hd2, fun H' k => SqX.lst (k _ _ etl tl1.1 tl1.2), ⟨by show 1 ≤ 3; decide, by show 3 ≤ 1000; decide⟩, fun x H3 hx k3 hd3 => ?_⟩
    obtain ⟨nb, nms, rfl, enb, nok⟩ := nm4 x hx
    obtain ⟨nb1, nb2⟩ := hd2.ne_tup enb
    have enb3 := k3 _ _ enb nb1 nb2
    have Pp : Pt ≠ p := ne_of_none eP kp
    have Pl : Pt ≠ l := ne_of_none eP kl
    have eP3 := k3 _ _ (s12 _ _ eP1) Pp Pl
    clear nm4 eH2 etl tl1 s12 hd2 enb k3
    refine ⟨_, rfl, _, rfl, p, l, nb, 4, nms, rfl, hd3, enb3, ⟨by decide, by decide⟩, nok, fun a its ls H4 ka k4 hd4 ea al okl ll => ?_⟩
    obtain ⟨a1, a2⟩ := hd3.ne_none ka
    have enb4 := k4 _ _ enb3 nb1 nb2
    have eP4 := k4 _ _ eP3 Pp Pl
    have ll4 : ls.length ≤ 4 := by omega
    let SA : Addr → Option V → Option V → Option V → Option V → Option V → Option V → Option V → Option V → Option V → Option V → Option V → Option V → L2.St := fun b mi ex tt uu pp dd ww at_ to_ bt gl hl => [some (.ref a0), some (.ref p), some (.ref nb), some (.ref a), some (.ref b), mi, ex, tt, uu, pp, dd, ww, at_, to_, bt, gl, hl, none, none]
    refine ⟨fun σ H' => ∃ b jts hs, σ = SA b none none none none none none none none none none none none ∧ WL Pt p l nb a b its jts ls hs H' ∧ (∀ x ∈ hs, LotOk nms x) ∧ hs.length ≤ 4, ?_, ?_⟩
    · refine ⟨_, rfl, p, l, 3, rfl, by decide, hd4, fun d H5 d0 d1 k5 hd5 => ⟨_, _, rfl, rfl, _, rfl, ?_⟩⟩
      have ea5 := k5 _ _ ea a1 a2
      have al5 := al.imp fun _ _ t => t.fix (k5.fix hd4)
      have enb5 := k5 _ _ enb4 nb1 nb2
      have eP5 := k5 _ _ eP4 Pp Pl
      refine iteD (fun _ => ?_) fun _ => ?_
      · refine ⟨_, rfl, _, rfl, p, l, a, its, ls, nms, rfl, hd5, ea5, ⟨a1, a2⟩, al5, okl, by omega, nok, fun b0 jts hs H6 kb k6 hd6 eb bl okh lh => ?_⟩
        refine ⟨_, rfl, b0, jts, rfl, SqL.of eb, fun b kb2 => ?_⟩
        have s7 := same_new kb2 (.lst (cutV jts none (some 4)))
        have e7 : upd H6 b (.lst (cutV jts none (some 4))) b = some (.lst (jts.take 4)) := by rw [upd_same, show (some (4 : Int)) = some ((4 : Nat) : Int) from rfl, cut_take]
        refine ⟨b, jts.take 4, hs.take 4, rfl, ⟨hd6.same s7, s7 _ _ (k6 _ _ eP5 Pp Pl), s7 _ _ (k6 _ _ ea5 a1 a2), e7, (al5.imp fun _ _ t => t.fix (k6.fix hd5)).imp fun _ _ t => t.fix (Fix.of s7), all2_take (bl.imp fun _ _ t => t.fix (Fix.of s7)) 4, ⟨⟨a1, a2⟩, hd6.ne_none kb2, Pp, Pl⟩⟩, fun x m => okh x (List.mem_of_mem_take m), by rw [List.length_take]; omega⟩
      · refine ⟨_, rfl, _, rfl, p, l, nb, 3, nms, rfl, hd5, enb5, ⟨by decide, by decide⟩, nok, fun b jts hs H6 kb k6 hd6 eb bl okh lh => ?_⟩
        exact ⟨b, jts, hs, rfl, ⟨hd6, k6 _ _ eP5 Pp Pl, k6 _ _ ea5 a1 a2, eb, al5.imp fun _ _ t => t.fix (k6.fix hd5), bl, ⟨⟨a1, a2⟩, hd5.ne_none kb, Pp, Pl⟩⟩, okh, by omega⟩
    clear hd4 ea al k4 enb4 eP4 ka enb3 eP3 hd3
    rintro σ H5 ⟨b, jts, hs, rfl, w5, okh, lh4⟩
    have ndl : ∀ x ∈ ls, x.Nodup := fun x m => asc_nodupS (okl x m).2.1
    have ndh : ∀ x ∈ hs, x.Nodup := fun x m => asc_nodupS (okh x m).2.1
    have lnI : its.length = ls.length := w5.al.len
    have lnJ : jts.length = hs.length := w5.bl.len
    have len4 : ∀ {x : List Str}, LotOk nms x → x.length ≤ 4 := fun h => Nat.le_trans (nodup_len (asc_nodupS h.2.1) h.2.2) nok.ln
    refine ⟨fun σ H' => ∃ mi ex : Nat, σ = SA b (some (natV mi)) (some (natV ex)) none none none none none none none none none none ∧ WL Pt p l nb a b its jts ls hs H' ∧ mi < 6 ∧ ex < 6, ?_, ?_⟩
    · refine ⟨_, rfl, p, l, 6, rfl, by decide, w5.hd, fun d1 H6 d10 d11 k6 hd6 => ⟨_, rfl, p, l, 6, rfl, by decide, hd6, fun d2 H7 d20 d21 k7 hd7 => ?_⟩⟩
      obtain ⟨mi, rfl⟩ := Int.eq_ofNat_of_zero_le d10
      obtain ⟨ex, rfl⟩ := Int.eq_ofNat_of_zero_le d20
      exact ⟨_, _, rfl, mi, ex, rfl, (w5.two k6 hd6).two k7 hd7, by omega, by omega⟩
    clear w5
    rintro σ H6 ⟨mi, ex0, rfl, w6, mi6, ex6⟩
    have totB : ∀ (us : List (List Str)), (∀ x ∈ us, x.length ≤ 4) → us.length ≤ 4 → 0 ≤ Kw.tot us ∧ Kw.tot us ≤ 16 := fun us h l => by
      have : ∀ us : List (List Str), (∀ x ∈ us, x.length ≤ 4) → Kw.tot us ≤ 4 * (us.length : Nat) := fun us => by
        induction us with
        | nil => exact fun _ => by show (0 : Int) ≤ 4 * ((0 : Nat) : Int); omega
        | cons x us ih =>
          intro h
          have h1 := ih fun y m => h y (.tail _ m)
          have h2 := h x (.head _)
          rw [Kw.tot_cons, List.length_cons]; omega
      have := this us h
      exact ⟨Kw.tot_nn us, by omega⟩
    have tL := totB ls (fun x m => len4 (okl x m)) ll4
    have tH := totB hs (fun x m => len4 (okh x m)) lh4
    refine ⟨fun σ H' => ∃ ex : Nat, σ = SA b (some (natV mi)) (some (natV ex)) none none none none none none none none none none ∧ WL Pt p l nb a b its jts ls hs H' ∧ ex ≤ 100, ?_, ?_⟩
    · refine ⟨_, rfl, p, l, 4, rfl, by decide, w6.hd, fun d H7 _ _ k7 hd7 => ⟨rfl, _, rfl, ?_⟩⟩
      have w7 := w6.two k7 hd7
      refine iteD (fun _ => ?_) (fun _ => ⟨ex0, rfl, w7, by omega⟩)
      refine ⟨_, rfl, ?_⟩
      refine ⟨_, rfl, a, its, rfl, SqX.lst ((Same.refl H7) _ _ w7.ea), fun J S W0 z0 D kD => ?_⟩
      refine lc_mf (ds := ls) W0 (fun _ => true) (fun _ y x => y = .int (((x : List Str).length : Nat) : Int)) z0 kD lnI (fun i y x H' ey exx s m => ?_) (fun H8 ys s8 e al0 => ?_)
      · obtain ⟨x', exx', xb, rfl, hx⟩ := w7.al.get ey
        rw [exx] at exx'
        obtain rfl := Option.some.inj exx'
        have l4 := len4 (okl x (at_mem exx))
        refine ⟨rfl, _, rfl, xb, _, rfl, .inr (SqT.of (((Same.refl H7).trans s) _ _ hx)), ?_⟩
        rw [List.length_map]
        exact mf_yes m kD (fun _ _ _ _ _ h => h) exx (by omega) (Same.refl _) rfl rfl
      rw [Rd.filter_all] at al0
      have ey := al0.map_eq (f := fun x : List Str => V.int ((x.length : Nat) : Int)) fun _ _ h => h
      have eD : H8 D = some (.lst ((ls.map fun x => ((x.length : Nat) : Int)).map V.int)) := by rw [e, ey, List.map_map]; rfl
      clear ey e al0
      refine ⟨D, _, rfl, SqL.of eD, _, _, rfl, rfl, .inl ⟨by omega, by omega⟩, _, _, rfl, rfl, ?_⟩
      have : 0 ≤ (mi : Int) * Kw.tot ls ∧ (mi : Int) * Kw.tot ls ≤ 80 := by
        have h1 := Int.mul_nonneg (Int.natCast_nonneg mi) tL.1
        have h2 := Int.mul_le_mul (show (mi : Int) ≤ 5 by omega) tL.2 tL.1 (by decide)
        omega
      obtain ⟨ex, eex⟩ := Int.eq_ofNat_of_zero_le (show 0 ≤ 1 + (mi : Int) * Kw.tot ls by omega)
      refine ⟨ex, ?_, w7.same s8, by omega⟩
      show SA b (some (natV mi)) (some (.int (1 + (mi : Int) * Kw.tot ls))) none none none none none none none none none none = _
      rw [eex]; rfl
    clear w6 ex6 ex0
    rintro σ H7 ⟨ex, rfl, w7, exb⟩
    -- tale, told
    refine ⟨fun σ H' => ∃ tt uu, σ = SA b (some (natV mi)) (some (natV ex)) (some (.ref tt)) (some (.ref uu)) none none none none none none none none ∧ WL Pt p l nb a b its jts ls hs H' ∧ H' tt = some (.tup its) ∧ H' uu = some (.tup jts), ?_, ?_⟩
    · refine ⟨_, rfl, a, its, rfl, .inl ⟨SqL.of w7.ea, fun tt ktt => ⟨_, rfl, b, jts, rfl, .inl ⟨SqL.of ((same_new ktt (.tup its)) _ _ w7.eb), fun uu kuu => ?_⟩⟩⟩⟩
      have s8 := same_new ktt (.tup its)
      have s9 := same_new kuu (.tup jts)
      exact ⟨_, _, rfl, tt, uu, rfl, w7.same (s8.trans s9), s9 _ _ upd_same, upd_same⟩
    clear w7
    rintro σ H8 ⟨tt, uu, rfl, w8, et8, eu8⟩
    have binOf : ∀ {H'}, WL Pt p l nb a b its jts ls hs H' → H' tt = some (.tup its) → H' uu = some (.tup jts) → BIn K H' (.ref tt) (.ref uu) (natV mi) (natV ex) (tD ls) (tD hs) (.int (mi : Nat)) (.int (ex : Nat)) ls hs (mi : Nat) (ex : Nat) := fun w e1 e2 =>
      ⟨⟨tale_dp e1 w.al, tale_dp e2 w.bl, tale_sm nok okl (by omega), tale_sm nok okh (by omega), fun _ => ⟨tt, uu, rfl, rfl, ⟨its, e1, w.al.imp fun _ _ r => lotH_S r⟩, ⟨jts, e2, w.bl.imp fun _ _ r => lotH_S r⟩⟩, by omega, by omega, fun h m => by have := len4 (okh h m); omega, fun h m => by have := len4 (okl h m); omega⟩, .int _, .int _, fun _ => ⟨rfl, rfl⟩⟩
    have noF := no_first (tale_D nok okl) (tale_D nok okh)
    have noP : priceE (.int (mi : Nat)) (.int (ex : Nat)) = none := by
      have nm : ∀ k : Nat, numD (.int (k : Nat)) = true := fun k => decide_eq_true (Int.natCast_nonneg k)
      unfold priceE
      rw [if_neg (by rw [nm]; decide), if_neg (by rw [nm]; decide)]
    have brf : ∀ {E0 : XK} {H'}, BRef C D E0 H' (tD ls) (tD hs) (.int (mi : Nat)) (.int (ex : Nat)) := fun {E0 H'} => ⟨fun k hk => (by rw [noF] at hk; cases hk), fun _ x hx => (by rw [noP] at hx; cases hx)⟩
    have m0 : (0 : Int) ≤ (mi : Nat) := Int.natCast_nonneg mi
    have e0 : (0 : Int) ≤ (ex : Nat) := Int.natCast_nonneg ex
    let due : Int := Kw.least (mi : Nat) (ex : Nat) ls hs
    have eW : ∀ i j, Kw.W (mi : Nat) (ex : Nat) ls hs i j = Kw.least (mi : Nat) (ex : Nat) (ls.take i) (hs.take j) := fun i j => Kw.W_least _ _ ndl ndh i j
    have eWn : Kw.W (mi : Nat) (ex : Nat) ls hs ls.length hs.length = due := by rw [eW, List.take_length, List.take_length]
    have dnn : 0 ≤ due := Kw.least_nn m0 e0 _ ls hs (Nat.le_refl _)
    have dtop : due ≤ 10000 := by
      have h := Kw.least_top m0 e0 _ ls hs (Nat.le_refl _)
      have h1 := Int.mul_le_mul (show ((mi : Nat) : Int) ≤ 5 by omega) tL.2 tL.1 (by decide)
      have h2 := Int.mul_le_mul (show ((ex : Nat) : Int) ≤ 100 by omega) tH.2 tH.1 (by decide)
      show Kw.least _ _ _ _ ≤ _
      omega
    have dlog : due.natAbs.log2 < 1920 := by
      obtain ⟨k, ek⟩ := Int.eq_ofNat_of_zero_le dnn
      rw [ek, Int.natAbs_natCast]
      by_cases c : k = 0
      · rw [c]; decide
      · exact Nat.lt_trans ((Nat.log2_lt c).mpr (show k < 2 ^ 14 by omega)) (by decide)
    let mV := some (natV mi)
    let eV := some (natV ex)
    let tV := some (V.ref tt)
    let uV := some (V.ref uu)
    let dV := some (V.int due)
    refine ⟨fun σ H' => ∃ pp tl tits T, σ = SA b mV eV tV uV (some (.ref pp)) dV none none none none none none ∧ WL Pt p l nb a b its jts ls hs H' ∧ H' tt = some (.tup its) ∧ H' uu = some (.tup jts) ∧ H' pp = some (.tup [.int due, .ref tl]) ∧ H' tl = some (.tup tits) ∧ All2 (PrV H') tits T ∧ TlS (mi : Nat) (ex : Nat) ls hs 0 0 T, ?_, ?_⟩
    · refine ⟨_, rfl, _, rfl, _, rfl, _, rfl, .ref tt, .ref uu, natV mi, natV ex, tD ls, tD hs, .int (mi : Nat), .int (ex : Nat), ls, hs, (mi : Nat), (ex : Nat), rfl, binOf w8 et8 eu8, fun _ _ pp tl tits T H9 s9 epp etl alT tlT => ?_, brf⟩
      have w9 := w8.same s9
      refine ⟨_, rfl, _, rfl, _, rfl, _, rfl, a, b, ls, hs, nms, (mi : Nat), (ex : Nat), rfl, ⟨its, w9.ea, w9.al⟩, ⟨jts, w9.eb, w9.bl⟩, nok, okl, okh, by omega, by decide, fun H10 s10 => ⟨_, _, rfl, ?_⟩⟩
      rw [eWn] at epp
      exact ⟨pp, tl, tits, T, rfl, w9.same s10, (s9.trans s10) _ _ et8, (s9.trans s10) _ _ eu8, s10 _ _ epp, s10 _ _ etl, alT.imp fun _ _ r => r.same s10, tlT⟩
    clear w8 et8 eu8
    rintro σ H9 ⟨pp, tl, tits, T, rfl, w9, et9, eu9, epp, etl, alT, tlT⟩
    refine ⟨fun σ H' => σ = SA b mV eV tV uV (some (.ref pp)) dV none none none none none none ∧ H' = H9, ?_, ?_⟩
    · have ty : TyX K H9 (.ref pp) (.type "tuple") := ty_tup (SqT.of epp)
      refine ⟨_, rfl, _, .ty "tuple", _, _, _, rfl, .ty "tuple", ty, kit_ty (a := "tuple") (b := "tuple") (r := true) (by decide +kernel), _, rfl, iteF ?_⟩
      refine ⟨_, rfl, pp, _, rfl, .inr (SqT.of epp), rfl, _, rfl, iteF ?_⟩
      exact ⟨_, rfl, pp, _, _, _, rfl, rfl, SqT.of epp, atI_nat (j := 0) rfl, some due, rfl, fun k hk => (by cases hk; exact dlog), _, rfl, some due, rfl, fun k hk => (by cases hk; exact dlog), rfl, _, rfl, by rw [decide_eq_true rfl]; exact iteF ⟨rfl, rfl⟩⟩
    rintro σ H9 ⟨rfl, rfl⟩
    refine ⟨fun σ H' => σ = SA b mV eV tV uV (some (.ref pp)) dV none none none none none none ∧ Same H9 H', ?_, ?_⟩
    · exact ⟨_, rfl, _, rfl, _, rfl, _, rfl, _, rfl, _, rfl, pp, _, _, _, rfl, rfl, SqT.of epp, atI_nat (j := 1) rfl, a, b, tl, ls, hs, nms, (mi : Nat), (ex : Nat), tits, T, rfl, ⟨its, w9.ea, w9.al⟩, ⟨jts, w9.eb, w9.bl⟩, nok, okl, okh, by omega, by omega, etl, alT, tlT, fun H10 s10 => ⟨_, rfl, iteF ⟨rfl, s10⟩⟩⟩
    rintro σ H10 ⟨rfl, s10⟩
    have w10 := w9.same s10
    have et10 := s10 _ _ et9
    have eu10 := s10 _ _ eu9
    clear w9 et9 eu9 epp etl alT tlT s10
    let pV := some (V.ref pp)
    -- worths
    refine ⟨fun σ H' => ∃ ww wits, σ = SA b mV eV tV uV pV dV (some (.ref ww)) none none none none none ∧ WL Pt p l nb a b its jts ls hs H' ∧ H' tt = some (.tup its) ∧ H' uu = some (.tup jts) ∧ H' ww = some (.tup wits) ∧ All2 (RowT H') wits (Wg (mi : Nat) (ex : Nat) ls hs), ?_, ?_⟩
    · refine ⟨_, rfl, _, rfl, _, rfl, _, rfl, rfl, rfl, .ref tt, .ref uu, natV mi, natV ex, tD ls, tD hs, .int (mi : Nat), .int (ex : Nat), ls, hs, (mi : Nat), (ex : Nat), rfl, binOf w10 et10 eu10, fun _ _ ww wits H11 s11 eww alw => ?_, brf⟩
      exact ⟨ww, wits, rfl, w10.same s11, s11 _ _ et10, s11 _ _ eu10, eww, alw⟩
    clear w10 et10 eu10
    rintro σ H11 ⟨ww, wits, rfl, w11, et11, eu11, eww, alw⟩
    have wwn : ww ≠ p ∧ ww ≠ l := w11.hd.ne_tup eww
    have ttn : tt ≠ p ∧ tt ≠ l := w11.hd.ne_tup et11
    have uun : uu ≠ p ∧ uu ≠ l := w11.hd.ne_tup eu11
    refine ⟨fun σ H' => ∃ i j : Nat, σ = SA b mV eV tV uV pV dV (some (.ref ww)) (some (natV i)) (some (natV j)) none none none ∧ i ≤ ls.length ∧ j ≤ hs.length ∧ Kept2 p l H11 H' ∧ DealAt H' p l, ?_, ?_⟩
    · refine ⟨_, rfl, _, rfl, a, its, rfl, .inl (SqL.of w11.ea), ?_⟩
      rw [lnI]
      refine ⟨_, _, rfl, rfl, p, l, _, rfl, ⟨by omega, by omega⟩, w11.hd, fun d1 H12 d10 d11 k12 hd12 => ?_⟩
      have w12 := w11.two k12 hd12
      refine ⟨_, rfl, _, rfl, b, jts, rfl, .inl (SqL.of w12.eb), ?_⟩
      rw [lnJ]
      refine ⟨_, _, rfl, rfl, p, l, _, rfl, ⟨by omega, by omega⟩, hd12, fun d2 H13 d20 d21 k13 hd13 => ?_⟩
      obtain ⟨i, rfl⟩ := Int.eq_ofNat_of_zero_le d10
      obtain ⟨j, rfl⟩ := Int.eq_ofNat_of_zero_le d20
      exact ⟨_, _, rfl, i, j, rfl, by omega, by omega, k12.trans k13, hd13⟩
    rintro σ H12 ⟨i, j, rfl, hi, hj, k12, hd12⟩
    have w12 := w11.two k12 hd12
    have et12 := k12 _ _ et11 ttn.1 ttn.2
    have eu12 := k12 _ _ eu11 uun.1 uun.2
    have eww12 := k12 _ _ eww wwn.1 wwn.2
    have alw12 := alw.imp fun _ _ r => r.fix (k12.fix w11.hd)
    clear w11 et11 eu11 eww alw k12 hd12
    let S12 : L2.St := SA b mV eV tV uV pV dV (some (.ref ww)) (some (natV i)) (some (natV j)) none none none
    refine ⟨fun σ H' => σ = S12 ∧ Same H12 H', ?_, ?_⟩
    · obtain ⟨rb, row, a1', a2', a3'⟩ := wcell eww12 alw12 hi hj
      refine ⟨_, rfl, _, rfl, ww, wits, _, _, rfl, rfl, SqT.of eww12, a1', _, rfl, rb, row, _, _, rfl, rfl, SqT.of a2', a3', ?_⟩
      refine ⟨_, rfl, _, rfl, _, rfl, a, its, rfl, SqL.of w12.ea, fun q1 kq1 => ?_⟩
      have s13 := same_new kq1 (.lst (cutV its none (some (i : Nat))))
      have e13 : upd H12 q1 (.lst (cutV its none (some (i : Nat)))) q1 = some (.lst (its.take i)) := by rw [upd_same, cut_take]
      generalize upd H12 q1 (.lst (cutV its none (some (i : Nat)))) = H13 at s13 e13 ⊢
      refine ⟨_, rfl, _, rfl, _, rfl, b, jts, rfl, SqL.of (s13 _ _ w12.eb), fun q2 kq2 => ?_⟩
      have s14 := same_new kq2 (.lst (cutV jts none (some (j : Nat))))
      have e14 : upd H13 q2 (.lst (cutV jts none (some (j : Nat)))) q2 = some (.lst (jts.take j)) := by rw [upd_same, cut_take]
      have e134 := s14 _ _ e13
      generalize upd H13 q2 (.lst (cutV jts none (some (j : Nat)))) = H14 at s14 e14 e134 ⊢
      have s24 := s13.trans s14
      have li : (ls.take i).length ≤ ls.length := List.length_take_le' ..
      have lj : (hs.take j).length ≤ hs.length := List.length_take_le' ..
      refine ⟨_, rfl, _, rfl, q1, q2, ls.take i, hs.take j, nms, (mi : Nat), (ex : Nat), rfl, ⟨_, e134, all2_take (w12.al.imp fun _ _ r => r.fix (Fix.of s24)) i⟩, ⟨_, e14, all2_take (w12.bl.imp fun _ _ r => r.fix (Fix.of s24)) j⟩, nok, fun x m => okl x (List.mem_of_mem_take m), fun x m => okh x (List.mem_of_mem_take m), by omega, by decide, fun H15 s15 => ⟨rfl, _, rfl, ?_⟩⟩
      rw [eW, decide_eq_true rfl]
      exact iteF ⟨rfl, s24.trans s15⟩
    rintro σ H13 ⟨rfl, s13⟩
    have w13 := w12.same s13
    have et13 := s13 _ _ et12
    have eu13 := s13 _ _ eu12
    have eww13 := s13 _ _ eww12
    have alw13 := alw12.imp fun _ _ r => r.same s13
    clear w12 et12 eu12 eww12 alw12 s13
    obtain ⟨gl1, gl2⟩ := Wg_lens (mi : Nat) (ex : Nat) ls hs
    have smW : SmG (gD (Wg (mi : Nat) (ex : Nat) ls hs)) := gD_sm (by omega) fun r m => by rw [gl2 r m]; omega
    refine ⟨fun σ H' => σ = S12 ∧ Same H13 H', ?_, ?_⟩
    · refine ⟨_, rfl, _, rfl, _, rfl, _, rfl, _, rfl, _, rfl, .ref tt, .ref uu, natV mi, natV ex, .ref ww, tD ls, tD hs, .int (mi : Nat), .int (ex : Nat), gD (Wg (mi : Nat) (ex : Nat) ls hs), ls, hs, (mi : Nat), (ex : Nat), due, rfl, binOf w13 et13 eu13, gD_dg eww13 alw13, smW, fun _ _ H14 s14 => ⟨_, rfl, ?_⟩, brf⟩
      rw [hold_Wg, eWn, decide_eq_true (Int.le_refl due)]
      refine iteF ⟨_, rfl, _, rfl, _, rfl, _, rfl, _, rfl, _, _, rfl, rfl, _, rfl, .ref tt, .ref uu, natV mi, natV ex, .ref ww, tD ls, tD hs, .int (mi : Nat), .int (ex : Nat), gD (Wg (mi : Nat) (ex : Nat) ls hs), ls, hs, (mi : Nat), (ex : Nat), due + 1, rfl, binOf (w13.same s14) (s14 _ _ et13) (s14 _ _ eu13), gD_dg (s14 _ _ eww13) (alw13.imp fun _ _ r => r.same s14), smW, fun _ _ H15 s15 => ⟨_, rfl, ?_⟩, brf⟩
      rw [hold_Wg, eWn, decide_eq_false (by omega)]
      exact iteF ⟨rfl, s14.trans s15⟩
    rintro σ H14 ⟨rfl, s14⟩
    have w14 := w13.same s14
    have et14 := s14 _ _ et13
    have eu14 := s14 _ _ eu13
    have eww14 := s14 _ _ eww13
    have alw14 := alw13.imp fun _ _ r => r.same s14
    clear w13 et13 eu13 eww13 alw13 s14
    -- bent, goal
    refine ⟨fun σ H' => ∃ (v : V) (d : PyData) (gl : Int), σ = SA b mV eV tV uV pV dV (some (.ref ww)) (some (natV i)) (some (natV j)) (some v) (some (.int gl)) none ∧ Kept2 p l H14 H' ∧ DealAt H' p l ∧ SmG d ∧ DG K H' v d, ?_, ?_⟩
    · refine ⟨_, rfl, _, rfl, p, l, ww, wits, _, hs.length + 1, rfl, w14.hd, eww14, alw14, ⟨by omega, by omega⟩, gl2, ⟨by omega, by omega⟩, fun v d H15 k15 hd15 sm dg => ?_⟩
      refine ⟨_, rfl, _, rfl, p, l, 3, rfl, by decide, hd15, fun d3 H16 _ _ k16 hd16 => ⟨_, _, rfl, rfl, _, _, rfl, rfl, _, _, rfl, ?_⟩⟩
      exact ⟨v, d, _, rfl, k15.trans k16, hd16, sm, dg _ k16⟩
    rintro σ H15 ⟨v, d, gl, rfl, k15, hd15, smd, dgv⟩
    have w15 := w14.two k15 hd15
    have et15 := k15 _ _ et14 ttn.1 ttn.2
    have eu15 := k15 _ _ eu14 uun.1 uun.2
    clear w14 et14 eu14 eww14 alw14 k15 hd15
    -- holds
    refine ⟨fun σ H' => σ = SA b mV eV tV uV pV dV (some (.ref ww)) (some (natV i)) (some (natV j)) (some v) (some (.int gl)) (some (.bl (holdV (mi : Nat) (ex : Nat) ls hs gl d))) ∧ Same H15 H', ?_, ?_⟩
    · exact ⟨_, rfl, _, rfl, _, rfl, _, rfl, _, rfl, _, rfl, rfl, rfl, .ref tt, .ref uu, natV mi, natV ex, v, tD ls, tD hs, .int (mi : Nat), .int (ex : Nat), d, ls, hs, (mi : Nat), (ex : Nat), gl, rfl, binOf w15 et15 eu15, dgv, smd, fun _ _ H16 s16 => ⟨rfl, s16⟩, brf⟩
    rintro σ H16 ⟨rfl, s16⟩
    refine ⟨fun σ H' => σ = SA b mV eV tV uV pV dV (some (.ref ww)) (some (natV i)) (some (natV j)) (some v) (some (.int gl)) (some (.bl (holdV (mi : Nat) (ex : Nat) ls hs gl d))) ∧ Same H15 H', ?_, ?_⟩
    · have w16 := w15.same s16
      refine ⟨_, rfl, _, rfl, ?_⟩
      refine ⟨_, rfl, _, rfl, _, rfl, _, rfl, _, rfl, _, rfl, a, b, ls, hs, nms, (mi : Nat), (ex : Nat), gl, v, d, rfl, ⟨its, w16.ea, w16.al⟩, ⟨jts, w16.eb, w16.bl⟩, nok, okl, okh, by omega, by omega, dgv.same s16, smd, fun H17 s17 => ⟨_, rfl, rfl, _, rfl, ?_⟩⟩
      rw [decide_eq_true rfl]
      exact iteF ⟨rfl, s16.trans s17⟩
    rintro σ H17 ⟨rfl, s17⟩
    have w17 := w15.same s17
    have et17 := s17 _ _ et15
    have eu17 := s17 _ _ eu15
    clear w15 et15 eu15 s16 s17 dgv
    let SB : Option V → L2.St := fun o => [some (.ref a0), some (.ref p), some (.ref nb), some (.ref a), some (.ref b), mV, eV, tV, uV, pV, dV, some (.ref ww), some (natV i), some (natV j), some v, some (.int gl), some (.bl (holdV (mi : Nat) (ex : Nat) ls hs gl d)), o, none]
    have mb : -(2 ^ 64) < (mi : Int) ∧ (mi : Int) < 2 ^ 64 := ⟨by omega, by omega⟩
    refine ⟨fun σ H' => (∃ o, σ = SB o) ∧ Same H17 H', ?_, ?_⟩
    · refine ⟨_, rfl, _, rfl, .ref tt, .ref uu, tD ls, tD hs, ls, hs, rfl, (binOf w17 et17 eu17).t, fun _ H18 s18 => ⟨rfl, _, rfl, ?_⟩, fun k hk => (by rw [noF] at hk; cases hk)⟩
      cases em : stuckN ls hs with
      | some k => exact iteF (iteF ⟨⟨none, rfl⟩, s18⟩)
      | none =>
        have w18 := w17.same s18
        refine iteT ⟨_, rfl, _, rfl, ?_⟩
        refine ⟨_, rfl, a, its, rfl, SqX.lst ((Same.refl H18) _ _ w18.ea), fun J S W0 z0 D1 kD => ?_⟩
        refine lc_mf (ds := ls) W0 (fun _ => true) (fun _ y x => y = .int (((x : List Str).length : Nat) : Int)) z0 kD lnI (fun i y x H' ey exx s m => ?_) (fun H19 ys s19 e al0 => ?_)
        · obtain ⟨x', exx', xb, rfl, hx⟩ := w18.al.get ey
          rw [exx] at exx'
          obtain rfl := Option.some.inj exx'
          have l4 := len4 (okl x (at_mem exx))
          refine ⟨rfl, _, rfl, xb, _, rfl, .inr (SqT.of (((Same.refl H18).trans s) _ _ hx)), ?_⟩
          rw [List.length_map]
          exact mf_yes m kD (fun _ _ _ _ _ h => h) exx (by omega) (Same.refl _) rfl rfl
        rw [Rd.filter_all] at al0
        have ey := al0.map_eq (f := fun x : List Str => V.int ((x.length : Nat) : Int)) fun _ _ h => h
        have eD : H19 D1 = some (.lst ((ls.map fun x => ((x.length : Nat) : Int)).map V.int)) := by rw [e, ey, List.map_map]; rfl
        clear ey e al0
        refine ⟨D1, _, rfl, SqL.of eD, _, _, rfl, rfl, .inl mb, _, _, rfl, rfl, _, rfl, ?_⟩
        refine iteD (fun _ => ?_) (fun _ => ⟨⟨none, rfl⟩, s18.trans s19⟩)
        have w19 := w18.same s19
        have s1719 := s18.trans s19
        clear eD
        refine ⟨_, rfl, _, rfl, .ref tt, .ref uu, tD ls, tD hs, ls, hs, rfl, (binOf w19 (s1719 _ _ et17) (s1719 _ _ eu17)).t, fun _ _ lp H20 s20 elp => ?_, fun m _ em' => (by rw [em] at em'; cases em'), fun k hk => (by rw [noF] at hk; cases hk)⟩
        have w20 := w19.same s20
        refine ⟨_, rfl, _, rfl, ?_⟩
        refine ⟨_, rfl, a, its, rfl, SqX.lst ((Same.refl H20) _ _ w20.ea), fun J S W0 z0 D2 kD => ?_⟩
        refine lc_mf (ds := ls) W0 (fun _ => true) (fun _ y x => y = .int (((x : List Str).length : Nat) : Int)) z0 kD lnI (fun i y x H' ey exx s m => ?_) (fun H21 ys s21 e al0 => ?_)
        · obtain ⟨x', exx', xb, rfl, hx⟩ := w20.al.get ey
          rw [exx] at exx'
          obtain rfl := Option.some.inj exx'
          have l4 := len4 (okl x (at_mem exx))
          refine ⟨rfl, _, rfl, xb, _, rfl, .inr (SqT.of (((Same.refl H20).trans s) _ _ hx)), ?_⟩
          rw [List.length_map]
          exact mf_yes m kD (fun _ _ _ _ _ h => h) exx (by omega) (Same.refl _) rfl rfl
        rw [Rd.filter_all] at al0
        have ey := al0.map_eq (f := fun x : List Str => V.int ((x.length : Nat) : Int)) fun _ _ h => h
        have eD : H21 D2 = some (.lst ((ls.map fun x => ((x.length : Nat) : Int)).map V.int)) := by rw [e, ey, List.map_map]; rfl
        clear ey e al0
        refine ⟨D2, _, rfl, SqL.of eD, ?_⟩
        clear eD
        refine ⟨_, rfl, b, jts, rfl, SqX.lst (s21 _ _ w20.eb), fun J S W0 z0 D3 kD => ?_⟩
        refine lc_mf (ds := hs) W0 (fun _ => true) (fun _ y x => y = .int (((x : List Str).length : Nat) : Int)) z0 kD lnJ (fun i y x H' ey exx s m => ?_) (fun H22 ys s22 e al0 => ?_)
        · obtain ⟨x', exx', xb, rfl, hx⟩ := w20.bl.get ey
          rw [exx] at exx'
          obtain rfl := Option.some.inj exx'
          have l4 := len4 (okh x (at_mem exx))
          refine ⟨rfl, _, rfl, xb, _, rfl, .inr (SqT.of ((s21.trans s) _ _ hx)), ?_⟩
          rw [List.length_map]
          exact mf_yes m kD (fun _ _ _ _ _ h => h) exx (by omega) (Same.refl _) rfl rfl
        rw [Rd.filter_all] at al0
        have ey := al0.map_eq (f := fun x : List Str => V.int ((x.length : Nat) : Int)) fun _ _ h => h
        have eD : H22 D3 = some (.lst ((hs.map fun x => ((x.length : Nat) : Int)).map V.int)) := by rw [e, ey, List.map_map]; rfl
        clear ey e al0
        refine ⟨D3, _, rfl, SqL.of eD, _, _, rfl, rfl, _, _, rfl, rfl, .inl mb, rfl, _, rfl, ?_⟩
        have edue : due = (mi : Nat) * (Kw.tot ls - Kw.tot hs) := Kw.least_laid m0 e0 okL_in (stuck_len em) ndl ndh
        refine (show if (!decide (V.int due = V.int ((mi : Nat) * (Kw.tot ls - Kw.tot hs)))) = true then _ else _ from ?_)
        rw [← edue, decide_eq_true rfl]
        have s2022 := s21.trans s22
        refine iteF ⟨_, rfl, lp, _, rfl, .inr (SqT.of (s2022 _ _ elp)), _, rfl, b, jts, rfl, .inl (SqL.of (s2022 _ _ w20.eb)), rfl, _, rfl, ?_⟩
        rw [List.length_map, stuck_len em, lnJ, decide_eq_true rfl]
        exact iteF ⟨⟨_, rfl⟩, s1719.trans (s20.trans s2022)⟩
    rintro σ H18 ⟨⟨o, rfl⟩, s18⟩
    have w18 := w17.same s18
    exact ⟨_, rfl, _, rfl, _, rfl, p, l, tt, uu, its, jts, ls, hs, nms, rfl, w18.hd, w18.eP, s18 _ _ et17, s18 _ _ eu17, w18.al, w18.bl, nok, okl, okh, by omega, by omega, q⟩
end
end K6

namespace K6
open PySem PySem.Spec PyProof.Rows L2 Hb St Sq Ow En Zp RZ Rd Xb Da Lg LamX Ty Lc Lp
/-- all parameters by name, from the last to the first -/
theorem kb_bwd {K : PySem.W.Frag} {x qual : Str} {st : Stmt} {f : Addr} {fd : FuncData} {ps ks : List Str} (F : Fun K x qual st f fd)
    (h : ∀ (kV doc pm : Value) (an : Option Addr) (cdv ct : Value) (ws : List Value), ws.length = ks.length → bindArgs (PySem.W.fnOf x qual (defArgs st) (defBody st) (defScope st) .none kV doc pm an cdv ct) ⟨[], ks.zip ws⟩ = pure (ps.zip ws.reverse)) : KBn K fd ps 0 ks (fun _ ws => ws.reverse) (fun _ zs => zs.reverse) := Kw.kb_rev F h
end K6

namespace K6
open PySem PySem.Spec PyProof.Rows L2 Hb St Sq Ow En Zp RZ Rd Xb Mn Wa Da Lg LamX Ty Lc Lp
theorem all_mk {l : PySem.W.OpenLaw} {w : World} {K : PySem.W.Frag} {h : Heap} {mg : Str → Option Value} {fa f_ref cL PL f_is_integer f_is_number f_is_name f_thin_lot f_is_lot f_is_tale f_need_tales f_is_part f_least_laying f_stuck_at f_first_laying f_need_laying f_need_prices f_pair_price f_steps_to f_blame_worths f_least_blame f_worths_hold f_is_grid f__law_heap f__law_draw f__law_pick f__law_tale f__law_less f__law_price f__law_least f__law_telling_right f__law_bent f__law_holds f__law_told f_law : Addr} (X : K.In h) (G : h.Ns mainGlobals mg) (hfa : mg "law" = some (.ref fa)) (own : ∀ fr, mg "_law_refusals_right" = some (.ref fr) → OwnTab K fr h) {B C D R : Addr} {tkL : Tok} {N_c fI_c : Addr} {nm_c q_c : Str} {bs_c : List Value} {sn_c : List Str} {sub_c : List Value} {ab_c : Bool} {col_c : Option Bool} {dd_c : Option Addr} {m0_c m1_c m2_c m3_c m5_c : Option Value} {ocI_c dcI_c pmI_c cdI_c ctI_c : Value} {odI_c anI_c : Option Addr} {slI_c : Array (Option Value)} {N_d fI_d : Addr} {nm_d q_d : Str} {bs_d : List Value} {sn_d : List Str} {sub_d : List Value} {ab_d : Bool} {col_d : Option Bool} {dd_d : Option Addr} {m0_d m1_d m2_d m3_d m5_d : Option Value} {ocI_d dcI_d pmI_d cdI_d ctI_d : Value} {odI_d anI_d : Option Addr} {slI_d : Array (Option Value)} {N_r fI_r : Addr} {nm_r q_r : Str} {bs_r : List Value} {sn_r : List Str} {sub_r : List Value} {ab_r : Bool} {col_r : Option Bool} {dd_r : Option Addr} {m0_r m1_r m2_r m3_r m5_r : Option Value} {ocI_r dcI_r pmI_r cdI_r ctI_r : Value} {odI_r anI_r : Option Addr} {slI_r : Array (Option Value)}
    {odL anL ddC od0 an0 od1 an1 od2 an2 od3 an3 od4 an4 od5 an5 od6 an6 od7 an7 od8 an8 od9 an9 od10 an10 od11 an11 od12 an12 od13 an13 od14 an14 od15 an15 od16 an16 od17 an17 od18 an18 od19 an19 od20 an20 od21 an21 od22 an22 od23 an23 od24 an24 od25 an25 od26 an26 od27 an27 od28 an28 od29 an29 od30 an30 : Option Addr} {slL slC sl0 sl1 sl2 sl3 sl4 sl5 sl6 sl7 sl8 sl9 sl10 sl11 sl12 sl13 sl14 sl15 sl16 sl17 sl18 sl19 sl20 sl21 sl22 sl23 sl24 sl25 sl26 sl27 sl28 sl29 sl30 : Array (Option Value)} {ocL kVL dcL pmL ctL clC oc0 kV0 dc0 pm0 cd0 ct0 oc1 kV1 dc1 pm1 cd1 ct1 oc2 kV2 dc2 pm2 cd2 ct2 oc3 kV3 dc3 pm3 cd3 ct3 oc4 kV4 dc4 pm4 cd4 ct4 oc5 kV5 dc5 pm5 cd5 ct5 oc6 kV6 dc6 pm6 cd6 ct6 oc7 kV7 dc7 pm7 cd7 ct7 oc8 kV8 dc8 pm8 cd8 ct8 oc9 kV9 dc9 pm9 cd9 ct9 oc10 kV10 dc10 pm10 cd10 ct10 oc11 kV11 dc11 pm11 cd11 ct11 oc12 kV12 dc12 pm12 cd12 ct12 oc13 kV13 dc13 pm13 cd13 ct13 oc14 kV14 dc14 pm14 cd14 ct14 oc15 kV15 dc15 pm15 cd15 ct15 oc16 kV16 dc16 pm16 cd16 ct16 oc17 kV17 dc17 pm17 cd17 ct17 oc18 kV18 dc18 pm18 cd18 ct18 oc19 kV19 dc19 pm19 cd19 ct19 oc20 kV20 dc20 pm20 cd20 ct20 oc21 kV21 dc21 pm21 cd21 ct21 oc22 kV22 dc22 pm22 cd22 ct22 oc23 kV23 dc23 pm23 cd23 ct23 oc24 kV24 dc24 pm24 cd24 ct24 oc25 kV25 dc25 pm25 cd25 ct25 oc26 kV26 dc26 pm26 cd26 ct26 oc27 kV27 dc27 pm27 cd27 ct27 oc28 kV28 dc28 pm28 cd28 ct28 oc29 kV29 dc29 pm29 cd29 ct29 oc30 kV30 dc30 pm30 cd30 ct30 : Value} {vsC : Array Value}
    (aB : PySem.W.nsIn K mainGlobals "BellError" = some (some (.ref B)))
    (aC_c : PySem.W.nsIn K mainGlobals "InvalidHeard" = some (some (.ref C)))
    (xL_c : K.lookup C = some (PySem.excClassObj nm_c q_c C N_c bs_c [.ref B, .type "Exception", .type "BaseException", .type "object"] true sn_c sub_c ab_c col_c dd_c m0_c m1_c m2_c m3_c m5_c "Exception.__new__"))
    (sa_c : PySem.W.findIn K (.ref C) "__setattr__" = some (some (.builtin "object.__setattr__")))
    (ga_c : PySem.W.findIn K (.ref C) "__getattribute__" = some (some (.builtin "BaseException.__getattribute__")))
    (gg_c : PySem.W.findIn K (.ref C) "__getattr__" = some none)
    (nb_c : PySem.W.findIn K (.ref C) "at" = some none)
    (aI_c : PySem.W.findIn K (.ref C) "__init__" = some (some (.ref fI_c)))
    (tI_c : PySem.W.typeIn K (.ref fI_c) = some (.type "function"))
    (lI_c : K.lookup fI_c = some ⟨ocI_c, odI_c, .func (PySem.W.fnOf "__init__" "InvalidHeard.__init__" (Xb.iA ⟨6, 17, 6, 21⟩ ⟨6, 23, 6, 25⟩) (Xb.iB ⟨7, 8, 7, 12⟩ ⟨7, 8, 7, 15⟩ ⟨7, 18, 7, 20⟩ ⟨7, 8, 7, 20⟩) Xb.iS .none .none dcI_c pmI_c anI_c cdI_c ctI_c), slI_c⟩)
    (cI_c : PySem.W.codeIn K cdI_c "InvalidHeard.__init__" = true)
    (kC_c : PySem.W.keepIn K (.ref C) = true)
    (eC_c : PySem.W.subIn K (.ref C) (.type "BaseException") = some true)
    (tC_c : PySem.W.typeIn K (.ref C) = some (.type "type"))
    (hC_c : PySem.W.hasDictIn K C = true)
    (sC_c : PySem.W.subIn K (.ref C) (.ref C) = some true)
    (aC_d : PySem.W.nsIn K mainGlobals "InvalidSize" = some (some (.ref D)))
    (xL_d : K.lookup D = some (PySem.excClassObj nm_d q_d D N_d bs_d [.ref B, .type "Exception", .type "BaseException", .type "object"] true sn_d sub_d ab_d col_d dd_d m0_d m1_d m2_d m3_d m5_d "Exception.__new__"))
    (sa_d : PySem.W.findIn K (.ref D) "__setattr__" = some (some (.builtin "object.__setattr__")))
    (ga_d : PySem.W.findIn K (.ref D) "__getattribute__" = some (some (.builtin "BaseException.__getattribute__")))
    (gg_d : PySem.W.findIn K (.ref D) "__getattr__" = some none)
    (nb_d : PySem.W.findIn K (.ref D) "word" = some none)
    (aI_d : PySem.W.findIn K (.ref D) "__init__" = some (some (.ref fI_d)))
    (tI_d : PySem.W.typeIn K (.ref fI_d) = some (.type "function"))
    (lI_d : K.lookup fI_d = some ⟨ocI_d, odI_d, .func (PySem.W.fnOf "__init__" "InvalidSize.__init__" (Xw.iA ⟨10, 17, 10, 21⟩ ⟨10, 23, 10, 27⟩) (Xw.iB ⟨11, 8, 11, 12⟩ ⟨11, 8, 11, 17⟩ ⟨11, 20, 11, 24⟩ ⟨11, 8, 11, 24⟩) Xw.iS .none .none dcI_d pmI_d anI_d cdI_d ctI_d), slI_d⟩)
    (cI_d : PySem.W.codeIn K cdI_d "InvalidSize.__init__" = true)
    (kC_d : PySem.W.keepIn K (.ref D) = true)
    (eC_d : PySem.W.subIn K (.ref D) (.type "BaseException") = some true)
    (tC_d : PySem.W.typeIn K (.ref D) = some (.type "type"))
    (hC_d : PySem.W.hasDictIn K D = true)
    (sC_d : PySem.W.subIn K (.ref D) (.ref D) = some true)
    (aC_r : PySem.W.nsIn K mainGlobals "Refused" = some (some (.ref R)))
    (xL_r : K.lookup R = some (PySem.excClassObj nm_r q_r R N_r bs_r [.ref B, .type "Exception", .type "BaseException", .type "object"] true sn_r sub_r ab_r col_r dd_r m0_r m1_r m2_r m3_r m5_r "Exception.__new__"))
    (sa_r : PySem.W.findIn K (.ref R) "__setattr__" = some (some (.builtin "object.__setattr__")))
    (ga_r : PySem.W.findIn K (.ref R) "__getattribute__" = some (some (.builtin "BaseException.__getattribute__")))
    (gg_r : PySem.W.findIn K (.ref R) "__getattr__" = some none)
    (nb_r : PySem.W.findIn K (.ref R) "at" = some none)
    (aI_r : PySem.W.findIn K (.ref R) "__init__" = some (some (.ref fI_r)))
    (tI_r : PySem.W.typeIn K (.ref fI_r) = some (.type "function"))
    (lI_r : K.lookup fI_r = some ⟨ocI_r, odI_r, .func (PySem.W.fnOf "__init__" "Refused.__init__" (Xb.iA ⟨14, 17, 14, 21⟩ ⟨14, 23, 14, 25⟩) (Xb.iB ⟨15, 8, 15, 12⟩ ⟨15, 8, 15, 15⟩ ⟨15, 18, 15, 20⟩ ⟨15, 8, 15, 20⟩) Xb.iS .none .none dcI_r pmI_r anI_r cdI_r ctI_r), slI_r⟩)
    (cI_r : PySem.W.codeIn K cdI_r "Refused.__init__" = true)
    (kC_r : PySem.W.keepIn K (.ref R) = true)
    (eC_r : PySem.W.subIn K (.ref R) (.type "BaseException") = some true)
    (tC_r : PySem.W.typeIn K (.ref R) = some (.type "type"))
    (hC_r : PySem.W.hasDictIn K R = true)
    (sC_r : PySem.W.subIn K (.ref R) (.ref R) = some true)
    (sDC : PySem.W.subIn K (.ref D) (.ref C) = some false)
    (a0 : PySem.W.nsIn K mainGlobals "is_integer" = some (some (.ref f_is_integer)))
    (l0 : K.lookup f_is_integer = some ⟨oc0, od0, .func (PySem.W.fnOf "is_integer" "is_integer" (defArgs s_is_integer) (defBody s_is_integer) (defScope s_is_integer) .none kV0 dc0 pm0 an0 cd0 ct0), sl0⟩)
    (c0 : PySem.W.codeIn K cd0 "is_integer" = true)
    (k0 : PySem.W.keepIn K (.ref f_is_integer) = true)
    (a1 : PySem.W.nsIn K mainGlobals "is_number" = some (some (.ref f_is_number)))
    (l1 : K.lookup f_is_number = some ⟨oc1, od1, .func (PySem.W.fnOf "is_number" "is_number" (defArgs s_is_number) (defBody s_is_number) (defScope s_is_number) .none kV1 dc1 pm1 an1 cd1 ct1), sl1⟩)
    (c1 : PySem.W.codeIn K cd1 "is_number" = true)
    (k1 : PySem.W.keepIn K (.ref f_is_number) = true)
    (a2 : PySem.W.nsIn K mainGlobals "is_name" = some (some (.ref f_is_name)))
    (l2 : K.lookup f_is_name = some ⟨oc2, od2, .func (PySem.W.fnOf "is_name" "is_name" (defArgs s_is_name) (defBody s_is_name) (defScope s_is_name) .none kV2 dc2 pm2 an2 cd2 ct2), sl2⟩)
    (c2 : PySem.W.codeIn K cd2 "is_name" = true)
    (k2 : PySem.W.keepIn K (.ref f_is_name) = true)
    (a3 : PySem.W.nsIn K mainGlobals "thin_lot" = some (some (.ref f_thin_lot)))
    (l3 : K.lookup f_thin_lot = some ⟨oc3, od3, .func (PySem.W.fnOf "thin_lot" "thin_lot" (defArgs s_thin_lot) (defBody s_thin_lot) (defScope s_thin_lot) .none kV3 dc3 pm3 an3 cd3 ct3), sl3⟩)
    (c3 : PySem.W.codeIn K cd3 "thin_lot" = true)
    (k3 : PySem.W.keepIn K (.ref f_thin_lot) = true)
    (a4 : PySem.W.nsIn K mainGlobals "is_lot" = some (some (.ref f_is_lot)))
    (l4 : K.lookup f_is_lot = some ⟨oc4, od4, .func (PySem.W.fnOf "is_lot" "is_lot" (defArgs s_is_lot) (defBody s_is_lot) (defScope s_is_lot) .none kV4 dc4 pm4 an4 cd4 ct4), sl4⟩)
    (c4 : PySem.W.codeIn K cd4 "is_lot" = true)
    (k4 : PySem.W.keepIn K (.ref f_is_lot) = true)
    (a5 : PySem.W.nsIn K mainGlobals "is_tale" = some (some (.ref f_is_tale)))
    (l5 : K.lookup f_is_tale = some ⟨oc5, od5, .func (PySem.W.fnOf "is_tale" "is_tale" (defArgs s_is_tale) (defBody s_is_tale) (defScope s_is_tale) .none kV5 dc5 pm5 an5 cd5 ct5), sl5⟩)
    (c5 : PySem.W.codeIn K cd5 "is_tale" = true)
    (k5 : PySem.W.keepIn K (.ref f_is_tale) = true)
    (a6 : PySem.W.nsIn K mainGlobals "need_tales" = some (some (.ref f_need_tales)))
    (l6 : K.lookup f_need_tales = some ⟨oc6, od6, .func (PySem.W.fnOf "need_tales" "need_tales" (defArgs s_need_tales) (defBody s_need_tales) (defScope s_need_tales) .none kV6 dc6 pm6 an6 cd6 ct6), sl6⟩)
    (c6 : PySem.W.codeIn K cd6 "need_tales" = true)
    (k6 : PySem.W.keepIn K (.ref f_need_tales) = true)
    (a7 : PySem.W.nsIn K mainGlobals "is_part" = some (some (.ref f_is_part)))
    (l7 : K.lookup f_is_part = some ⟨oc7, od7, .func (PySem.W.fnOf "is_part" "is_part" (defArgs s_is_part) (defBody s_is_part) (defScope s_is_part) .none kV7 dc7 pm7 an7 cd7 ct7), sl7⟩)
    (c7 : PySem.W.codeIn K cd7 "is_part" = true)
    (k7 : PySem.W.keepIn K (.ref f_is_part) = true)
    (a8 : PySem.W.nsIn K mainGlobals "least_laying" = some (some (.ref f_least_laying)))
    (l8 : K.lookup f_least_laying = some ⟨oc8, od8, .func (PySem.W.fnOf "least_laying" "least_laying" (defArgs s_least_laying) (defBody s_least_laying) (defScope s_least_laying) .none kV8 dc8 pm8 an8 cd8 ct8), sl8⟩)
    (c8 : PySem.W.codeIn K cd8 "least_laying" = true)
    (k8 : PySem.W.keepIn K (.ref f_least_laying) = true)
    (a9 : PySem.W.nsIn K mainGlobals "stuck_at" = some (some (.ref f_stuck_at)))
    (l9 : K.lookup f_stuck_at = some ⟨oc9, od9, .func (PySem.W.fnOf "stuck_at" "stuck_at" (defArgs s_stuck_at) (defBody s_stuck_at) (defScope s_stuck_at) .none kV9 dc9 pm9 an9 cd9 ct9), sl9⟩)
    (c9 : PySem.W.codeIn K cd9 "stuck_at" = true)
    (k9 : PySem.W.keepIn K (.ref f_stuck_at) = true)
    (a10 : PySem.W.nsIn K mainGlobals "first_laying" = some (some (.ref f_first_laying)))
    (l10 : K.lookup f_first_laying = some ⟨oc10, od10, .func (PySem.W.fnOf "first_laying" "first_laying" (defArgs s_first_laying) (defBody s_first_laying) (defScope s_first_laying) .none kV10 dc10 pm10 an10 cd10 ct10), sl10⟩)
    (c10 : PySem.W.codeIn K cd10 "first_laying" = true)
    (k10 : PySem.W.keepIn K (.ref f_first_laying) = true)
    (a11 : PySem.W.nsIn K mainGlobals "need_laying" = some (some (.ref f_need_laying)))
    (l11 : K.lookup f_need_laying = some ⟨oc11, od11, .func (PySem.W.fnOf "need_laying" "need_laying" (defArgs s_need_laying) (defBody s_need_laying) (defScope s_need_laying) .none kV11 dc11 pm11 an11 cd11 ct11), sl11⟩)
    (c11 : PySem.W.codeIn K cd11 "need_laying" = true)
    (k11 : PySem.W.keepIn K (.ref f_need_laying) = true)
    (a12 : PySem.W.nsIn K mainGlobals "need_prices" = some (some (.ref f_need_prices)))
    (l12 : K.lookup f_need_prices = some ⟨oc12, od12, .func (PySem.W.fnOf "need_prices" "need_prices" (defArgs s_need_prices) (defBody s_need_prices) (defScope s_need_prices) .none kV12 dc12 pm12 an12 cd12 ct12), sl12⟩)
    (c12 : PySem.W.codeIn K cd12 "need_prices" = true)
    (k12 : PySem.W.keepIn K (.ref f_need_prices) = true)
    (a13 : PySem.W.nsIn K mainGlobals "pair_price" = some (some (.ref f_pair_price)))
    (l13 : K.lookup f_pair_price = some ⟨oc13, od13, .func (PySem.W.fnOf "pair_price" "pair_price" (defArgs s_pair_price) (defBody s_pair_price) (defScope s_pair_price) .none kV13 dc13 pm13 an13 cd13 ct13), sl13⟩)
    (c13 : PySem.W.codeIn K cd13 "pair_price" = true)
    (k13 : PySem.W.keepIn K (.ref f_pair_price) = true)
    (a14 : PySem.W.nsIn K mainGlobals "steps_to" = some (some (.ref f_steps_to)))
    (l14 : K.lookup f_steps_to = some ⟨oc14, od14, .func (PySem.W.fnOf "steps_to" "steps_to" (defArgs s_steps_to) (defBody s_steps_to) (defScope s_steps_to) .none kV14 dc14 pm14 an14 cd14 ct14), sl14⟩)
    (c14 : PySem.W.codeIn K cd14 "steps_to" = true)
    (k14 : PySem.W.keepIn K (.ref f_steps_to) = true)
    (a15 : PySem.W.nsIn K mainGlobals "blame_worths" = some (some (.ref f_blame_worths)))
    (l15 : K.lookup f_blame_worths = some ⟨oc15, od15, .func (PySem.W.fnOf "blame_worths" "blame_worths" (defArgs s_blame_worths) (defBody s_blame_worths) (defScope s_blame_worths) .none kV15 dc15 pm15 an15 cd15 ct15), sl15⟩)
    (c15 : PySem.W.codeIn K cd15 "blame_worths" = true)
    (k15 : PySem.W.keepIn K (.ref f_blame_worths) = true)
    (a16 : PySem.W.nsIn K mainGlobals "least_blame" = some (some (.ref f_least_blame)))
    (l16 : K.lookup f_least_blame = some ⟨oc16, od16, .func (PySem.W.fnOf "least_blame" "least_blame" (defArgs s_least_blame) (defBody s_least_blame) (defScope s_least_blame) .none kV16 dc16 pm16 an16 cd16 ct16), sl16⟩)
    (c16 : PySem.W.codeIn K cd16 "least_blame" = true)
    (k16 : PySem.W.keepIn K (.ref f_least_blame) = true)
    (a17 : PySem.W.nsIn K mainGlobals "worths_hold" = some (some (.ref f_worths_hold)))
    (l17 : K.lookup f_worths_hold = some ⟨oc17, od17, .func (PySem.W.fnOf "worths_hold" "worths_hold" (defArgs s_worths_hold) (defBody s_worths_hold) (defScope s_worths_hold) .none kV17 dc17 pm17 an17 cd17 ct17), sl17⟩)
    (c17 : PySem.W.codeIn K cd17 "worths_hold" = true)
    (k17 : PySem.W.keepIn K (.ref f_worths_hold) = true)
    (a18 : PySem.W.nsIn K mainGlobals "is_grid" = some (some (.ref f_is_grid)))
    (l18 : K.lookup f_is_grid = some ⟨oc18, od18, .func (PySem.W.fnOf "is_grid" "is_grid" (defArgs s_is_grid) (defBody s_is_grid) (defScope s_is_grid) .none kV18 dc18 pm18 an18 cd18 ct18), sl18⟩)
    (c18 : PySem.W.codeIn K cd18 "is_grid" = true)
    (k18 : PySem.W.keepIn K (.ref f_is_grid) = true)
    (a19 : PySem.W.nsIn K mainGlobals "_law_heap" = some (some (.ref f__law_heap)))
    (l19 : K.lookup f__law_heap = some ⟨oc19, od19, .func (PySem.W.fnOf "_law_heap" "_law_heap" (defArgs s__law_heap) (defBody s__law_heap) (defScope s__law_heap) .none kV19 dc19 pm19 an19 cd19 ct19), sl19⟩)
    (c19 : PySem.W.codeIn K cd19 "_law_heap" = true)
    (k19 : PySem.W.keepIn K (.ref f__law_heap) = true)
    (a20 : PySem.W.nsIn K mainGlobals "_law_draw" = some (some (.ref f__law_draw)))
    (l20 : K.lookup f__law_draw = some ⟨oc20, od20, .func (PySem.W.fnOf "_law_draw" "_law_draw" (defArgs s__law_draw) (defBody s__law_draw) (defScope s__law_draw) .none kV20 dc20 pm20 an20 cd20 ct20), sl20⟩)
    (c20 : PySem.W.codeIn K cd20 "_law_draw" = true)
    (k20 : PySem.W.keepIn K (.ref f__law_draw) = true)
    (a21 : PySem.W.nsIn K mainGlobals "_law_pick" = some (some (.ref f__law_pick)))
    (l21 : K.lookup f__law_pick = some ⟨oc21, od21, .func (PySem.W.fnOf "_law_pick" "_law_pick" (defArgs s__law_pick) (defBody s__law_pick) (defScope s__law_pick) .none kV21 dc21 pm21 an21 cd21 ct21), sl21⟩)
    (c21 : PySem.W.codeIn K cd21 "_law_pick" = true)
    (k21 : PySem.W.keepIn K (.ref f__law_pick) = true)
    (a22 : PySem.W.nsIn K mainGlobals "_law_tale" = some (some (.ref f__law_tale)))
    (l22 : K.lookup f__law_tale = some ⟨oc22, od22, .func (PySem.W.fnOf "_law_tale" "_law_tale" (defArgs s__law_tale) (defBody s__law_tale) (defScope s__law_tale) .none kV22 dc22 pm22 an22 cd22 ct22), sl22⟩)
    (c22 : PySem.W.codeIn K cd22 "_law_tale" = true)
    (k22 : PySem.W.keepIn K (.ref f__law_tale) = true)
    (a23 : PySem.W.nsIn K mainGlobals "_law_less" = some (some (.ref f__law_less)))
    (l23 : K.lookup f__law_less = some ⟨oc23, od23, .func (PySem.W.fnOf "_law_less" "_law_less" (defArgs s__law_less) (defBody s__law_less) (defScope s__law_less) .none kV23 dc23 pm23 an23 cd23 ct23), sl23⟩)
    (c23 : PySem.W.codeIn K cd23 "_law_less" = true)
    (k23 : PySem.W.keepIn K (.ref f__law_less) = true)
    (a24 : PySem.W.nsIn K mainGlobals "_law_price" = some (some (.ref f__law_price)))
    (l24 : K.lookup f__law_price = some ⟨oc24, od24, .func (PySem.W.fnOf "_law_price" "_law_price" (defArgs s__law_price) (defBody s__law_price) (defScope s__law_price) .none kV24 dc24 pm24 an24 cd24 ct24), sl24⟩)
    (c24 : PySem.W.codeIn K cd24 "_law_price" = true)
    (k24 : PySem.W.keepIn K (.ref f__law_price) = true)
    (a25 : PySem.W.nsIn K mainGlobals "_law_least" = some (some (.ref f__law_least)))
    (l25 : K.lookup f__law_least = some ⟨oc25, od25, .func (PySem.W.fnOf "_law_least" "_law_least" (defArgs s__law_least) (defBody s__law_least) (defScope s__law_least) .none kV25 dc25 pm25 an25 cd25 ct25), sl25⟩)
    (c25 : PySem.W.codeIn K cd25 "_law_least" = true)
    (k25 : PySem.W.keepIn K (.ref f__law_least) = true)
    (a26 : PySem.W.nsIn K mainGlobals "_law_telling_right" = some (some (.ref f__law_telling_right)))
    (l26 : K.lookup f__law_telling_right = some ⟨oc26, od26, .func (PySem.W.fnOf "_law_telling_right" "_law_telling_right" (defArgs s__law_telling_right) (defBody s__law_telling_right) (defScope s__law_telling_right) .none kV26 dc26 pm26 an26 cd26 ct26), sl26⟩)
    (c26 : PySem.W.codeIn K cd26 "_law_telling_right" = true)
    (k26 : PySem.W.keepIn K (.ref f__law_telling_right) = true)
    (a27 : PySem.W.nsIn K mainGlobals "_law_bent" = some (some (.ref f__law_bent)))
    (l27 : K.lookup f__law_bent = some ⟨oc27, od27, .func (PySem.W.fnOf "_law_bent" "_law_bent" (defArgs s__law_bent) (defBody s__law_bent) (defScope s__law_bent) .none kV27 dc27 pm27 an27 cd27 ct27), sl27⟩)
    (c27 : PySem.W.codeIn K cd27 "_law_bent" = true)
    (k27 : PySem.W.keepIn K (.ref f__law_bent) = true)
    (a28 : PySem.W.nsIn K mainGlobals "_law_holds" = some (some (.ref f__law_holds)))
    (l28 : K.lookup f__law_holds = some ⟨oc28, od28, .func (PySem.W.fnOf "_law_holds" "_law_holds" (defArgs s__law_holds) (defBody s__law_holds) (defScope s__law_holds) .none kV28 dc28 pm28 an28 cd28 ct28), sl28⟩)
    (c28 : PySem.W.codeIn K cd28 "_law_holds" = true)
    (k28 : PySem.W.keepIn K (.ref f__law_holds) = true)
    (a29 : PySem.W.nsIn K mainGlobals "_law_told" = some (some (.ref f__law_told)))
    (l29 : K.lookup f__law_told = some ⟨oc29, od29, .func (PySem.W.fnOf "_law_told" "_law_told" (defArgs s__law_told) (defBody s__law_told) (defScope s__law_told) .none kV29 dc29 pm29 an29 cd29 ct29), sl29⟩)
    (c29 : PySem.W.codeIn K cd29 "_law_told" = true)
    (k29 : PySem.W.keepIn K (.ref f__law_told) = true)
    (a30 : PySem.W.nsIn K mainGlobals "law" = some (some (.ref f_law)))
    (l30 : K.lookup f_law = some ⟨oc30, od30, .func (PySem.W.fnOf "law" "law" (defArgs s_law) (defBody s_law) (defScope s_law) .none kV30 dc30 pm30 an30 cd30 ct30), sl30⟩)
    (c30 : PySem.W.codeIn K cd30 "law" = true)
    (k30 : PySem.W.keepIn K (.ref f_law) = true)
    (aL : PySem.W.nsIn K mainGlobals "_law_refusals_right" = some (some (.ref f_ref)))
    (lL : K.lookup f_ref = some ⟨ocL, odL, .func (PySem.W.fnOf "_law_refusals_right" "_law_refusals_right" (defArgs s__law_refusals_right) (defBody s__law_refusals_right) (defScope s__law_refusals_right) .none kVL dcL pmL anL (.ref cL) ctL), slL⟩)
    (cdL : PySem.W.codeIn K (.ref cL) "_law_refusals_right" = true)
    (kL : PySem.W.keepIn K (.ref f_ref) = true)
    (lC : K.lookup cL = some ⟨clC, ddC, .fields vsC, slC⟩)
    (vC : (vsC[11]? : Option Value) = some (.ref PL))
    (nP : K.lookup PL = none)
    (hC : PySem.W.codeHdIn K cL PL = true)
    (z_abs : PySem.W.nsIn K mainGlobals "abs" = some none)
    (z_all : PySem.W.nsIn K mainGlobals "all" = some none)
    (z_bool : PySem.W.nsIn K mainGlobals "bool" = some none)
    (z_enumerate : PySem.W.nsIn K mainGlobals "enumerate" = some none)
    (z_int : PySem.W.nsIn K mainGlobals "int" = some none)
    (z_isinstance : PySem.W.nsIn K mainGlobals "isinstance" = some none)
    (z_len : PySem.W.nsIn K mainGlobals "len" = some none)
    (z_list : PySem.W.nsIn K mainGlobals "list" = some none)
    (z_min : PySem.W.nsIn K mainGlobals "min" = some none)
    (z_range : PySem.W.nsIn K mainGlobals "range" = some none)
    (z_repr : PySem.W.nsIn K mainGlobals "repr" = some none)
    (z_sorted : PySem.W.nsIn K mainGlobals "sorted" = some none)
    (z_str : PySem.W.nsIn K mainGlobals "str" = some none)
    (z_sum : PySem.W.nsIn K mainGlobals "sum" = some none)
    (z_tuple : PySem.W.nsIn K mainGlobals "tuple" = some none)
    (z_zip : PySem.W.nsIn K mainGlobals "zip" = some none)
    (gL : PySem.W.nsIn K mainGlobals "LETTERS" = some (some (.int 8 tkL)))
    : LawAtS l w K CX0 12 63 "script" mg fa h := by
  have e := hfa.symm.trans (PySem.W.mg_of X G a30)
  cases e
  have F_is_integer := fun_mk (st := s_is_integer) l0 c0 k0
  have b_is_integer := F_is_integer.binds (ps := ["value"]) fun _ _ _ _ _ _ us hl => match us, hl with | [_], _ => rfl
  have m_is_integer := PySem.W.mg_of X G a0
  have F_is_number := fun_mk (st := s_is_number) l1 c1 k1
  have b_is_number := F_is_number.binds (ps := ["value"]) fun _ _ _ _ _ _ us hl => match us, hl with | [_], _ => rfl
  have m_is_number := PySem.W.mg_of X G a1
  have F_is_name := fun_mk (st := s_is_name) l2 c2 k2
  have b_is_name := F_is_name.binds (ps := ["value"]) fun _ _ _ _ _ _ us hl => match us, hl with | [_], _ => rfl
  have m_is_name := PySem.W.mg_of X G a2
  have F_thin_lot := fun_mk (st := s_thin_lot) l3 c3 k3
  have b_thin_lot := F_thin_lot.binds (ps := ["lot", "names"]) fun _ _ _ _ _ _ us hl => match us, hl with | [_, _], _ => rfl
  have m_thin_lot := PySem.W.mg_of X G a3
  have F_is_lot := fun_mk (st := s_is_lot) l4 c4 k4
  have b_is_lot := F_is_lot.binds (ps := ["value"]) fun _ _ _ _ _ _ us hl => match us, hl with | [_], _ => rfl
  have m_is_lot := PySem.W.mg_of X G a4
  have F_is_tale := fun_mk (st := s_is_tale) l5 c5 k5
  have b_is_tale := F_is_tale.binds (ps := ["value"]) fun _ _ _ _ _ _ us hl => match us, hl with | [_], _ => rfl
  have m_is_tale := PySem.W.mg_of X G a5
  have F_need_tales := fun_mk (st := s_need_tales) l6 c6 k6
  have m_need_tales := PySem.W.mg_of X G a6
  have F_is_part := fun_mk (st := s_is_part) l7 c7 k7
  have b_is_part := F_is_part.binds (ps := ["lot", "other"]) fun _ _ _ _ _ _ us hl => match us, hl with | [_, _], _ => rfl
  have m_is_part := PySem.W.mg_of X G a7
  have F_least_laying := fun_mk (st := s_least_laying) l8 c8 k8
  have b_least_laying := F_least_laying.binds (ps := ["lots", "heard"]) fun _ _ _ _ _ _ us hl => match us, hl with | [_, _], _ => rfl
  have m_least_laying := PySem.W.mg_of X G a8
  have F_stuck_at := fun_mk (st := s_stuck_at) l9 c9 k9
  have b_stuck_at := F_stuck_at.binds (ps := ["lots", "heard"]) fun _ _ _ _ _ _ us hl => match us, hl with | [_, _], _ => rfl
  have m_stuck_at := PySem.W.mg_of X G a9
  have F_first_laying := fun_mk (st := s_first_laying) l10 c10 k10
  have b_first_laying := F_first_laying.binds (ps := ["lots", "heard"]) fun _ _ _ _ _ _ us hl => match us, hl with | [_, _], _ => rfl
  have m_first_laying := PySem.W.mg_of X G a10
  have F_need_laying := fun_mk (st := s_need_laying) l11 c11 k11
  have b_need_laying := F_need_laying.binds (ps := ["lots", "heard"]) fun _ _ _ _ _ _ us hl => match us, hl with | [_, _], _ => rfl
  have m_need_laying := PySem.W.mg_of X G a11
  have F_need_prices := fun_mk (st := s_need_prices) l12 c12 k12
  have b_need_prices := F_need_prices.binds (ps := ["missing", "extra"]) fun _ _ _ _ _ _ us hl => match us, hl with | [_, _], _ => rfl
  have m_need_prices := PySem.W.mg_of X G a12
  have F_pair_price := fun_mk (st := s_pair_price) l13 c13 k13
  have b_pair_price := F_pair_price.binds (ps := ["lot", "heard", "missing", "extra"]) fun _ _ _ _ _ _ us hl => match us, hl with | [_, _, _, _], _ => rfl
  have m_pair_price := PySem.W.mg_of X G a13
  have F_steps_to := fun_mk (st := s_steps_to) l14 c14 k14
  have b_steps_to := F_steps_to.binds (ps := ["lots", "heard", "missing", "extra", "i", "j"]) fun _ _ _ _ _ _ us hl => match us, hl with | [_, _, _, _, _, _], _ => rfl
  have m_steps_to := PySem.W.mg_of X G a14
  have F_blame_worths := fun_mk (st := s_blame_worths) l15 c15 k15
  have b_blame_worths := F_blame_worths.binds (ps := ["lots", "heard", "missing", "extra"]) fun _ _ _ _ _ _ us hl => match us, hl with | [_, _, _, _], _ => rfl
  have m_blame_worths := PySem.W.mg_of X G a15
  have F_least_blame := fun_mk (st := s_least_blame) l16 c16 k16
  have b_least_blame := F_least_blame.binds (ps := ["lots", "heard", "missing", "extra"]) fun _ _ _ _ _ _ us hl => match us, hl with | [_, _, _, _], _ => rfl
  have m_least_blame := PySem.W.mg_of X G a16
  have F_worths_hold := fun_mk (st := s_worths_hold) l17 c17 k17
  have b_worths_hold := F_worths_hold.binds (ps := ["lots", "heard", "missing", "extra", "price", "value"]) fun _ _ _ _ _ _ us hl => match us, hl with | [_, _, _, _, _, _], _ => rfl
  have m_worths_hold := PySem.W.mg_of X G a17
  have F_is_grid := fun_mk (st := s_is_grid) l18 c18 k18
  have b_is_grid := F_is_grid.binds (ps := ["value", "rows", "columns"]) fun _ _ _ _ _ _ us hl => match us, hl with | [_, _, _], _ => rfl
  have m_is_grid := PySem.W.mg_of X G a18
  have F__law_heap := fun_mk (st := s__law_heap) l19 c19 k19
  have b__law_heap := F__law_heap.binds (ps := ["script", "base"]) fun _ _ _ _ _ _ us hl => match us, hl with | [_, _], _ => rfl
  have m__law_heap := PySem.W.mg_of X G a19
  have F__law_draw := fun_mk (st := s__law_draw) l20 c20 k20
  have b__law_draw := F__law_draw.binds (ps := ["heap", "many"]) fun _ _ _ _ _ _ us hl => match us, hl with | [_, _], _ => rfl
  have m__law_draw := PySem.W.mg_of X G a20
  have F__law_pick := fun_mk (st := s__law_pick) l21 c21 k21
  have b__law_pick := F__law_pick.binds (ps := ["heap", "some"]) fun _ _ _ _ _ _ us hl => match us, hl with | [_, _], _ => rfl
  have m__law_pick := PySem.W.mg_of X G a21
  have F__law_tale := fun_mk (st := s__law_tale) l22 c22 k22
  have b__law_tale := F__law_tale.binds (ps := ["heap", "names", "most"]) fun _ _ _ _ _ _ us hl => match us, hl with | [_, _, _], _ => rfl
  have m__law_tale := PySem.W.mg_of X G a22
  have F__law_less := fun_mk (st := s__law_less) l23 c23 k23
  have b__law_less := F__law_less.binds (ps := ["heap", "lots"]) fun _ _ _ _ _ _ us hl => match us, hl with | [_, _], _ => rfl
  have m__law_less := PySem.W.mg_of X G a23
  have F__law_price := fun_mk (st := s__law_price) l24 c24 k24
  have b__law_price := F__law_price.binds (ps := ["lot", "names", "missing", "extra"]) fun _ _ _ _ _ _ us hl => match us, hl with | [_, _, _, _], _ => rfl
  have m__law_price := PySem.W.mg_of X G a24
  have F__law_least := fun_mk (st := s__law_least) l25 c25 k25
  have b__law_least := F__law_least.binds (ps := ["lots", "heard", "missing", "extra"]) fun _ _ _ _ _ _ us hl => match us, hl with | [_, _, _, _], _ => rfl
  have m__law_least := PySem.W.mg_of X G a25
  have F__law_telling_right := fun_mk (st := s__law_telling_right) l26 c26 k26
  have b__law_telling_right := F__law_telling_right.binds (ps := ["lots", "heard", "missing", "extra", "price", "telling"]) fun _ _ _ _ _ _ us hl => match us, hl with | [_, _, _, _, _, _], _ => rfl
  have m__law_telling_right := PySem.W.mg_of X G a26
  have F__law_bent := fun_mk (st := s__law_bent) l27 c27 k27
  have b__law_bent := F__law_bent.binds (ps := ["heap", "worths"]) fun _ _ _ _ _ _ us hl => match us, hl with | [_, _], _ => rfl
  have m__law_bent := PySem.W.mg_of X G a27
  have F__law_holds := fun_mk (st := s__law_holds) l28 c28 k28
  have b__law_holds := F__law_holds.binds (ps := ["lots", "heard", "missing", "extra", "price", "value"]) fun _ _ _ _ _ _ us hl => match us, hl with | [_, _, _, _, _, _], _ => rfl
  have m__law_holds := PySem.W.mg_of X G a28
  have F__law_told := fun_mk (st := s__law_told) l29 c29 k29
  have b__law_told := F__law_told.binds (ps := ["work"]) fun _ _ _ _ _ _ us hl => match us, hl with | [_], _ => rfl
  have m__law_told := PySem.W.mg_of X G a29
  have F_law := fun_mk (st := s_law) l30 c30 k30
  have m_law := PySem.W.mg_of X G a30
  have n_abs := PySem.W.mg_none_of X G z_abs
  have n_all := PySem.W.mg_none_of X G z_all
  have n_bool := PySem.W.mg_none_of X G z_bool
  have n_enumerate := PySem.W.mg_none_of X G z_enumerate
  have n_int := PySem.W.mg_none_of X G z_int
  have n_isinstance := PySem.W.mg_none_of X G z_isinstance
  have n_len := PySem.W.mg_none_of X G z_len
  have n_list := PySem.W.mg_none_of X G z_list
  have n_min := PySem.W.mg_none_of X G z_min
  have n_range := PySem.W.mg_none_of X G z_range
  have n_repr := PySem.W.mg_none_of X G z_repr
  have n_sorted := PySem.W.mg_none_of X G z_sorted
  have n_str := PySem.W.mg_none_of X G z_str
  have n_sum := PySem.W.mg_none_of X G z_sum
  have n_tuple := PySem.W.mg_none_of X G z_tuple
  have n_zip := PySem.W.mg_none_of X G z_zip
  have g_L := PySem.W.mg_of X G gL
  have T_c : Xb.ErrC K mg "InvalidHeard" C fI_c := { gC := PySem.W.mg_of X G aC_c, cls := ⟨nm_c, q_c, N_c, bs_c, _, sn_c, sub_c, ab_c, col_c, dd_c, m0_c, m1_c, m2_c, m3_c, m5_c, xL_c, rfl⟩, sa := sa_c, ga := ga_c, gg := gg_c, noN := nb_c, iC := aI_c, tC := tI_c, kC := kC_c, exC := eC_c, tyC := tC_c, hdC := hC_c, te := PySem.W.exm_ref eC_c hC_c tC_c sC_c, fn := ⟨_, _, _, _, _, _, _, _, _, _, _, _, _, _, _, lI_c, cI_c⟩ }
  have T_d : Xw.ErrC K mg "InvalidSize" D fI_d := { gC := PySem.W.mg_of X G aC_d, cls := ⟨nm_d, q_d, N_d, bs_d, _, sn_d, sub_d, ab_d, col_d, dd_d, m0_d, m1_d, m2_d, m3_d, m5_d, xL_d, rfl⟩, sa := sa_d, ga := ga_d, gg := gg_d, noN := nb_d, iC := aI_d, tC := tI_d, kC := kC_d, exC := eC_d, tyC := tC_d, hdC := hC_d, te := PySem.W.exm_ref eC_d hC_d tC_d sC_d, fn := ⟨_, _, _, _, _, _, _, _, _, _, _, _, _, _, _, lI_d, cI_d⟩ }
  have T_r : Xb.ErrC K mg "Refused" R fI_r := { gC := PySem.W.mg_of X G aC_r, cls := ⟨nm_r, q_r, N_r, bs_r, _, sn_r, sub_r, ab_r, col_r, dd_r, m0_r, m1_r, m2_r, m3_r, m5_r, xL_r, rfl⟩, sa := sa_r, ga := ga_r, gg := gg_r, noN := nb_r, iC := aI_r, tC := tI_r, kC := kC_r, exC := eC_r, tyC := tC_r, hdC := hC_r, te := PySem.W.exm_ref eC_r hC_r tC_r sC_r, fn := ⟨_, _, _, _, _, _, _, _, _, _, _, _, _, _, _, lI_r, cI_r⟩ }
  have eRC : PySem.W.exmOne K (.ref D) (.ref C) = some false := PySem.W.exm_ref eC_c hC_c tC_c sDC
  have m_ref := PySem.W.mg_of X G aL
  have F_ref := fun_mk (st := s__law_refusals_right) lL cdL kL
  have b_ref := F_ref.binds (ps := ["heap", "lots", "heard"]) fun _ _ _ _ _ _ us hl => match us, hl with | [_, _, _], _ => rfl
  refine ⟨PySem.W.fnOf "law" "law" (defArgs s_law) (defBody s_law) (defScope s_law) .none kV30 dc30 pm30 an30 cd30 ct30, [(cL, PL)], spLaw K PL, fun p hp => ?_, fun p hp => ?_, fun p hp => ?_, fun s v => .of_eq rfl, fun H a ns hl _ hT hS => ⟨a, ns, rfl, hS, hl, hT (cL, PL) (List.mem_singleton.mpr rfl), fun _ => rfl⟩, fun base _ _ hTB => ?_⟩
  · rw [List.mem_singleton.mp hp]; exact own f_ref m_ref cL PL _ _ _ _ _ _ lL rfl rfl lC vC
  · rw [List.mem_singleton.mp hp]; exact nP
  · rw [List.mem_singleton.mp hp]; exact PySem.W.codeHd_of_K X hC
  have G_is_integer := ok_int (P := l.prog) (w := w) (mg := mg) (base := base) F_is_integer n_bool n_int n_isinstance
  have C_is_integer : Hb.Cl l.prog w K mg base "is_integer" ["value"] [] 1 (spIsInt K) := ⟨_, _, [], G_is_integer, m_is_integer, k0, b_is_integer, .nil⟩
  have G_is_number := ok_num (P := l.prog) (w := w) (mg := mg) (base := base) F_is_number C_is_integer
  have C_is_number : Hb.Cl l.prog w K mg base "is_number" ["value"] [] 2 (spIsNum K) := ⟨_, _, [], G_is_number, m_is_number, k1, b_is_number, .nil⟩
  have G_is_name := ok_is_name (P := l.prog) (w := w) (mg := mg) (base := base) F_is_name g_L n_isinstance n_len n_str
  have C_is_name : Hb.Cl l.prog w K mg base "is_name" ["value"] [] 1 (spIsName K) := ⟨_, _, [], G_is_name, m_is_name, k2, b_is_name, .nil⟩
  have G_thin_lot := ok_thin_lot (P := l.prog) (w := w) (mg := mg) (base := base) F_thin_lot n_tuple
  have C_thin_lot : Hb.Cl l.prog w K mg base "thin_lot" ["lot", "names"] [] 1 (spThin K) := ⟨_, _, [], G_thin_lot, m_thin_lot, k3, b_thin_lot, .nil⟩
  have G_is_part := ok_is_part (P := l.prog) (w := w) (mg := mg) (base := base) F_is_part C_thin_lot n_len
  have C_is_part : Hb.Cl l.prog w K mg base "is_part" ["lot", "other"] [] 2 (spPart K) := ⟨_, _, [], G_is_part, m_is_part, k7, b_is_part, .nil⟩
  have G_is_lot := ok_is_lot (P := l.prog) (w := w) (mg := mg) (base := base) F_is_lot C_is_name n_all n_isinstance n_len n_tuple n_zip
  have C_is_lot : Hb.Cl l.prog w K mg base "is_lot" ["value"] [] 2 (spIsLot K) := ⟨_, _, [], G_is_lot, m_is_lot, k4, b_is_lot, .nil⟩
  have G_is_tale := ok_is_tale (P := l.prog) (w := w) (mg := mg) (base := base) F_is_tale C_is_lot n_all n_isinstance n_tuple
  have C_is_tale : Hb.Cl l.prog w K mg base "is_tale" ["value"] [] 3 (spIsTale K) := ⟨_, _, [], G_is_tale, m_is_tale, k5, b_is_tale, .nil⟩
  have G_least_laying := ok_least (P := l.prog) (w := w) (mg := mg) (base := base) F_least_laying C_is_part n_len
  have C_least_laying : Hb.Cl l.prog w K mg base "least_laying" ["lots", "heard"] [] 3 (spLay K) := ⟨_, _, [], G_least_laying, m_least_laying, k8, b_least_laying, .nil⟩
  have G_pair_price := ok_pair (P := l.prog) (w := w) (mg := mg) (base := base) F_pair_price C_thin_lot n_len
  have C_pair_price : Hb.Cl l.prog w K mg base "pair_price" ["lot", "heard", "missing", "extra"] [] 2 (spPair K) := ⟨_, _, [], G_pair_price, m_pair_price, k13, b_pair_price, .nil⟩
  have G_steps_to := ok_steps (P := l.prog) (w := w) (mg := mg) (base := base) F_steps_to C_pair_price
  have C_steps_to : Hb.Cl l.prog w K mg base "steps_to" ["lots", "heard", "missing", "extra", "i", "j"] [] 3 (spSteps K) := ⟨_, _, [], G_steps_to, m_steps_to, k14, b_steps_to, .nil⟩
  have G_is_grid := ok_grid (P := l.prog) (w := w) (mg := mg) (base := base) F_is_grid C_is_integer n_all n_isinstance n_len n_tuple
  have C_is_grid : Hb.Cl l.prog w K mg base "is_grid" ["value", "rows", "columns"] [] 2 (spGrid K) := ⟨_, _, [], G_is_grid, m_is_grid, k18, b_is_grid, .nil⟩
  have G__law_heap := ok_heap (P := l.prog) (w := w) (mg := mg) (base := base) F__law_heap n_abs n_int
  have C__law_heap : Hb.Cl l.prog w K mg base "_law_heap" ["script", "base"] [] 1 (spDeal K) := ⟨_, _, [], G__law_heap, m__law_heap, k19, b__law_heap, .nil⟩
  have G__law_draw := ok_draw (P := l.prog) (w := w) (mg := mg) (base := base) F__law_draw n_int
  have C__law_draw : Hb.Cl l.prog w K mg base "_law_draw" ["heap", "many"] [] 1 (spDraw) := ⟨_, _, [], G__law_draw, m__law_draw, k20, b__law_draw, .nil⟩
  have G__law_pick := ok_pick (P := l.prog) (w := w) (mg := mg) (base := base) F__law_pick C__law_draw n_len
  have C__law_pick : Hb.Cl l.prog w K mg base "_law_pick" ["heap", "some"] [] 2 (spPick K) := ⟨_, _, [], G__law_pick, m__law_pick, k21, b__law_pick, .nil⟩
  have G__law_tale := ok_tale (P := l.prog) (w := w) (mg := mg) (base := base) F__law_tale C__law_draw C__law_pick n_range n_sorted n_tuple
  have C__law_tale : Hb.Cl l.prog w K mg base "_law_tale" ["heap", "names", "most"] [] 3 (spTale) := ⟨_, _, [], G__law_tale, m__law_tale, k22, b__law_tale, .nil⟩
  have G__law_less := ok_less (P := l.prog) (w := w) (mg := mg) (base := base) F__law_less C__law_draw C__law_pick n_len n_tuple
  have C__law_less : Hb.Cl l.prog w K mg base "_law_less" ["heap", "lots"] [] 3 (spLess K) := ⟨_, _, [], G__law_less, m__law_less, k23, b__law_less, .nil⟩
  have G__law_price := ok_price (P := l.prog) (w := w) (mg := mg) (base := base) F__law_price n_sum
  have C__law_price : Hb.Cl l.prog w K mg base "_law_price" ["lot", "names", "missing", "extra"] [] 1 (spPrice K) := ⟨_, _, [], G__law_price, m__law_price, k24, b__law_price, .nil⟩
  have G__law_telling_right := ok_telling (P := l.prog) (w := w) (mg := mg) (base := base) F__law_telling_right C__law_price n_isinstance n_len n_list n_range n_tuple
  have C__law_telling_right : Hb.Cl l.prog w K mg base "_law_telling_right" ["lots", "heard", "missing", "extra", "price", "telling"] [] 2 (spTelling) := ⟨_, _, [], G__law_telling_right, m__law_telling_right, k26, b__law_telling_right, .nil⟩
  have G__law_bent := ok_bent (P := l.prog) (w := w) (mg := mg) (base := base) F__law_bent C__law_draw C__law_pick n_len n_list n_tuple
  have C__law_bent : Hb.Cl l.prog w K mg base "_law_bent" ["heap", "worths"] [] 3 (spBent K) := ⟨_, _, [], G__law_bent, m__law_bent, k27, b__law_bent, .nil⟩
  have G__law_holds := ok_holds (P := l.prog) (w := w) (mg := mg) (base := base) F__law_holds C__law_price n_bool n_int n_isinstance n_len n_range n_tuple
  have C__law_holds : Hb.Cl l.prog w K mg base "_law_holds" ["lots", "heard", "missing", "extra", "price", "value"] [] 2 (spHolds K) := ⟨_, _, [], G__law_holds, m__law_holds, k28, b__law_holds, .nil⟩
  have G__law_least := rec_leastP (P := l.prog) (w := w) (mg := mg) (base := base) F__law_least m__law_least k25 b__law_least C__law_price n_len n_min n_sum 9
  have C__law_least : Hb.Cl l.prog w K mg base "_law_least" ["lots", "heard", "missing", "extra"] [] 11 (spLeast 9) := ⟨_, _, [], G__law_least, m__law_least, k25, b__law_least, .nil⟩
  have G_need := ok_need (P := l.prog) (w := w) (mg := mg) (base := base) F_need_tales T_c C_is_tale n_enumerate
  have G_stuck_at := ok_stuck (P := l.prog) (w := w) (mg := mg) (base := base) F_stuck_at G_need m_need_tales k6 C_least_laying n_len
  have C_stuck_at : Cx_ l.prog w K mg base "stuck_at" ["lots", "heard"] 5 (spStuck K C) := ⟨_, _, G_stuck_at, m_stuck_at, k9, b_stuck_at⟩
  have G_need_laying := ok_needL (P := l.prog) (w := w) (mg := mg) (base := base) F_need_laying T_r C_stuck_at
  have C_need_laying : Cx_ l.prog w K mg base "need_laying" ["lots", "heard"] 6 (spNeedL K C R) := ⟨_, _, G_need_laying, m_need_laying, k11, b_need_laying⟩
  have G_first_laying := ok_first (P := l.prog) (w := w) (mg := mg) (base := base) F_first_laying C_need_laying C_least_laying n_tuple
  have C_first_laying : Cx_ l.prog w K mg base "first_laying" ["lots", "heard"] 7 (spFirst K C R) := ⟨_, _, G_first_laying, m_first_laying, k10, b_first_laying⟩
  have G_need_prices := ok_prices (P := l.prog) (w := w) (mg := mg) (base := base) F_need_prices T_d C_is_number
  have C_need_prices : Cx_ l.prog w K mg base "need_prices" ["missing", "extra"] 3 (spPrices K D) := ⟨_, _, G_need_prices, m_need_prices, k12, b_need_prices⟩
  have G_blame_worths := ok_worths (P := l.prog) (w := w) (mg := mg) (base := base) F_blame_worths G_need m_need_tales k6 C_need_prices C_steps_to n_len n_min n_range n_tuple
  have C_blame_worths : Cx_ l.prog w K mg base "blame_worths" ["lots", "heard", "missing", "extra"] 5 (spWorths K C D) := ⟨_, _, G_blame_worths, m_blame_worths, k15, b_blame_worths⟩
  have G_least_blame := ok_blame (P := l.prog) (w := w) (mg := mg) (base := base) F_least_blame C_blame_worths C_steps_to n_len n_tuple
  have C_least_blame : Cx_ l.prog w K mg base "least_blame" ["lots", "heard", "missing", "extra"] 6 (spBlame K C D) := ⟨_, _, G_least_blame, m_least_blame, k16, b_least_blame⟩
  have G_worths_hold := ok_hold (P := l.prog) (w := w) (mg := mg) (base := base) F_worths_hold G_need m_need_tales k6 C_need_prices C_is_grid C_steps_to n_all n_len n_range
  have C_worths_hold : Cx_ l.prog w K mg base "worths_hold" ["lots", "heard", "missing", "extra", "price", "value"] 5 (spHold K C D) := ⟨_, _, G_worths_hold, m_worths_hold, k17, b_worths_hold⟩
  have B_b := kb_bwd (ps := ["lots", "heard", "missing", "extra"]) (ks := ["extra", "missing", "heard", "lots"]) F_blame_worths fun kV doc pm an cdv ct ws h => match ws, h with | [_, _, _, _], _ => rfl
  have B_h := kb_bwd (ps := ["lots", "heard", "missing", "extra", "price", "value"]) (ks := ["value", "price", "extra", "missing", "heard", "lots"]) F_worths_hold fun kV doc pm an cdv ct ws h => match ws, h with | [_, _, _, _, _, _], _ => rfl
  have K_b : CkX l.prog w K mg base "blame_worths" ["lots", "heard", "missing", "extra"] ["extra", "missing", "heard", "lots"] (fun _ zs => zs.reverse) 5 (spWorths K C D) := ⟨_, _, _, G_blame_worths, m_blame_worths, k15, B_b⟩
  have K_h : CkX l.prog w K mg base "worths_hold" ["lots", "heard", "missing", "extra", "price", "value"] ["value", "price", "extra", "missing", "heard", "lots"] (fun _ zs => zs.reverse) 5 (spHold K C D) := ⟨_, _, _, G_worths_hold, m_worths_hold, k17, B_h⟩
  have R_b : DfX l.prog w K mg base 6 f_least_blame (spRefd K C D) := .of G_least_blame k16 b_least_blame (by decide) fun vs H Q E z => refd_blame z
  have R_w : DfX l.prog w K mg base 6 f_blame_worths (spRefd K C D) := .of G_blame_worths k15 b_blame_worths (by decide) fun vs H Q E z => refd_worths z
  have G_ref := ok_refus (P := l.prog) (w := w) (mg := mg) (base := base) lL cdL (hTB (cL, PL) (List.mem_singleton.mpr rfl)) F__law_told b__law_told m__law_told T_c T_d eRC m_least_blame m_blame_worths R_b R_w C_worths_hold C__law_pick
  have C_ref : Hb.Cl l.prog w K mg base "_law_refusals_right" ["heap", "lots", "heard"] [] 9 (spRefus PL) := ⟨_, _, [], G_ref, m_ref, kL, b_ref, .nil⟩
  exact ok_law (P := l.prog) (w := w) (mg := mg) (base := base) F_law C__law_draw C__law_heap C__law_less C__law_pick C__law_tale C__law_least C__law_telling_right C__law_bent C__law_holds C_ref C_least_blame C_worths_hold C_stuck_at C_first_laying K_b K_h n_isinstance n_len n_repr n_sum n_tuple
abbrev cx0 : L2.CXT := CX0
end K6
open PySem PySem.W PyProof.Rows
set_option maxRecDepth 100000 in
set_option maxHeartbeats 0 in
theorem PySem.Challenge.cw_curvebells_k88_whole_blame_of_least_pric_holds : PySem.Challenge.rw_curvebells_k88_whole_blame_of_least_pric.Holds := by
  w_on; o_law; k_head; (case hw => w_witness2)
  k_fill
  refine Lw.walk_tab (l := PySem.Challenge.rw_curvebells_k88_whole_blame_of_least_pric) (n := 63) (k := 12) (x := "script") (nm := "_law_refusals_right") (CX := fun _ => K6.cx0) rfl (by decide) rfl ⟨rfl, by decide, by decide⟩ ?hrec (fun w h Y => PySem.W.km_in_of Y) ?F fun _ _ _ _ _ z => z
  case hrec => first | rfl | decide +kernel | k_is
  case F =>
    intro w mg fa h KX G hmg own
    refine' K6.all_mk KX G hmg own ?aB ?aC_c ?xL_c ?sa_c ?ga_c ?gg_c ?nb_c ?aI_c ?tI_c ?lI_c ?cI_c ?kC_c ?eC_c ?tC_c ?hC_c ?sC_c ?aC_d ?xL_d ?sa_d ?ga_d ?gg_d ?nb_d ?aI_d ?tI_d ?lI_d ?cI_d ?kC_d ?eC_d ?tC_d ?hC_d ?sC_d ?aC_r ?xL_r ?sa_r ?ga_r ?gg_r ?nb_r ?aI_r ?tI_r ?lI_r ?cI_r ?kC_r ?eC_r ?tC_r ?hC_r ?sC_r ?sDC ?a0 ?l0 ?c0 ?k0 ?a1 ?l1 ?c1 ?k1 ?a2 ?l2 ?c2 ?k2 ?a3 ?l3 ?c3 ?k3 ?a4 ?l4 ?c4 ?k4 ?a5 ?l5 ?c5 ?k5 ?a6 ?l6 ?c6 ?k6 ?a7 ?l7 ?c7 ?k7 ?a8 ?l8 ?c8 ?k8 ?a9 ?l9 ?c9 ?k9 ?a10 ?l10 ?c10 ?k10 ?a11 ?l11 ?c11 ?k11 ?a12 ?l12 ?c12 ?k12 ?a13 ?l13 ?c13 ?k13 ?a14 ?l14 ?c14 ?k14 ?a15 ?l15 ?c15 ?k15 ?a16 ?l16 ?c16 ?k16 ?a17 ?l17 ?c17 ?k17 ?a18 ?l18 ?c18 ?k18 ?a19 ?l19 ?c19 ?k19 ?a20 ?l20 ?c20 ?k20 ?a21 ?l21 ?c21 ?k21 ?a22 ?l22 ?c22 ?k22 ?a23 ?l23 ?c23 ?k23 ?a24 ?l24 ?c24 ?k24 ?a25 ?l25 ?c25 ?k25 ?a26 ?l26 ?c26 ?k26 ?a27 ?l27 ?c27 ?k27 ?a28 ?l28 ?c28 ?k28 ?a29 ?l29 ?c29 ?k29 ?a30 ?l30 ?c30 ?k30 ?aL ?lL ?cdL ?kL ?lC ?vC ?nP ?hC ?z_abs ?z_all ?z_bool ?z_enumerate ?z_int ?z_isinstance ?z_len ?z_list ?z_min ?z_range ?z_repr ?z_sorted ?z_str ?z_sum ?z_tuple ?z_zip ?gL
    (case aB => k_is)
    (case aC_c => k_is)
    (case xL_c => k_is)
    (case sa_c => k_is)
    (case ga_c => k_is)
    (case gg_c => k_is)
    (case nb_c => k_is)
    (case aI_c => k_is)
    (case tI_c => k_is)
    (case lI_c => k_is)
    (case cI_c => k_is)
    (case kC_c => k_is)
    (case eC_c => k_is)
    (case tC_c => k_is)
    (case hC_c => k_is)
    (case sC_c => first | rfl | k_is)
    (case aC_d => k_is)
    (case xL_d => k_is)
    (case sa_d => k_is)
    (case ga_d => k_is)
    (case gg_d => k_is)
    (case nb_d => k_is)
    (case aI_d => k_is)
    (case tI_d => k_is)
    (case lI_d => k_is)
    (case cI_d => k_is)
    (case kC_d => k_is)
    (case eC_d => k_is)
    (case tC_d => k_is)
    (case hC_d => k_is)
    (case sC_d => first | rfl | k_is)
    (case aC_r => k_is)
    (case xL_r => k_is)
    (case sa_r => k_is)
    (case ga_r => k_is)
    (case gg_r => k_is)
    (case nb_r => k_is)
    (case aI_r => k_is)
    (case tI_r => k_is)
    (case lI_r => k_is)
    (case cI_r => k_is)
    (case kC_r => k_is)
    (case eC_r => k_is)
    (case tC_r => k_is)
    (case hC_r => k_is)
    (case sC_r => first | rfl | k_is)
    (case sDC => k_is)
    (case a0 => k_is)
    (case l0 => k_is)
    (case c0 => k_is)
    (case k0 => k_is)
    (case a1 => k_is)
    (case l1 => k_is)
    (case c1 => k_is)
    (case k1 => k_is)
    (case a2 => k_is)
    (case l2 => k_is)
    (case c2 => k_is)
    (case k2 => k_is)
    (case a3 => k_is)
    (case l3 => k_is)
    (case c3 => k_is)
    (case k3 => k_is)
    (case a4 => k_is)
    (case l4 => k_is)
    (case c4 => k_is)
    (case k4 => k_is)
    (case a5 => k_is)
    (case l5 => k_is)
    (case c5 => k_is)
    (case k5 => k_is)
    (case a6 => k_is)
    (case l6 => k_is)
    (case c6 => k_is)
    (case k6 => k_is)
    (case a7 => k_is)
    (case l7 => k_is)
    (case c7 => k_is)
    (case k7 => k_is)
    (case a8 => k_is)
    (case l8 => k_is)
    (case c8 => k_is)
    (case k8 => k_is)
    (case a9 => k_is)
    (case l9 => k_is)
    (case c9 => k_is)
    (case k9 => k_is)
    (case a10 => k_is)
    (case l10 => k_is)
    (case c10 => k_is)
    (case k10 => k_is)
    (case a11 => k_is)
    (case l11 => k_is)
    (case c11 => k_is)
    (case k11 => k_is)
    (case a12 => k_is)
    (case l12 => k_is)
    (case c12 => k_is)
    (case k12 => k_is)
    (case a13 => k_is)
    (case l13 => k_is)
    (case c13 => k_is)
    (case k13 => k_is)
    (case a14 => k_is)
    (case l14 => k_is)
    (case c14 => k_is)
    (case k14 => k_is)
    (case a15 => k_is)
    (case l15 => k_is)
    (case c15 => k_is)
    (case k15 => k_is)
    (case a16 => k_is)
    (case l16 => k_is)
    (case c16 => k_is)
    (case k16 => k_is)
    (case a17 => k_is)
    (case l17 => k_is)
    (case c17 => k_is)
    (case k17 => k_is)
    (case a18 => k_is)
    (case l18 => k_is)
    (case c18 => k_is)
    (case k18 => k_is)
    (case a19 => k_is)
    (case l19 => k_is)
    (case c19 => k_is)
    (case k19 => k_is)
    (case a20 => k_is)
    (case l20 => k_is)
    (case c20 => k_is)
    (case k20 => k_is)
    (case a21 => k_is)
    (case l21 => k_is)
    (case c21 => k_is)
    (case k21 => k_is)
    (case a22 => k_is)
    (case l22 => k_is)
    (case c22 => k_is)
    (case k22 => k_is)
    (case a23 => k_is)
    (case l23 => k_is)
    (case c23 => k_is)
    (case k23 => k_is)
    (case a24 => k_is)
    (case l24 => k_is)
    (case c24 => k_is)
    (case k24 => k_is)
    (case a25 => k_is)
    (case l25 => k_is)
    (case c25 => k_is)
    (case k25 => k_is)
    (case a26 => k_is)
    (case l26 => k_is)
    (case c26 => k_is)
    (case k26 => k_is)
    (case a27 => k_is)
    (case l27 => k_is)
    (case c27 => k_is)
    (case k27 => k_is)
    (case a28 => k_is)
    (case l28 => k_is)
    (case c28 => k_is)
    (case k28 => k_is)
    (case a29 => k_is)
    (case l29 => k_is)
    (case c29 => k_is)
    (case k29 => k_is)
    (case a30 => k_is)
    (case l30 => k_is)
    (case c30 => k_is)
    (case k30 => k_is)
    (case aL => k_is)
    (case lL => k_is)
    (case cdL => k_is)
    (case kL => k_is)
    (case lC => k_is)
    (case vC => rfl)
    (case nP => first | rfl | kernel_rfl)
    (case hC => first | rfl | kernel_rfl)
    (case z_abs => k_is)
    (case z_all => k_is)
    (case z_bool => k_is)
    (case z_enumerate => k_is)
    (case z_int => k_is)
    (case z_isinstance => k_is)
    (case z_len => k_is)
    (case z_list => k_is)
    (case z_min => k_is)
    (case z_range => k_is)
    (case z_repr => k_is)
    (case z_sorted => k_is)
    (case z_str => k_is)
    (case z_sum => k_is)
    (case z_tuple => k_is)
    (case z_zip => k_is)
    (case gL => k_is)
