import PyProof.Rows.All
import Wide.All
import OpenK.AllK
import Wide.FinOn
import HandS.Codes
import HandS.Defaults
import HandS.DictComp
import HandS.EndOwn
import HandS.Evl
import HandS.ExcField
import HandS.ExcIs
import HandS.ExcOwn
import HandS.ForExc
import HandS.ForMost
import HandS.Gcd
import HandS.IsInst
import HandS.Lambda
import HandS.List
import HandS.MakeKwOnly
import HandS.More
import HandS.OwnEq
import HandS.Set
import HandS.SetFor
import HandS.SetTxt0
import HandS.SortKw
import HandS.Star
import HandS.StrMore
import HandS.Strs
import HandS.TryMany
import HandS.TupAny
import HandS.Wide
import HandS.WordsExc
import HandS.Zip
import KE.DatumOrd
import KE.GoesEnum
import KE.GoesMore
import KE.KDictDisplayH
import KE.KExcInit
import KE.KExcIs
import KE.KNestM
import PyProof.CallFns
import PyProof.Rows.SortShellAny
import PySem.Challenge.RW_curvebells_k86_whole_layings_of_heard_lo
set_option Elab.async false
set_option linter.all false
set_option maxRecDepth 100000
set_option maxHeartbeats 8000000
namespace Hb
open PySem PySem.Spec PyProof.Rows L2
/-! ### heaps -/
theorem same_new {H : Hp} {p : Addr} (h : H p = none) (o : HO) : Same H (upd H p o) := fun b u q => by
  rw [upd_ne (ne_of_none q h)]
  exact q
/-- a new object -/
theorem new_at {H : Hp} {p : Addr} {o : HO} {G : Hp → Prop} (h : H p = none) (k : ∀ H', Same H H' → H' p = some o → G H') : G (upd H p o) := k _ (same_new h o) upd_same
/-- a new tuple, a new list as the value of a display -/
theorem tup_at {H : Hp} {xs : List V} {Q : VK} (hl : xs.length ≤ 1000) (k : ∀ p H', H p = none → Same H H' → H' p = some (.tup xs) → Q (.ref p) H') : xs.length ≤ sizeLine ∧ ∀ p, H p = none → Q (.ref p) (upd H p (.tup xs)) :=
  ⟨Nat.le_trans hl (by decide), fun p hp => k p _ hp (same_new hp _) upd_same⟩
theorem lst_at {H : Hp} {xs : List V} {Q : VK} (hl : xs.length ≤ 1000) (k : ∀ p H', H p = none → Same H H' → H' p = some (.lst xs) → Q (.ref p) H') : xs.length ≤ sizeLine ∧ ∀ p, H p = none → Q (.ref p) (upd H p (.lst xs)) :=
  ⟨Nat.le_trans hl (by decide), fun p hp => k p _ hp (same_new hp _) upd_same⟩
/-- all but the object at p is as it was -/
def Kept (p : Addr) (H H' : Hp) : Prop := ∀ b o, H b = some o → b ≠ p → H' b = some o
theorem Same.kept {H H' : Hp} {p : Addr} (h : Same H H') : Kept p H H' := fun b o e _ => h b o e
theorem Kept.refl (p : Addr) (H : Hp) : Kept p H H := fun _ _ h _ => h
theorem Kept.trans {p : Addr} {H H1 H2 : Hp} (a : Kept p H H1) (b : Kept p H1 H2) : Kept p H H2 := fun c o h n => b c o (a c o h n) n
theorem kept_upd {p : Addr} {H : Hp} {o : HO} : Kept p H (upd H p o) := fun b u e n => by rw [upd_ne n]; exact e
/-- a tuple stays where the list at p changes -/
theorem Kept.tup {p t : Addr} {H H' : Hp} {xs ys : List V} (k : Kept p H H') (hp : H p = some (.lst ys)) (h : H t = some (.tup xs)) : H' t = some (.tup xs) := k t _ h (ne_of h hp (by intro z; cases z))

/-! ### tests -/
theorem iteD {c A B : Prop} [Decidable c] (h1 : c → A) (h2 : ¬ c → B) : if decide c = true then A else B := by
  by_cases h : c
  · rw [decide_eq_true h]
    exact iteT (h1 h)
  · rw [decide_eq_false h]
    exact iteF (h2 h)
theorem iteN {c A B : Prop} [Decidable c] (h1 : ¬ c → A) (h2 : c → B) : if (!decide c) = true then A else B := by
  by_cases h : c
  · rw [decide_eq_true h]
    exact iteF (h2 h)
  · rw [decide_eq_false h]
    exact iteT (h1 h)
theorem divw {i j : Int} (h0 : 0 < j) (h : j < 2 ^ 100) : CDivW i j := wide_div (b := 100) h0 (by omega) (by decide) (by decide)

/-! ### the defs of a text, by their promises -/
structure Cl (P : Program) (w : World) (K : PySem.W.Frag) (mg : Str → Option Value) (base : Heap) (x : Str) (ps : List Str) (dvs : List V) (lv : Nat) (sp : Sp) : Prop where
  ex : ∃ (f : Addr) (fd : FuncData) (ds : List Value), FnOk P w K mg base CX0 lv f fd ps sp ∧ mg x = some (.ref f) ∧ PySem.W.keepIn K (.ref f) = true ∧ Binds K fd ps ds ∧ Vals dvs ds
section
variable {X : Cx} {ps : List Str} {dvs : List V} {lv : Nat} {sp : Sp} {x : Str} {p pos : Pos} {e : Expr} {es : List Expr} {t : TA}
theorem pe_use (C : Cl X.prog X.w X.K X.mg X.base x ps dvs lv sp) (hr : Room lv X.A) (hg : Gl X x) (ha : PA X (e :: es) t) (hdb : (x == ("__debug__" : Str)) = false := by decide)
    (he : starEach (e :: es) X.env = (false, eval e X.env) :: starEach es X.env := by rfl) (hpl : (backTo pos (starEach es X.env)).any (·.1) = false := by rfl) : PE X (.Call (.Name x p) (e :: es) [] pos) (tCall sp dvs E0 t) := by
  obtain ⟨f, fd, ds, F, hm, hk, hb, hd⟩ := C.ex
  exact pe_call F hr hg hm hk hb hd pass0 ha hdb he hpl
theorem pe_use0 (C : Cl X.prog X.w X.K X.mg X.base x ps dvs lv sp) (hr : Room lv X.A) (hg : Gl X x) (hdb : (x == ("__debug__" : Str)) = false := by decide) : PE X (.Call (.Name x p) [] [] pos) (tCall sp dvs E0 tNil) := by
  obtain ⟨f, fd, ds, F, hm, hk, hb, hd⟩ := C.ex
  exact pe_call0 F hr hg hm hk hb hd pass0 hdb
end
/-- f(k = v, ..) without a value by place -/
structure ClK (P : Program) (w : World) (K : PySem.W.Frag) (mg : Str → Option Value) (base : Heap) (x : Str) (ps : List Str) (n : Nat) (ks : List Str) (gV : List V → List V → List V) (lv : Nat) (sp : Sp) : Prop where
  ex : ∃ (f : Addr) (fd : FuncData) (g : List Value → List Value → List Value), FnOk P w K mg base CX0 lv f fd ps sp ∧ mg x = some (.ref f) ∧ PySem.W.keepIn K (.ref f) = true ∧ KBn K fd ps n ks g gV
section
variable {X : Cx} {ps ks : List Str} {n : Nat} {gV : List V → List V → List V} {lv : Nat} {sp : Sp} {x : Str} {p pos : Pos} {e : Expr} {es : List Expr} {t tk : TA} {kws : List Keyword}
theorem pe_useK0 (C : ClK X.prog X.w X.K X.mg X.base x ps 0 ks gV lv sp) (hr : Room lv X.A) (hg : Gl X x) (hkw : PK X kws tk) (hall : (backToKw pos (keywordEach kws X.env)).all (·.1.isSome) = true := by rfl) (hks : (backToKw pos (keywordEach kws X.env)).filterMap (·.1) = ks := by rfl)
    (hdb : (x == ("__debug__" : Str)) = false := by decide) (hpl : ((backTo pos (starEach [] X.env)).any (·.1) || (backToKw pos (keywordEach kws X.env)).any (·.1.isNone)) = false := by rfl) :
    PE X (.Call (.Name x p) [] kws pos) (tCallN 0 ks.length sp gV E0 tNil tk) := by
  obtain ⟨f, fd, g, F, hm, hk, hb⟩ := C.ex
  refine ⟨fun pins s σ H Q I h => ?_⟩
  refine wpAny_Call_Name_kw (ld_glob I hg hm ?_ hdb)
  refine PySem.W.callWith_KW0 (h₀ := X.base) I.ok.mod.kin hk hall ?_ hpl
  refine thn (hkw.run pos pins s σ H _ I h) fun ws s2 ⟨zs, H2, I2, rz, l1, l2, q2⟩ => ⟨I2.kIn, ?_⟩
  rw [hks]
  exact run_fnN (us := []) (vs := []) F hr hb pass0 I2 .nil rz rfl l2 q2
theorem pe_useK (C : ClK X.prog X.w X.K X.mg X.base x ps n ks gV lv sp) (hr : Room lv X.A) (hg : Gl X x) (ha : PA X (e :: es) t) (hkw : PK X kws tk) (hall : (backToKw pos (keywordEach kws X.env)).all (·.1.isSome) = true := by rfl)
    (hks : (backToKw pos (keywordEach kws X.env)).filterMap (·.1) = ks := by rfl)
    (hdb : (x == ("__debug__" : Str)) = false := by decide) (he : starEach (e :: es) X.env = (false, eval e X.env) :: starEach es X.env := by rfl)
    (hpl : ((backTo pos (starEach (e :: es) X.env)).any (·.1) || (backToKw pos (keywordEach kws X.env)).any (·.1.isNone)) = false := by rfl) :
    PE X (.Call (.Name x p) (e :: es) kws pos) (tCallN n ks.length sp gV E0 t tk) := by
  obtain ⟨f, fd, g, F, hm, hk, hb⟩ := C.ex
  exact pe_callN F hr hg hm hk hb pass0 ha hkw hall hks hdb he hpl
end
/-- positional and keyword arguments that fill all parameters of a def with defaults -/
theorem kb_full {K : PySem.W.Frag} {x qual : Str} {params : Arguments} {body : List Stmt} {scope : Scope} {dvs : List V} {f : Addr} {fd : FuncData} {ps : List Str} (F : FunD K x qual params body scope dvs [] f fd) (n : Nat) (ks : List Str) (g : {α : Type} → List α → List α → List α → List α) (hd : dvs ≠ [])
    (hrel : ∀ {vs ds zs : List V} {us its ws : List Value}, Vals vs us → Vals ds its → Vals zs ws → Vals (g vs ds zs) (g us its ws))
    (h : ∀ (T : Addr) (kV doc pm : Value) (an : Option Addr) (cdv ct : Value) (us its ws : List Value), us.length = n → its.length = dvs.length → ws.length = ks.length →
      ∃ k, bindArgs (PySem.W.fnOf x qual params body scope (.ref T) kV doc pm an cdv ct) ⟨us, ks.zip ws⟩ = seqItems? (.ref T) >>= k ∧ k (some its.toArray) = pure (ps.zip (g us its ws))) :
    ∃ its : List Value, KBn K fd ps n ks (fun us ws => g us its ws) (fun vs zs => g vs dvs zs) := by
  obtain ⟨oc, od, dV, kV, doc, pm, an, cdv, ct, osl, rfl, lk, hcd, hD, hK⟩ := F.ex
  rcases hD with ⟨e, _⟩ | ⟨_, T, o, its, m, rfl, lT, oT, rT⟩
  · exact absurd e hd
  · refine ⟨its, ⟨fun s us ws X l1 l2 => ?_, fun r1 r2 => hrel r1 rT r2⟩⟩
    obtain ⟨k, e1, e2⟩ := h T kV doc pm an cdv ct us its ws l1 rT.length.symm l2
    refine BindsTo.of_looks fun M => ?_
    rw [e1]
    exact looks_items X lT oT (.of_pure e2)
end Hb

/-! enumerate of a tuple -/
namespace En
open PySem PySem.Spec PyProof.Rows L2
set_option maxHeartbeats 1000000 in
theorem new_one {v : Value} {it : Obj} {Z : Heap → Prop} (B : Begins v it Z) : Meets (Builtin.«enumerate.__new__» ⟨[.type "enumerate", v], []⟩) (fun _ R z => Z z.heap ∧
    R (.ok (.ret (.ref (z.heap.push it).objs.size))) { z with heap := (z.heap.push it).push { cls := .type "enumerate", data := .fields #[.none, .bool false, .ref z.heap.objs.size, rawInt 0, .none, .none] } }) :=
  .of_wp fun prog w A R z hz => by
    obtain ⟨hp, gs, dr, nt, oss⟩ := z
    obtain ⟨hZ, hR⟩ := hz
    have isub := sub_enumerate
    have begun : ∀ {A' : Around} {E : Value → Shared → Prop} {Q : Value → Shared → Prop}, Q (.ref hp.objs.size) ⟨hp.push it, gs, dr, nt, oss⟩ → wpAny (model prog w) A' (pyIter v) Q E ⟨hp, gs, dr, nt, oss⟩ :=
      fun qq => B.iter prog w _ _ ⟨hp, gs, dr, nt, oss⟩ _ hZ qq
    wp_walk using begun
    refine wpAny_stack_any fun _ => wpAny_pure ?_
    split
    · rename_i cl _ _ _ _ _
      cases (cl == Value.type "enumerate") <;> (wp_walk using begun; exact ⟨_, rfl, hR⟩)
    · wp_walk using begun
      exact ⟨_, rfl, hR⟩
section
variable {prog : Program} {w : World} {A : Around} {E : Value → Shared → Prop} {s : Shared}
theorem call_one {v : Value} {it : Obj} {Z : Heap → Prop} {Q : Value → Shared → Prop} (B : Begins v it Z) (hZ : Z s.heap)
    (fin : ∀ h', IsEnum h' (s.heap.objs.size + 1) s.heap.objs.size 0 .none → h'.get? s.heap.objs.size = some it → (∀ b o, s.heap.get? b = some o → h'.get? b = some o) → Q (.ref (s.heap.objs.size + 1)) { s with heap := h' }) :
    wpAny (model prog w) A (call (.type "enumerate") [v]) Q E s := by
  refine callType_new F.called_enumerate (by decide) (F.typeCall_enumerate_1 v) (F.newCall_enumerate_1 v) (fun self => F.args_object_init_2 self v) F.entry_enumerate_new (new_one B) ⟨hZ, ?_⟩
  have size1 : (s.heap.push it).objs.size = s.heap.objs.size + 1 := Heap.size_push ..
  show _ ∧ _
  rw [size1]
  have at1 : IsEnum ((s.heap.push it).push { cls := .type "enumerate", data := .fields #[.none, .bool false, .ref s.heap.objs.size, rawInt 0, .none, .none] }) (s.heap.objs.size + 1) s.heap.objs.size 0 .none := by
    have z := Heap.get?_push_size (s.heap.push it) (o := { cls := .type "enumerate", data := .fields #[.none, .bool false, .ref s.heap.objs.size, rawInt 0, .none, .none] }) rfl
    rw [size1] at z
    exact z
  exact ⟨⟨_, at1, rfl⟩, fin _ at1 (Heap.get?_push_of_some _ (Heap.get?_push_size _ B.free)) fun b o y => Heap.get?_push_of_some _ (Heap.get?_push_of_some _ y)⟩
end
def IteT (K : PySem.W.Frag) (a : Addr) : It where
  go i H := ∃ (xs : List V) (x : V), SqT K H a xs ∧ xs[i]? = some x
  yld i H v H' := ∃ T x, v = .ref T ∧ H T = none ∧ H' = upd H T (.tup [.int (i : Nat), x]) ∧ ∀ xs, SqT K H a xs → xs[i]? = some x
  stop i H := ∃ xs : List V, SqT K H a xs ∧ xs.length ≤ i
theorem tup_ne {h : Heap} {a it : Addr} {k : Nat} {items : Array Value} (h1 : h.IsTuple a items) (h2 : h.IsTupleIter it a k) : a ≠ it := by
  intro e
  obtain ⟨o, ho, hc, _⟩ := h1
  obtain ⟨o2, ho2, hc2, _⟩ := h2
  rw [← e, ho] at ho2
  cases ho2
  exact absurd (Value.type.inj (hc.symm.trans hc2)) (by decide)
theorem turn_enumT {P : Program} {w : World} {K : PySem.W.Frag} {elts : List Expr} {kk : Nat} {tpos : Pos} (a e it : Addr) :
    Turn P w K (.Tuple elts kk tpos) (IteT K a) [e, it] e (fun i h => (∃ old, IsEnum h e it ((i : Nat) : Int) old) ∧ h.IsTupleIter it a i ∧ e ≠ it) where
  mem := by simp
  obj i h st b hb := by
    obtain ⟨⟨old, hen⟩, ⟨o, ho, _, hd⟩, _⟩ := st
    rcases (show b = e ∨ b = it by simpa using hb) with z | z
    · exact ⟨_, by rw [z]; exact hen, fun v q => by cases (show Data.fields _ = Data.cell v from q)⟩
    · exact ⟨o, by rw [z]; exact ho, fun v q => by rw [hd] at q; cases q⟩
  keep i h h' st k := by
    obtain ⟨⟨old, hen⟩, hti, ne⟩ := st
    exact ⟨⟨old, k e (by simp) _ hen⟩, hti.at fun o q => k it (by simp) o q, ne⟩
  item := by
    intro X hP hw hK hc i pins s σ H E I hf st hg
    subst hP hw hK
    obtain ⟨⟨old, hen⟩, hti, ne⟩ := st
    obtain ⟨xs, x, hq, hx⟩ := hg
    obtain ⟨its, rel, pt, _⟩ := I.tuple hq
    obtain ⟨u, hu, ru⟩ := rel.get hx
    have lt1 : e < s.heap.objs.size := Heap.lt_size hen
    have lt2 : it < s.heap.objs.size := by obtain ⟨_, y, _⟩ := hti; exact Heap.lt_size y
    have ane := tup_ne pt hti
    have elt : ∀ b ∈ [e, it], b < s.heap.objs.size := fun b hb => by
      rcases (show b = e ∨ b = it by simpa using hb) with z | z <;> rw [z] <;> assumption
    have ena : e ≠ a := fun z => by
      obtain ⟨o, ho, hcl, _⟩ := pt
      have q : s.heap.get? e = _ := hen
      rw [z, ho] at q
      cases q
      exact absurd (Value.type.inj hcl) (by decide)
    have hh : X.A.in1.handled = none := I.ok.hd hc
    refine wpAny_pyNext_enum_itemD (Draws.tuple hh it a ane its.toArray) hen ⟨hti, pt⟩ (show i < its.toArray.size by rw [List.size_toArray]; exact (List.getElem?_eq_some_iff.mp hu).1) ne (by simp [ne, ena]) fun y h' tk hy out st' hT hsz hk => ?_
    have hyu : y = u := by
      have : its[i]? = some y := by simpa using hy
      rw [hu] at this
      exact (Option.some.inj this).symm
    subst hyu
    refine ⟨_, rfl, wpAny_letOwnedTupleGo_enum (s := { s with heap := h', toks := tk + 1 }) out fun h2 hen2 sb => ?_⟩
    have t2 : h2.get? s.heap.objs.size = some { cls := .type "tuple", data := .seq #[.int i tk, y] } := (sb.2 _ (Nat.ne_of_gt lt1)).trans hT
    have newT : ObjOk X.prog X.w (upd H s.heap.objs.size (.tup [.int (i : Nat), x])) h2 s.heap.objs.size (.tup [.int (i : Nat), x]) :=
      ⟨by show 2 ≤ sizeLine; decide, [.int i tk, y], .cons ⟨_, rfl⟩ (.cons ru .nil), ⟨_, t2, rfl, _, rfl⟩⟩
    have J : Inv X pins σ (upd H s.heap.objs.size (.tup [.int (i : Nat), x])) { s with heap := h2, toks := tk + 1 } :=
      I.turnedNew (t' := tk + 1) (ch := [e, it]) (fun b ob hb q => (sb.2 b (fun z => hb (by simp [z]))).trans (hk b ob (fun z => hb (by simp [z])) (fun z => hb (by simp [z])) q)) hf (Nat.le_refl _) newT
    refine ⟨.ref s.heap.objs.size, _, J, rfl, ⟨_, x, rfl, I.hok.fresh (Nat.le_refl _), rfl, fun ys hys => by rw [I.tuple_inj hys hq]; exact hx⟩, ⟨⟨y, ?_⟩, st'.1.at fun o q => (sb.2 it (Ne.symm ne)).trans q, ne⟩, fun b hb => ?_⟩
    · rw [show ((i + 1 : Nat) : Int) = (i : Int) + 1 by omega]
      exact hen2
    · rw [upd_ne (Nat.ne_of_lt (elt b hb))]
      exact (hf b hb).1
  done := by
    intro X hP hw hK hc i pins s σ H E I hf st hg
    subst hP hw hK
    obtain ⟨⟨old, hen⟩, hti, ne⟩ := st
    obtain ⟨xs, hq, hx⟩ := hg
    obtain ⟨its, rel, pt, _⟩ := I.tuple hq
    obtain ⟨g0, g1, g2, g3, g4, g5⟩ := hf it (by simp)
    have hl := rel.length
    have hh : X.A.in1.handled = none := I.ok.hd hc
    have T : Draws X.prog X.w X.A.in1 it [it, a] i (fun i v => its.toArray[i]? = some v) (fun k h => k = i ∧ h.IsTupleIter it a i ∧ h.IsTuple a its.toArray) := {
      live := fun _ _ sj => let ⟨o, ho, _⟩ := sj.2.1; ⟨o, ho⟩
      frame := fun _ _ _ sj k => ⟨sj.1, sj.2.1.at fun o q => k it (by simp) o q, sj.2.2.at fun o q => k a (by simp) o q⟩
      item := fun j z Q' E' hj sj hQ => absurd sj.1 (Nat.ne_of_lt hj)
      done := fun z Q' E' sj hE => wpAny_nextOf_tuple_end hh sj.2.1 sj.2.2 (by simp; omega) hE }
    exact wpAny_pyNext_enum_endD T hen ⟨rfl, hti, pt⟩ fun h' eb => ⟨rfl, I.turned (t' := s.toks) (fun b o hb q => eb b o hb q) g0 g1 g3 g4 g5⟩
  self A i s Q E st h := by
    obtain ⟨⟨_, hen⟩, _⟩ := st
    exact wpAny_pyIter_enum hen h
def iEnumT (K : PySem.W.Frag) (ta : TA) : TI := fun σ H R => ta σ H fun vs H1 => ∃ a, vs = [.ref a] ∧ (∃ xs, SqT K H1 a xs) ∧ R (IteT K a) H1
theorem pi_enumT {X : Cx} {e : Expr} {ta : TA} {p pos tpos : Pos} {elts : List Expr} {kk : Nat} (hg : Gl X "enumerate") (hm : X.mg "enumerate" = none) (ha : PA X [e] ta) (hs : starEach [e] X.env = [(false, eval e X.env)] := by rfl) :
    PI X (.Tuple elts kk tpos) (.Call (.Name "enumerate" p) [e] [] pos) (iEnumT X.K ta) := by
  refine ⟨fun pins s σ H R I h => Call_ (ld_blt I hg hm boot_enumerate (PyProof.Rows.callWith_type1 (thn (ha.run pos pins s σ H _ I h) fun us s1 gone => ?_) hs rfl))⟩
  obtain ⟨vs, H1, I1, rel, a, rfl, ⟨xs, hq⟩, qq⟩ := gone
  match us, rel with
  | [_], .cons r .nil =>
    cases r
    obtain ⟨its, _, pt, _⟩ := I1.tuple hq
    refine call_one (begins_tuple a its.toArray) pt fun h' hen hit hk => wpAny_pyIter_enum hen ?_
    have J : Inv X pins σ H1 { s1 with heap := h' } := I1.kept (t' := s1.toks) hk
    refine ⟨s1.heap.objs.size + 1, [s1.heap.objs.size + 1, s1.heap.objs.size], _, _, H1, rfl, J, turn_enumT a (s1.heap.objs.size + 1) s1.heap.objs.size, ⟨⟨.none, hen⟩, ⟨_, hit, rfl, rfl⟩, Nat.succ_ne_self _⟩, fun b hb => ?_, qq⟩
    have le : s1.heap.objs.size ≤ b := by
      rcases (show b = s1.heap.objs.size + 1 ∨ b = s1.heap.objs.size by simpa using hb) with z | z
      · rw [z]; exact Nat.le_succ _
      · rw [z]; exact Nat.le_refl _
    exact I1.fpOk le (I1.hok.fresh le)
/-- for i, x in enumerate(t) -/
theorem for_enumT {K : PySem.W.Frag} {a : Addr} {xs : List V} {g : TG} {tb : TS} {D : Ends} {σ : L2.St} {H : Hp} (Pv : Nat → L2.St → Hp → Prop) (h0 : Pv 0 σ H) (hl : ∀ i σ H, Pv i σ H → SqT K H a xs)
    (hs : ∀ (i : Nat) (x : V) (T : Addr) (σ : L2.St) (H : Hp), xs[i]? = some x → Pv i σ H → H T = none → g (.ref T) σ (upd H T (.tup [.int (i : Nat), x])) fun σ2 H2 => tb { D with nx := Pv (i + 1), ct := Pv (i + 1), bk := D.nx } σ2 H2)
    (hd : ∀ σ H, Pv xs.length σ H → D.nx σ H) :
    ∃ W : Nat → Nat → L2.St → Hp → Prop, (∃ m, W 0 m σ H) ∧ ∀ i m σ H, W i m σ H →
      ((IteT K a).stop i H ∧ D.nx σ H) ∨ ((IteT K a).go i H ∧ ∃ N : L2.St → Hp → Prop, (∀ σ' H', N σ' H' → ∃ m', m' < m ∧ W (i + 1) m' σ' H') ∧ ∀ v H', (IteT K a).yld i H v H' → g v σ H' fun σ2 H2 => tb { D with nx := N, ct := N, bk := D.nx } σ2 H2) := by
  refine ⟨fun i m σ H => m + i = xs.length ∧ Pv i σ H, ⟨xs.length, rfl, h0⟩, fun i m σ H ⟨e, p⟩ => ?_⟩
  have q := hl i σ H p
  cases m with
  | zero => exact .inl ⟨⟨xs, q, by omega⟩, hd σ H (by rw [show xs.length = i by omega]; exact p)⟩
  | succ m =>
    have hlt : i < xs.length := by omega
    refine .inr ⟨⟨xs, xs[i], q, List.getElem?_eq_getElem hlt⟩, Pv (i + 1), fun σ' H' p' => ⟨m, Nat.lt_succ_self m, by omega, p'⟩, fun v H' y => ?_⟩
    obtain ⟨T, x, rfl, hT, rfl, hx⟩ := y
    exact hs i x T σ H (hx xs q) p hT
end En

/-! sets of texts, made of a list or tuple; sorted of them -/
namespace St
open PySem PySem.Spec PyProof.Rows L2 PySem.Froz
section
variable {P : Program} {w : World} {A : Around} {E : Value → Shared → Prop} {s : Shared}
/-- the order of a set's walk is known to be some order -/
def Led (w : World) (t : SetTable) : Prop := w.params.followText "set-order" = true ∨ t.led = true
/-- the set of the texts l stands at a -/
def TS (P : Program) (w : World) (h : Heap) (a : Addr) (l : List Str) : Prop := ∃ D, h.get? a = some (sObj "set" D) ∧ TxOk P w D l ∧ Ris D.2.2.place.toList ∧ Led w D.2.2 ∧ l.Nodup
theorem TS.at {h h' : Heap} {a : Addr} {l : List Str} (R : TS P w h a l) (k : ∀ o, h.get? a = some o → h'.get? a = some o) : TS P w h' a l := let ⟨D, e, r⟩ := R; ⟨D, k _ e, r⟩
theorem tail_ris {es : Array (Int × Value)} {t : SetTable} {ep : Nat} {wd : Bool} (r : Ris t.place.toList) : Ris (tailTx ep es t wd).2.2.place.toList := by
  unfold tailTx
  by_cases c : (!wd && t.tooFull) = true
  · rw [if_pos c]; exact relayAll_ris _ _ _
  · rw [if_neg c]; exact r
theorem tail_led {es : Array (Int × Value)} {t : SetTable} {ep : Nat} {wd : Bool} (r : t.led = true) : (tailTx ep es t wd).2.2.led = true := by
  unfold tailTx
  by_cases c : (!wd && t.tooFull) = true
  · rw [if_pos c]; exact (relayAll_led _ _ _).trans r
  · rw [if_neg c]; exact r
theorem addTx_ris {D : SD} {n : Int} {v : Value} (r : Ris D.2.2.place.toList) : Ris (addTx n v D).2.2.place.toList := by
  have r1 := layNew_ris D.2.2 D.1 n v r
  unfold addTx
  refine tail_ris ?_
  by_cases c : (layNew D.2.2 D.1 n v).2.1.plain = true
  · rw [if_pos c]; exact r1
  · rw [if_neg c]; exact r1
theorem addTx_led {D : SD} {n : Int} {v : Value} (r : Led w D.2.2) : Led w (addTx n v D).2.2 := by
  rcases r with r | r
  · exact .inl r
  · have l1 : (layNew D.2.2 D.1 n v).2.1.led = true := (layNew_led _ _ _ _).trans r
    refine .inr ?_
    unfold addTx
    refine tail_led ?_
    by_cases c : (layNew D.2.2 D.1 n v).2.1.plain = true
    · rw [if_pos c]; exact l1
    · rw [if_neg c]; exact l1
/-- add of a text that is in already -/
theorem had_x {a : Addr} {D : SD} {l : List Str} {k : Str} {u : Tok} {Q : Bool → Shared → Prop} (ho : s.heap.get? a = some (sObj "set" D)) (F : TxOk P w D l) (hk : k ∈ l) (hb : l.length < scanBound)
    (q : Q false s) : wpAny (model P w) A (setAddHashed a (.str k u) (hashStr w k)) Q E s := by
  obtain ⟨es, ep, t⟩ := D
  have small : es.size < scanBound := by rw [show es.size = l.length from F.sz]; exact hb
  obtain ⟨e, he, ie⟩ := (F.mem k).mp hk
  unfold setAddHashed setAddHashedIn
  refine wpAny_holding (wpAny_bind (wpAny_setState_of ho (rfl : (sObj "set" (es, ep, t)).data = .set es ep t) F.fit ?_)); dsimp only
  rw [byScan_of rfl small F.el, if_pos rfl]; unfold setAddByScan
  refine wpAny_bind (wpAny_bind (wpAny_rule (wpAny_bind (wpAny_setScan_of (knd := strKind P w) (is_str k u) ho rfl F.fit F.el ?_))))
  cases hr : es.toList.findIdx? (fun e => (strKind P w).is k e.2) with
  | some j => exact wpAny_pure (wpAny_pure q)
  | none => exact absurd ie (by rw [List.findIdx?_eq_none_iff.mp hr e he]; decide)
theorem ts_add {a : Addr} {l : List Str} {k : Str} {u : Tok} {Q : Bool → Shared → Prop} (R : TS P w s.heap a l) (hb : l.length + 1 < scanBound)
    (q : ∀ h' b, Heap.SameBut a s.heap h' → TS P w h' a (if k ∈ l then l else k :: l) → Q b { s with heap := h' }) : wpAny (model P w) A (setAddHashed a (.str k u) (hashStr w k)) Q E s := by
  obtain ⟨D, e, F, r, ld, nd⟩ := R
  by_cases hk : k ∈ l
  · exact had_x e F hk (by omega) (q s.heap false (Heap.SameBut.refl a s.heap) ⟨D, e, by rw [if_pos hk]; exact F, r, ld, by rw [if_pos hk]; exact nd⟩)
  · refine add_x e F hk hb (q _ true (Heap.SameBut.update s.heap a _) ⟨_, get_upd _ e rfl, ?_, addTx_ris r, addTx_led ld, ?_⟩)
    · rw [if_neg hk]; exact add_ok u F
    · rw [if_neg hk]; exact List.nodup_cons.mpr ⟨hk, nd⟩
/-- S.update(it), texts -/
theorem upd_texts {I : Addr} {fp wr : List Addr} {G : Array GenState → Array GenState → Prop} {n : Nat} {Pv : Nat → Value → Prop} {St : Nat → Shared → Prop} {R : Result → Shared → Prop}
    (W : WalksS P w A.in1 I fp wr G n Pv St) {S : Addr} (hS : S ∉ fp) {xs : List Str} (hn : n = xs.length) (hb : xs.length + 1 < scanBound) (hv : ∀ i v, Pv i v → ∃ x t, xs[i]? = some x ∧ v = .str x t) :
    ∀ (k i : Nat) (s : Shared) (l : List Str), n - i = k → i ≤ n → St i s → TS P w s.heap S l → l.length ≤ i → (∀ x, x ∈ l ↔ x ∈ xs.take i) →
      (∀ s' m, Moved (S :: wr) G s s' → TS P w s'.heap S m → m.length ≤ n → (∀ x, x ∈ m ↔ x ∈ xs) → R (.ok (.ret .none)) s') →
      codeAny (model P w) A (.builtin "set.update.loop" ⟨[.ref S, .ref I], []⟩) R s := by
  have sw : S ∉ wr := fun z => hS (W.sub S z)
  have wide : ∀ {s s' : Shared}, Moved wr G s s' → Moved (S :: wr) G s s' := fun m => m.mono fun b z => List.mem_cons_of_mem S z
  intro k
  induction k with
  | zero =>
    intro i s l e1 e2 st hT hl hm q
    obtain rfl : i = n := by omega
    refine codeAny_builtin F.entry_set_update_loop ?_
    rw [Around.under_plainId F.plain_set_update_loop _]
    refine wpAny_bind (m := pyNext (.ref I)) (W.done s _ _ st fun s' mv => ?_)
    refine wpAny_pure (q s' l (wide mv) (hT.at fun o e => mv.heap S o sw e) hl fun x => ?_)
    rw [hm x, List.take_of_length_le (by omega)]
  | succ k ih =>
    intro i s l e1 e2 st hT hl hm q
    have hi : i < n := by omega
    refine codeAny_builtin F.entry_set_update_loop ?_
    rw [Around.under_plainId F.plain_set_update_loop _]
    refine wpAny_bind (m := pyNext (.ref I)) (W.item i s _ _ hi st fun v s1 pv st1 mv => ?_)
    obtain ⟨x, t, ex, rfl⟩ := hv i v pv
    refine wpAny_bind (m := holding [Value.str x t] (setAdd S (.str x t))) (wpAny_holding ?_)
    unfold setAdd
    refine wpAny_holding (wpAny_bind ((strKind P w).pyHash (is_str (P := P) (w := w) x t) ?_))
    refine ts_add (s := { s1 with toks := s1.toks + 1 }) (hT.at fun o e => mv.heap S o sw e) (by omega) fun h' _ sb hT' => ?_
    have back : ∀ b o, b ≠ S → s1.heap.get? b = some o → h'.get? b = some o := fun b o ne e => (sb.2 b ne).trans e
    refine wpAny_pure ⟨plainId_quiet F.plain_set_update_loop _, ih (i + 1) _ _ (by omega) hi (W.frame _ s1 _ _ st1 (Nat.le_succ _) fun b z o e => back b o (fun y => hS (y ▸ z)) e) hT' ?_ (fun y => ?_) fun s2 m mv2 hT2 hl2 hm2 => ?_⟩
    · split
      · omega
      · rw [List.length_cons]; omega
    · rw [List.take_add_one, ex, List.mem_append, ← hm y]
      show _ ↔ _ ∨ y ∈ [x]
      rw [List.mem_singleton]
      split
      · exact ⟨.inl, fun z => z.elim id fun z => z ▸ (by assumption)⟩
      · rw [List.mem_cons]; exact Or.comm
    · exact q s2 m (Moved.trans W.gtrans ((wide mv).then_heap (Nat.le_succ _) fun b o z e => back b o (fun y => z (y ▸ List.mem_cons_self)) e) mv2) hT2 hl2 hm2
end
end St

namespace St
open PySem PySem.Spec PyProof.Rows L2 PySem.Froz
/-- a new set -/
abbrev S0 (w : World) : Obj := { cls := .type "set", dict := none, data := .set #[] 0 (.fresh 0 0 (!w.params.followText "set-order")) }
section
variable {P : Program} {w : World} {A : Around} {E : Value → Shared → Prop} {s : Shared}
set_option maxHeartbeats 8000000 in
/-- set(x), x a list or a tuple at l: its loop told by `loop` -/
theorem set_call {l : Addr} {T : String} {ol itO : Obj} {Res : Heap → Prop} {Q : Value → Shared → Prop} (hh : A.handled = none) (hol : s.heap.get? l = some ol) (hcl : ol.cls = .type T)
    (n1 : isSubtype (.type T) (.type "set") = pure false) (n2 : isSubtype (.type T) (.type "frozenset") = pure false) (n3 : (Value.type T == Value.type "dict") = false)
    (itr : ∀ {A : Around} {E : Value → Shared → Prop} {s1 : Shared} {Q : Value → Shared → Prop}, s1.heap.get? l = some ol → Q (.ref s1.heap.objs.size) { s1 with heap := s1.heap.push itO } → wpAny (model P w) A (pyIter (.ref l)) Q E s1)
    (loop : ∀ (A' : Around) (R : Result → Shared → Prop) (tk : Tok), A'.handled = none →
      (∀ h' tk', Res h' → (∀ b o, s.heap.get? b = some o → h'.get? b = some o) → R (.ok (.ret .none)) { s with heap := h', toks := tk' }) →
      codeAny (model P w) A' (.builtin "set.update.loop" ⟨[.ref s.heap.objs.size, .ref (s.heap.push (S0 w)).objs.size], []⟩) R { s with heap := (s.heap.push (S0 w)).push itO, toks := tk })
    (q : ∀ h' tk, Res h' → (∀ b o, s.heap.get? b = some o → h'.get? b = some o) → Q (.ref s.heap.objs.size) { s with heap := h', toks := tk }) :
    wpAny (model P w) A (call (.type "set") [.ref l]) Q E s := by
  obtain ⟨_, _, mro⟩ := F.called_set.mro; have made := F.called_set.made; have sub := F.called_set.sub; have k1 := F.called_set.notType; have k2 := F.called_set.canCreate; have ct := F.typeCall_set_1 (.ref l)
  refine wpAny_call (codeAny_of_tree ?_); show wpAny _ _ (callAny (.type "set") _) _ _ _
  refine wpAny_pure ⟨Code.quiet_builtin _ (by decide +kernel), codeAny_builtin F.entry_type_call ?_⟩; rw [Around.under_plain (weight_type_call_type "set" [.ref l] []) rfl]
  repeat any_goals first | assumption | wp_step
  refine codeAny_mono (code_set_led1 (.ref l) (E := E) (Q₁ := fun o s1 => o = .ref s.heap.objs.size ∧ s1 = { s with heap := s.heap.push (S0 w) }) ⟨rfl, rfl⟩) fun r s1 hr => ?_
  rcases r with e | (_ | _ | _ | o)
  · exact hr
  · exact hr.elim
  · exact hr.elim
  · exact hr.elim
  · obtain ⟨rfl, rfl⟩ := hr
    have hS : (s.heap.push (S0 w)).get? s.heap.objs.size = some (S0 w) := Heap.get?_push_size _ rfl
    have hT : Shared.TypeIs { s with heap := s.heap.push (S0 w) } (.ref s.heap.objs.size) "set" := ⟨_, hS, rfl⟩
    have il := F.called_set.init.lookup; have ib := F.called_set.init.bind (.ref s.heap.objs.size)
    repeat any_goals first | assumption | wp_step
    refine codeAny_mono (codeAny_call_builtin (R := wants (fun r s2 => r = .none ∧ ∃ h' tk, s2 = { s with heap := h', toks := tk } ∧ Res h' ∧ (∀ b o, s.heap.get? b = some o → h'.get? b = some o)) E) F.called_set.init.plain F.entry_set_init (check_set_init_1 hT ?_)) fun r2 s2 h2 => ?_
    · have e1 : (s.heap.push (S0 w)).get? l = some ol := Heap.get?_push_of_some _ hol
      have hTl : Shared.TypeIs { s with heap := s.heap.push (S0 w) } (.ref l) T := ⟨ol, e1, hcl⟩
      unfold Builtin.«set.__init__» noKeywords Builtin.Frozenset.updateFrom
      generalize hI : pyIter = PI
      obtain ⟨c, d, da, sl⟩ := ol
      dsimp only at hcl
      subst hcl
      wp_walk
      subst hI
      refine itr e1 (wpAny_bind (wpAny_runValue (loop _ _ _ (by simp [hh]) fun h' tk r k => ?_)))
      exact wpAny_pure (wpAny_pure ⟨rfl, h', tk, rfl, r, k⟩)
    · rcases r2 with e | (_ | _ | _ | o)
      · exact h2
      · exact h2.elim
      · exact h2.elim
      · exact h2.elim
      · obtain ⟨rfl, h', tk, rfl, r, k⟩ := h2
        repeat any_goals first | assumption | wp_step
        exact q _ _ r k
end
end St

namespace St
open PySem PySem.Spec PyProof.Rows L2 PySem.Froz
section
variable {P : Program} {w : World} {A : Around} {E : Value → Shared → Prop} {s : Shared}
theorem lkp {h : Heap} {o o' : Obj} {b : Addr} {u : Obj} (e : h.get? b = some u) : ((h.push o).push o').get? b = some u := Heap.get?_push_of_some _ (Heap.get?_push_of_some _ e)
/-- what the loop of the update leaves -/
theorem moved_end {s s' : Shared} {h1 : Heap} {tk : Tok} {S I : Addr} (hS : S = s.heap.objs.size) (hI : s.heap.objs.size ≤ I) (old : ∀ b o, s.heap.get? b = some o → h1.get? b = some o)
    (m : Moved [S, I] (fun a b => b = a) { s with heap := h1, toks := tk } s') : s' = { s with heap := s'.heap, toks := s'.toks } ∧ ∀ b o, s.heap.get? b = some o → s'.heap.get? b = some o := by
  refine ⟨?_, fun b o e => m.heap b o (fun z => ?_) (old b o e)⟩
  · have g := m.gens
    have d := m.drawn
    have os := m.os
    cases s'
    dsimp only at g d os ⊢
    rw [g, d, os]
  · have lt := Heap.lt_size e
    rcases List.mem_cons.mp z with z | z
    · exact absurd lt (by rw [z, hS]; exact Nat.lt_irrefl _)
    · exact absurd lt (by rw [List.mem_singleton.mp z]; exact Nat.not_lt_of_le hI)
theorem places {l : Addr} (lt : l < s.heap.objs.size) : l ≠ (s.heap.push (S0 w)).objs.size ∧ s.heap.objs.size ∉ [(s.heap.push (S0 w)).objs.size, l] ∧ s.heap.objs.size ≤ (s.heap.push (S0 w)).objs.size := by
  rw [Heap.size_push]
  refine ⟨Nat.ne_of_lt (Nat.lt_succ_of_lt lt), fun z => ?_, Nat.le_succ _⟩
  rcases List.mem_cons.mp z with z | z
  · exact absurd z (Nat.ne_of_lt (Nat.lt_succ_self _))
  · exact absurd (List.mem_singleton.mp z) (Nat.ne_of_gt lt)
/-- set(x), texts, x a list or a tuple -/
theorem set_texts {l : Addr} {its : Array Value} {xs : List Str} {Q : Value → Shared → Prop} (hh : A.handled = none) (hl : s.heap.IsList l its ∨ s.heap.IsTuple l its) (hx : StrsAre its.toList xs) (hb : xs.length + 1 < scanBound)
    (q : ∀ h' tk m, TS P w h' s.heap.objs.size m → m.length ≤ xs.length → (∀ x, x ∈ m ↔ x ∈ xs) → (∀ b o, s.heap.get? b = some o → h'.get? b = some o) → Q (.ref s.heap.objs.size) { s with heap := h', toks := tk }) :
    wpAny (model P w) A (call (.type "set") [.ref l]) Q E s := by
  have len : its.size = xs.length := by rw [← Array.length_toList]; exact hx.len_eq
  have val : ∀ i v, its[i]? = some v → ∃ x t, xs[i]? = some x ∧ v = Value.str x t := fun i v e => by
    rw [← Array.getElem?_toList] at e
    have hi : i < xs.length := by rw [← hx.len_eq]; exact (List.getElem?_eq_some_iff.mp e).1
    obtain ⟨t, et⟩ := hx.at (List.getElem?_eq_getElem hi)
    exact ⟨xs[i], t, List.getElem?_eq_getElem hi, Option.some.inj (e.symm.trans et)⟩
  have fin : ∀ (I : Addr), I = (s.heap.push (S0 w)).objs.size → I = s.heap.objs.size + 1 := fun I e => e.trans (Heap.size_push ..)
  have start : ∀ o', TS P w ((s.heap.push (S0 w)).push o') s.heap.objs.size [] := fun o' =>
    ⟨(#[], 0, .fresh 0 0 (!w.params.followText "set-order")), Heap.get?_push_of_some _ (Heap.get?_push_size _ rfl), TxOk.nil rfl, List.Pairwise.nil, by
      show _ ∨ (!w.params.followText "set-order") = true
      cases w.params.followText "set-order" <;> simp, List.nodup_nil⟩
  rcases hl with ⟨ol, e, c, n, d⟩ | ⟨ol, e, c, n, d⟩
  · refine set_call (Res := fun h' => ∃ m, TS P w h' s.heap.objs.size m ∧ m.length ≤ xs.length ∧ ∀ x, x ∈ m ↔ x ∈ xs) hh e c F.sub_list_set F.sub_list_frozenset (by decide) (fun {_ _ s1 _} e1 h => wpAny_pyIter_list (s := s1) ⟨ol, e1, c, n, d⟩ h) (fun A' R tk ha hR => ?_) fun h' tk ⟨m, r1, r2, r3⟩ k => q h' tk m r1 r2 r3 k
    have lt := Heap.lt_size e
    obtain ⟨ne, nin, up⟩ := places (w := w) lt
    refine upd_texts (s := { s with heap := (s.heap.push (S0 w)).push _, toks := tk }) ((Walks.list (A := A'.in1) (by simpa using ha) _ l ne its).toS) (S := s.heap.objs.size) nin len hb val (its.size - 0) 0 [] (by omega) (Nat.zero_le _)
      ⟨⟨_, Heap.get?_push_size _ rfl, rfl, rfl⟩, ⟨ol, lkp e, c, n, d⟩⟩ (start _) (Nat.zero_le _) (fun x => by simp) fun s' m mv r1 r2 r3 => ?_
    obtain ⟨es, k⟩ := moved_end rfl up (fun b o z => lkp z) mv
    rw [es]
    exact hR _ _ ⟨m, r1, by omega, r3⟩ k
  · refine set_call (Res := fun h' => ∃ m, TS P w h' s.heap.objs.size m ∧ m.length ≤ xs.length ∧ ∀ x, x ∈ m ↔ x ∈ xs) hh e c F.sub_tuple_set F.sub_tuple_frozenset (by decide) (fun {_ _ s1 _} e1 h => wpAny_pyIter_tuple (s := s1) ⟨ol, e1, c, n, d⟩ h) (fun A' R tk ha hR => ?_) fun h' tk ⟨m, r1, r2, r3⟩ k => q h' tk m r1 r2 r3 k
    have lt := Heap.lt_size e
    obtain ⟨ne, nin, up⟩ := places (w := w) lt
    refine upd_texts (s := { s with heap := (s.heap.push (S0 w)).push _, toks := tk }) ((Walks.tuple (A := A'.in1) (by simpa using ha) _ l ne its).toS) (S := s.heap.objs.size) nin len hb val (its.size - 0) 0 [] (by omega) (Nat.zero_le _)
      ⟨⟨_, Heap.get?_push_size _ rfl, rfl, rfl⟩, ⟨ol, lkp e, c, n, d⟩⟩ (start _) (Nat.zero_le _) (fun x => by simp) fun s' m mv r1 r2 r3 => ?_
    obtain ⟨es, k⟩ := moved_end rfl up (fun b o z => lkp z) mv
    rw [es]
    exact hR _ _ ⟨m, r1, by omega, r3⟩ k
/-- set(x), ints, x a list or a tuple -/
theorem set_ints {l : Addr} {its : Array Value} {xs : List Int} {Q : Value → Shared → Prop} (hh : A.handled = none) (hl : s.heap.IsList l its ∨ s.heap.IsTuple l its) (hx : IntsAre its.toList xs) (hb : xs.length + 1 < scanBound)
    (q : ∀ h' tk c, SetR w h' s.heap.objs.size (fun j => decide (j ∈ xs)) c → c ≤ xs.length → (∀ b o, s.heap.get? b = some o → h'.get? b = some o) → Q (.ref s.heap.objs.size) { s with heap := h', toks := tk }) :
    wpAny (model P w) A (call (.type "set") [.ref l]) Q E s := by
  have len : its.size = xs.length := by rw [← Array.length_toList]; exact hx.length
  have val : ∀ i v, its[i]? = some v → ∃ k t, xs[i]? = some k ∧ v = Value.int k t := fun i v e => by
    have hi : i < xs.length := by rw [← len]; exact (Array.getElem?_eq_some_iff.mp e).1
    obtain ⟨t, et⟩ := IntsAre.int_at hx i v (by rw [Array.getElem?_toList]; exact e)
    exact ⟨xs[i], t, List.getElem?_eq_getElem hi, by rw [et, List.getD_eq_getElem?_getD, List.getElem?_eq_getElem hi] <;> rfl⟩
  have start : ∀ o', SetR w ((s.heap.push (S0 w)).push o') s.heap.objs.size (fun j => decide (j ∈ xs.take 0)) 0 := fun o' => setR_new_at (Heap.get?_push_of_some _ (Heap.get?_push_size _ rfl))
  rcases hl with ⟨ol, e, c, n, d⟩ | ⟨ol, e, c, n, d⟩
  · refine set_call (Res := fun h' => ∃ c, SetR w h' s.heap.objs.size (fun j => decide (j ∈ xs)) c ∧ c ≤ xs.length) hh e c F.sub_list_set F.sub_list_frozenset (by decide) (fun {_ _ s1 _} e1 h => wpAny_pyIter_list (s := s1) ⟨ol, e1, c, n, d⟩ h) (fun A' R tk ha hR => ?_) fun h' tk ⟨m, r1, r2⟩ k => q h' tk m r1 r2 k
    have lt := Heap.lt_size e
    obtain ⟨ne, nin, up⟩ := places (w := w) lt
    refine set_update_ints (s := { s with heap := (s.heap.push (S0 w)).push _, toks := tk }) ((Walks.list (A := A'.in1) (by simpa using ha) _ l ne its).toS) s.heap.objs.size nin xs len hb val (its.size - 0) 0 (by omega) (Nat.zero_le _)
      ⟨⟨_, Heap.get?_push_size _ rfl, rfl, rfl⟩, ⟨ol, lkp e, c, n, d⟩⟩ ⟨0, Nat.le_refl 0, start _⟩ fun s' c' mv r2 r1 => ?_
    obtain ⟨es, k⟩ := moved_end rfl up (fun b o z => lkp z) mv
    rw [es]
    exact hR _ _ ⟨c', r1, by omega⟩ k
  · refine set_call (Res := fun h' => ∃ c, SetR w h' s.heap.objs.size (fun j => decide (j ∈ xs)) c ∧ c ≤ xs.length) hh e c F.sub_tuple_set F.sub_tuple_frozenset (by decide) (fun {_ _ s1 _} e1 h => wpAny_pyIter_tuple (s := s1) ⟨ol, e1, c, n, d⟩ h) (fun A' R tk ha hR => ?_) fun h' tk ⟨m, r1, r2⟩ k => q h' tk m r1 r2 k
    have lt := Heap.lt_size e
    obtain ⟨ne, nin, up⟩ := places (w := w) lt
    refine set_update_ints (s := { s with heap := (s.heap.push (S0 w)).push _, toks := tk }) ((Walks.tuple (A := A'.in1) (by simpa using ha) _ l ne its).toS) s.heap.objs.size nin xs len hb val (its.size - 0) 0 (by omega) (Nat.zero_le _)
      ⟨⟨_, Heap.get?_push_size _ rfl, rfl, rfl⟩, ⟨ol, lkp e, c, n, d⟩⟩ ⟨0, Nat.le_refl 0, start _⟩ fun s' c' mv r2 r1 => ?_
    obtain ⟨es, k⟩ := moved_end rfl up (fun b o z => lkp z) mv
    rw [es]
    exact hR _ _ ⟨c', r1, by omega⟩ k
end
end St

namespace St
open PySem PySem.Spec PyProof.Rows L2 PySem.Froz
/-- the set of the texts m -/
def SetT (P : Program) (w : World) (a : Addr) (m : List Str) : HO := .ext fun h => TS P w h a m
theorem setT_new {P : Program} {w : World} {H : Hp} {h : Heap} {a : Addr} {m : List Str} (R : TS P w h a m) : ObjOk P w H h a (SetT P w a m) := by
  have ⟨D, e, _⟩ := R
  exact ⟨R, ⟨_, e⟩, fun h1 h2 p k => TS.at p k⟩
section
variable {X : Cx}
/-- what a list or a tuple holds -/
def SqX (K : PySem.W.Frag) (H : Hp) (a : Addr) (xs : List V) : Prop := SqL K H a xs ∨ SqT K H a xs
theorem inv_any {pins : List (Addr × Obj)} {σ : L2.St} {H : Hp} {s : Shared} {a : Addr} {xs : List V} (I : Inv X pins σ H s) (h : SqX X.K H a xs) : ∃ its : List Value, Vals xs its ∧ (s.heap.IsList a its.toArray ∨ s.heap.IsTuple a its.toArray) := by
  rcases h with h | h
  · obtain ⟨its, r, l, _⟩ := I.list h
    exact ⟨its, r, .inl l.isList⟩
  · obtain ⟨its, r, l, _⟩ := I.tuple h
    exact ⟨its, r, .inr l⟩
def rSetT (K : PySem.W.Frag) (P : Program) (w : World) : List V → Hp → VK → Prop := fun xs H Q => ∃ (l : Addr) (ns : List Str), xs = [.ref l] ∧ SqX K H l (ns.map V.str) ∧ ns.length ≤ 1000 ∧
  ∀ a m, H a = none → m.Nodup → m.length ≤ ns.length → (∀ x, x ∈ m ↔ x ∈ ns) → Q (.ref a) (upd H a (SetT P w a m))
theorem cr_setT (hc : X.calm = true) : CallR X (.type "set") (rSetT X.K X.prog X.w) := by
  intro pins s σ H xs us Q I r h
  obtain ⟨l, ns, rfl, hl, hb, q⟩ := h
  rw [Vals.ref1 r]
  obtain ⟨its, rv, hi⟩ := inv_any I hl
  refine set_texts (xs := ns) (I.ok.hd hc) hi (by simpa using rv.strs) (Nat.lt_of_le_of_lt (Nat.succ_le_succ hb) (by decide)) fun h' tk m R ml mm k => ?_
  obtain ⟨D, e, F, a3, a4, nd⟩ := id R
  exact ⟨.ref s.heap.objs.size, _, I.laid (t' := tk) k (Nat.le_refl _) (setT_new R), rfl, q _ m (I.hok.fresh (Nat.le_refl _)) nd ml mm⟩
def rSetI (K : PySem.W.Frag) (w : World) : List V → Hp → VK → Prop := fun xs H Q => ∃ (l : Addr) (ns : List Int), xs = [.ref l] ∧ SqX K H l (ns.map V.int) ∧ ns.length ≤ 1000 ∧
  ∀ a c, H a = none → c ≤ ns.length → Q (.ref a) (upd H a (SetO w a (fun j => decide (j ∈ ns)) c))
theorem cr_setI (hc : X.calm = true) : CallR X (.type "set") (rSetI X.K X.w) := by
  intro pins s σ H xs us Q I r h
  obtain ⟨l, ns, rfl, hl, hb, q⟩ := h
  rw [Vals.ref1 r]
  obtain ⟨its, rv, hi⟩ := inv_any I hl
  refine set_ints (xs := ns) (I.ok.hd hc) hi (by simpa using ints_of_vals rv) (Nat.lt_of_le_of_lt (Nat.succ_le_succ hb) (by decide)) fun h' tk c R cl k => ?_
  exact ⟨.ref s.heap.objs.size, _, I.laid (t' := tk) k (Nat.le_refl _) (setO_new R), rfl, q _ c (I.hok.fresh (Nat.le_refl _)) cl⟩
/-- sorted of a set of texts -/
def rSortT (P : Program) (w : World) : List V → Hp → VK → Prop := fun xs H Q => ∃ (a : Addr) (m : List Str), xs = [.ref a] ∧ H a = some (SetT P w a m) ∧ m.length ≤ 1000 ∧
  ∀ ys p, ys.Perm m → sortedS ys = true → H p = none → Q (.ref p) (upd H p (.lst (ys.map V.str)))
theorem strs_of : ∀ l : List Value, (∀ v ∈ l, ∃ x t, v = Value.str x t) → ∃ xs, StrsAre l xs
  | [], _ => ⟨[], .nil⟩
  | v :: l, h => by
    obtain ⟨x, t, rfl⟩ := h v List.mem_cons_self
    obtain ⟨xs, r⟩ := strs_of l fun u hu => h u (List.mem_cons_of_mem _ hu)
    exact ⟨x :: xs, .cons x t r⟩
theorem strs_vals : ∀ {l : List Value} {xs : List Str}, StrsAre l xs → ∀ x, x ∈ xs ↔ ∃ t, Value.str x t ∈ l
  | _, _, .nil => fun x => by simp
  | _, _, .cons y t r => fun x => by
    rw [List.mem_cons, strs_vals r x]
    constructor
    · rintro (rfl | ⟨u, hu⟩)
      · exact ⟨t, List.mem_cons_self⟩
      · exact ⟨u, List.mem_cons_of_mem _ hu⟩
    · rintro ⟨u, hu⟩
      rcases List.mem_cons.mp hu with z | z
      · cases z; exact .inl rfl
      · exact .inr ⟨u, z⟩
theorem perm_of : ∀ {b a : List Str}, b.Nodup → a.length = b.length → (∀ x, x ∈ b → x ∈ a) → a.Perm b
  | [], a, _, hl, _ => by
    obtain rfl : a = [] := List.length_eq_zero_iff.mp hl
    exact .refl _
  | x :: b, a, nd, hl, h => by
    obtain ⟨n1, n2⟩ := List.nodup_cons.mp nd
    have hx : x ∈ a := h x List.mem_cons_self
    have pe := List.perm_cons_erase hx
    refine pe.trans (.cons x (perm_of n2 ?_ fun y hy => ?_))
    · have := pe.length_eq
      rw [List.length_cons] at this hl
      omega
    · have ne : y ≠ x := fun z => n1 (z ▸ hy)
      exact (List.mem_erase_of_ne ne).mpr (h y (List.mem_cons_of_mem _ hy))
theorem cr_sortT (hc : X.calm = true) : CallR X (.builtin "sorted") (rSortT X.prog X.w) := by
  intro pins s σ H xs us Q I r h
  obtain ⟨a, m, rfl, ha, hb, q⟩ := h
  rw [Vals.ref1 r]
  obtain ⟨⟨es, ep, t⟩, e, F, ris, led, nd⟩ := id (show TS X.prog X.w s.heap a m from (I.hok a _ ha).1)
  have sz : es.size = m.length := F.sz
  have room : es.size < scanBound := by rw [sz]; exact Nat.lt_of_le_of_lt hb (by decide)
  refine Calls.call_function_entry kind_sorted plain_sorted entry_sorted (args_sorted1 _) ?_; unfold Builtin.«sorted»
  refine wpAny_bind (m := checkCount "sorted" 1 1 _) (wpAny_pure (wpAny_bind (collect_set (A := X.A.in1) (I.ok.hd hc) ⟨_, e, rfl, rfl⟩ F.fit room ris led fun s1 vs k1 z1 g1 o1 pm => ?_)))
  have vl : vs.length = m.length := by rw [pm.length_eq, List.length_map, Array.length_toList, sz]
  obtain ⟨ss, hS⟩ := strs_of vs fun v hv => by
    obtain ⟨x, hx, rfl⟩ := List.mem_map.mp (pm.mem_iff.mp hv)
    obtain ⟨⟨k, hk, _⟩, _⟩ := F.el x hx
    obtain ⟨u, hu⟩ := Value.isStrOf_shape (show Value.isStrOf k x.2 = true from hk)
    exact ⟨k, u, hu⟩
  have sm : ss.Perm m := perm_of nd (by rw [← hS.len_eq, vl]) fun x hx => by
    obtain ⟨y, hy, hk⟩ := (F.mem x).mp hx
    obtain ⟨u, hu⟩ := Value.isStrOf_shape (show Value.isStrOf x y.2 = true from hk)
    exact (strs_vals hS x).mpr ⟨u, hu ▸ pm.mem_iff.mpr (List.mem_map.mpr ⟨y, hy, rfl⟩)⟩
  have line : vs.length ≤ sizeLine := by rw [vl, sizeLine_eq]; omega
  refine wpAny_bind (wpAny_newList ?_ line)
  have hoL : (s1.heap.push (seqObj "list" vs.toArray 0)).get? s1.heap.objs.size = some (seqObj "list" vs.toArray 0) := Heap.get?_push_size _ rfl
  refine wpAny_bind (wpAny_holding (wpAny_call_entry PyProof.Rows.slot_list_sort ⟨_, hoL, rfl⟩ PyProof.Rows.entry_list_sort (list_sort_treeKAny strKind_oneLt hoL hS.keysOf (fun v1 v2 rest z => keyKind_strs (by rw [← z]; exact hS)) line fun st hp hs => ⟨_, rfl, ?_⟩) (PyProof.Rows.args_list_sort _)))
  obtain ⟨ys, y1, y2, y3⟩ := sorted_out_str hS hp hs
  obtain ⟨c, hcx⟩ := sortedHeap_at (vs := vs) (out := (arrOf st).map (·.2)) hoL
  have old : ∀ b u, s.heap.get? b = some u → (sortedHeap (s1.heap.push (seqObj "list" vs.toArray 0)) s1.heap.objs.size vs ((arrOf st).map (·.2))).get? b = some u := fun b u eb => by
    have q1 := k1 b u eb
    rw [sortedHeap_old (Nat.ne_of_lt (Heap.lt_size q1)) (by rw [size_push']; exact Nat.lt_succ_of_lt (Heap.lt_size q1))]
    exact Heap.get?_push_of_some _ q1
  have zl : (ys.map V.str).length ≤ sizeLine := by rw [List.length_map, (y2.trans sm).length_eq, sizeLine_eq]; omega
  have hn : H s1.heap.objs.size = none := I.hok.fresh z1
  have J : Inv X pins σ (upd H s1.heap.objs.size (.lst (ys.map V.str))) { s with heap := sortedHeap (s1.heap.push (seqObj "list" vs.toArray 0)) s1.heap.objs.size vs ((arrOf st).map (·.2)), gens := s1.gens, drawn := s1.drawn, toks := s1.toks } :=
    I.call (ch := []) (Un.laid old z1 hn) (I.hok.laid old z1 ⟨zl, ((arrOf st).map (·.2)).toList, c, vals_of_strs y1, hcx⟩) (by rw [g1]; exact I.bare) (fun _ z => nomatch z)
  refine wpAny_pure ⟨_, rfl, .ref s1.heap.objs.size, _, ?_, rfl, q ys _ (y2.trans sm) y3 hn⟩
  cases s1; cases s; dsimp only at o1; subst o1
  exact J
end
end St

namespace St
open PySem PySem.Spec PyProof.Rows L2 PySem.Froz
/-! ### lots: what sorted(set(..)) is -/
def sLt (a b : Str) : Prop := a.cps.toList < b.cps.toList
instance (a b : Str) : Decidable (sLt a b) := inferInstanceAs (Decidable (_ < _))
theorem sLt_irr (a : Str) : ¬ sLt a a := List.lt_irrefl _
theorem sLt_tr {a b c : Str} (h : sLt a b) (k : sLt b c) : sLt a c := List.lt_trans h k
theorem sLt_as {a b : Str} (h : sLt a b) : ¬ sLt b a := fun k => sLt_irr a (sLt_tr h k)
theorem sLt_eq {a b : Str} (h : ¬ sLt a b) (k : ¬ sLt b a) : a = b := by
  have e : a.cps.toList = b.cps.toList := List.le_antisymm (List.not_lt.mp k) (List.not_lt.mp h)
  cases a; cases b
  exact congrArg Str.mk (Array.toList_inj.mp e)
section
variable {α : Type} (lt : α → α → Prop) [DecidableRel lt] [DecidableEq α]
def ins (x : α) : List α → List α
  | [] => [x]
  | y :: r => if x = y then y :: r else if lt x y then x :: y :: r else y :: ins x r
def lotBy : List α → List α
  | [] => []
  | x :: r => ins lt x (lotBy r)
theorem mem_ins {x y : α} : ∀ {l : List α}, y ∈ ins lt x l ↔ y = x ∨ y ∈ l
  | [] => by simp [ins]
  | z :: r => by
    unfold ins
    split
    · rename_i h; subst h; simp
    · split
      · simp
      · rw [List.mem_cons, mem_ins (l := r), List.mem_cons]
        exact ⟨fun h => h.elim (fun h => .inr (.inl h)) fun h => h.elim .inl fun h => .inr (.inr h), fun h => h.elim (fun h => .inr (.inl h)) fun h => h.elim .inl fun h => .inr (.inr h)⟩
theorem mem_lotBy {y : α} : ∀ {l : List α}, y ∈ lotBy lt l ↔ y ∈ l
  | [] => Iff.rfl
  | x :: r => by rw [lotBy, mem_ins, mem_lotBy (l := r), List.mem_cons]
theorem asc_ins (tri : ∀ a b, ¬ lt a b → ¬ a = b → lt b a) (tr : ∀ a b c, lt a b → lt b c → lt a c) {x : α} : ∀ {l : List α}, l.Pairwise lt → (ins lt x l).Pairwise lt
  | [], _ => List.pairwise_singleton _ _
  | y :: r, h => by
    obtain ⟨h1, h2⟩ := List.pairwise_cons.mp h
    unfold ins
    split
    · exact h
    · rename_i ne
      split
      · rename_i lxy
        exact List.pairwise_cons.mpr ⟨fun z hz => (List.mem_cons.mp hz).elim (fun e => e ▸ lxy) fun hz => tr _ _ _ lxy (h1 z hz), h⟩
      · rename_i nl
        refine List.pairwise_cons.mpr ⟨fun z hz => ?_, asc_ins tri tr h2⟩
        rcases (mem_ins lt).mp hz with rfl | hz
        · exact tri _ _ nl ne
        · exact h1 z hz
theorem asc_lotBy (tri : ∀ a b, ¬ lt a b → ¬ a = b → lt b a) (tr : ∀ a b c, lt a b → lt b c → lt a c) : ∀ l : List α, (lotBy lt l).Pairwise lt
  | [] => .nil
  | x :: r => asc_ins lt tri tr (asc_lotBy tri tr r)
theorem len_ins (x : α) : ∀ l : List α, (ins lt x l).length ≤ l.length + 1
  | [] => Nat.le_refl _
  | y :: r => by
    unfold ins
    split
    · exact Nat.le_succ _
    · split
      · exact Nat.le_refl _
      · exact Nat.succ_le_succ (len_ins x r)
theorem len_lotBy : ∀ l : List α, (lotBy lt l).length ≤ l.length
  | [] => Nat.le_refl _
  | x :: r => Nat.le_trans (len_ins lt x _) (Nat.succ_le_succ (len_lotBy r))
theorem asc_eq (irr : ∀ a, ¬ lt a a) (tr : ∀ a b c, lt a b → lt b c → lt a c) : ∀ {l m : List α}, l.Pairwise lt → m.Pairwise lt → (∀ x, x ∈ l ↔ x ∈ m) → l = m
  | [], [], _, _, _ => rfl
  | [], y :: m, _, _, h => absurd ((h y).mpr List.mem_cons_self) (by simp)
  | x :: l, [], _, _, h => absurd ((h x).mp List.mem_cons_self) (by simp)
  | x :: l, y :: m, hl, hm, h => by
    obtain ⟨l1, l2⟩ := List.pairwise_cons.mp hl
    obtain ⟨m1, m2⟩ := List.pairwise_cons.mp hm
    have e : x = y := by
      rcases List.mem_cons.mp ((h x).mp List.mem_cons_self) with z | z
      · exact z
      · rcases List.mem_cons.mp ((h y).mpr List.mem_cons_self) with u | u
        · exact u.symm
        · exact absurd (tr _ _ _ (m1 x z) (l1 y u)) (irr _)
    subst e
    rw [asc_eq irr tr l2 m2 fun z => ?_]
    constructor
    · intro hz
      rcases List.mem_cons.mp ((h z).mp (List.mem_cons_of_mem _ hz)) with e | e
      · subst e; exact absurd (l1 z hz) (irr z)
      · exact e
    · intro hz
      rcases List.mem_cons.mp ((h z).mpr (List.mem_cons_of_mem _ hz)) with e | e
      · subst e; exact absurd (m1 z hz) (irr z)
      · exact e
end
/-- the lot of texts, of ints -/
def lotS (l : List Str) : List Str := lotBy sLt l
def lotI (l : List Int) : List Int := lotBy (· < ·) l
theorem mem_lotS {x : Str} {l : List Str} : x ∈ lotS l ↔ x ∈ l := mem_lotBy _
theorem mem_lotI {x : Int} {l : List Int} : x ∈ lotI l ↔ x ∈ l := mem_lotBy _
theorem asc_lotS (l : List Str) : (lotS l).Pairwise sLt := asc_lotBy _ (fun a b h k => Decidable.byContradiction fun z => k (sLt_eq h z)) (fun _ _ _ => sLt_tr) l
theorem asc_lotI (l : List Int) : (lotI l).Pairwise (· < ·) := asc_lotBy _ (fun a b h k => (Int.lt_trichotomy a b).elim (absurd · h) fun z => z.elim (absurd · k) id) (fun _ _ _ => Int.lt_trans) l
theorem len_lotS (l : List Str) : (lotS l).length ≤ l.length := len_lotBy _ l
theorem len_lotI (l : List Int) : (lotI l).length ≤ l.length := len_lotBy _ l
theorem lotS_eq {ys l : List Str} (h : ys.Pairwise sLt) (m : ∀ x, x ∈ ys ↔ x ∈ l) : ys = lotS l := asc_eq sLt sLt_irr (fun _ _ _ => sLt_tr) h (asc_lotS l) fun x => (m x).trans mem_lotS.symm
theorem lotI_eq {ys l : List Int} (h : ys.Pairwise (· < ·)) (m : ∀ x, x ∈ ys ↔ x ∈ l) : ys = lotI l := asc_eq (· < ·) (fun _ => Int.lt_irrefl _) (fun _ _ _ => Int.lt_trans) h (asc_lotI l) fun x => (m x).trans mem_lotI.symm
theorem lotS_congr {l m : List Str} (h : ∀ x, x ∈ l ↔ x ∈ m) : lotS l = lotS m := lotS_eq (asc_lotS l) fun x => mem_lotS.trans (h x)
theorem lotI_congr {l m : List Int} (h : ∀ x, x ∈ l ↔ x ∈ m) : lotI l = lotI m := lotI_eq (asc_lotI l) fun x => mem_lotI.trans (h x)
theorem lotS_idem (l : List Str) : lotS (lotS l) = lotS l := lotS_congr fun _ => mem_lotS
theorem asc_nodupS {l : List Str} (h : l.Pairwise sLt) : l.Nodup := List.Pairwise.imp (S := (· ≠ ·)) (fun {a b} (k : sLt a b) (z : a = b) => sLt_irr b (z ▸ k)) h
theorem ris_asc : ∀ {l : List Str} {p : Str}, risingS p l = true → (p :: l).Nodup → (p :: l).Pairwise sLt
  | [], p, _, _ => List.pairwise_singleton _ _
  | x :: r, p, h, nd => by
    obtain ⟨h1, h2⟩ := Bool.and_eq_true_iff.mp (show (!ltCps x.cps.toList p.cps.toList && risingS x r) = true from h)
    obtain ⟨n1, n2⟩ := List.nodup_cons.mp nd
    have a := ris_asc h2 n2
    rw [ltCps_eq, Bool.not_eq_true'] at h1
    have nl : ¬ sLt x p := of_decide_eq_false h1
    have lp : sLt p x := Decidable.byContradiction fun z => n1 (by rw [sLt_eq z nl]; exact List.mem_cons_self)
    exact List.pairwise_cons.mpr ⟨fun z hz => (List.mem_cons.mp hz).elim (fun e => e ▸ lp) fun hz => sLt_tr lp ((List.pairwise_cons.mp a).1 z hz), a⟩
theorem sorted_asc {l : List Str} (h : sortedS l = true) (nd : l.Nodup) : l.Pairwise sLt := match l, h, nd with
  | [], _, _ => .nil
  | _ :: _, h, nd => ris_asc h nd
/-! ### the rules of tuple(sorted(set(x))) -/
section
variable {X : Cx}
theorem cr_or {f : Value} {r1 r2 : List V → Hp → VK → Prop} (a : CallR X f r1) (b : CallR X f r2) : CallR X f (fun xs H Q => r1 xs H Q ∨ r2 xs H Q) := fun pins s σ H xs us Q I r h => h.elim (a pins s σ H xs us Q I r) (b pins s σ H xs us Q I r)
@[irreducible] def rSet (K : PySem.W.Frag) (P : Program) (w : World) : List V → Hp → VK → Prop := fun xs H Q => rSetT K P w xs H Q ∨ rSetI K w xs H Q
@[irreducible] def rSorted2 (P : Program) (w : World) : List V → Hp → VK → Prop := fun xs H Q => rSortT P w xs H Q ∨ rSortedSet w xs H Q
theorem cr_set (hc : X.calm = true) : CallR X (.type "set") (rSet X.K X.prog X.w) := by unfold rSet; exact cr_or (cr_setT hc) (cr_setI hc)
theorem cr_sorted2 (hc : X.calm = true) : CallR X (.builtin "sorted") (rSorted2 X.prog X.w) := by unfold rSorted2; exact cr_or (cr_sortT hc) (cr_sortedSet hc)
end
/-- the reading of tuple(sorted(set(x))) -/
theorem rd_lotS {K : PySem.W.Frag} {P : Program} {w : World} {H : Hp} {a : Addr} {ns : List Str} {Q : VK} (h : SqX K H a (ns.map V.str)) (hl : ns.length ≤ 1000) (q : ∀ p H', Same H H' → H' p = some (.tup ((lotS ns).map V.str)) → Q (.ref p) H') :
    rSet K P w [.ref a] H fun u H1 => rSorted2 P w [u] H1 fun z H2 => ∃ p ys, [z] = [V.ref p] ∧ ((SqL K H2 p ys ∧ ∀ l, H2 l = none → Q (.ref l) (upd H2 l (.tup ys))) ∨ (SqT K H2 p ys ∧ Q (.ref p) H2)) := by
  unfold rSet
  refine .inl ⟨a, ns, rfl, h, hl, fun b m hb nd ml mm => ?_⟩
  unfold rSorted2
  refine .inl ⟨b, m, rfl, upd_same, Nat.le_trans ml hl, fun ys p pm so hp => ⟨p, ys.map V.str, rfl, .inl ⟨SqL.of upd_same, fun l hn => ?_⟩⟩⟩
  have e : ys = lotS ns := lotS_eq (sorted_asc so (pm.nodup_iff.mpr nd)) fun x => pm.mem_iff.trans (mm x)
  rw [e] at hn ⊢
  have s1 : Same H (upd H b (SetT P w b m)) := fun c o e => by rw [upd_ne (ne_of_none e hb)]; exact e
  have s2 : Same (upd H b (SetT P w b m)) (upd (upd H b (SetT P w b m)) p (.lst ((lotS ns).map V.str))) := fun c o e => by rw [upd_ne (ne_of_none e hp)]; exact e
  have s3 : Same (upd (upd H b (SetT P w b m)) p (.lst ((lotS ns).map V.str))) (upd (upd (upd H b (SetT P w b m)) p (.lst ((lotS ns).map V.str))) l (.tup ((lotS ns).map V.str))) := fun c o e => by rw [upd_ne (ne_of_none e hn)]; exact e
  exact q l _ (fun c o e => s3 c o (s2 c o (s1 c o e))) upd_same
theorem rd_lotI {K : PySem.W.Frag} {P : Program} {w : World} {H : Hp} {a : Addr} {ns : List Int} {Q : VK} (h : SqX K H a (ns.map V.int)) (hl : ns.length < 64) (q : ∀ p H', Same H H' → H' p = some (.tup ((lotI ns).map V.int)) → Q (.ref p) H') :
    rSet K P w [.ref a] H fun u H1 => rSorted2 P w [u] H1 fun z H2 => ∃ p ys, [z] = [V.ref p] ∧ ((SqL K H2 p ys ∧ ∀ l, H2 l = none → Q (.ref l) (upd H2 l (.tup ys))) ∨ (SqT K H2 p ys ∧ Q (.ref p) H2)) := by
  unfold rSet
  refine .inr ⟨a, ns, rfl, h, Nat.le_trans (Nat.le_of_lt hl) (by decide), fun b c hb cl => ?_⟩
  unfold rSorted2
  refine .inr ⟨b, _, c, rfl, upd_same, Nat.lt_of_le_of_lt cl hl, fun ys p so mm _ hp => ⟨p, ys.map V.int, rfl, .inl ⟨SqL.of upd_same, fun l hn => ?_⟩⟩⟩
  have e : ys = lotI ns := lotI_eq so fun x => (mm x).trans decide_eq_true_iff
  rw [e] at hn ⊢
  have s1 : Same H (upd H b (SetO w b (fun j => decide (j ∈ ns)) c)) := fun d o e => by rw [upd_ne (ne_of_none e hb)]; exact e
  refine q l _ (fun d o e => ?_) upd_same
  have e1 := s1 d o e
  rw [upd_ne (ne_of_none (by rw [upd_ne (ne_of_none e1 hp)]; exact e1) hn), upd_ne (ne_of_none e1 hp)]
  exact e1
end St

/-! own classes of the text: made, their methods, their == -/
namespace Ow
open PySem PySem.Spec PyProof.Rows L2 Hb
/-- a class of the text, made by its __init__'s promise -/
structure Cm (P : Program) (w : World) (K : PySem.W.Frag) (mg : Str → Option Value) (base : Heap) (x : Str) (C : Addr) (ps : List Str) (lv : Nat) (sp : Sp) : Prop where
  ex : ∃ (f : Addr) (fd : FuncData), Mk K C f ∧ FnOk P w K mg base CX0 lv f fd ps sp ∧ mg x = some (.ref C) ∧ Binds K fd ps []
/-- a class made by keywords alone: its parameters behind self in the order of gV -/
structure CmK (P : Program) (w : World) (K : PySem.W.Frag) (mg : Str → Option Value) (base : Heap) (x : Str) (C : Addr) (ps ks : List Str) (gV : List V → List V → List V) (lv : Nat) (sp : Sp) : Prop where
  ex : ∃ (f : Addr) (fd : FuncData) (g : List Value → List Value → List Value), Mk K C f ∧ FnOk P w K mg base CX0 lv f fd ps sp ∧ mg x = some (.ref C) ∧ KBn K fd ps 1 ks g gV
/-- a method of an own class -/
structure Ch (P : Program) (w : World) (K : PySem.W.Frag) (mg : Str → Option Value) (base : Heap) (C : Addr) (m : Str) (ps : List Str) (dvs : List V) (lv : Nat) (sp : Sp) : Prop where
  ex : ∃ (f : Addr) (fd : FuncData) (ds : List Value), Meth K C m f ∧ FnOk P w K mg base CX0 lv f fd ps sp ∧ Binds K fd ps ds ∧ Vals dvs ds
structure ChK (P : Program) (w : World) (K : PySem.W.Frag) (mg : Str → Option Value) (base : Heap) (C : Addr) (m : Str) (ps ks : List Str) (gV : List V → List V → List V) (lv : Nat) (sp : Sp) : Prop where
  ex : ∃ (f : Addr) (fd : FuncData) (g : List Value → List Value → List Value), Meth K C m f ∧ FnOk P w K mg base CX0 lv f fd ps sp ∧ KBn K fd ps 1 ks g gV
section
variable {X : Cx} {C : Addr} {ps ks : List Str} {gV : List V → List V → List V} {dvs : List V} {lv : Nat} {sp : Sp} {x m : Str} {p pos apos : Pos} {e o : Expr} {es : List Expr} {kws : List Keyword} {t tk : TA} {ta : TE}
theorem pe_new (M : Cm X.prog X.w X.K X.mg X.base x C ps lv sp) (hr : Room (lv + 1) X.A) (hg : Gl X x) (ha : PA X (e :: es) t) (hdb : (x == ("__debug__" : Str)) = false := by decide)
    (he : starEach (e :: es) X.env = (false, eval e X.env) :: starEach es X.env := by rfl) (hpl : (backTo pos (starEach es X.env)).any (·.1) = false := by rfl) : PE X (.Call (.Name x p) (e :: es) [] pos) (tMake C sp [] E0 t) := by
  obtain ⟨f, fd, mk, F, hm, hb⟩ := M.ex
  exact pe_make mk F hr hg hm hb .nil pass0 ha hdb he hpl
theorem pe_newK (M : CmK X.prog X.w X.K X.mg X.base x C ps ks gV lv sp) (hr : Room (lv + 1) X.A) (hg : Gl X x) (hkw : PK X kws tk)
    (hall : (backToKw pos (keywordEach kws X.env)).all (·.1.isSome) = true := by rfl) (hks : (backToKw pos (keywordEach kws X.env)).filterMap (·.1) = ks := by rfl) (hdb : (x == ("__debug__" : Str)) = false := by decide)
    (hpl : ((backTo pos (starEach [] X.env)).any (·.1) || (backToKw pos (keywordEach kws X.env)).any (·.1.isNone)) = false := by rfl) : PE X (.Call (.Name x p) [] kws pos) (tMakeK C 0 ks.length sp gV E0 tNil tk) := by
  obtain ⟨f, fd, g, mk, F, hm, hb⟩ := M.ex
  exact pe_makeK0 mk F hr hg hm hb pass0 hkw hall hks hdb hpl
theorem pe_do {pl : Sem Bool} (M : Ch X.prog X.w X.K X.mg X.base C m ps dvs lv sp) (c : Cls X.K C) (hr : Room lv X.A) (ho : PE X o ta) (ha : PA X (e :: es) t)
    (hst : starEach (e :: es) X.env = (false, eval e X.env) :: starEach es X.env := by rfl) (hpl : (backTo pos (starEach es X.env)).any (·.1) = false := by rfl)
    (ht : eval (.Call (.Attribute o m apos) (e :: es) [] pos) X.env = (do
      let v ← eval o X.env
      standAt apos.atName
      let (f, first) ← holding [v] (getMethod v m pl)
      callWith pos f first (backTo pos (starEach (e :: es) X.env)) (backToKw pos (keywordEach [] X.env))) := by rfl) : PE X (.Call (.Attribute o m apos) (e :: es) [] pos) (tMeth C m sp dvs E0 ta t) := by
  obtain ⟨f, fd, ds, hm, F, hb, hd⟩ := M.ex
  exact pe_meth ho c hm F hr hb hd pass0 ha hst hpl ht
theorem pe_do0 {pl : Sem Bool} (M : Ch X.prog X.w X.K X.mg X.base C m ps dvs lv sp) (c : Cls X.K C) (hr : Room lv X.A) (ho : PE X o ta)
    (ht : eval (.Call (.Attribute o m apos) [] [] pos) X.env = (do
      let v ← eval o X.env
      standAt apos.atName
      let (f, first) ← holding [v] (getMethod v m pl)
      callWith pos f first (backTo pos (starEach [] X.env)) (backToKw pos (keywordEach [] X.env))) := by rfl) : PE X (.Call (.Attribute o m apos) [] [] pos) (tMeth C m sp dvs E0 ta tNil) := by
  obtain ⟨f, fd, ds, hm, F, hb, hd⟩ := M.ex
  exact pe_meth0 ho c hm F hr hb hd pass0 ht
/-- o.m(k = v, ..) -/
def tMethK (C : Addr) (m : Str) (n : Nat) (sp : Sp) (gV : List V → List V → List V) (ta : TE) (tk : TA) : TE := fun σ H Q => ta σ H fun x H1 => ∃ a dx fs, x = .ref a ∧ H1 a = some (.ins C dx fs) ∧ fs.lookup m = none ∧ tk σ H1 fun zs H2 => zs.length = n ∧ sp (gV [x] zs) H2 Q E0
theorem pe_doK {pl : Sem Bool} (M : ChK X.prog X.w X.K X.mg X.base C m ps ks gV lv sp) (c : Cls X.K C) (hr : Room lv X.A) (ho : PE X o ta) (hkw : PK X kws tk)
    (hall : (backToKw pos (keywordEach kws X.env)).all (·.1.isSome) = true := by rfl) (hks : (backToKw pos (keywordEach kws X.env)).filterMap (·.1) = ks := by rfl)
    (hpl : ((backTo pos (starEach [] X.env)).any (·.1) || (backToKw pos (keywordEach kws X.env)).any (·.1.isNone)) = false := by rfl)
    (ht : eval (.Call (.Attribute o m apos) [] kws pos) X.env = (do
      let v ← eval o X.env
      standAt apos.atName
      let (f, first) ← holding [v] (getMethod v m pl)
      callWith pos f first (backTo pos (starEach [] X.env)) (backToKw pos (keywordEach kws X.env))) := by rfl) : PE X (.Call (.Attribute o m apos) [] kws pos) (tMethK C m ks.length sp gV ta tk) := by
  obtain ⟨f, fd, g, hm, F, hb⟩ := M.ex
  refine ⟨fun pins s σ H Q I h => ?_⟩
  refine PySem.W.methodCall_KW (pl := pl) (thn (ho.run pins s σ H _ I h) fun u s1 ⟨x, H1, I1, rx, a, dx, fs, ex, ea, l, q⟩ => ?_) ht
  subst ex; obtain rfl : u = Value.ref a := rx
  refine getmeth_ok I1 ea c hm l ?_
  refine PySem.W.callWith_KW0 (first := [.ref a]) (h₀ := X.base) I1.ok.mod.kin hm.kp hall (thn (hkw.run pos pins s1 σ H1 _ I1 q) fun ws s2 ⟨zs, H2, I2, rz, l1, q2⟩ => ⟨I2.kIn, ?_⟩) hpl
  rw [hks]
  exact run_fnN (us := [.ref a]) (vs := [.ref a]) F hr hb pass0 I2 (.cons rfl .nil) rz rfl l1 q2
end
/-! ### == by an own __eq__, whatever it answers -/
def rEqOwn (C : Addr) (sp : Sp) : R2 := fun x y H Q => ∃ a dx fs b, x = .ref a ∧ y = .ref b ∧ H a = some (.ins C dx fs) ∧ ((∃ dy gs, H b = some (.ins C dy gs)) ∨ ∃ xs, H b = some (.lst xs)) ∧ sp [x, y] H (fun v H' => (∃ k, v = .bl k) ∧ Q v H') E0
theorem op_eqOwn {X : Cx} {C : Addr} {ps : List Str} {lv : Nat} {sp : Sp} (M : Ch X.prog X.w X.K X.mg X.base C "__eq__" ps [] lv sp) (kl : PySem.W.subIn X.K (.type "list") (.ref C) = some false) (hr : Room lv X.A) : OpR X (compareOp .Eq) (rEqOwn C sp) := by
  obtain ⟨f, fd, ds, hm, F, hb, hd⟩ := M.ex
  cases hd
  intro pins s σ H x y v u Q I rx ry h
  obtain ⟨a, dx, fs, b, rfl, rfl, ha, hy, q⟩ := h
  cases rx; cases ry
  obtain ⟨mA, J, _⟩ := ins_get I.hok ha
  obtain ⟨od, J, _⟩ := J.look
  obtain ⟨m, hF⟩ := I.fr
  have run : wpAny (model X.prog X.w) X.A (call (.ref f) [.ref a, .ref b]) (PySem.W.CmpBack (EP X pins σ Q)) X.xe s := by
    have hl := F.len _ _ _ _ q
    have bb := hb s [.ref a, .ref b] I.kIn (by simpa using hl)
    refine wpAny_call (codeAny_mono (F.run X.A X.stack s H ⟨[.ref a, .ref b], []⟩ [.ref a, .ref b] [.ref a, .ref b] _ E0 hr I.env0 (by simpa using bb) (.cons rfl (.cons rfl .nil)) q) fun r s' z => ?_)
    rcases r with e | (_ | _ | _ | w)
    · exact pass0 pins σ H s e s' I z
    · exact False.elim z
    · exact False.elim z
    · exact False.elim z
    · obtain ⟨v, H', I', rv, ⟨k, rfl⟩, q'⟩ := I.after z
      obtain rfl : w = Value.bool k := rv
      exact ⟨.bl k, H', I', rfl, q'⟩
  show wpAny (model X.prog X.w) X.A (richCompare .Eq (.ref a) (.ref b)) (EP X pins σ Q) X.xe s
  rcases hy with ⟨dy, gs, hy⟩ | ⟨xs, hy⟩
  · obtain ⟨mB, J', _⟩ := ins_get I.hok hy
    obtain ⟨od', J', _⟩ := J'.look
    exact PySem.W.cmp_K (op := .Eq) (tb := .ref C) hr.units0 hF I.ok.mod.kin J J'.type (by simp [PySem.W.notFirst]) hm.at_ hm.fn run
  · obtain ⟨z, its, n, r, e⟩ := I.hok b _ hy
    exact PySem.W.cmp_K (op := .Eq) (tb := .type "list") hr.units0 hF I.ok.mod.kin J (fun A Q E s' k q => wpAny_typeOf (T := "list") ⟨_, k _ _ e, rfl⟩ q) (by simp [PySem.W.notFirst, kl]) hm.at_ hm.fn run
/-! ### xs[::n], n reckoned as -1 -/
theorem pe_rev {X : Cx} {e st : Expr} {te ts : TE} {p3 pos : Pos} (he : PE X e te) (hs : PE X st ts) (hN : ∀ σ H (Q : VK), Q (.int (-1)) H → ts σ H Q) :
    PE X (.Subscript e (.Slice none none (some st) p3) pos) (fun σ H Q => te σ H fun x H1 => ∃ a xs, x = .ref a ∧ SqL X.K H1 a xs ∧ ∀ p, H1 p = none → Q (.ref p) (upd H1 p (.lst xs.reverse))) := by
  refine ⟨fun pins s σ H Q I h => Subscript_ (thn (he.run pins s σ H _ I h) fun v s1 ⟨x, H1, I1, r1, a, xs, ex, hx, q⟩ => ?_)⟩
  subst ex; cases r1
  refine wpAny_Slice (thn (po_none.run pins s1 σ H1 (fun o H2 => o = none ∧ H2 = H1) I1 ⟨rfl, rfl⟩) fun vl s2 ⟨l, H2, I2, pl, el, e2⟩ => ?_)
  subst el e2
  refine thn (po_none.run pins s2 σ H2 (fun o H3 => o = none ∧ H3 = H2) I2 ⟨rfl, rfl⟩) fun vu s3 ⟨u, H3, I3, pu, eu, e3⟩ => ?_
  subst eu e3
  refine thn ((po_some hs).run pins s3 σ H3 (fun o H4 => o = some (-1) ∧ H4 = H3) I3 (hN σ H3 _ ⟨-1, rfl, rfl, rfl⟩)) fun vs s4 ⟨o, H4, I4, ps, eo, e4⟩ => ?_
  subst eo e4
  have I5 : Inv X pins σ H4 { s4 with heap := s4.heap.push { cls := .type "slice", data := .fields #[vl, vu, vs] } } := I4.kept (t' := s4.toks) fun b ob q => Heap.get?_push_of_some _ q
  obtain ⟨its, r, ht, hz⟩ := I5.list hx
  have hlen := r.length
  show wpAny (model X.prog X.w) X.A (subscriptTail e (.Slice none none (some st) p3) (.ref a) (.ref s4.heap.objs.size)) (EP X pins σ Q) X.xe { s4 with heap := s4.heap.push { cls := .type "slice", data := .fields #[vl, vu, vs] } }
  refine tail_any (ops := [.ref a, .ref s4.heap.objs.size]) ht.isList.typeIs (PySem.slot_list_getitem.lookup) ?_ (by with_unfolding_all rfl)
  refine wpAny_getItem_list_slice ht.isList (Heap.IsSliceOf.new _ vl vu vs) pl pu ps (by decide) ?_ (by rw [List.size_toArray]; omega)
  rw [PySem.W.krv_pick]
  exact ⟨.ref _, _, I5.laid (t' := s4.toks) (o := .lst xs.reverse) (fun b ob q => Heap.get?_push_of_some _ q) (Nat.le_refl _) ⟨by rw [List.length_reverse]; exact hz, _, 0, r.reverse, Heap.get?_push_size _ rfl⟩, rfl, q _ (I5.hok.fresh (Nat.le_refl _))⟩
/-- o.f within a comprehension -/
theorem pe_fldK {X : Cx} {e : Expr} {f : Str} {pos : Pos} {ta : TE} (K : PySem.W.Frag) (he : PE X e ta) (hb : attributeBase e f X.env (eval e X.env) = eval e X.env) (hK : X.K = K := by rfl) : PE X (.Attribute e f pos) (tFld K ta f) := by
  subst hK
  exact pe_fld he hb
end Ow

namespace Ow
open PySem PySem.Spec PyProof.Rows L2 Hb
/-- {k: v}, k a tuple of ints and texts -/
def tDisp1 (tk tv : TE) : TE := fun σ H Q => ∀ p, H p = none → tk σ (upd H p (.dT [])) fun x H1 => tv σ H1 fun y H2 => H2 p = some (.dT []) ∧ ∃ (k : List Key) (b : Addr), x = .ref b ∧ H2 b = some (.tup (k.map kV)) ∧ Q (.ref p) (upd H2 p (.dT [(k, y)]))
theorem pe_disp1T {X : Cx} {k v : Expr} {tk tv : TE} {pos : Pos} (hu : X.A.units + 1 < cLine) (hk : PE X k tk) (hv : PE X v tv) : PE X (.Dict [some k] [v] pos) (tDisp1 tk tv) := by
  refine ⟨fun pins s σ H Q I q => ?_⟩
  have hn := I.hok.fresh (Nat.le_refl s.heap.objs.size)
  have I1 := I.laid (a := s.heap.objs.size) (o := .dT []) (h' := s.heap.push { cls := .type "dict", data := .dict #[] }) (t' := s.toks) (fun _ _ q => Heap.get?_push_of_some _ q) (Nat.le_refl _) (dt_empty s.heap I.big)
  have pr := pairTrees_length [some k] [v] X.env pos rfl rfl
  rw [arm_eval_Dict, zip_pairTrees [some k] [v] X.env pos rfl rfl, dictDisplay_pairs _ (fun z => by rw [z] at pr; cases pr) (by rw [pr]; exact (by decide : (1 : Nat) < 17))]
  refine wpAny_bind (wpAny_standAt (wpAny_bind (wpAny_subDictH (knd := tupleKind (mixKind X.prog X.w)) (Q := fun d s' => wpAny (model X.prog X.w) X.A (pure (Value.ref d)) (EP X pins σ Q) X.xe s') (show X.A.units < cLine by omega) (by rw [pr]; exact (by decide : (1 : Nat) ≤ 15)) ?_)))
  refine thn ((pps_cons hk hv pps_nil).run pins _ σ _ (fun ps H2 => match ps with | [(x, y)] => H2 s.heap.objs.size = some (.dT []) ∧ ∃ (k : List Key) (b : Addr), x = .ref b ∧ H2 b = some (.tup (k.map kV)) ∧ Q (.ref s.heap.objs.size) (upd H2 s.heap.objs.size (.dT [(k, y)])) | _ => False) I1 (q _ hn)) fun ws s2 ⟨ps, H2, I2, rel, q1⟩ => ?_
  match ps, q1 with
  | [(x, y)], q1 => ?_
  obtain ⟨e, kk, b, ex, eb, q2⟩ := q1
  subst ex
  cases rel with
  | @cons _ bb _ _ h t =>
    obtain ⟨b1, b2⟩ := bb
    cases t
    obtain ⟨r1, r2⟩ := h
    cases (show b1 = Value.ref b from r1)
    obtain ⟨z, hd, xs, rel, dd⟩ := dt_of I2.hok e
    cases rel
    refine ⟨[(kk, b, b2)], ⟨rfl, rfl, key_of I2.hok eb, trivial⟩, dd, fun h' tk' dd' hs => wpAny_pure ⟨.ref s.heap.objs.size, _, ?_, rfl, q2⟩⟩
    obtain ⟨qo, es, ep, hq, h2, h3, h4, _, h5⟩ := dd'
    refine d_write I2 (by rw [e]; exact True.intro) hs ⟨qo, hq⟩ ⟨by show 1 ≤ sizeLine; decide, hd, [(kk, b, b2)], .cons ⟨rfl, ?_, r2⟩ .nil, qo, es, ep, hq, h2, h3, h4, h5⟩
    rw [upd_ne (ne_of eb e (fun z => nomatch z))]
    exact eb
end Ow

/-! walks over a list or a tuple alike; comprehensions that keep some items and turn them -/
namespace Sq
open PySem PySem.Spec PyProof.Rows L2 Hb St
/-- what a program changes in place -/
def Mut (o : HO) : Prop := (∃ ys, o = .lst ys) ∨ ∃ k, o = .dT k
/-- all but the lists and dicts is as it was -/
def Fix (H H' : Hp) : Prop := ∀ b o, H b = some o → ¬ Mut o → H' b = some o
theorem Fix.of {H H' : Hp} (s : Same H H') : Fix H H' := fun b o e _ => s b o e
theorem Fix.refl (H : Hp) : Fix H H := fun _ _ e _ => e
theorem Fix.trans {H H1 H2 : Hp} (a : Fix H H1) (b : Fix H1 H2) : Fix H H2 := fun c o e n => b c o (a c o e n) n
theorem Fix.lst {H : Hp} {p : Addr} {xs : List V} {o : HO} (e : H p = some (.lst xs)) : Fix H (upd H p o) := fun b u eb n => by
  rw [upd_ne fun z => n (.inl ⟨xs, by rw [z, e] at eb; exact (Option.some.inj eb).symm⟩)]; exact eb
theorem Fix.dT {H : Hp} {p : Addr} {k : List (List Key × V)} {o : HO} (e : H p = some (.dT k)) : Fix H (upd H p o) := fun b u eb n => by
  rw [upd_ne fun z => n (.inr ⟨k, by rw [z, e] at eb; exact (Option.some.inj eb).symm⟩)]; exact eb
theorem Fix.new {H : Hp} {p : Addr} {o : HO} (e : H p = none) : Fix H (upd H p o) := Fix.of (same_new e o)
theorem Fix.kept {H H' : Hp} {p : Addr} {xs : List V} (e : H p = some (.lst xs)) (k : Kept p H H') : Fix H H' := fun b o eb n => k b o eb fun z => n (.inl ⟨xs, by rw [z, e] at eb; exact (Option.some.inj eb).symm⟩)
theorem tupFix {K : PySem.W.Frag} {H H' : Hp} {a : Addr} {xs : List V} (f : Fix H H') (h : SqT K H a xs) : SqT K H' a xs := by
  rcases h with (e | ⟨o, e⟩) | r
  · exact .inl (.inl (f _ _ e (by rintro (⟨_, z⟩ | ⟨_, z⟩) <;> cases z)))
  · exact .inl (.inr ⟨o, f _ _ e (by rintro (⟨_, z⟩ | ⟨_, z⟩) <;> cases z)⟩)
  · exact .inr r
theorem lstSame {K : PySem.W.Frag} {H H' : Hp} {a : Addr} {xs : List V} (f : Same H H') (h : SqL K H a xs) : SqL K H' a xs := by
  rcases h with (e | ⟨o, e⟩) | r
  · exact .inl (.inl (f _ _ e))
  · exact .inl (.inr ⟨o, f _ _ e⟩)
  · exact .inr r
theorem sqxSame {K : PySem.W.Frag} {H H' : Hp} {a : Addr} {xs : List V} (s : Same H H') (h : SqX K H a xs) : SqX K H' a xs := h.imp (lstSame s) (tupFix (Fix.of s))
theorem SqX.lst {K : PySem.W.Frag} {H : Hp} {a : Addr} {xs : List V} (e : H a = some (.lst xs)) : SqX K H a xs := .inl (SqL.of e)
theorem SqX.tup {K : PySem.W.Frag} {H : Hp} {a : Addr} {xs : List V} (e : H a = some (.tup xs)) : SqX K H a xs := .inr (SqT.of e)
/-- item by item -/
inductive All2 {α β : Type} (R : α → β → Prop) : List α → List β → Prop where
  | nil : All2 R [] []
  | cons {a b as bs} : R a b → All2 R as bs → All2 R (a :: as) (b :: bs)
namespace All2
variable {α β : Type} {R S : α → β → Prop}
theorem len : ∀ {as : List α} {bs : List β}, All2 R as bs → as.length = bs.length
  | _, _, .nil => rfl
  | _, _, .cons _ t => congrArg (· + 1) t.len
theorem imp (f : ∀ a b, R a b → S a b) : ∀ {as : List α} {bs : List β}, All2 R as bs → All2 S as bs
  | _, _, .nil => .nil
  | _, _, .cons h t => .cons (f _ _ h) (imp f t)
theorem app : ∀ {as as' : List α} {bs bs' : List β}, All2 R as bs → All2 R as' bs' → All2 R (as ++ as') (bs ++ bs')
  | _, _, _, _, .nil, h => h
  | _, _, _, _, .cons h t, k => .cons h (app t k)
theorem get : ∀ {as : List α} {bs : List β}, All2 R as bs → ∀ {i : Nat} {a : α}, as[i]? = some a → ∃ b, bs[i]? = some b ∧ R a b
  | _, _, .cons h t, 0, a, e => ⟨_, rfl, by cases e; exact h⟩
  | _, _, .cons h t, i + 1, a, e => t.get (i := i) e
theorem getR : ∀ {as : List α} {bs : List β}, All2 R as bs → ∀ {i : Nat} {b : β}, bs[i]? = some b → ∃ a, as[i]? = some a ∧ R a b
  | _, _, .cons h t, 0, a, e => ⟨_, rfl, by cases e; exact h⟩
  | _, _, .cons h t, i + 1, a, e => t.getR (i := i) e
theorem map_eq {f : β → α} (h : ∀ a b, R a b → a = f b) : ∀ {as : List α} {bs : List β}, All2 R as bs → as = bs.map f
  | _, _, .nil => rfl
  | _, _, .cons r t => by rw [List.map_cons, h _ _ r, map_eq h t]
theorem of_map {f : β → α} (h : ∀ b, R (f b) b) : ∀ bs : List β, All2 R (bs.map f) bs
  | [] => .nil
  | b :: bs => .cons (h b) (of_map h bs)
theorem drop : ∀ {as : List α} {bs : List β} (n : Nat), All2 R as bs → All2 R (as.drop n) (bs.drop n)
  | _, _, 0, h => h
  | _, _, n + 1, .nil => .nil
  | _, _, n + 1, .cons _ t => drop n t
theorem take : ∀ {as : List α} {bs : List β} (n : Nat), All2 R as bs → All2 R (as.take n) (bs.take n)
  | _, _, 0, h => .nil
  | _, _, n + 1, .nil => .nil
  | _, _, n + 1, .cons h t => .cons h (take n t)
end All2
/-- a walk J over the items xs of the object at a; S: it stands -/
structure Wk (J : It) (a : Addr) (S : Hp → Prop) (xs : List V) : Prop where
  go : ∀ i H, i < xs.length → S H → J.go i H
  stop : ∀ H, S H → J.stop xs.length H
  yld : ∀ i H v H', i < xs.length → S H → J.yld i H v H' → H' = H ∧ xs[i]? = some v
  keep : ∀ {H H' : Hp}, (∀ o, H a = some o → H' a = some o) → S H → S H'
theorem wk_list {K : PySem.W.Frag} {a : Addr} {xs : List V} : Wk (Itl K a) a (fun H => SqL K H a xs) xs where
  go := fun i H hi s => ⟨xs, xs[i], s, List.getElem?_eq_getElem hi⟩
  stop := fun H s => ⟨xs, s, Nat.le_refl _⟩
  yld := fun i H v H' _ s y => ⟨y.1, y.2 xs s⟩
  keep := fun k s => by
    rcases s with (e | ⟨o, e⟩) | r
    · exact .inl (.inl (k _ e))
    · exact .inl (.inr ⟨o, k _ e⟩)
    · exact .inr r
theorem wk_tup {K : PySem.W.Frag} {a : Addr} {xs : List V} : Wk (Itt K a) a (fun H => SqT K H a xs) xs where
  go := fun i H hi s => ⟨xs, xs[i], s, List.getElem?_eq_getElem hi⟩
  stop := fun H s => ⟨xs, s, Nat.le_refl _⟩
  yld := fun i H v H' _ s y => ⟨y.1, y.2 xs s⟩
  keep := fun k s => by
    rcases s with (e | ⟨o, e⟩) | r
    · exact .inl (.inl (k _ e))
    · exact .inl (.inr ⟨o, k _ e⟩)
    · exact .inr r
def iSeq (K : PySem.W.Frag) (tl : TE) : TI := fun σ H R => tl σ H fun x H1 => ∃ a xs, x = .ref a ∧ SqX K H1 a xs ∧ ∀ (J : It) (S : Hp → Prop), Wk J a S xs → S H1 → R J H1
theorem pi_seq {X : Cx} {tg l : Expr} {tl : TE} (hl : PE X l tl) : PI X tg l (iSeq X.K tl) := by
  refine ⟨fun pins s σ H R I h => ?_⟩
  have both : PI X tg l (fun σ H R => iList X.K tl σ H R ∨ iTup X.K tl σ H R) := ⟨fun pins s σ H R I h => h.elim ((pi_list hl).run pins s σ H R I) ((pi_tup hl).run pins s σ H R I)⟩
  refine thn (hl.run pins s σ H _ I h) fun v s1 ⟨x, H1, I1, r1, a, xs, ex, hx, q⟩ => ?_
  subst ex; cases r1
  rcases hx with hx | hx
  · obtain ⟨its, rv, p, hz⟩ := I1.list hx
    refine wpAny_pyIter_list p.isList ⟨s1.heap.objs.size, [s1.heap.objs.size], _, _, H1, rfl, I1.kept (t' := s1.toks) fun b o e => Heap.get?_push_of_some _ e, turn_list a _, ⟨_, Heap.get?_push_size _ rfl, rfl, rfl⟩, fun b hb => ?_, q _ _ wk_list hx⟩
    obtain rfl : b = s1.heap.objs.size := by simpa using hb
    exact I1.fpOk (Nat.le_refl _) (I1.hok.fresh (Nat.le_refl _))
  · obtain ⟨its, rv, p, hz⟩ := I1.tuple hx
    refine wpAny_pyIter_tuple (show s1.heap.IsTuple a its.toArray from p) ⟨s1.heap.objs.size, [s1.heap.objs.size], _, _, H1, rfl, I1.kept (t' := s1.toks) fun b o e => Heap.get?_push_of_some _ e, turn_tuple a _, ⟨_, Heap.get?_push_size _ rfl, rfl, rfl⟩, fun b hb => ?_, q _ _ wk_tup hx⟩
    obtain rfl : b = s1.heap.objs.size := by simpa using hb
    exact I1.fpOk (Nat.le_refl _) (I1.hok.fresh (Nat.le_refl _))
/-! ### comprehensions -/
section
variable {α : Type}
/-- where a comprehension stands: H1 as it began, D its list, ds its items' data -/
structure MF (H1 : Hp) (D : Addr) (ds : List α) (keep : α → Bool) (Rel : Hp → V → α → Prop) (i : Nat) (H : Hp) : Prop where
  same : Same H1 H
  acc : ∃ ys, H D = some (.lst ys) ∧ All2 (Rel H) ys ((ds.take i).filter keep)
variable {H1 : Hp} {D : Addr} {ds : List α} {keep : α → Bool} {Rel : Hp → V → α → Prop} {i : Nat} {H : Hp}
theorem mf_yes (m : MF H1 D ds keep Rel i H) {H' : Hp} {d : α} {y : V} (hd : H1 D = none) (mono : ∀ H H' y d, Fix H H' → Rel H y d → Rel H' y d) (hi : ds[i]? = some d) (hl : ds.length ≤ 100000) (s : Same H H') (k : keep d = true) (r : Rel H' y d) :
    ∃ acc, H' D = some (.lst acc) ∧ acc.length < sizeLine ∧ MF H1 D ds keep Rel (i + 1) (upd H' D (.lst (acc ++ [y]))) := by
  obtain ⟨s1, ys, e, a⟩ := m
  have e' := s _ _ e
  have fx : Fix H' (upd H' D (.lst (ys ++ [y]))) := Fix.lst e'
  refine ⟨ys, e', ?_, fun b o eb => ?_, ys ++ [y], upd_same, ?_⟩
  · have := a.len
    have h2 := List.length_filter_le keep (ds.take i)
    have h3 : (ds.take i).length ≤ ds.length := by rw [List.length_take]; exact Nat.min_le_right _ _
    rw [sizeLine_eq]; omega
  · rw [upd_ne (ne_of_none eb hd)]; exact s b o (s1 b o eb)
  · rw [List.take_add_one, hi, List.filter_append]
    show All2 _ _ (_ ++ [d].filter keep)
    rw [List.filter_cons_of_pos k]
    exact (a.imp fun _ _ q => mono _ _ _ _ ((Fix.of s).trans fx) q).app (.cons (mono _ _ _ _ fx r) .nil)
theorem mf_no (m : MF H1 D ds keep Rel i H) {H' : Hp} {d : α} (mono : ∀ H H' y d, Fix H H' → Rel H y d → Rel H' y d) (hi : ds[i]? = some d) (s : Same H H') (k : keep d = false) : MF H1 D ds keep Rel (i + 1) H' := by
  obtain ⟨s1, ys, e, a⟩ := m
  refine ⟨s1.trans s, ys, s _ _ e, ?_⟩
  rw [List.take_add_one, hi, List.filter_append]
  show All2 _ _ (_ ++ [d].filter keep)
  rw [List.filter_cons_of_neg (by rw [k]; exact Bool.false_ne_true), List.filter_nil, List.append_nil]
  exact a.imp fun _ _ q => mono _ _ _ _ (Fix.of s) q
/-- a comprehension over the walk J -/
theorem lc_mf {J : It} {a : Addr} {S : Hp → Prop} {xs : List V} {ds : List α} (W : Wk J a S xs) (keep : α → Bool) (Rel : Hp → V → α → Prop) {g : TG} {tt : TT} {te : TE} {vs : List Nat} {σ : L2.St} {H1 : Hp} {D : Addr} {Qd : Hp → Prop} (hS : S H1) (hD : H1 D = none)
    (hlen : xs.length = ds.length)
    (hs : ∀ i x d H, xs[i]? = some x → ds[i]? = some d → Same H1 H → MF H1 D ds keep Rel i H → g x (wipe σ vs) H fun σ2 H2 => wipe σ2 vs = wipe σ vs ∧ tt σ2 H2 fun b H3 =>
      if b = true then te σ2 H3 fun y H4 => ∃ acc, H4 D = some (.lst acc) ∧ acc.length < sizeLine ∧ MF H1 D ds keep Rel (i + 1) (upd H4 D (.lst (acc ++ [y]))) else MF H1 D ds keep Rel (i + 1) H3)
    (hd : ∀ H ys, Same H1 H → H D = some (.lst ys) → All2 (Rel H) ys (ds.filter keep) → Qd H) :
    ∃ W : Nat → Nat → Hp → Prop, (∃ m, W 0 m (upd H1 D (.lst []))) ∧ ∀ i m H, W i m H →
      (J.stop i H ∧ Qd H) ∨ (J.go i H ∧ ∃ Nx : Hp → Prop, (∀ H', Nx H' → ∃ m', m' < m ∧ W (i + 1) m' H') ∧ ∀ v H', J.yld i H v H' → g v (wipe σ vs) H' fun σ2 H2 => wipe σ2 vs = wipe σ vs ∧ tt σ2 H2 fun b H3 =>
        if b = true then te σ2 H3 fun y H4 => ∃ acc, H4 D = some (.lst acc) ∧ acc.length < sizeLine ∧ Nx (upd H4 D (.lst (acc ++ [y]))) else Nx H3) := by
  have stand : ∀ {H}, Same H1 H → S H := fun {H} s => W.keep (fun o e => s _ _ e) hS
  refine ⟨fun i m H => m + i = xs.length ∧ MF H1 D ds keep Rel i H, ⟨xs.length, rfl, fun b o e => by rw [upd_ne (ne_of_none e hD)]; exact e, [], upd_same, .nil⟩, fun i m H ⟨e, p⟩ => ?_⟩
  cases m with
  | zero =>
    obtain rfl : i = xs.length := by omega
    obtain ⟨ys, ey, al⟩ := p.acc
    refine .inl ⟨W.stop H (stand p.same), hd H ys p.same ey ?_⟩
    rw [List.take_of_length_le (by omega)] at al
    exact al
  | succ m =>
    have hi : i < xs.length := by omega
    refine .inr ⟨W.go i H hi (stand p.same), MF H1 D ds keep Rel (i + 1), fun H' p' => ⟨m, Nat.lt_succ_self m, by omega, p'⟩, fun v H' y => ?_⟩
    obtain ⟨rfl, ev⟩ := W.yld i H v H' hi (stand p.same) y
    exact hs i v ds[i] H' ev (List.getElem?_eq_getElem (by omega)) p.same p
end
end Sq
namespace Sq
open PySem PySem.Spec PyProof.Rows L2 Hb St
theorem wk_range {lo : Int} {n : Nat} {a : Addr} : Wk (Itr lo n) a (fun _ => True) ((List.range n).map fun k => V.int (lo + (k : Nat))) where
  go := fun i H hi _ => by
    show i < n
    simpa using hi
  stop := fun H _ => by show n ≤ _; simp
  yld := fun i H v H' hi _ y => by
    obtain ⟨e, ev⟩ := (show H' = H ∧ v = .int (lo + (i : Nat)) from y)
    have hn : i < n := by simpa using hi
    exact ⟨e, by rw [ev, List.getElem?_map, List.getElem?_range hn] <;> rfl⟩
  keep := fun _ _ => trivial
/-- a for over the walk J -/
theorem for_sq {J : It} {a : Addr} {S : Hp → Prop} {xs : List V} (W : Wk J a S xs) {g : TG} {tb : TS} {D : Ends} {σ : L2.St} {H : Hp} (Pv : Nat → L2.St → Hp → Prop) (h0 : Pv 0 σ H) (hk : ∀ i σ H, Pv i σ H → S H)
    (hs : ∀ i σ H x, xs[i]? = some x → Pv i σ H → g x σ H fun σ2 H2 => tb { D with nx := Pv (i + 1), ct := Pv (i + 1), bk := D.nx } σ2 H2) (hd : ∀ σ H, Pv xs.length σ H → D.nx σ H) :
    ∃ W : Nat → Nat → L2.St → Hp → Prop, (∃ m, W 0 m σ H) ∧ ∀ i m σ H, W i m σ H →
      (J.stop i H ∧ D.nx σ H) ∨ (J.go i H ∧ ∃ N : L2.St → Hp → Prop, (∀ σ' H', N σ' H' → ∃ m', m' < m ∧ W (i + 1) m' σ' H') ∧ ∀ v H', J.yld i H v H' → g v σ H' fun σ2 H2 => tb { D with nx := N, ct := N, bk := D.nx } σ2 H2) := by
  refine ⟨fun i m σ H => m + i = xs.length ∧ Pv i σ H, ⟨xs.length, rfl, h0⟩, fun i m σ H ⟨e, p⟩ => ?_⟩
  cases m with
  | zero =>
    obtain rfl : i = xs.length := by omega
    exact .inl ⟨W.stop H (hk _ _ _ p), hd σ H p⟩
  | succ m =>
    refine .inr ⟨W.go i H (by omega) (hk _ _ _ p), Pv (i + 1), fun σ' H' p' => ⟨m, Nat.lt_succ_self m, by omega, p'⟩, fun v H' y => ?_⟩
    obtain ⟨rfl, ev⟩ := W.yld i H v H' (by omega) (hk _ _ _ p) y
    exact hs i σ H' v ev p
/-- a walk of enumerate -/
structure En (J : It) (a : Addr) (S : Hp → Prop) (xs : List V) : Prop where
  go : ∀ i H, i < xs.length → S H → J.go i H
  stop : ∀ H, S H → J.stop xs.length H
  yld : ∀ i H v H', S H → J.yld i H v H' → ∃ T x, v = .ref T ∧ H T = none ∧ H' = upd H T (.tup [.int (i : Nat), x]) ∧ xs[i]? = some x
theorem en_list {K : PySem.W.Frag} {a : Addr} {xs : List V} : En (Ite K a) a (fun H => SqL K H a xs) xs where
  go := fun i H hi s => ⟨xs, xs[i], s, List.getElem?_eq_getElem hi⟩
  stop := fun H s => ⟨xs, s, Nat.le_refl _⟩
  yld := fun i H v H' s ⟨T, x, e1, e2, e3, f⟩ => ⟨T, x, e1, e2, e3, f xs s⟩
theorem en_tup {K : PySem.W.Frag} {a : Addr} {xs : List V} : En (En.IteT K a) a (fun H => SqT K H a xs) xs where
  go := fun i H hi s => ⟨xs, xs[i], s, List.getElem?_eq_getElem hi⟩
  stop := fun H s => ⟨xs, s, Nat.le_refl _⟩
  yld := fun i H v H' s ⟨T, x, e1, e2, e3, f⟩ => ⟨T, x, e1, e2, e3, f xs s⟩
theorem for_en {J : It} {a : Addr} {S : Hp → Prop} {xs : List V} (W : En J a S xs) {g : TG} {tb : TS} {D : Ends} {σ : L2.St} {H : Hp} (Pv : Nat → L2.St → Hp → Prop) (h0 : Pv 0 σ H) (hk : ∀ i σ H, Pv i σ H → S H)
    (hs : ∀ i σ H x T, xs[i]? = some x → Pv i σ H → H T = none → g (.ref T) σ (upd H T (.tup [.int (i : Nat), x])) fun σ2 H2 => tb { D with nx := Pv (i + 1), ct := Pv (i + 1), bk := D.nx } σ2 H2) (hd : ∀ σ H, Pv xs.length σ H → D.nx σ H) :
    ∃ W : Nat → Nat → L2.St → Hp → Prop, (∃ m, W 0 m σ H) ∧ ∀ i m σ H, W i m σ H →
      (J.stop i H ∧ D.nx σ H) ∨ (J.go i H ∧ ∃ N : L2.St → Hp → Prop, (∀ σ' H', N σ' H' → ∃ m', m' < m ∧ W (i + 1) m' σ' H') ∧ ∀ v H', J.yld i H v H' → g v σ H' fun σ2 H2 => tb { D with nx := N, ct := N, bk := D.nx } σ2 H2) := by
  refine ⟨fun i m σ H => m + i = xs.length ∧ Pv i σ H, ⟨xs.length, rfl, h0⟩, fun i m σ H ⟨e, p⟩ => ?_⟩
  cases m with
  | zero =>
    obtain rfl : i = xs.length := by omega
    exact .inl ⟨W.stop H (hk _ _ _ p), hd σ H p⟩
  | succ m =>
    refine .inr ⟨W.go i H (by omega) (hk _ _ _ p), Pv (i + 1), fun σ' H' p' => ⟨m, Nat.lt_succ_self m, by omega, p'⟩, fun v H' y => ?_⟩
    obtain ⟨T, x, rfl, hT, rfl, ex⟩ := W.yld i H v H' (hk _ _ _ p) y
    exact hs i σ H x T ex p hT
theorem pi_or {X : Cx} {tg it : Expr} {w1 w2 : TI} (h1 : PI X tg it w1) (h2 : PI X tg it w2) : PI X tg it (fun σ H R => w1 σ H R ∨ w2 σ H R) := ⟨fun pins s σ H R I h => h.elim (h1.run pins s σ H R I) (h2.run pins s σ H R I)⟩
def rTupE (K : PySem.W.Frag) : List V → Hp → VK → Prop := fun xs H Q => ∃ p ys, xs = [V.ref p] ∧ ((SqL K H p ys ∧ ∀ l, H l = none → Q (.ref l) (upd H l (.tup ys))) ∨ (SqT K H p ys ∧ Q (.ref p) H))
theorem call_tupE {X : Cx} : CallR X (.type "tuple") (rTupE X.K) := call_tuple_of
end Sq

/-! comprehensions over zip and enumerate, dict comprehensions, max(.., default=..), D.get(x) of a dict of the text -/
namespace Zp
open PySem PySem.Spec PyProof.Rows L2 Hb St Sq RZ
/-- a walk of new pairs: where S stands, at the i-th turn the i-th of ps -/
structure Wp (J : It) (S : Hp → Prop) (ps : List (V × V)) : Prop where
  go : ∀ i H, i < ps.length → S H → J.go i H
  stop : ∀ H, S H → J.stop ps.length H
  yld : ∀ i H v H', i < ps.length → S H → J.yld i H v H' → ∃ T p, v = .ref T ∧ H T = none ∧ H' = upd H T (.tup [p.1, p.2]) ∧ ps[i]? = some p
  keep : ∀ {H H' : Hp}, Same H H' → S H → S H'
theorem zip_at {xs ys : List V} {i : Nat} {x y : V} (hx : xs[i]? = some x) (hy : ys[i]? = some y) : (xs.zip ys)[i]? = some (x, y) := by
  rw [List.getElem?_zip_eq_some]
  exact ⟨hx, hy⟩
theorem wp_tup {K : PySem.W.Frag} {a b : Addr} {xs ys : List V} : Wp (ItzT K a b) (fun H => SqT K H a xs ∧ SqT K H b ys) (xs.zip ys) where
  go := fun i H hi s => by
    rw [List.length_zip] at hi
    exact ⟨xs, ys, xs[i]'(by omega), ys[i]'(by omega), s.1, s.2, List.getElem?_eq_getElem _, List.getElem?_eq_getElem _⟩
  stop := fun H s => ⟨xs, ys, s.1, s.2, by rw [List.length_zip]; omega⟩
  yld := fun i H v H' hi s ⟨T, x, y, e1, e2, e3, f, g⟩ => ⟨T, (x, y), e1, e2, e3, zip_at (f xs s.1) (g ys s.2)⟩
  keep := fun k s => ⟨tupFix (Fix.of k) s.1, tupFix (Fix.of k) s.2⟩
theorem wp_lst {K : PySem.W.Frag} {a b : Addr} {xs ys : List V} : Wp (Itz K a b) (fun H => SqL K H a xs ∧ SqL K H b ys) (xs.zip ys) where
  go := fun i H hi s => by
    rw [List.length_zip] at hi
    exact ⟨xs, ys, xs[i]'(by omega), ys[i]'(by omega), s.1, s.2, List.getElem?_eq_getElem _, List.getElem?_eq_getElem _⟩
  stop := fun H s => ⟨xs, ys, s.1, s.2, by rw [List.length_zip]; omega⟩
  yld := fun i H v H' hi s ⟨T, x, y, e1, e2, e3, f, g⟩ => ⟨T, (x, y), e1, e2, e3, zip_at (f xs s.1) (g ys s.2)⟩
  keep := fun k s => ⟨lstSame k s.1, lstSame k s.2⟩
section
variable {α : Type}
/-- a comprehension over a walk of pairs -/
theorem lc_mp {J : It} {S : Hp → Prop} {ps : List (V × V)} {ds : List α} (W : Wp J S ps) (keep : α → Bool) (Rel : Hp → V → α → Prop) {g : TG} {tt : TT} {te : TE} {vs : List Nat} {σ : L2.St} {H1 : Hp} {D : Addr} {Qd : Hp → Prop} (hS : S H1) (hD : H1 D = none)
    (hlen : ps.length = ds.length) (mono : ∀ H H' y d, Fix H H' → Rel H y d → Rel H' y d)
    (hs : ∀ i T p d H, ps[i]? = some p → ds[i]? = some d → Same H1 H → H T = some (.tup [p.1, p.2]) → MF H1 D ds keep Rel i H → g (.ref T) (wipe σ vs) H fun σ2 H2 => wipe σ2 vs = wipe σ vs ∧ tt σ2 H2 fun b H3 =>
      if b = true then te σ2 H3 fun y H4 => ∃ acc, H4 D = some (.lst acc) ∧ acc.length < sizeLine ∧ MF H1 D ds keep Rel (i + 1) (upd H4 D (.lst (acc ++ [y]))) else MF H1 D ds keep Rel (i + 1) H3)
    (hd : ∀ H ys, Same H1 H → H D = some (.lst ys) → All2 (Rel H) ys (ds.filter keep) → Qd H) :
    ∃ W : Nat → Nat → Hp → Prop, (∃ m, W 0 m (upd H1 D (.lst []))) ∧ ∀ i m H, W i m H →
      (J.stop i H ∧ Qd H) ∨ (J.go i H ∧ ∃ Nx : Hp → Prop, (∀ H', Nx H' → ∃ m', m' < m ∧ W (i + 1) m' H') ∧ ∀ v H', J.yld i H v H' → g v (wipe σ vs) H' fun σ2 H2 => wipe σ2 vs = wipe σ vs ∧ tt σ2 H2 fun b H3 =>
        if b = true then te σ2 H3 fun y H4 => ∃ acc, H4 D = some (.lst acc) ∧ acc.length < sizeLine ∧ Nx (upd H4 D (.lst (acc ++ [y]))) else Nx H3) := by
  have stand : ∀ {H}, Same H1 H → S H := fun {H} s => W.keep s hS
  refine ⟨fun i m H => m + i = ps.length ∧ MF H1 D ds keep Rel i H, ⟨ps.length, rfl, fun b o e => by rw [upd_ne (ne_of_none e hD)]; exact e, [], upd_same, .nil⟩, fun i m H ⟨e, p⟩ => ?_⟩
  cases m with
  | zero =>
    obtain rfl : i = ps.length := by omega
    obtain ⟨ys, ey, al⟩ := p.acc
    refine .inl ⟨W.stop H (stand p.same), hd H ys p.same ey ?_⟩
    rw [List.take_of_length_le (by omega)] at al
    exact al
  | succ m =>
    have hi : i < ps.length := by omega
    refine .inr ⟨W.go i H hi (stand p.same), MF H1 D ds keep Rel (i + 1), fun H' p' => ⟨m, Nat.lt_succ_self m, by omega, p'⟩, fun v H' y => ?_⟩
    obtain ⟨T, x, rfl, hT, rfl, ex⟩ := W.yld i H v H' hi (stand p.same) y
    have s2 := same_new hT (.tup [x.1, x.2])
    obtain ⟨s1, ys, ey, al⟩ := p
    exact hs i T x ds[i] _ ex (List.getElem?_eq_getElem (by omega)) (s1.trans s2) upd_same ⟨s1.trans s2, ys, s2 _ _ ey, al.imp fun _ _ q => mono _ _ _ _ (Fix.of s2) q⟩
/-- a dict comprehension over enumerate: kvs of the first i items -/
theorem dc_en {J : It} {a : Addr} {S : Hp → Prop} {xs : List V} (W : Sq.En J a S xs) (kv : Nat → List (L2.Key × V)) {g : TG} {tt : TT} {tk tv : TE} {vs : List Nat} {σ : L2.St} {H1 : Hp} {D : Addr} {Qd : Hp → Prop} (hS : ∀ {H}, Same H1 H → S H) (hD : H1 D = none)
    (h0 : kv 0 = []) (hl : ∀ i, (kv i).length < sizeLine)
    (hs : ∀ i T x H, xs[i]? = some x → Same H1 H → H T = some (.tup [.int (i : Nat), x]) → H D = some (.dK (kv i)) → g (.ref T) (wipe σ vs) H fun σ2 H2 => wipe σ2 vs = wipe σ vs ∧ tt σ2 H2 fun b H3 =>
      b = true ∧ tk σ2 H3 fun y H4 => tv σ2 H4 fun z H5 => Same H H5 ∧ ∃ k, y = kV k ∧ putK (kv i) k z = kv (i + 1))
    (hd : ∀ H, Same H1 H → H D = some (.dK (kv xs.length)) → Qd H) (mono : ∀ {σ H} {Q Q' : L2.St → Hp → Prop}, (∀ σ H, Q σ H → Q' σ H) → ∀ v, g v σ H Q → g v σ H Q') (monot : ∀ {σ H} {Q Q' : Bool → Hp → Prop}, (∀ b H, Q b H → Q' b H) → tt σ H Q → tt σ H Q')
    (monok : ∀ {σ H} {Q Q' : VK}, (∀ v H, Q v H → Q' v H) → tk σ H Q → tk σ H Q') (monov : ∀ {σ H} {Q Q' : VK}, (∀ v H, Q v H → Q' v H) → tv σ H Q → tv σ H Q') :
    ∃ W : Nat → Nat → Hp → Prop, (∃ m, W 0 m (upd H1 D (.dK []))) ∧ ∀ i m H, W i m H →
      (J.stop i H ∧ Qd H) ∨ (J.go i H ∧ ∃ Nx : Hp → Prop, (∀ H', Nx H' → ∃ m', m' < m ∧ W (i + 1) m' H') ∧ ∀ v H', J.yld i H v H' → g v (wipe σ vs) H' fun σ2 H2 => wipe σ2 vs = wipe σ vs ∧ tt σ2 H2 fun b H3 =>
        if b = true then tk σ2 H3 fun y H4 => tv σ2 H4 fun z H5 => ∃ kvs k, y = kV k ∧ H5 D = some (.dK kvs) ∧ kvs.length < sizeLine ∧ Nx (upd H5 D (.dK (putK kvs k z))) else Nx H3) := by
  refine ⟨fun i m H => m + i = xs.length ∧ Same H1 H ∧ H D = some (.dK (kv i)), ⟨xs.length, rfl, fun b o e => by rw [upd_ne (ne_of_none e hD)]; exact e, by rw [upd_same, h0]⟩, fun i m H ⟨e, s, eD⟩ => ?_⟩
  cases m with
  | zero =>
    obtain rfl : i = xs.length := by omega
    exact .inl ⟨W.stop H (hS s), hd H s eD⟩
  | succ m =>
    have hi : i < xs.length := by omega
    refine .inr ⟨W.go i H hi (hS s), fun H' => Same H1 H' ∧ H' D = some (.dK (kv (i + 1))), fun H' p' => ⟨m, Nat.lt_succ_self m, by omega, p'⟩, fun v H' y => ?_⟩
    obtain ⟨T, x, rfl, hT, rfl, ex⟩ := W.yld i H v H' (hS s) y
    have s2 := same_new hT (.tup [.int (i : Nat), x])
    refine mono (fun σ2 H2 q => ⟨q.1, monot (fun b H3 q => ?_) q.2⟩) _ (hs i T x _ ex (s.trans s2) upd_same (s2 _ _ eD))
    obtain ⟨rfl, q⟩ := q
    rw [if_pos rfl]
    refine monok (fun y H4 q => monov (fun z H5 q => ?_) q) q
    obtain ⟨s3, k, ek, ep⟩ := q
    refine ⟨_, k, ek, s3 _ _ (s2 _ _ eD), hl i, fun b o e => ?_, by rw [upd_same, ep]⟩
    rw [upd_ne (ne_of_none e hD)]
    exact s3 _ _ ((s.trans s2) _ _ e)
end
/-! ### max(xs, default=d) -/
def rMaxDf (K : PySem.W.Frag) : List V → List V → Hp → VK → Prop := fun xs zs H Q => ∃ (a : Addr) (ns : List Int) (d : Int), xs = [.ref a] ∧ zs = [.int d] ∧ SqL K H a (ns.map V.int) ∧ (ns = [] → Q (.int d) H) ∧ ∀ m, m ∈ ns → (∀ y ∈ ns, y ≤ m) → Q (.int m) H
theorem maxOf_is (x : Int) : ∀ xs : List Int, PySem.W.maxOf x xs ∈ x :: xs ∧ ∀ y ∈ x :: xs, y ≤ PySem.W.maxOf x xs := by
  intro xs
  unfold PySem.W.maxOf
  induction xs generalizing x with
  | nil => exact ⟨List.mem_cons_self, fun y hy => by rw [List.mem_singleton.mp hy]; exact Int.le_refl _⟩
  | cons z xs ih =>
    rw [List.foldl_cons]
    by_cases c : PySem.W.DatumOrd.lt x z = true
    · rw [if_pos c]
      have c' : x < z := of_decide_eq_true c
      obtain ⟨h1, h2⟩ := ih z
      refine ⟨List.mem_cons_of_mem _ h1, fun y hy => ?_⟩
      rcases List.mem_cons.mp hy with e | hy
      · have := h2 z List.mem_cons_self
        omega
      · exact h2 y hy
    · rw [if_neg c]
      have c' : ¬ x < z := fun q => c (decide_eq_true q)
      obtain ⟨h1, h2⟩ := ih x
      have hx := h2 x List.mem_cons_self
      refine ⟨?_, fun y hy => ?_⟩
      · rcases List.mem_cons.mp h1 with e | h1
        · rw [e]; exact List.mem_cons_self
        · exact List.mem_cons_of_mem _ (List.mem_cons_of_mem _ h1)
      · rcases List.mem_cons.mp hy with e | hy
        · omega
        · rcases List.mem_cons.mp hy with e | hy
          · omega
          · exact h2 y (List.mem_cons_of_mem _ hy)
theorem cr_maxDf {X : Cx} (hc : X.calm = true) (hu : X.A.units + 64 < cLine) : CallRK X (.builtin "max") ["default"] (rMaxDf X.K) := by
  intro pins s σ H xs zs us ws Q I r1 r2 h
  obtain ⟨a, ns, d, rfl, rfl, hs, q0, q1⟩ := h
  obtain ⟨its, rv, hl, _⟩ := I.list hs
  cases r2 with
  | cons rd rt =>
    cases rt
    obtain ⟨t, rfl⟩ := rd
    rw [Vals.ref1 r1]
    show wpAny (model X.prog X.w) X.A (call (.builtin "max") [.ref a] [(Str.ofString "default", _)]) _ _ s
    refine PySem.W.max_list_datum_default (α := Int) (I.ok.hd hc) hl.isList (PySem.W.HoldAll.of_ints rv.ints) (by show X.A.units + 1 + 0 < cLine; omega) (fun e h' tk hk => ⟨.int d, H, I.kept hk, ⟨_, rfl⟩, q0 e⟩) fun y ys i v h' tk e hv hh hk => ?_
    obtain ⟨as, hr⟩ := hh
    obtain ⟨m1, m2⟩ := maxOf_is y ys
    generalize PySem.W.maxOf y ys = m at hr m1 m2
    have hr : Reads h' v (.int m) as := hr
    cases hr with
    | int _ t => exact ⟨.int m, H, I.kept hk, ⟨t, rfl⟩, q1 m (e ▸ m1) fun y hy => m2 y (e ▸ hy)⟩
/-! ### D.get(x), D a dict of the text -/
def tKGet (K : PySem.W.Frag) (w : World) (p : Addr) (ty : TE) : TE := fun σ H Q => ty σ H fun y H2 => ∃ z v, y = .str z ∧ KDct K w p z v ∧ Q v H2
theorem pe_kget {X : Cx} {x : Str} {xp : Pos} {e : Expr} {apos cpos : Pos} {ty : TE} {p : Addr} {es : Array DictEntry} {n : Nat} (D : KDict X.K X.w p es n) (hg : Gl X x) (hm : X.mg x = some (.ref p)) (he : PE X e ty) (m : M1 X (.Name x xp) "get" apos e cpos) (hdb : (x == ("__debug__" : Str)) = false := by decide) :
    PE X (.Call (.Attribute (.Name x xp) "get" apos) [e] [] cpos) (tKGet X.K X.w p ty) := by
  refine ⟨fun pins s σ H Q I h => ?_⟩
  have ho : PE X (.Name x xp) (tC (.ref p)) := pe_glob hg hm rfl hdb
  refine wpAny_Call_method m.base m.few m.line PySem.F.plainAttrs_dict PySem.F.slot_dict_get PySem.F.type_dict_get (thn (ho.run pins s σ H (fun x H1 => x = .ref p ∧ H1 = H) I ⟨rfl, rfl⟩) fun u s1 ⟨x, H1, I1, rx, ex, eH⟩ => ?_)
  subst ex eH
  obtain rfl : u = Value.ref p := rx
  have mo := PySem.W.mapOf_K (prog := X.prog) (w := X.w) I1.kIn D.at_ D.lit
  refine ⟨mo.typeIs, fun b q => ?_, ?_⟩
  · cases q
    exact ⟨_, I1.kIn _ _ D.at_, rfl⟩
  rw [m.trees]
  refine Calls.callWith_builtin rfl (Calls.evalArgs_plain (Calls.spliced_cons (thn (he.run pins s1 σ H1 _ I1 h) fun iv s2 ⟨y, H2, I2, ry, z, v, ey, ⟨es', n', u0, hl, hk, eu, ru⟩, q2⟩ => Calls.spliced_nil ?_)))
  subst ey
  obtain ⟨t, rfl⟩ := ry
  have mo2 := PySem.W.mapOf_K (prog := X.prog) (w := X.w) I2.kIn hl hk
  refine call_meetsIn PySem.F.slot_dict_get mo2.typeIs PySem.F.entry_dict_get (PySem.F.args_dict_get_2 _ _) (meets_dict_get _ p (strKind_is X.prog X.w z t) D.low) ⟨_, mo2, ?_⟩
  rw [PySem.W.find_K hl eu]
  exact ⟨v, H2, I2.tok _, ru, q2⟩
end Zp
namespace Zp
open PySem PySem.Spec PyProof.Rows L2 Hb St Sq RZ
theorem pe_or2 {X : Cx} {e : Expr} {t1 t2 : TE} (h1 : PE X e t1) (h2 : PE X e t2) : PE X e (fun σ H Q => t1 σ H Q ∨ t2 σ H Q) := ⟨fun pins s σ H Q I h => h.elim (h1.run pins s σ H Q I) (h2.run pins s σ H Q I)⟩
theorem _root_.L2.Room.units65 {k : Nat} {A : Around} (r : Room k A) : A.units + 65 < cLine := by have := r.un; omega
end Zp

/-! readings -/
namespace Rd
open PySem PySem.Spec PyProof.Rows L2 Hb St Sq RZ
section
variable {K : PySem.W.Frag} {H : Hp} {Q : VK}
theorem ty_tup {a : Addr} {xs : List V} (h : SqT K H a xs) : TyX K H (.ref a) (.type "tuple") := by
  rcases h with (e | ⟨o, e⟩) | ⟨o, its, n, e, c, _⟩
  · exact .base (.tup e)
  · exact .fTuple e
  · exact .kTuple e c
theorem ty_lst {a : Addr} {xs : List V} (h : SqL K H a xs) : TyX K H (.ref a) (.type "list") := by
  rcases h with (e | ⟨o, e⟩) | ⟨o, its, n, e, c, _⟩
  · exact .base (.lst e)
  · exact .base (.frz e)
  · exact .kList e c
theorem rd_isTup {a : Addr} {xs : List V} (h : SqT K H a xs) (q : Q (.bl true) H) : rIsi K [.ref a, .ty "tuple"] H Q := ⟨_, _, _, _, _, rfl, .ty "tuple", ty_tup h, kit_ty (r := true) (by decide +kernel), q⟩
theorem rd_noTupL {a : Addr} {xs : List V} (h : SqL K H a xs) (q : Q (.bl false) H) : rIsi K [.ref a, .ty "tuple"] H Q := ⟨_, _, _, _, _, rfl, .ty "tuple", ty_lst h, kit_ty (r := false) (by decide +kernel), q⟩
theorem rd_noTupS {x : Str} (q : Q (.bl false) H) : rIsi K [.str x, .ty "tuple"] H Q := ⟨_, _, _, _, _, rfl, .ty "tuple", .base (.str x), kit_ty (r := false) (by decide +kernel), q⟩
theorem rd_noTupI {i : Int} (q : Q (.bl false) H) : rIsi K [.int i, .ty "tuple"] H Q := ⟨_, _, _, _, _, rfl, .ty "tuple", .base (.int i), kit_ty (r := false) (by decide +kernel), q⟩
theorem rd_isStr {x : Str} (q : Q (.bl true) H) : rIsi K [.str x, .ty "str"] H Q := ⟨_, _, _, _, _, rfl, .ty "str", .base (.str x), kit_ty (r := true) (by decide +kernel), q⟩
theorem rd_noStr {i : Int} (q : Q (.bl false) H) : rIsi K [.int i, .ty "str"] H Q := ⟨_, _, _, _, _, rfl, .ty "str", .base (.int i), kit_ty (r := false) (by decide +kernel), q⟩
theorem sIx1 {n : Nat} (h : 1 ≤ n) : HT.sIx n 0 (some 1) = 1 := by rw [show (1 : Int) = ((1 : Nat) : Int) from rfl, HT.sIx_nat]; omega
theorem cut1 {v : V} {xs : List V} : cutV (v :: xs) (some 1) none = xs := by
  unfold cutV
  rw [sIx1 (by simp), HT.sIx_none, List.drop_one, List.tail_cons, List.take_of_length_le (by simp)]
/-- a tuple from its second thing on -/
theorem rd_tail {a : Addr} {v : V} {xs : List V} (h : SqT K H a (v :: xs)) (q : ∀ p H', H p = none → Same H H' → H' p = some (.tup xs) → Q (.ref p) H') : rSlA K (.ref a) (some 1) none H Q := by
  refine ⟨a, _, rfl, h, fun ⟨z, _⟩ => ?_, fun _ p hp => ?_⟩
  · rw [sIx1 (by simp)] at z
    cases z
  · rw [cut1]
    exact q p _ hp (same_new hp _) upd_same
theorem rd_all {a : Addr} {bs : List Bool} (h : SqL K H a (bs.map V.bl)) (q : Q (.bl (bs.all id)) H) : rAll K [.ref a] H Q := ⟨a, bs, rfl, h, q⟩
theorem bl_true {α : Type} {ys : List V} {ds : List α} (h : All2 (fun (y : V) (_ : α) => y = .bl true) ys ds) : ys = (ds.map fun _ => true).map V.bl := by
  rw [List.map_map]
  exact h.map_eq fun a b e => e
theorem rd_allT {α : Type} {a : Addr} {ys : List V} {ds : List α} (h : H a = some (.lst ys)) (al : All2 (fun (y : V) (_ : α) => y = .bl true) ys ds) (q : Q (.bl true) H) : rAll K [.ref a] H Q := by
  refine rd_all (bs := ds.map fun _ => true) (SqL.of (by rw [← bl_true al]; exact h)) ?_
  rw [show ((ds.map fun _ => true).all id) = true by simp]
  exact q
theorem at_map {α β : Type} {f : α → β} {l : List α} {i : Nat} {x : β} {d : α} (h : (l.map f)[i]? = some x) (k : l[i]? = some d) : x = f d := by
  rw [List.getElem?_map, k] at h
  exact (Option.some.inj h).symm
theorem at_mem {α : Type} {l : List α} {i : Nat} {d : α} (k : l[i]? = some d) : d ∈ l := List.mem_of_getElem? k
theorem filter_all {α : Type} (l : List α) : l.filter (fun _ => true) = l := List.filter_eq_self.mpr fun _ _ => rfl
/-- an item from behind -/
theorem at_last {xs : List V} {x : V} : atI (xs ++ [x]) (-1) = some x := by
  unfold atI ixN
  rw [List.length_append, if_neg (by decide), if_pos (by simp; omega)]
  show (xs ++ [x])[(-1 + ((xs.length + [x].length : Nat) : Int)).toNat]? = some x
  rw [show (-1 + ((xs.length + [x].length : Nat) : Int)).toNat = xs.length by simp; omega, List.getElem?_append_right (Nat.le_refl _), Nat.sub_self]
  rfl
theorem at_nat {α : Type} {xs : List α} {i : Nat} {x : α} (h : xs[i]? = some x) : atI xs (i : Nat) = some x := by
  have hi := (List.getElem?_eq_some_iff.mp h).1
  unfold atI ixN
  rw [if_pos (by omega), if_pos (by omega)]
  exact h
theorem at0 {α : Type} {x : α} {xs : List α} : atI (x :: xs) 0 = some x := at_nat (i := 0) rfl
theorem at1 {α : Type} {x y : α} {xs : List α} : atI (x :: y :: xs) 1 = some y := at_nat (i := 1) rfl
theorem at2 {α : Type} {x y z : α} {xs : List α} : atI (x :: y :: z :: xs) 2 = some z := at_nat (i := 2) rfl
theorem rd_slc {σ : L2.St} {i : Nat} {a : Addr} {v : V} {xs : List V} {tr : TA} {R : List V → Hp → Prop} (e : σ[i]? = some (some (.ref a))) (h : SqT K H a (v :: xs)) (q : ∀ p H', H p = none → Same H H' → H' p = some (.tup xs) → tr σ H' fun ys H2 => R (.ref p :: ys) H2) :
    tCons (tSl (rSlA K) (tVar i) (tPart (tC (.int 1))) tNoPart) tr σ H R := by
  refine ⟨_, e, 1, rfl, ?_⟩
  exact rd_tail (Q := fun x H1 => tr σ H1 fun ys H2 => R (x :: ys) H2) h q
end
end Rd

/-! errors of classes of the program's own, over Exception through other own classes, whose __init__ keeps one thing: self.at = at -/
namespace Xb
open PySem PySem.W PySem.Calls PyProof.Rows PySem.HandSPX
abbrev exB : List Value := [.type "Exception", .type "BaseException", .type "object"]
def iA (p1 p2 : Pos) : Arguments := { posonlyargs := [], args := [{ arg := "self", annotation := none, pos := p1 }, { arg := "at", annotation := none, pos := p2 }], vararg := none, kwonlyargs := [], kw_defaults := [], kwarg := none, defaults := [] }
def iB (q1 q2 q3 q4 : Pos) : List Stmt := [.Assign [.Attribute (.Name "self" q1) "at" q2] (.Name "at" q3) q4]
def iS : Scope := { kind := .function, names := [(PySem.Str.ofString "self", .local), (PySem.Str.ofString "at", .local)], isGenerator := false, isCoroutine := false, more := [] }
/-- what the written part says of the class cn, at C, and of its __init__, at fI -/
structure ErrC (K : Frag) (mg : Str → Option Value) (cn : Str) (C fI : Addr) : Prop where
  gC : mg cn = some (.ref C)
  cls : ∃ nm q N bs bm sn sub ab col dd k0 k1 k2 k3 k5, K.lookup C = some (excClassObj nm q C N bs bm true sn sub ab col dd k0 k1 k2 k3 k5 "Exception.__new__") ∧ excTail exB bm = true
  sa : findIn K (.ref C) "__setattr__" = some (some (.builtin "object.__setattr__"))
  ga : findIn K (.ref C) "__getattribute__" = some (some (.builtin "BaseException.__getattribute__"))
  gg : findIn K (.ref C) "__getattr__" = some none
  noN : findIn K (.ref C) "at" = some none
  iC : findIn K (.ref C) "__init__" = some (some (.ref fI))
  tC : typeIn K (.ref fI) = some (.type "function")
  kC : keepIn K (.ref C) = true
  exC : subIn K (.ref C) (.type "BaseException") = some true
  tyC : typeIn K (.ref C) = some (.type "type")
  hdC : hasDictIn K C = true
  te : exmOne K (.ref C) (.ref C) = some true
  fn : ∃ (oc : Value) (od : Option Addr) (qn : Str) (doc pm : Value) (an : Option Addr) (cdv ct : Value) (osl : Array (Option Value)) (p1 p2 q1 q2 q3 q4 : Pos),
    K.lookup fI = some ⟨oc, od, .func (fnOf "__init__" qn (iA p1 p2) (iB q1 q2 q3 q4) iS .none .none doc pm an cdv ct), osl⟩ ∧ codeIn K cdv qn = true
theorem one_size (v : Value) : [v].length ≤ sizeLine := by
  rw [sizeLine_eq]
  exact (by decide : 1 ≤ 16777216)
theorem at_local {M : Model} {s : Shared} {name : Str} {scope : Scope} {L a : Addr} {cd : Value} {m : Str → Option Value} {x : Str} {pos : Pos} {v : Value} {Q : Value → Shared → Prop} {A : Around} {E : Value → Shared → Prop} (hn : s.heap.Ns L m) (hv : m x = some v) (h : Q v s)
    (hk : scope.kind = .function := by rfl) (hl : (envOfC name scope L a cd).kindOf x = some .local := by rfl) (hd : (x == ("__debug__" : Str)) = false := by decide) :
    wpAny M A (eval (.Name x pos) (envOfC name scope L a cd)) Q E s := wpAny_Name (wpAny_loadName_local hk hl hn hv h) hd
/-- what __init__ leaves of a fresh exception at x -/
structure Ended (h h' : Heap) (x C dx t1 : Addr) (v : Value) : Prop where
  keep : ∀ b o, b ≠ x → h.get? b = some o → h'.get? b = some o
  obj : h'.get? x = some { cls := .ref C, dict := some dx, data := .fields #[.ref t1, .none, .none, .none, .bool false, .none] }
  dbig : h.objs.size ≤ dx
  dne : dx ≠ x
  ns : h'.Ns1 dx (fun y => if y = "at" then some v else none)
structure Made (h h' : Heap) (e C d : Addr) (v : Value) : Prop where
  keep : ∀ b o, h.get? b = some o → h'.get? b = some o
  new : h.objs.size ≤ e
  obj : ∃ oe vs, h'.get? e = some oe ∧ oe.cls = .ref C ∧ oe.dict = some d ∧ oe.data = .fields vs ∧ vs[1]? = some .none
  dbig : h.objs.size ≤ d
  dne : d ≠ e
  ns : h'.Ns1 d (fun y => if y = "at" then some v else none)
section
open Builtin Builtin.ObjectAttr
variable {prog : Program} {w : World} {A : Around} {E : Value → Shared → Prop} {R : Result → Shared → Prop} {K : Frag} {mg : Str → Option Value} {cn : Str} {C fI : Addr}
/-- the first store to such an exception: it gets its dict -/
theorem first_store {hp : Heap} {g : Array GenState} {d : Drawn} {t : Nat} {os : OsState} {name : Str} {tk : Tok} {v : Value} {x : Addr} {fv : Array Value} {cd : ClassData}
    (X : K.In hp) (hx : hp.get? x = some { cls := .ref C, data := .fields fv }) (hcd : clsIn K C = some cd) (ho : excOver K C exB = true) (hh : cd.hasDict = true) (ha : findIn K (.ref C) name = some none)
    (hq : ∀ h' tk' dx, (∀ b o, b ≠ x → hp.get? b = some o → h'.get? b = some o) → hp.objs.size ≤ dx → dx ≠ x → h'.get? x = some { cls := .ref C, dict := some dx, data := .fields fv } →
      h'.Ns1 dx (fun y => if y = name then some v else none) → R (.ok (.ret .none)) ⟨h', g, d, tk', os⟩) :
    codeAny (model prog w) A (.call (.builtin "object.__setattr__") ⟨[.ref x, .str name tk, v], []⟩) R ⟨hp, g, d, t, os⟩ := by
  have I : InstAt hp x { cls := .ref C, data := .fields fv } C none := ⟨hx, rfl, rfl, trivial⟩
  have nx : x ≠ hp.objs.size := Nat.ne_of_lt (Heap.lt_size hx)
  refine osa_openX (r := none) F.store_Exception X I ho (by unfold takerIn; rw [ha]; rfl) fun b => ?_
  show wpAny _ _ (storeInOwnDict (.ref x) (.ref C) (.str name tk) name v b) _ _ _
  have hC : Looks (model prog w) hp (classData C) cd := looks_clsIn X hcd
  obtain ⟨_, _, _, _, _, hd, _, _, _, _, _⟩ := cd
  dsimp only at hh
  subst hh
  unfold storeInOwnDict ownDictForStores
  repeat (first | with_reducible refine wpAny_loadPart_at hx ?_ | with_reducible refine hC.at ?_ | with_reducible refine HandSPX.store_in_new ?_ ?_ | wp_step)
  · exact ⟨_, #[], _, (Heap.get?_update_ne _ _ _ _ nx.symm).trans (Heap.get?_push_at rfl rfl), rfl, fun e he => absurd he (by simp), fun _ => rfl⟩
  · intro h' tk' hn' hs
    have old : (hp.push { cls := .type "dict", data := .dict #[] }).get? x = some { cls := .ref C, data := .fields fv } := Heap.get?_push_of_some _ hx
    refine hq h' tk' hp.objs.size (fun b o hb ho => ?_) (Nat.le_refl _) nx.symm ?_ hn'
    · exact (hs.2 b (Nat.ne_of_lt (Heap.lt_size ho))).trans ((Heap.get?_update_ne _ _ _ _ hb).trans (Heap.get?_push_of_some _ ho))
    · exact (hs.2 x nx).trans (Heap.get?_update_self _ old rfl)
theorem err_init (T : ErrC K mg cn C fI) {s : Shared} {x t0 : Addr} {v : Value} (X : K.In s.heap) (hlim : s.heap.NoLimit) (hx : s.heap.get? x = some (excO C t0)) (hroom : A.depth < recursionLimit)
    (hq : ∀ h' tk dx, Ended s.heap h' x C dx t0 v → R (.ok (.ret .none)) { s with heap := h', toks := tk }) :
    codeAny (model prog w) A (.call (.ref fI) ⟨[.ref x, v], []⟩) R s := by
  obtain ⟨oc, od, qn, doc, pm, an, cdv, ct, osl, p1, p2, q1, q2, q3, q4, ho, hcd⟩ := T.fn
  obtain ⟨nm, q, N, bs, bm, sn, sub, ab, col, dd, k0, k1, k2, k3, k5, hC, hbm⟩ := T.cls
  have hcl : clsIn K C = some { name := nm, bases := bs, mro := .ref C :: bm, ns := N, qualname := q, hasDict := true, slotNames := sn, subclasses := sub, abstract := ab, collection := col, hasDel := false } := by unfold clsIn; rw [hC] <;> rfl
  have over : excOver K C exB = true := by
    unfold excOver
    rw [hcl]
    show ((C == C) && excTail exB bm) = true
    rw [hbm, beq_self_eq_true]
    rfl
  refine Att.call_fn (binds := [("self", .ref x), ("at", v)]) X hlim ho hcd hroom (BindsTo.of_eq (by first | rfl | with_unfolding_all rfl)) (by first | rfl | decide | with_unfolding_all rfl) (fun s₁ IC => ?_) rfl rfl rfl
  obtain ⟨h₁, tk₁, rfl⟩ := IC.toInCall.same
  have k : ∀ b o, s.heap.get? b = some o → h₁.get? b = some o := IC.toInCall.keep
  have hn := IC.toInCall.ns
  have X₁ : K.In h₁ := X.keeps k
  have hx₁ := k _ _ hx
  show wpAny _ _ (execs _ _) _ _ _
  refine wpAny_execs_cons (plainObj_wpAny_Assign_Attribute ?_)
  refine at_local (v := v) hn (by first | rfl | with_unfolding_all rfl | kernel_rfl) (at_local (v := .ref x) hn (by first | rfl | with_unfolding_all rfl | kernel_rfl) ?_)
  refine set_plain X₁ (ox := excO C t0) (od := none) ⟨hx₁, rfl, rfl, trivial⟩ T.sa ?_
  refine first_store X₁ hx₁ hcl over rfl T.noN (fun h₃ tk₃ dx k₃ dn dne hx₃ hn₃ => ?_)
  show wpAny _ _ (execs _ _) _ _ _
  have z : s.heap.objs.size < h₁.objs.size := hn.lt
  exact wpAny_execs_nil (hq h₃ tk₃ dx ⟨fun b o hb e => k₃ b o hb (k b o e), hx₃, Nat.le_of_lt (Nat.lt_of_lt_of_le z dn), dne, hn₃⟩)
theorem err_made (T : ErrC K mg cn C fI) {s : Shared} {v : Value} (X : K.In s.heap) (hlim : s.heap.NoLimit) (hroom : A.depth + 1 < recursionLimit)
    (hq : ∀ h' tk e d, Made s.heap h' e C d v → R (.ok (.ret (.ref e))) { s with heap := h', toks := tk }) :
    codeAny (model prog w) A (.call (.ref C) ⟨[v], []⟩) R s := by
  obtain ⟨nm, q, N, bs, bm, sn, sub, ab, col, dd, k0, k1, k2, k3, k5, hC, hbm⟩ := T.cls
  obtain ⟨hp, g, dr, tk, os⟩ := s
  have k : ∀ b o, hp.get? b = some o → ((hp.push (kdv_tup [v])).push (excO C hp.objs.size)).get? b = some o := fun b o e => Heap.get?_push_of_some _ (Heap.get?_push_of_some _ e)
  have hget : ((hp.push (kdv_tup [v])).push (excO C hp.objs.size)).get? (hp.objs.size + 1) = some (excO C hp.objs.size) := by heap_get
  refine call_own F.excBase_Exception (fun X => excTail_contains X bm hbm) (X _ _ hC) (looks_findIn X T.iC) (fun self => bind_fn X self T.tC) (one_size v) ?_
  refine err_init (s := ⟨(hp.push (kdv_tup [v])).push (excO C hp.objs.size), g, dr, tk, os⟩) T (X.keeps k) (hlim.keeps k) hget ?_ fun h' tk' dx ⟨k', hx, dn, dne, hns⟩ => ?_
  · show A.depth + 1 < recursionLimit
    exact hroom
  · have old : ∀ b o, hp.get? b = some o → h'.get? b = some o := fun b o e => k' b o (Nat.ne_of_lt (Nat.lt_succ_of_lt (Heap.lt_size e))) (k b o e)
    have z : hp.objs.size + 1 + 1 ≤ dx := by
      first
        | (simpa only [Heap.size_push] using dn)
        | exact dn
        | (have q := dn; rw [Heap.size_push, Heap.size_push] at q; exact q)
    exact ⟨rfl, hq h' tk' (hp.objs.size + 1) dx ⟨old, Nat.le_succ _, ⟨_, _, hx, rfl, rfl, rfl, rfl⟩, Nat.le_trans (Nat.le_trans (Nat.le_succ _) (Nat.le_succ _)) z, dne, hns⟩⟩
end
end Xb
namespace Xb
open PySem PySem.Spec PyProof.Rows L2
theorem relO_at {v : V} {v' : Value} (r : RelV v v') (f : Str) : RelO (List.lookup f [(("at" : Str), v)]) (if f = "at" then some v' else none) := by
  by_cases hw : f = "at"
  · subst hw
    rw [if_pos rfl]
    have q : List.lookup ("at" : Str) [(("at" : Str), v)] = some v := by simp [List.lookup]
    rw [q]
    exact r
  · rw [if_neg hw]
    have qw : (f == ("at" : Str)) = false := by simpa using hw
    have q2 : List.lookup f [(("at" : Str), v)] = none := by simp [List.lookup, qw]
    rw [q2]
    trivial
section
variable {X : Cx} {cn : Str} {C fI : Addr}
/-- cn(e) -/
def tMk (C : Addr) (ta : TA) : L2.St → Hp → XK → Prop := fun σ H Q => ta σ H fun vs H1 => ∃ v, vs = [v] ∧ ∀ d, H1 d = none → Q (.ref C) (some d) (upd H1 d (.xd [(("at" : Str), v)]))
theorem pmk_at {a : Expr} {ta : TA} {p pos : Pos} {k : Nat} (T : ErrC X.K X.mg cn C fI) (hr : Room k X.A) (ha : PA X [a] ta) (hg : Gl X cn) (hdb : (cn == ("__debug__" : Str)) = false := by decide)
    (he : starEach (a :: []) X.env = (false, eval a X.env) :: starEach [] X.env := by rfl) (hpl : (backTo pos (starEach [] X.env)).any (·.1) = false := by rfl) :
    PMk X (.Call (.Name cn p) [a] [] pos) (tMk C ta) := by
  intro pins s σ H Q I h
  refine wpAny_Call_Name_kw (ld_glob I hg T.gC ?_ hdb)
  refine PySem.W.callWith_K (h₀ := X.base) I.ok.mod.kin T.kC (thn (ha.run pos pins s σ H _ I h) fun us s1 hh => ?_) he hpl
  obtain ⟨vs, H1, I1, r1, v, ev, q1⟩ := hh
  subst ev
  refine ⟨I1.kIn, ?_⟩
  cases r1 with
  | cons rv rn =>
    rename_i v' us'
    cases rn
    show wpAny _ _ (call (.ref C) [v']) _ _ _
    have hlim := I1.nolimit
    obtain ⟨hp, g, dr, tk, os⟩ := s1
    refine wpAny_call (err_made T I1.kIn hlim (by have := hr.dp; omega) fun h' tk' e d M => ?_)
    show MkP X pins σ Q (.ref e) ⟨h', g, dr, tk', os⟩
    obtain ⟨oe, fv, hoe, hc, hd, hdat, h1⟩ := M.obj
    have hns := M.ns
    obtain ⟨G', g1, g2⟩ := restrict h' fun b => decide (b ≠ e)
    have gk : ∀ b, b ≠ e → G'.get? b = h'.get? b := fun b hb => g1 b (decide_eq_true hb)
    have ge : G'.get? e = none := g2 e (by simp)
    have old : ∀ b o, hp.get? b = some o → G'.get? b = some o := fun b o q => (gk b (Nat.ne_of_lt (Nat.lt_of_lt_of_le (Heap.lt_size q) M.new))).trans (M.keep b o q)
    have ob : ObjOk X.prog X.w (upd H1 d (.xd [(("at" : Str), v)])) G' d (.xd [(("at" : Str), v)]) :=
      ⟨_, hns.at (fun o q => (gk d M.dne).trans q), fun f => relO_at rv f⟩
    have J : Inv X pins σ (upd H1 d (.xd [(("at" : Str), v)])) ⟨G', g, dr, tk', os⟩ := I1.laid (t' := tk') old M.dbig ob
    refine ⟨e, oe, fv, ⟨G', g, dr, tk', os⟩, _, .ref C, some d, rfl, J, fun b o q => ?_, ge, hoe, ⟨hc, hd⟩, hdat, h1, ?_, rfl, I1.bare, raises_own T.exC T.tyC, q1 d (I1.hok.fresh M.dbig)⟩
    · by_cases hb : b = e
      · have q' : G'.get? b = some o := q
        rw [hb, ge] at q'; cases q'
      · exact (gk b hb).symm.trans q
    · rw [upd_ne (Ne.symm M.dne)]
      exact I1.hok.fresh M.new
/-- raise cn(e) -/
def tRaise (C : Addr) (W : WX) (ta : TA) : TS := fun _ σ H => tMk C ta σ H fun cls d H' => W cls d σ H'
theorem ps_raiseAt {a : Expr} {ta : TA} {W : WX} {p pos pos2 : Pos} {k : Nat} (hc : X.calm = true) (T : ErrC X.K X.mg cn C fI) (hr : Room k X.A) (tk : Takes X W) (ha : PA X [a] ta) (hg : Gl X cn) (hdb : (cn == ("__debug__" : Str)) = false := by decide)
    (he : starEach (a :: []) X.env = (false, eval a X.env) :: starEach [] X.env := by rfl) (hpl : (backTo pos (starEach [] X.env)).any (·.1) = false := by rfl) :
    PS X (.Raise (some (.Call (.Name cn p) [a] [] pos)) none pos2) (tRaise C W ta) := ps_raise hc tk (pmk_at T hr ha hg hdb he hpl)
theorem ErrC.xf (T : ErrC X.K X.mg cn C fI) : XfC X.K C := ⟨T.ga, T.gg, T.exC, T.hdC⟩
end
end Xb

/-! xs[::-1] of a tuple -/
namespace Rv
open PySem PySem.Spec PyProof.Rows L2 Hb Sq Ow
theorem places_rev (n : Nat) : Builtin.Slice.slicePlaces ((n : Int) - 1) (-1) (-1) = n := by
  unfold Builtin.Slice.slicePlaces
  rw [if_neg (by decide)]
  by_cases c : n = 0
  · subst c; decide
  · rw [if_pos (by omega)]
    have : ((n : Int) - 1 - -1 - 1) / - -1 + 1 = (n : Int) := by
      have : (- -1 : Int) = 1 := rfl
      rw [this, Int.ediv_one]; omega
    rw [this]; omega
theorem applied_rev {prog : Program} {w : World} {A : Around} {E : Value → Shared → Prop} {s : Shared} {sl : Addr} {vl vu vs : Value} {n : Nat} {Q : Int × Int × Nat → Shared → Prop}
    (hs : s.heap.IsSliceOf sl vl vu vs) (pl : IsPart vl none) (pu : IsPart vu none) (ps : IsPart vs (some (-1))) (h : Q ((n : Int) - 1, -1, n) s) : wpAny (model prog w) A (Builtin.Slice.sliceApplied (.ref sl) (pure (n : Int))) Q E s := by
  obtain ⟨os, hos, hcs, hds⟩ := id hs
  refine wpAny_bind (wpAny_bind (wpAny_field hos hds rfl (wpAny_bind (wpAny_field hos hds rfl (wpAny_bind (wpAny_field hos hds rfl (wpAny_pure (wpAny_bind (HT.slicePart_ ps ?_)))))))))
  show wpAny (model prog w) A (if ((-1 : Int) == 0) = true then _ else _) Q E s
  rw [if_neg (by decide)]
  refine wpAny_bind (HT.slicePart_ pl (wpAny_bind (HT.slicePart_ pu (wpAny_bind (wpAny_pure ?_)))))
  show wpAny (model prog w) A (pure ((n : Int) - 1, -1, Builtin.Slice.slicePlaces ((n : Int) - 1) (-1) (-1))) Q E s
  rw [places_rev]
  exact wpAny_pure h
theorem fm_map {α β : Type} (f : α → Option β) (g : α → β) : ∀ l : List α, (∀ k ∈ l, f k = some (g k)) → l.filterMap f = l.map g
  | [], _ => rfl
  | a :: l, h => by
    rw [List.filterMap_cons, h a List.mem_cons_self, List.map_cons, fm_map f g l fun k hk => h k (List.mem_cons_of_mem _ hk)]
theorem pick_rev (xs : Array Value) : (List.filterMap (fun k : Nat => xs[(((xs.size : Nat) : Int) - 1 + (k : Int) * -1).toNat]?) (List.range xs.size)).toArray = xs.toList.reverse.toArray := by
  congr 1
  apply List.ext_getElem?
  intro i
  have key : List.filterMap (fun k : Nat => xs[(((xs.size : Nat) : Int) - 1 + (k : Int) * -1).toNat]?) (List.range xs.size) = (List.range xs.size).map (fun k => xs.getD (xs.size - 1 - k) .none) := by
    refine fm_map _ _ _ fun k hk => ?_
    have hk := List.mem_range.mp hk
    have e : (((xs.size : Nat) : Int) - 1 + (k : Int) * -1).toNat = xs.size - 1 - k := by omega
    rw [e]
    have hlt : xs.size - 1 - k < xs.size := by omega
    rw [Array.getElem?_eq_getElem hlt]
    simp [Array.getD, hlt]
  rw [key, List.getElem?_map]
  by_cases hi : i < xs.size
  · rw [List.getElem?_range hi, List.getElem?_reverse (by rw [Array.length_toList]; exact hi)]
    have hlt : xs.size - 1 - i < xs.size := by omega
    rw [Array.length_toList, Array.getElem?_toList, Array.getElem?_eq_getElem hlt]
    simp [Array.getD, hlt]
  · rw [List.getElem?_eq_none (by rw [List.length_range]; omega), List.getElem?_eq_none (by rw [List.length_reverse, Array.length_toList]; omega)]
    rfl
theorem getItem_tuple_rev {prog : Program} {w : World} {A : Around} {E : Value → Shared → Prop} {s : Shared} {t sl : Addr} {items : Array Value} {vl vu vs : Value} {Q : Value → Shared → Prop}
    (ht : IsTup s.heap t items) (hs : s.heap.IsSliceOf sl vl vu vs) (pl : IsPart vl none) (pu : IsPart vu none) (ps : IsPart vs (some (-1)))
    (h : Q (.ref s.heap.objs.size) { s with heap := s.heap.push { cls := .type "tuple", data := .seq items.toList.reverse.toArray } }) (hsz : items.size ≤ sizeLine) :
    wpAny (model prog w) A (getItem (.ref t) (.ref sl)) Q E s := by
  obtain ⟨os, hos, hcs, hds⟩ := id hs
  have hTs : s.TypeIs (.ref sl) "slice" := ⟨os, hos, hcs⟩
  refine wpAny_holding (wpAny_bind (wpAny_sequenceKey ht.typeIs (by decide) (wpAny_bind (wpAny_callSpecial?_slot ht.typeIs PyProof.Rows.slot_tuple_getitem (wpAny_call_entry PyProof.Rows.slot_tuple_getitem ht.typeIs PyProof.Rows.entry_tuple_getitem ?_ (PyProof.Rows.args_tuple_getitem (.ref t) (.ref sl)))))))
  unfold Builtin.«tuple.__getitem__»
  rw [show slotArgs "__getitem__" 1 { pos := [Value.ref t, Value.ref sl] } = pure (Value.ref t, [Value.ref sl]) from rfl]
  refine wpAny_bind (wpAny_pure ?_)
  refine wpAny_bind (PyProof.Rows.tupleItemsOf_ ht (wpAny_bind (wpAny_typeOf hTs ?_)))
  rw [if_pos (by decide)]
  refine wpAny_bind (applied_rev hs pl pu ps ?_)
  show wpAny (model prog w) A.in1 (if (((items.size : Int) - 1 == 0 && (-1 : Int) == 1) && items.size == items.size) = true then _ else _) _ E s
  rw [if_neg (by simp)]
  show wpAny (model prog w) A.in1 (do let r ← Builtin.Tuple.tupleExact (List.filterMap (fun k : Nat => items[(((items.size : Nat) : Int) - 1 + (k : Int) * -1).toNat]?) (List.range items.size)).toArray; ret r) _ E s
  rw [pick_rev]
  refine wpAny_bind (wpAny_newObj_type (wpAny_pure ⟨.ref s.heap.objs.size, rfl, wpAny_pure h⟩) ?_)
  show items.toList.reverse.toArray.size ≤ sizeLine
  rw [List.size_toArray, List.length_reverse, Array.length_toList]
  exact hsz
def tRevT (K : PySem.W.Frag) (te : TE) : TE := fun σ H Q => te σ H fun x H1 => ∃ a xs, x = .ref a ∧ SqT K H1 a xs ∧ ∀ p, H1 p = none → Q (.ref p) (upd H1 p (.tup xs.reverse))
theorem pe_revT {X : Cx} {e st : Expr} {te ts : TE} {p3 pos : Pos} (K : PySem.W.Frag) (he : PE X e te) (hs : PE X st ts) (hN : ∀ σ H (Q : VK), Q (.int (-1)) H → ts σ H Q) (hK : X.K = K := by rfl) : PE X (.Subscript e (.Slice none none (some st) p3) pos) (tRevT K te) := by
  subst hK
  refine ⟨fun pins s σ H Q I h => Subscript_ (thn (he.run pins s σ H _ I h) fun v s1 ⟨x, H1, I1, r1, a, xs, ex, hx, q⟩ => ?_)⟩
  subst ex; cases r1
  refine wpAny_Slice (thn (po_none.run pins s1 σ H1 (fun o H2 => o = none ∧ H2 = H1) I1 ⟨rfl, rfl⟩) fun vl s2 ⟨l, H2, I2, pl, el, e2⟩ => ?_)
  subst el e2
  refine thn (po_none.run pins s2 σ H2 (fun o H3 => o = none ∧ H3 = H2) I2 ⟨rfl, rfl⟩) fun vu s3 ⟨u, H3, I3, pu, eu, e3⟩ => ?_
  subst eu e3
  refine thn ((po_some hs).run pins s3 σ H3 (fun o H4 => o = some (-1) ∧ H4 = H3) I3 (hN σ H3 _ ⟨-1, rfl, rfl, rfl⟩)) fun vs s4 ⟨o, H4, I4, ps, eo, e4⟩ => ?_
  subst eo e4
  have I5 : Inv X pins σ H4 { s4 with heap := s4.heap.push { cls := .type "slice", data := .fields #[vl, vu, vs] } } := I4.kept (t' := s4.toks) fun b ob q => Heap.get?_push_of_some _ q
  obtain ⟨its, r, ht, hz⟩ := I5.tuple hx
  have hlen := r.length
  show wpAny (model X.prog X.w) X.A (subscriptTail e (.Slice none none (some st) p3) (.ref a) (.ref s4.heap.objs.size)) (EP X pins σ Q) X.xe { s4 with heap := s4.heap.push { cls := .type "slice", data := .fields #[vl, vu, vs] } }
  refine tail_any (ops := [.ref a, .ref s4.heap.objs.size]) ht.typeIs (PyProof.Rows.slot_tuple_getitem.lookup) ?_ (by with_unfolding_all rfl)
  refine getItem_tuple_rev ht (Heap.IsSliceOf.new _ vl vu vs) pl pu ps ?_ (by rw [List.size_toArray]; omega)
  exact ⟨.ref _, _, I5.laid (t' := s4.toks) (o := .tup xs.reverse) (fun b ob q => Heap.get?_push_of_some _ q) (Nat.le_refl _) ⟨by rw [List.length_reverse]; exact hz, _, r.reverse, _, Heap.get?_push_size _ rfl, rfl, 0, rfl⟩, rfl, q _ (I5.hok.fresh (Nat.le_refl _))⟩
end Rv

/-! names and data that may be compared by == -/
namespace Da
open PySem PySem.Spec PyProof.Rows L2 Hb St Sq
def IsNm (x : Str) : Prop := 0 < x.length ∧ x.length ≤ 8 ∧ ∀ c ∈ x.cps.toList, 97 ≤ c ∧ c < 123
/-! ### names -/
theorem az_all : ((List.range 26).all fun k => Unicode.isAlpha (97 + k) && Unicode.isLower (97 + k) && !Unicode.isUpper (97 + k) && !Unicode.isTitle (97 + k)) = true := by decide +kernel
theorem az {c : Nat} (h : 97 ≤ c ∧ c < 123) : Unicode.isAlpha c = true ∧ Unicode.isLower c = true ∧ Unicode.isUpper c = false ∧ Unicode.isTitle c = false := by
  have q := List.all_eq_true.mp az_all (c - 97) (List.mem_range.mpr (by omega))
  rw [show 97 + (c - 97) = c by omega] at q
  simp only [Bool.and_eq_true, Bool.not_eq_true'] at q
  exact ⟨q.1.1.1, q.1.1.2, q.1.2, q.2⟩
theorem nm_all {x : Str} (h : IsNm x) {p : Nat → Bool} (k : ∀ c, 97 ≤ c ∧ c < 123 → p c = true) : x.cps.all p = true := by
  rw [Array.all_eq_true_iff_forall_mem]
  exact fun c hc => k c (h.2.2 c (Array.mem_toList_iff.mpr hc))
theorem nm_ascii {x : Str} (h : IsNm x) : Txt.isascii x = true := nm_all h fun c hc => by simp; omega
theorem nm_alpha {x : Str} (h : IsNm x) : Txt.isalpha x = true := by
  unfold Txt.isalpha
  rw [nm_all h fun c hc => (az hc).1, decide_eq_true h.1]; rfl
theorem nm_lower {x : Str} (h : IsNm x) : Txt.islower x = true := by
  unfold Txt.islower
  have h1 : x.cps.any Unicode.isLower = true := by
    rw [Array.any_eq_true]
    have hp : 0 < x.cps.size := h.1
    exact ⟨0, hp, (az (h.2.2 _ (by simp))).2.1⟩
  have h2 : (x.cps.any fun c => Unicode.isUpper c || Unicode.isTitle c) = false := by
    rw [Array.any_eq_false]
    intro i hi
    have := az (h.2.2 x.cps[i] (by simp))
    rw [this.2.2.1, this.2.2.2]; decide
  rw [h1, h2]; rfl
theorem eqv_int (a b : Int) : PyData.eqv (.int a) (.int b) = decide (a = b) := by
  show (a == b) = _
  by_cases h : a = b
  · subst h; simp
  · simp [h]
theorem eqv_str (a b : Str) : PyData.eqv (.str a) (.str b) = decide (a = b) := by
  show (a == b) = _
  by_cases h : a = b
  · subst h; simp
  · rw [decide_eq_false h]; exact beq_eq_false_iff_ne.mpr h
theorem eqvAll_map {α : Type} [DecidableEq α] {f : α → PyData} (h : ∀ a b, PyData.eqv (f a) (f b) = decide (a = b)) : ∀ xs ys : List α, PyData.eqvAll (xs.map f) (ys.map f) = decide (xs = ys)
  | [], [] => rfl
  | [], _ :: _ => rfl
  | _ :: _, [] => rfl
  | x :: xs, y :: ys => by
    show (PyData.eqv (f x) (f y) && PyData.eqvAll (xs.map f) (ys.map f)) = _
    rw [h, eqvAll_map h xs ys, ← Bool.decide_and]
    exact decide_eq_decide.mpr (by rw [List.cons.injEq])
/-- may be compared, no deeper than n -/
def Sh (n : Nat) (d : PyData) : Prop := PyData.canLay0 d = true ∧ PyData.depth d ≤ n
theorem sh_all {α : Type} {f : α → PyData} {n : Nat} : ∀ {l : List α}, (∀ a ∈ l, Sh n (f a)) → PyData.canLayAll0 (l.map f) = true ∧ PyData.depthAll (l.map f) ≤ n
  | [], _ => ⟨rfl, Nat.zero_le _⟩
  | a :: l, h => by
    obtain ⟨h1, h2⟩ := h a List.mem_cons_self
    obtain ⟨k1, k2⟩ := sh_all fun b hb => h b (List.mem_cons_of_mem a hb)
    refine ⟨?_, Nat.max_le.mpr ⟨h2, k2⟩⟩
    show (PyData.canLay0 (f a) && PyData.canLayAll0 (l.map f)) = true
    rw [h1, k1]; rfl
theorem sh_tup {α : Type} {f : α → PyData} {n : Nat} {l : List α} (h : ∀ a ∈ l, Sh n (f a)) : Sh (n + 1) (.tuple (l.map f)) := let ⟨a, b⟩ := sh_all h; ⟨a, Nat.succ_le_succ b⟩
theorem sh_lst {α : Type} {f : α → PyData} {n : Nat} {l : List α} (h : ∀ a ∈ l, Sh n (f a)) : Sh (n + 1) (.list (l.map f)) := let ⟨a, b⟩ := sh_all h; ⟨a, Nat.succ_le_succ b⟩
theorem Sh.ok {n : Nat} {d : PyData} (h : Sh n d) (hn : n ≤ 64) : SeqAt.shaped d = true := by
  unfold SeqAt.shaped
  rw [h.1, decide_eq_true (Nat.le_trans h.2 hn)]; rfl
theorem sh_int (n : Nat) (i : Int) : Sh n (.int i) := ⟨rfl, Nat.zero_le _⟩
theorem sh_str {n : Nat} {x : Str} (h : IsNm x) : Sh n (.str x) := ⟨nm_all h fun c hc => decide_eq_true (by omega), Nat.zero_le _⟩
section
variable {K : PySem.W.Frag} {H : Hp}
theorem dp_strs : ∀ xs : List Str, DpAll K H (xs.map V.str) (xs.map PyData.str)
  | [] => .nil
  | x :: xs => .cons (.str x) (dp_strs xs)
theorem dp_intl : ∀ xs : List Int, DpAll K H (xs.map V.int) (xs.map PyData.int)
  | [] => .nil
  | x :: xs => .cons (.int x) (dp_intl xs)
theorem dp_all {α : Type} {R : V → α → Prop} {f : α → PyData} (h : ∀ v a, R v a → Dp K H v (f a)) : ∀ {vs : List V} {ds : List α}, All2 R vs ds → DpAll K H vs (ds.map f)
  | _, _, .nil => .nil
  | _, _, .cons r t => .cons (h _ _ r) (dp_all h t)
end
end Da

/-! zip of two or three things, each a list or a tuple (true) -/
namespace Zn
open PySem PySem.Spec PyProof.Rows L2 Hb St Sq RZ Zp
def Bs (K : PySem.W.Frag) : Bool → Hp → Addr → List V → Prop
  | true => SqT K
  | false => SqL K
def Wi : Bool → Heap → Addr → Addr → Nat → Prop
  | true, h, it, a, i => h.IsTupleIter it a i
  | false, h, it, a, i => h.IsListIter it a i
def Wl : Bool → Heap → Addr → Array Value → Prop
  | true, h, a, us => h.IsTuple a us
  | false, h, a, us => h.IsList a us
def Wo (k : Bool) (a : Addr) : Obj := { cls := .type (match k with | true => "tuple_iterator" | false => "list_iterator"), data := .fields #[.ref a, .int 0 0] }
theorem Wi.over {k : Bool} {h h' : Heap} {it a : Addr} {i : Nat} (w : Wi k h it a i) (f : ∀ o, h.get? it = some o → h'.get? it = some o) : Wi k h' it a i := by
  cases k with
  | true => exact Heap.IsTupleIter.at w f
  | false => exact Heap.IsListIter.at w f
theorem Wi.obj {k : Bool} {h : Heap} {it a : Addr} {i : Nat} (w : Wi k h it a i) : ∃ o, h.get? it = some o ∧ ∀ v, o.data ≠ .cell v := by
  cases k with
  | true => obtain ⟨o, e, _, d⟩ := w; exact ⟨o, e, fun v z => by rw [d] at z; cases z⟩
  | false => obtain ⟨o, e, _, d⟩ := w; exact ⟨o, e, fun v z => by rw [d] at z; cases z⟩
theorem Wi.of {k : Bool} {h : Heap} {it a : Addr} (e : h.get? it = some (Wo k a)) : Wi k h it a 0 := by
  cases k with
  | true => exact ⟨_, e, rfl, rfl⟩
  | false => exact ⟨_, e, rfl, rfl⟩
theorem Wl.lt {k : Bool} {h : Heap} {a : Addr} {us : Array Value} (w : Wl k h a us) : a < h.objs.size := by
  cases k with
  | true => obtain ⟨o, e, _⟩ := w; exact Heap.lt_size e
  | false => obtain ⟨o, e, _⟩ := w; exact Heap.lt_size e
theorem draws {prog : Program} {w : World} {A : Around} (k : Bool) (hn : A.handled = none) (it a : Addr) (ne : a ≠ it) (us : Array Value) :
    Draws prog w A it [it, a] us.size (fun i v => us[i]? = some v) (fun i h => Wi k h it a i ∧ Wl k h a us) := by
  cases k with
  | true => exact Draws.tuple hn it a ne us
  | false => exact Draws.list hn it a ne us
theorem begins (k : Bool) (a : Addr) (us : Array Value) : Begins (.ref a) (Wo k a) fun h => Wl k h a us := by
  cases k with
  | true => exact begins_tuple a us
  | false => exact begins_list a us
section
variable {X : Cx} {pins : List (Addr × Obj)} {σ : L2.St} {H : Hp} {s : Shared} {k : Bool} {a : Addr} {xs ys : List V}
theorem bs_vals (I : Inv X pins σ H s) (h : Bs X.K k H a xs) : ∃ us : List Value, Vals xs us ∧ Wl k s.heap a us.toArray ∧ us.toArray.size = xs.length := by
  cases k with
  | true =>
    obtain ⟨us, r, p, _⟩ := I.tuple h
    exact ⟨us, r, p, by have := r.length; simpa using this.symm⟩
  | false =>
    obtain ⟨us, r, p, _⟩ := I.list h
    exact ⟨us, r, p.isList, by have := r.length; simpa using this.symm⟩
theorem bs_one (I : Inv X pins σ H s) (h : Bs X.K k H a xs) (h' : Bs X.K k H a ys) : xs = ys := by
  cases k with
  | true => exact I.tuple_inj h h'
  | false => exact I.list_inj h h'
theorem Bs.same {K : PySem.W.Frag} {H H' : Hp} (s : Same H H') (h : Bs K k H a xs) : Bs K k H' a xs := by
  cases k with
  | true => exact tupFix (Fix.of s) h
  | false => exact lstSame s h
theorem Bs.tup {K : PySem.W.Frag} {H : Hp} (h : SqT K H a xs) : Bs K true H a xs := h
theorem Bs.lst {K : PySem.W.Frag} {H : Hp} (h : SqL K H a xs) : Bs K false H a xs := h
end
/-! ### two -/
def Zj (K : PySem.W.Frag) (k m : Bool) (a b : Addr) : It :=
  ⟨fun i H => ∃ xs ys : List V, Bs K k H a xs ∧ Bs K m H b ys ∧ i < xs.length ∧ i < ys.length,
    fun i H v H' => ∃ T x y, v = .ref T ∧ H T = none ∧ H' = upd H T (.tup [x, y]) ∧ (∀ xs, Bs K k H a xs → xs[i]? = some x) ∧ ∀ ys, Bs K m H b ys → ys[i]? = some y,
    fun i H => ∃ xs ys : List V, Bs K k H a xs ∧ Bs K m H b ys ∧ i ≤ xs.length ∧ i ≤ ys.length ∧ (i = xs.length ∨ i = ys.length)⟩
theorem two_fp {c z TI TO i1 i2 : Addr} (h : c ∈ [z, TI, TO, i1, i2]) : c = z ∨ c = TI ∨ c = TO ∨ c = i1 ∨ c = i2 := by simpa using h
theorem turn_zj {P : Program} {w : World} {K : PySem.W.Frag} {elts : List Expr} {kk : Nat} {tpos : Pos} {k m : Bool} {a b z TI TO i1 i2 : Addr} (S : ZipSep2 z TI TO i1 i2 [i1, a] [i2, b]) (na : a ≠ i1) (nb : b ≠ i2) :
    Turn P w K (.Tuple elts kk tpos) (Zj K k m a b) [z, TI, TO, i1, i2] z (fun i h => IsZip h z TI TO .none ∧ IsTupOf2 h TI (.ref i1) (.ref i2) ∧ (∃ p q, IsTupOf2 h TO p q) ∧ Wi k h i1 a i ∧ Wi m h i2 b i) where
  mem := by simp
  obj := fun i h st c hc => by
    obtain ⟨gz, gT, ⟨p, q, gO⟩, w1, w2⟩ := st
    rcases two_fp hc with e | e | e | e | e
    · rw [e]; exact ⟨_, gz, fun v z => nomatch z⟩
    · rw [e]; exact ⟨_, gT, fun v z => nomatch z⟩
    · rw [e]; exact ⟨_, gO, fun v z => nomatch z⟩
    · rw [e]; exact w1.obj
    · rw [e]; exact w2.obj
  keep := fun i h h' st f => by
    obtain ⟨gz, gT, ⟨p, q, gO⟩, w1, w2⟩ := st
    exact ⟨f z (by simp) _ gz, f TI (by simp) _ gT, ⟨p, q, f TO (by simp) _ gO⟩, w1.over fun o e => f i1 (by simp) o e, w2.over fun o e => f i2 (by simp) o e⟩
  item := by
    intro X e1 e2 e3 cm i pins s σ H E I fr st gg
    subst e1 e2 e3
    obtain ⟨gz, gT, ⟨p, q, gO⟩, w1, w2⟩ := st
    obtain ⟨xs, ys, bx, bY, lx, ly⟩ := gg
    obtain ⟨us, rx, wx, nx⟩ := bs_vals I bx
    obtain ⟨ut, ry, wy, ny⟩ := bs_vals I bY
    obtain ⟨u, hu, ru⟩ := rx.get (List.getElem?_eq_getElem lx)
    obtain ⟨t, ht, rt⟩ := ry.get (List.getElem?_eq_getElem ly)
    have hn : X.A.in1.handled = none := I.ok.hd cm
    have lz : z < s.heap.objs.size := Heap.lt_size gz
    refine wpAny_pyNext_zipD2_item S (draws k hn i1 a na us.toArray) (draws m hn i2 b nb ut.toArray) gz gT gO ⟨w1, wx⟩ ⟨w2, wy⟩ (by rw [nx]; exact lx) (by rw [ny]; exact ly) fun y1 y2 h' tk p1 p2 gz' gO' v1 v2 gN _ kk => ?_
    have q1 : y1 = u := by have p1 : us.toArray[i]? = some y1 := p1; have hu : us[i]? = some u := hu; rw [List.getElem?_toArray, hu] at p1; exact (Option.some.inj p1).symm
    have q2 : y2 = t := by have p2 : ut.toArray[i]? = some y2 := p2; have ht : ut[i]? = some t := ht; rw [List.getElem?_toArray, ht] at p2; exact (Option.some.inj p2).symm
    subst q1 q2
    refine ⟨_, rfl, wpAny_letOwnedTupleGo_zip (s := { s with heap := h', toks := tk }) gz' fun h2 gz2 sb => ?_⟩
    have gN2 : h2.get? s.heap.objs.size = some { cls := .type "tuple", data := .seq #[y1, y2] } := (sb.2 _ (Nat.ne_of_gt lz)).trans gN
    have neu : ObjOk X.prog X.w (upd H s.heap.objs.size (.tup [xs[i], ys[i]])) h2 s.heap.objs.size (.tup [xs[i], ys[i]]) :=
      ⟨by show 2 ≤ sizeLine; decide, [y1, y2], .cons ru (.cons rt .nil), ⟨_, gN2, rfl, _, rfl⟩⟩
    have I1 : Inv X pins σ (upd H s.heap.objs.size (.tup [xs[i], ys[i]])) { s with heap := h2, toks := tk } :=
      I.turnedNew (ch := [z, TI, TO, i1, i2]) (fun c o nc e => by
        simp only [List.mem_cons, List.not_mem_nil, or_false, not_or] at nc
        obtain ⟨n1, _, n3, n4, n5⟩ := nc
        exact (sb.2 c n1).trans (kk c o n1 n3 n4 n5 e)) fr (Nat.le_refl _) neu
    refine ⟨.ref s.heap.objs.size, _, I1, rfl, ⟨_, _, _, rfl, I.hok.fresh (Nat.le_refl _), rfl, fun l hl => by rw [bs_one I hl bx]; exact List.getElem?_eq_getElem lx, fun l hl => by rw [bs_one I hl bY]; exact List.getElem?_eq_getElem ly⟩, ⟨gz2, (sb.2 _ S.TIz).trans (kk _ _ S.TIz S.TITO S.TIi1 S.TIi2 gT), ⟨y1, y2, (sb.2 _ S.TOz).trans gO'⟩, v1.1.over fun o e => (sb.2 _ (Ne.symm S.zi1)).trans e, v2.1.over fun o e => (sb.2 _ (Ne.symm S.zi2)).trans e⟩, fun c cm => ?_⟩
    have lc : c < s.heap.objs.size := by
      rcases two_fp cm with e | e | e | e | e
      · rw [e]; exact lz
      · rw [e]; exact Heap.lt_size gT
      · rw [e]; exact Heap.lt_size gO
      · rw [e]; obtain ⟨_, g, _⟩ := w1.obj; exact Heap.lt_size g
      · rw [e]; obtain ⟨_, g, _⟩ := w2.obj; exact Heap.lt_size g
    rw [upd_ne (Nat.ne_of_lt lc)]
    exact (fr c cm).1
  done := by
    intro X e1 e2 e3 cm i pins s σ H E I fr st gg
    subst e1 e2 e3
    obtain ⟨gz, gT, ⟨p, q, gO⟩, w1, w2⟩ := st
    obtain ⟨xs, ys, bx, bY, lx, ly, en⟩ := gg
    obtain ⟨us, rx, wx, nx⟩ := bs_vals I bx
    obtain ⟨ut, ry, wy, ny⟩ := bs_vals I bY
    have hn : X.A.in1.handled = none := I.ok.hd cm
    refine wpAny_pyNext_zipD2_end S (draws k hn i1 a na us.toArray) (draws m hn i2 b nb ut.toArray) gz gT gO ⟨w1, wx⟩ ⟨w2, wy⟩ (by rw [nx]; exact lx) (by rw [ny]; exact ly) (by rw [nx, ny]; exact en) fun h' tk kk => ⟨rfl, I.turnedL (ch := [z, TI, TO, i1, i2]) (fun c o nc e => ?_) fr⟩
    simp only [List.mem_cons, List.not_mem_nil, or_false, not_or] at nc
    exact kk c o nc.1 nc.2.2.1 nc.2.2.2.1 nc.2.2.2.2 e
  self := fun A i s Q E st h => wpAny_pyIter_zip st.1 h
theorem sep2 {n a b : Addr} (ha : a < n) (hb : b < n) : ZipSep2 (n + 4) (n + 2) (n + 3) n (n + 1) [n, a] [n + 1, b] := by
  have l (i : Nat) : a < n + i := Nat.lt_add_right i ha
  have r (i : Nat) : b < n + i := Nat.lt_add_right i hb
  have d {i j : Nat} (h : i ≠ j) : n + i ≠ n + j := fun e => h (Nat.add_left_cancel e)
  have d0 {i : Nat} (h : i ≠ 0) : n + i ≠ n := fun e => h (Nat.add_left_cancel (k := 0) e)
  refine ⟨d (by decide), d (by decide), d (by decide), d0 (by decide), by simp, ?_, ?_, d (by decide), by simp, ?_, ?_, ?_, ?_⟩
  all_goals simp only [List.mem_cons, List.not_mem_nil, or_false, not_or]
  · exact ⟨d0 (by decide), (Nat.ne_of_lt (l 4)).symm⟩
  · exact ⟨d0 (by decide), (Nat.ne_of_lt (l 3)).symm⟩
  · exact ⟨d (by decide), (Nat.ne_of_lt (r 4)).symm⟩
  · exact ⟨d (by decide), (Nat.ne_of_lt (r 3)).symm⟩
  · exact ⟨(d0 (i := 1) (by decide)).symm, (Nat.ne_of_lt hb).symm⟩
  · exact ⟨d0 (i := 1) (by decide), (Nat.ne_of_lt (l 1)).symm⟩
def iZj (K : PySem.W.Frag) (k m : Bool) (ta : TA) : TI := fun σ H R => ta σ H fun vs H1 => ∃ a b xs ys, vs = [.ref a, .ref b] ∧ Bs K k H1 a xs ∧ Bs K m H1 b ys ∧ R (Zj K k m a b) H1
theorem pi_zj {X : Cx} {e e2 : Expr} {ta : TA} {p pos tpos : Pos} {elts : List Expr} {kk : Nat} (k m : Bool) (gl : Gl X "zip") (nm : X.mg "zip" = none) (ha : PA X [e, e2] ta)
    (se : starEach [e, e2] X.env = (false, eval e X.env) :: starEach [e2] X.env := by rfl) (sp : (backTo pos (starEach [e2] X.env)).any (·.1) = false := by rfl) :
    PI X (.Tuple elts kk tpos) (.Call (.Name "zip" p) [e, e2] [] pos) (iZj X.K k m ta) := by
  refine ⟨fun pins s σ H R I h => ?_⟩
  refine Call_ (ld_blt I gl nm boot_zip (callWith_type1 (thn (ha.run pos pins s σ H _ I h) fun us s1 ⟨vs, H1, I1, r1, q1⟩ => ?_) se sp))
  obtain ⟨a, b, xs, ys, rfl, bx, bY, q⟩ := q1
  obtain ⟨u1, u2, rfl, r1, r2⟩ : ∃ u1 u2, us = [u1, u2] ∧ RelV (.ref a) u1 ∧ RelV (.ref b) u2 := by
    cases r1 with
    | cons r t =>
      cases t with
      | cons r' t =>
        cases t
        exact ⟨_, _, rfl, r, r'⟩
  cases r1
  cases r2
  obtain ⟨us, rx, wx, nx⟩ := bs_vals I1 bx
  obtain ⟨ut, ry, wy, ny⟩ := bs_vals I1 bY
  have la := wx.lt
  have lb := wy.lt
  refine zip_begins2 (begins k a us.toArray) (begins m b ut.toArray) wx wy fun h' gz gT gO g1 g2 _ kp => wpAny_pyIter_zip gz ?_
  refine ⟨s1.heap.objs.size + 4, [s1.heap.objs.size + 4, s1.heap.objs.size + 2, s1.heap.objs.size + 3, s1.heap.objs.size, s1.heap.objs.size + 1], _, _, H1, rfl, I1.kept (t' := s1.toks) kp, turn_zj (sep2 la lb) (Nat.ne_of_lt la) (Nat.ne_of_lt (Nat.lt_add_right 1 lb)), ⟨gz, gT, ⟨_, _, gO⟩, Wi.of g1, Wi.of g2⟩, fun c cm => ?_, q⟩
  have le : s1.heap.objs.size ≤ c := by
    rcases two_fp cm with e | e | e | e | e <;> rw [e] <;> first | exact Nat.le_add_right _ _ | exact Nat.le_refl _
  exact I1.fpOk le (I1.hok.fresh le)
theorem wp_zj {K : PySem.W.Frag} {k m : Bool} {a b : Addr} {xs ys : List V} : Wp (Zj K k m a b) (fun H => Bs K k H a xs ∧ Bs K m H b ys) (xs.zip ys) where
  go := fun i H hi s => by
    rw [List.length_zip] at hi
    exact ⟨xs, ys, s.1, s.2, by omega, by omega⟩
  stop := fun H s => ⟨xs, ys, s.1, s.2, by rw [List.length_zip]; omega, by rw [List.length_zip]; omega, by rw [List.length_zip]; omega⟩
  yld := fun i H v H' hi s ⟨T, x, y, e1, e2, e3, f, g⟩ => ⟨T, (x, y), e1, e2, e3, zip_at (f xs s.1) (g ys s.2)⟩
  keep := fun z s => ⟨s.1.same z, s.2.same z⟩
/-! ### three -/
def Zk (K : PySem.W.Frag) (k m n : Bool) (a b c : Addr) : It :=
  ⟨fun i H => ∃ xs ys zs : List V, Bs K k H a xs ∧ Bs K m H b ys ∧ Bs K n H c zs ∧ i < xs.length ∧ i < ys.length ∧ i < zs.length,
    fun i H v H' => ∃ T x y z, v = .ref T ∧ H T = none ∧ H' = upd H T (.tup [x, y, z]) ∧ (∀ xs, Bs K k H a xs → xs[i]? = some x) ∧ (∀ ys, Bs K m H b ys → ys[i]? = some y) ∧ ∀ zs, Bs K n H c zs → zs[i]? = some z,
    fun i H => ∃ xs ys zs : List V, Bs K k H a xs ∧ Bs K m H b ys ∧ Bs K n H c zs ∧ i ≤ xs.length ∧ i ≤ ys.length ∧ i ≤ zs.length ∧ (i = xs.length ∨ i = ys.length ∨ i = zs.length)⟩
theorem three_fp {c z TI TO i1 i2 i3 : Addr} (h : c ∈ [z, TI, TO, i1, i2, i3]) : c = z ∨ c = TI ∨ c = TO ∨ c = i1 ∨ c = i2 ∨ c = i3 := by simpa using h
theorem turn_zk {P : Program} {w : World} {K : PySem.W.Frag} {elts : List Expr} {kk : Nat} {tpos : Pos} {k m n : Bool} {a b d z TI TO i1 i2 i3 : Addr} (S : ZipSep3 z TI TO i1 i2 i3 [i1, a] [i2, b] [i3, d]) (na : a ≠ i1) (nb : b ≠ i2) (nd : d ≠ i3) :
    Turn P w K (.Tuple elts kk tpos) (Zk K k m n a b d) [z, TI, TO, i1, i2, i3] z (fun i h => IsZip h z TI TO .none ∧ IsTupOf3 h TI (.ref i1) (.ref i2) (.ref i3) ∧ (∃ p q r, IsTupOf3 h TO p q r) ∧ Wi k h i1 a i ∧ Wi m h i2 b i ∧ Wi n h i3 d i) where
  mem := by simp
  obj := fun i h st c hc => by
    obtain ⟨gz, gT, ⟨p, q, r, gO⟩, w1, w2, w3⟩ := st
    rcases three_fp hc with e | e | e | e | e | e
    · rw [e]; exact ⟨_, gz, fun v z => nomatch z⟩
    · rw [e]; exact ⟨_, gT, fun v z => nomatch z⟩
    · rw [e]; exact ⟨_, gO, fun v z => nomatch z⟩
    · rw [e]; exact w1.obj
    · rw [e]; exact w2.obj
    · rw [e]; exact w3.obj
  keep := fun i h h' st f => by
    obtain ⟨gz, gT, ⟨p, q, r, gO⟩, w1, w2, w3⟩ := st
    exact ⟨f z (by simp) _ gz, f TI (by simp) _ gT, ⟨p, q, r, f TO (by simp) _ gO⟩, w1.over fun o e => f i1 (by simp) o e, w2.over fun o e => f i2 (by simp) o e, w3.over fun o e => f i3 (by simp) o e⟩
  item := by
    intro X e1 e2 e3 cm i pins s σ H E I fr st gg
    subst e1 e2 e3
    obtain ⟨gz, gT, ⟨p, q, r, gO⟩, w1, w2, w3⟩ := st
    obtain ⟨xs, ys, zs, bx, bY, bz, lx, ly, lzs⟩ := gg
    obtain ⟨us, rx, wx, nx⟩ := bs_vals I bx
    obtain ⟨ut, ry, wy, ny⟩ := bs_vals I bY
    obtain ⟨uv, rz, wz, nz⟩ := bs_vals I bz
    obtain ⟨u, hu, ru⟩ := rx.get (List.getElem?_eq_getElem lx)
    obtain ⟨t, ht, rt⟩ := ry.get (List.getElem?_eq_getElem ly)
    obtain ⟨v, hv, rv⟩ := rz.get (List.getElem?_eq_getElem lzs)
    have hn : X.A.in1.handled = none := I.ok.hd cm
    have lz : z < s.heap.objs.size := Heap.lt_size gz
    refine wpAny_pyNext_zipD3_item S (draws k hn i1 a na us.toArray) (draws m hn i2 b nb ut.toArray) (draws n hn i3 d nd uv.toArray) gz gT gO ⟨w1, wx⟩ ⟨w2, wy⟩ ⟨w3, wz⟩ (by rw [nx]; exact lx) (by rw [ny]; exact ly) (by rw [nz]; exact lzs) fun y1 y2 y3 h' tk p1 p2 p3 gz' gO' v1 v2 v3 gN _ kk => ?_
    have q1 : y1 = u := by have p1 : us.toArray[i]? = some y1 := p1; have hu : us[i]? = some u := hu; rw [List.getElem?_toArray, hu] at p1; exact (Option.some.inj p1).symm
    have q2 : y2 = t := by have p2 : ut.toArray[i]? = some y2 := p2; have ht : ut[i]? = some t := ht; rw [List.getElem?_toArray, ht] at p2; exact (Option.some.inj p2).symm
    have q3 : y3 = v := by have p3 : uv.toArray[i]? = some y3 := p3; have hv : uv[i]? = some v := hv; rw [List.getElem?_toArray, hv] at p3; exact (Option.some.inj p3).symm
    subst q1 q2 q3
    refine ⟨_, rfl, wpAny_letOwnedTupleGo_zip (s := { s with heap := h', toks := tk }) gz' fun h2 gz2 sb => ?_⟩
    have gN2 : h2.get? s.heap.objs.size = some { cls := .type "tuple", data := .seq #[y1, y2, y3] } := (sb.2 _ (Nat.ne_of_gt lz)).trans gN
    have neu : ObjOk X.prog X.w (upd H s.heap.objs.size (.tup [xs[i], ys[i], zs[i]])) h2 s.heap.objs.size (.tup [xs[i], ys[i], zs[i]]) :=
      ⟨by show 3 ≤ sizeLine; decide, [y1, y2, y3], .cons ru (.cons rt (.cons rv .nil)), ⟨_, gN2, rfl, _, rfl⟩⟩
    have I1 : Inv X pins σ (upd H s.heap.objs.size (.tup [xs[i], ys[i], zs[i]])) { s with heap := h2, toks := tk } :=
      I.turnedNew (ch := [z, TI, TO, i1, i2, i3]) (fun c o nc e => by
        simp only [List.mem_cons, List.not_mem_nil, or_false, not_or] at nc
        obtain ⟨n1, _, n3, n4, n5, n6⟩ := nc
        exact (sb.2 c n1).trans (kk c o n1 n3 n4 n5 n6 e)) fr (Nat.le_refl _) neu
    refine ⟨.ref s.heap.objs.size, _, I1, rfl, ⟨_, _, _, _, rfl, I.hok.fresh (Nat.le_refl _), rfl, fun l hl => by rw [bs_one I hl bx]; exact List.getElem?_eq_getElem lx, fun l hl => by rw [bs_one I hl bY]; exact List.getElem?_eq_getElem ly, fun l hl => by rw [bs_one I hl bz]; exact List.getElem?_eq_getElem lzs⟩,
      ⟨gz2, (sb.2 _ S.TIz).trans (kk _ _ S.TIz S.TITO S.TIi1 S.TIi2 S.TIi3 gT), ⟨y1, y2, y3, (sb.2 _ S.TOz).trans gO'⟩, v1.1.over fun o e => (sb.2 _ (Ne.symm S.zi1)).trans e, v2.1.over fun o e => (sb.2 _ (Ne.symm S.zi2)).trans e, v3.1.over fun o e => (sb.2 _ (Ne.symm S.zi3)).trans e⟩, fun c cm => ?_⟩
    have lc : c < s.heap.objs.size := by
      rcases three_fp cm with e | e | e | e | e | e
      · rw [e]; exact lz
      · rw [e]; exact Heap.lt_size gT
      · rw [e]; exact Heap.lt_size gO
      · rw [e]; obtain ⟨_, g, _⟩ := w1.obj; exact Heap.lt_size g
      · rw [e]; obtain ⟨_, g, _⟩ := w2.obj; exact Heap.lt_size g
      · rw [e]; obtain ⟨_, g, _⟩ := w3.obj; exact Heap.lt_size g
    rw [upd_ne (Nat.ne_of_lt lc)]
    exact (fr c cm).1
  done := by
    intro X e1 e2 e3 cm i pins s σ H E I fr st gg
    subst e1 e2 e3
    obtain ⟨gz, gT, ⟨p, q, r, gO⟩, w1, w2, w3⟩ := st
    obtain ⟨xs, ys, zs, bx, bY, bz, lx, ly, lzs, en⟩ := gg
    obtain ⟨us, rx, wx, nx⟩ := bs_vals I bx
    obtain ⟨ut, ry, wy, ny⟩ := bs_vals I bY
    obtain ⟨uv, rz, wz, nz⟩ := bs_vals I bz
    have hn : X.A.in1.handled = none := I.ok.hd cm
    refine wpAny_pyNext_zipD3_end S (draws k hn i1 a na us.toArray) (draws m hn i2 b nb ut.toArray) (draws n hn i3 d nd uv.toArray) gz gT gO ⟨w1, wx⟩ ⟨w2, wy⟩ ⟨w3, wz⟩ (by rw [nx]; exact lx) (by rw [ny]; exact ly) (by rw [nz]; exact lzs) (by rw [nx, ny, nz]; exact en) fun h' tk kk => ⟨rfl, I.turnedL (ch := [z, TI, TO, i1, i2, i3]) (fun c o nc e => ?_) fr⟩
    simp only [List.mem_cons, List.not_mem_nil, or_false, not_or] at nc
    exact kk c o nc.1 nc.2.2.1 nc.2.2.2.1 nc.2.2.2.2.1 nc.2.2.2.2.2 e
  self := fun A i s Q E st h => wpAny_pyIter_zip st.1 h
theorem sep3 {n a b c : Addr} (ha : a < n) (hb : b < n) (hc : c < n) : ZipSep3 (n + 5) (n + 3) (n + 4) n (n + 1) (n + 2) [n, a] [n + 1, b] [n + 2, c] := by
  have l (i : Nat) : n + i ≠ a := (Nat.ne_of_lt (Nat.lt_add_right i ha)).symm
  have r (i : Nat) : n + i ≠ b := (Nat.ne_of_lt (Nat.lt_add_right i hb)).symm
  have t (i : Nat) : n + i ≠ c := (Nat.ne_of_lt (Nat.lt_add_right i hc)).symm
  have d {i j : Nat} (h : i ≠ j) : n + i ≠ n + j := fun e => h (Nat.add_left_cancel e)
  have d0 {i : Nat} (h : i ≠ 0) : n + i ≠ n := fun e => h (Nat.add_left_cancel (k := 0) e)
  refine ⟨d (by decide), d (by decide), d (by decide), d0 (by decide), by simp, ?_, ?_, d (by decide), by simp, ?_, ?_, d (by decide), by simp, ?_, ?_, ?_, ?_, ?_, ?_, ?_, ?_⟩
  all_goals simp only [List.mem_cons, List.not_mem_nil, or_false, not_or]
  · exact ⟨d0 (by decide), l 5⟩
  · exact ⟨d0 (by decide), l 4⟩
  · exact ⟨d (by decide), r 5⟩
  · exact ⟨d (by decide), r 4⟩
  · exact ⟨d (by decide), t 5⟩
  · exact ⟨d (by decide), t 4⟩
  · exact ⟨(d0 (i := 1) (by decide)).symm, r 0⟩
  · exact ⟨(d0 (i := 2) (by decide)).symm, t 0⟩
  · exact ⟨d0 (i := 1) (by decide), l 1⟩
  · exact ⟨d (by decide), t 1⟩
  · exact ⟨d0 (i := 2) (by decide), l 2⟩
  · exact ⟨d (by decide), r 2⟩
def iZk (K : PySem.W.Frag) (k m n : Bool) (ta : TA) : TI := fun σ H R => ta σ H fun vs H1 => ∃ a b c xs ys zs, vs = [.ref a, .ref b, .ref c] ∧ Bs K k H1 a xs ∧ Bs K m H1 b ys ∧ Bs K n H1 c zs ∧ R (Zk K k m n a b c) H1
theorem pi_zk {X : Cx} {e e2 e3 : Expr} {ta : TA} {p pos tpos : Pos} {elts : List Expr} {kk : Nat} (k m n : Bool) (gl : Gl X "zip") (nm : X.mg "zip" = none) (ha : PA X [e, e2, e3] ta)
    (se : starEach [e, e2, e3] X.env = (false, eval e X.env) :: starEach [e2, e3] X.env := by rfl) (sp : (backTo pos (starEach [e2, e3] X.env)).any (·.1) = false := by rfl) :
    PI X (.Tuple elts kk tpos) (.Call (.Name "zip" p) [e, e2, e3] [] pos) (iZk X.K k m n ta) := by
  refine ⟨fun pins s σ H R I h => ?_⟩
  refine Call_ (ld_blt I gl nm boot_zip (callWith_type1 (thn (ha.run pos pins s σ H _ I h) fun us s1 ⟨vs, H1, I1, r1, q1⟩ => ?_) se sp))
  obtain ⟨a, b, c, xs, ys, zs, rfl, bx, bY, bz, q⟩ := q1
  obtain ⟨u1, u2, u3, rfl, r1, r2, r3⟩ : ∃ u1 u2 u3, us = [u1, u2, u3] ∧ RelV (.ref a) u1 ∧ RelV (.ref b) u2 ∧ RelV (.ref c) u3 := by
    cases r1 with
    | cons r t =>
      cases t with
      | cons r' t =>
        cases t with
        | cons r'' t =>
          cases t
          exact ⟨_, _, _, rfl, r, r', r''⟩
  cases r1
  cases r2
  cases r3
  obtain ⟨us, rx, wx, nx⟩ := bs_vals I1 bx
  obtain ⟨ut, ry, wy, ny⟩ := bs_vals I1 bY
  obtain ⟨uv, rz, wz, nz⟩ := bs_vals I1 bz
  have la := wx.lt
  have lb := wy.lt
  have lc := wz.lt
  refine zip_begins3 (begins k a us.toArray) (begins m b ut.toArray) (begins n c uv.toArray) wx wy wz fun h' gz gT gO g1 g2 g3 _ kp => wpAny_pyIter_zip gz ?_
  refine ⟨s1.heap.objs.size + 5, [s1.heap.objs.size + 5, s1.heap.objs.size + 3, s1.heap.objs.size + 4, s1.heap.objs.size, s1.heap.objs.size + 1, s1.heap.objs.size + 2], _, _, H1, rfl, I1.kept (t' := s1.toks) kp, turn_zk (sep3 la lb lc) (Nat.ne_of_lt la) (Nat.ne_of_lt (Nat.lt_add_right 1 lb)) (Nat.ne_of_lt (Nat.lt_add_right 2 lc)), ⟨gz, gT, ⟨_, _, _, gO⟩, Wi.of g1, Wi.of g2, Wi.of g3⟩, fun c cm => ?_, q⟩
  have le : s1.heap.objs.size ≤ c := by
    rcases three_fp cm with e | e | e | e | e | e <;> rw [e] <;> first | exact Nat.le_add_right _ _ | exact Nat.le_refl _
  exact I1.fpOk le (I1.hok.fresh le)
/-- a loop over zip of three things of one length -/
theorem for_zk {K : PySem.W.Frag} {k m n : Bool} {a b c : Addr} {xs ys zs : List V} {g : TG} {tb : TS} {D : Ends} {σ : L2.St} {H : Hp} (l2 : xs.length = ys.length) (l3 : xs.length = zs.length) (Pv : Nat → L2.St → Hp → Prop) (h0 : Pv 0 σ H) (hq : ∀ i σ H, Pv i σ H → Bs K k H a xs ∧ Bs K m H b ys ∧ Bs K n H c zs)
    (hs : ∀ (i : Nat) (x y z : V) (T : Addr) (σ : L2.St) (H : Hp), xs[i]? = some x → ys[i]? = some y → zs[i]? = some z → Pv i σ H → H T = none → g (.ref T) σ (upd H T (.tup [x, y, z])) fun σ2 H2 => tb { D with nx := Pv (i + 1), ct := Pv (i + 1), bk := D.nx } σ2 H2) (hd : ∀ σ H, Pv xs.length σ H → D.nx σ H) :
    ∃ W : Nat → Nat → L2.St → Hp → Prop, (∃ r, W 0 r σ H) ∧ ∀ i r σ H, W i r σ H →
      ((Zk K k m n a b c).stop i H ∧ D.nx σ H) ∨ ((Zk K k m n a b c).go i H ∧ ∃ N : L2.St → Hp → Prop, (∀ σ' H', N σ' H' → ∃ r', r' < r ∧ W (i + 1) r' σ' H') ∧ ∀ v H', (Zk K k m n a b c).yld i H v H' → g v σ H' fun σ2 H2 => tb { D with nx := N, ct := N, bk := D.nx } σ2 H2) := by
  refine ⟨fun i r σ H => r + i = xs.length ∧ Pv i σ H, ⟨xs.length, rfl, h0⟩, ?_⟩
  rintro i r σ H ⟨e, pv⟩
  obtain ⟨q1, q2, q3⟩ := hq i σ H pv
  cases r with
  | zero =>
    obtain rfl : i = xs.length := by omega
    exact .inl ⟨⟨xs, ys, zs, q1, q2, q3, by omega, by omega, by omega, .inl rfl⟩, hd σ H pv⟩
  | succ r =>
    refine .inr ⟨⟨xs, ys, zs, q1, q2, q3, by omega, by omega, by omega⟩, Pv (i + 1), fun σ' H' p' => ⟨r, Nat.lt_succ_self r, by omega, p'⟩, fun v H' y => ?_⟩
    obtain ⟨T, x, y, z, rfl, hT, rfl, f1, f2, f3⟩ := y
    exact hs i x y z T σ H (f1 xs q1) (f2 ys q2) (f3 zs q3) pv hT
end Zn

/-! comprehensions whose items draw from a box; texts without doubles -/
namespace Lg
open PySem PySem.Spec PyProof.Rows L2 Hb St Sq
/-- a comprehension: M stands ahead of the i-th item -/
theorem lc_go {J : It} {a : Addr} {S : Hp → Prop} {xs : List V} (W : Wk J a S xs) {g : TG} {tt : TT} {te : TE} {vs : List Nat} {σ : L2.St} {H1 : Hp} {D : Addr} {Qd : Hp → Prop} (M : Nat → Hp → Prop)
    (h0 : M 0 (upd H1 D (.lst []))) (stand : ∀ i H, M i H → S H)
    (hs : ∀ i x H, xs[i]? = some x → M i H → g x (wipe σ vs) H fun σ2 H2 => wipe σ2 vs = wipe σ vs ∧ tt σ2 H2 fun b H3 =>
      if b = true then te σ2 H3 fun y H4 => ∃ acc, H4 D = some (.lst acc) ∧ acc.length < sizeLine ∧ M (i + 1) (upd H4 D (.lst (acc ++ [y]))) else M (i + 1) H3)
    (hd : ∀ H, M xs.length H → Qd H) :
    ∃ W : Nat → Nat → Hp → Prop, (∃ m, W 0 m (upd H1 D (.lst []))) ∧ ∀ i m H, W i m H →
      (J.stop i H ∧ Qd H) ∨ (J.go i H ∧ ∃ Nx : Hp → Prop, (∀ H', Nx H' → ∃ m', m' < m ∧ W (i + 1) m' H') ∧ ∀ v H', J.yld i H v H' → g v (wipe σ vs) H' fun σ2 H2 => wipe σ2 vs = wipe σ vs ∧ tt σ2 H2 fun b H3 =>
        if b = true then te σ2 H3 fun y H4 => ∃ acc, H4 D = some (.lst acc) ∧ acc.length < sizeLine ∧ Nx (upd H4 D (.lst (acc ++ [y]))) else Nx H3) := by
  refine ⟨fun i m H => m + i = xs.length ∧ M i H, ⟨xs.length, rfl, h0⟩, fun i m H ⟨e, p⟩ => ?_⟩
  cases m with
  | zero =>
    obtain rfl : i = xs.length := by omega
    exact .inl ⟨W.stop H (stand _ _ p), hd H p⟩
  | succ m =>
    have hi : i < xs.length := by omega
    refine .inr ⟨W.go i H hi (stand _ _ p), M (i + 1), fun H' p' => ⟨m, Nat.lt_succ_self m, by omega, p'⟩, fun v H' y => ?_⟩
    obtain ⟨rfl, ev⟩ := W.yld i H v H' hi (stand _ _ p) y
    exact hs i v H' ev p
theorem sub_yes {α : Type} {xs ns : List α} {i : Nat} {x : α} (s : xs.Sublist (ns.take i)) (e : ns[i]? = some x) : (xs ++ [x]).Sublist (ns.take (i + 1)) := by
  rw [List.take_add_one, e]
  exact s.append (List.Sublist.refl _)
theorem sub_no {α : Type} {xs ns : List α} {i : Nat} (s : xs.Sublist (ns.take i)) : xs.Sublist (ns.take (i + 1)) := by
  rw [List.take_add_one]
  exact s.trans (List.sublist_append_left _ _)
end Lg

/-! several clauses "except x as n", all with one name; repr of ints and None -/
namespace Ty
open PySem PySem.Spec PyProof.Rows L2
abbrev Cls := Addr → Value → Option Addr → TS
def offEnds (D : Ends) (i : Nat) : Ends := { nx := fun τ G => D.nx (τ.set i none) G, rt := D.rt, bk := fun τ G => D.bk (τ.set i none) G, ct := fun τ G => D.ct (τ.set i none) G }
/-- what the clauses wish, one behind the other -/
def wAsM (K : PySem.W.Frag) (Wout : WX) (D : Ends) (i m : Nat) : List (Value × Cls) → WX
  | [] => Wout
  | (c, ts) :: r => fun cls d τ G => ∃ b, PySem.W.exmOne K cls c = some b ∧ (b = true → ∀ z, G z = none → τ.length = m → ts z cls d (offEnds D i) (τ.set i (some (.ref z))) G) ∧ (b = false → wAsM K Wout D i m r cls d τ G)
inductive CsOk (X : Cx) (n : Str) : List ExceptHandler → List (Value × Cls) → Prop
  | nil : CsOk X n [] []
  | cons {x : Str} {c : Value} {ts : Cls} {b₁ : Stmt} {rest : List Stmt} {np pp : Pos} {hds : List ExceptHandler} {l : List (Value × Cls)} (nm : Names X x c)
      (su : ∀ (z : Addr) (oz : Obj) (cls : Value) (d : Option Addr) (pn : List (Addr × Obj)), Zc cls d oz → (∃ vs, oz.data = .fields vs) → PSs (X.suite z ((z, oz) :: pn)) (b₁ :: rest) (ts z cls d)) (r : CsOk X n hds l) :
      CsOk X n (.ExceptHandler (some (.Name x np)) (some n) (b₁ :: rest) pp :: hds) ((c, ts) :: l)
section
variable {X : Cx} {n : Str} {i : Nat} {body : List Stmt} {hd₀ : ExceptHandler} {hds : List ExceptHandler} {l : List (Value × Cls)} {pos : Pos} {tb : WX → TS} {Wout : WX}
theorem ps_try_asM (stk : X.stack = X.env :: X.outer) (frm : X.env.frame = some X.env.locals) (nd : X.N.Nodup) (at_i : X.N[i]? = some n) (lcl : X.env.kindOf n = some .local) (tk : Takes X Wout)
    (bd : ∀ (W : WX) (pn : List (Addr × Obj)) (xe : Value → Shared → Prop), Takes (X.tr pn xe) W → PassesOwn (model X.prog X.w) X.A X.env xe → PSs (X.tr pn xe) body (tb W))
    (cl : CsOk X n (hd₀ :: hds) l) : PS X (.Try body (hd₀ :: hds) [] [] pos) (fun D τ G => tb (wAsM X.K Wout D i X.N.length l) D τ G) := by
  refine ⟨fun pin s τ G D I hw => ?_⟩
  have okX := I.ok
  have frs_ : X.A.frames = some (X.env :: X.outer) := by rw [okX.frames, stk]
  have nloc : Loc X.env.scope n := .inl lcl
  refine wpAny_Try_except ?_
  refine wpAny_mono ((bd (wAsM X.K Wout D i X.N.length l) (X.pn ++ pin) (fun e u₁ => wpAny (model X.prog X.w) X.A (noteFrame e X.env) (fun _ u₂ => wpAny (model X.prog X.w) X.A (setFlight e none) (fun _ u₃ =>
    wpAny (model X.prog X.w) X.A (handleBy e X.env (hd₀ :: hds)) (SP X pin D) X.xe u₃) X.xe u₂) X.xe u₁) (fun u v xx => ?_) PassesOwn.looking).run [] s τ G D (I.toTry _) hw) (fun f s1 out => ?_) (fun _ _ z => z)
  · obtain ⟨z, B, sI, pin', τ', G', cls, d, rfl, J', nb, up, sky, na, os, ag, w⟩ := xx
    have J : Inv X pin τ' G' sI := J'.ofTry okX
    have sky2 : Sky B (X.env :: X.outer) z (Zc cls d) X.env.locals v.heap := by rw [← stk]; exact sky
    show wpAny (model X.prog X.w) X.A (noteFrame (.ref z) X.env) _ _ _
    refine Sky.land Zc.steady frs_ frm sky2 fun g3 fl3 up3 => ?_
    have J3 : Inv X pin τ' G' { v with heap := g3 } := J.landed nb fl3.1 (up.trans up3) os ag
    obtain ⟨oz3, _, ez3, hz3, dz3⟩ := fl3.there
    have away : z ∉ frs (X.env :: X.outer) := fun hm => by
      obtain ⟨_, o', e', nf⟩ := fl3.2.2.1.mem hm
      rw [ez3] at e'; cases e'
      exact nf _ dz3
    have nL : z ≠ X.env.locals := fun q => away (List.mem_filterMap.mpr ⟨X.env, List.mem_cons_self, by rw [frm, q]⟩)
    have nF : z ∉ X.fs := fun hm => by
      obtain ⟨e, he, q⟩ := List.mem_filterMap.mp hm
      exact away (List.mem_filterMap.mpr ⟨e, List.mem_cons_of_mem _ he, q⟩)
    have S3 := J3.suite ez3 dz3 na nL nF
    have walk : ∀ {hs' : List ExceptHandler} {l' : List (Value × Cls)}, CsOk X n hs' l' → wAsM X.K Wout D i X.N.length l' cls d τ' G' →
        wpAny (model X.prog X.w) X.A (handleBy (.ref z) X.env hs') (SP X pin D) X.xe { v with heap := g3 } := by
      intro hs' l' hk
      induction hk with
      | nil =>
        intro w
        refine wpAny_handleBy_nil ?_
        obtain ⟨_, _, _, oe, vs, T, oT, t2, he, hz, hd, h1, hr⟩ := id fl3
        unfold PySem.passOn
        refine wpAny_bind (wpAny_field he hd h1 ?_)
        rw [if_neg (show ¬ ((Value.ref T == Value.none) = true) from by simp)]
        have fin : wpAny (model X.prog X.w) X.A (setFlight (.ref z) X.env.frame) (fun _ u4 => wpAny (model X.prog X.w) X.A (throw (.ref z) : Sem Flow) (SP X pin D) X.xe u4) X.xe { v with heap := g3 } := by
          rw [frm]
          refine HandSPX.setFlight_upZ fl3 fun g4 hh4 up4 => wpAny_throw (tk _ _ ?_)
          exact ⟨z, B, sI, pin, τ', G', cls, d, rfl, J, nb, (up.trans up3).trans up4, .inr (.inr (by rw [stk]; exact hh4)), na, os, ag, w⟩
        first
          | exact wpAny_bind (wpAny_pure (wpAny_bind fin))
          | exact wpAny_bind fin
      | @cons x c ts b₁ rest np pp hds2 l2 nm su r ih =>
        intro w
        obtain ⟨b, is, yes, no⟩ := w
        refine wpAny_handleBy_cons (codeAny_handlers_test ?_) (by intro q; cases q)
        have LT : PySem.W.Looks (model X.prog X.w) g3 (typeOf (.ref z)) cls := fun A Q E u k q => wpAny_typeOf_ref (k _ _ ez3) (by rw [hz3.1]; exact q)
        have LM := PySem.W.exm_one (M := model X.prog X.w) (J3.kIn) LT is
        have look : ∀ {Q : Value → Shared → Prop} {E : Value → Shared → Prop}, Q c { v with heap := g3 } → wpAny (model X.prog X.w) (X.A.mark (some (.ref z))) (eval (.Name x np) X.env) Q E { v with heap := g3 } := fun {Q E} q => by
          obtain ⟨gl, db, h1 | ⟨h1, h2, h3⟩⟩ := nm
          · exact ld_glob (X := X.suite z ((z, oz3) :: (X.pn ++ pin))) S3 gl h1 q db
          · exact ld_blt (X := X.suite z ((z, oz3) :: (X.pn ++ pin))) S3 gl h1 h2 q h3 db
        refine look (LM.here ?_)
        cases b with
        | true =>
          refine codeAny_handlers_suite_as ?_
          refine HandSPX.lands_againZ fl3 fun g4 fl4 up4 => ?_
          have J4 : Inv X pin τ' G' { v with heap := g4 } := J.landed nb fl4.1 ((up.trans up3).trans up4) os ag
          obtain ⟨oz4, _, ez4, hz4, dz4⟩ := fl4.there
          have S4 := J4.suite ez4 dz4 na nL nF
          refine store_ok (X := X.suite z ((z, oz4) :: (X.pn ++ pin))) (v := .ref z) S4 nd at_i nloc rfl (fun s5 S5 => ?_) (.inr lcl)
          refine wpAny_mono ((su z oz4 cls d (X.pn ++ pin) hz4 ⟨_, dz4⟩).run [] s5 _ G' _ S5 (yes rfl z na J.len)) (fun f s6 q6 => ?_) (fun _ _ y => False.elim y)
          have gone : ∀ {τ6 : L2.St} {G6 : Hp} {Q : Shared → Prop}, Inv (X.suite z ((z, oz4) :: (X.pn ++ pin))) [] τ6 G6 s6 → (∀ s7, Inv X pin (τ6.set i none) G6 s7 → Q s7) →
              wpAny (model X.prog X.w) X.A (do bindName X.env n .none; unbindBehindTheSuite X.env n pp) (fun _ s7 => Q s7) X.xe s6 := fun {τ6 G6 Q} S6 hq => gone_ok (S6.unsuite okX) nd at_i lcl hq
          rcases f with _ | _ | _ | u
          · obtain ⟨_, _, S6, q⟩ := q6
            exact gone S6 fun s7 J7 => ⟨_, _, J7, q⟩
          · obtain ⟨_, _, S6, q⟩ := q6
            exact gone S6 fun s7 J7 => ⟨_, _, J7, q⟩
          · obtain ⟨_, _, S6, q⟩ := q6
            exact gone S6 fun s7 J7 => ⟨_, _, J7, q⟩
          · obtain ⟨_, _, _, S6, r6, q⟩ := q6
            exact gone S6 fun s7 J7 => ⟨_, _, _, J7, r6, q⟩
        | false =>
          show wpAny _ X.A (handleBy (.ref z) X.env hds2) _ _ _
          exact ih (no rfl)
    exact walk cl w
  · rcases f with _ | _ | _ | u
    · obtain ⟨_, _, J', q⟩ := out
      exact wpAny_execs_nil ⟨_, _, J'.ofTry okX, q⟩
    · obtain ⟨_, _, J', q⟩ := out
      exact ⟨_, _, J'.ofTry okX, q⟩
    · obtain ⟨_, _, J', q⟩ := out
      exact ⟨_, _, J'.ofTry okX, q⟩
    · obtain ⟨_, _, _, J', r, q⟩ := out
      exact ⟨_, _, _, J'.ofTry okX, r, q⟩
end
/-! ### repr of an int or None -/
def reprN : Option Int → Str
  | some k => Str.ofString (toString k)
  | none => Str.ofString "None"
def optI : Option Int → V
  | some k => .int k
  | none => .non
def rReprN : List V → Hp → VK → Prop := fun xs H Q => ∃ o : Option Int, xs = [optI o] ∧ (∀ k, o = some k → k.natAbs.log2 < 1920) ∧ Q (.str (reprN o)) H
theorem cr_reprN {X : Cx} : CallR X (.builtin "repr") rReprN := by
  intro pins s σ H xs us Q I r h
  obtain ⟨o, rfl, hb, q⟩ := h
  obtain ⟨u, rfl, ru⟩ := vals1 r
  cases o with
  | none =>
    cases (show u = Value.none from ru)
    exact P.repr_of_none ⟨.str _, H, I.tok _, ⟨_, rfl⟩, q⟩
  | some k =>
    obtain ⟨t, rfl⟩ := (show ∃ t, u = Value.int k t from ru)
    exact P.repr_of_int (hb k rfl) ⟨.str _, H, I.tok _, ⟨_, rfl⟩, q⟩
end Ty

namespace Xb
open PySem PySem.Spec PyProof.Rows L2
/-- isinstance of the caught error, whose own dict is known -/
structure IsC (K : PySem.W.Frag) (C : Addr) : Prop where
  cl : (PySem.W.clsIn K C).isSome = true
  ga : PySem.W.findIn K (.ref C) "__getattribute__" = some (some (.builtin "BaseException.__getattribute__"))
  gg : PySem.W.findIn K (.ref C) "__getattr__" = some none
  ex : PySem.W.subIn K (.ref C) (.type "BaseException") = some true
  c1 : PySem.W.findIn K (.ref C) "__class__" = some (some (.builtin "object.__class__"))
  c2 : PySem.W.specialIn K (.builtin "object.__class__") "__get__" = some (some (.builtin "getset_descriptor.__get__"))
  c3 : PySem.W.takesIn K (.builtin "object.__class__") = some true
  c4 : PySem.W.mroIn K C (.type "object") = some true
def rIsAt (K : PySem.W.Frag) (a : Addr) (cls : Value) (d : Option Addr) (C : Addr) : List V → Hp → VK → Prop := fun xs H Q => cls = .ref C ∧ ∃ (c : V) (cv : Value) (b : Bool) (dd : Addr) (fs : List (Str × V)), xs = [.ref a, c] ∧ d = some dd ∧ H dd = some (.xd fs) ∧ (∀ u, RelV c u → u = cv) ∧ PySem.W.kitOne K (.ref C) cv = some b ∧ Q (.bl b) H
theorem call_isAt {X : Cx} {a C : Addr} {cls : Value} {d : Option Addr} {oe : Obj} {pn : List (Addr × Obj)} (T : IsC X.K C) (hz : Zc cls d oe) (hf : ∃ vs, oe.data = .fields vs) : CallR (X.suite a ((a, oe) :: pn)) (.builtin "isinstance") (rIsAt X.K a cls d C) := by
  intro pins s σ H xs us Q I r h
  obtain ⟨rfl, c, cv, b, dd, fs, rfl, rfl, ea, hcv, e, q⟩ := h
  match us, r with
  | [_, _], .cons r1 (.cons r2 .nil) =>
    cases r1
    have ec := hcv _ r2
    subst ec
    have pin := (I.pin (a, oe) (List.mem_append.mpr (.inl List.mem_cons_self))).1
    obtain ⟨vs, hv⟩ := hf
    obtain ⟨mA, hns, _⟩ := (I.hok dd _ ea : ObjOk X.prog X.w H s.heap dd (.xd fs))
    obtain ⟨od, ho, _⟩ := lookIn_ns hns
    have J : PySem.W.InstAt s.heap a oe C (some od) := ⟨pin, hz.1, by unfold PySem.W.notCls; rw [hv] <;> rfl, by rw [hz.2]; exact ho⟩
    exact PySem.W.kia_one (PySem.W.kitx_exc T.cl T.ga T.gg T.ex T.c1 T.c2 T.c3 T.c4) I.kIn J e (by intro z; cases z) fun tk => ⟨.bl b, H, I.kept (t' := tk) fun _ _ z => z, rfl, q⟩
end Xb

/-! a name that holds a def which may raise; calls by keywords of such; the law itself, its code object known -/
namespace Lc
open PySem PySem.Spec PyProof.Rows L2 Hb LamX
/-- the def at f, one that may raise, keeps sp -/
structure DfX (P : Program) (w : World) (K : PySem.W.Frag) (mg : Str → Option Value) (base : Heap) (lv : Nat) (f : Addr) (sp : Sp) : Prop where
  ex : ∃ (ps : List Str) (fd : FuncData), FnOk P w K mg base (L2.CX P w) lv f fd ps sp ∧ PySem.W.keepIn K (.ref f) = true ∧ Binds K fd ps []
theorem DfX.of {P : Program} {w : World} {K : PySem.W.Frag} {mg : Str → Option Value} {base : Heap} {j lv : Nat} {f : Addr} {fd : FuncData} {ps : List Str} {sp sp' : Sp} (F : FnOk P w K mg base (L2.CX P w) j f fd ps sp') (kp : PySem.W.keepIn K (.ref f) = true) (b : Binds K fd ps []) (h : j ≤ lv) (le : ∀ vs H Q E, sp vs H Q E → sp' vs H Q E) : DfX P w K mg base lv f sp :=
  ⟨ps, fd, ⟨fun vs H Q E z => F.len vs H Q E (le _ _ _ _ z), fun A o s H args us vs Q E r e0 bi va z => F.run A o s H args us vs Q E (r.mono h) e0 bi va (le _ _ _ _ z)⟩, kp, b⟩
def tVarX (P : Program) (w : World) (K : PySem.W.Frag) (mg : Str → Option Value) (base : Heap) (lv i : Nat) (sp : Sp) (E : L2.St → XK) (ta : TA) : TE := fun σ H Q => ∃ f, σ[i]? = some (some (.ref f)) ∧ DfX P w K mg base lv f sp ∧ ta σ H fun vs H1 => sp vs H1 Q (E σ)
theorem pe_varX {X : Cx} {a : Str} {lv i : Nat} {sp : Sp} {E : L2.St → XK} {p pos : Pos} {e : Expr} {es : List Expr} {ta : TA} (nm : X.N[i]? = some a) (vis : Vis X.env.scope a) (hr : Room lv X.A) (hx : ∀ σ, PassesAt (L2.CX X.prog X.w) X σ (E σ)) (ha : PA X (e :: es) ta)
    (d1 : (a == ("__debug__" : Str)) = false := by decide) (d2 : (a == ("__classdict__" : Str)) = false := by decide)
    (se : starEach (e :: es) X.env = (false, eval e X.env) :: starEach es X.env := by rfl) (sp' : (backTo pos (starEach es X.env)).any (·.1) = false := by rfl) :
    PE X (.Call (.Name a p) (e :: es) [] pos) (tVarX X.prog X.w X.K X.mg X.base lv i sp E ta) := by
  refine ⟨fun pins s σ H Q I h => ?_⟩
  obtain ⟨f, hf, ⟨ps, fd, F, kp, b⟩, h⟩ := h
  refine wpAny_Call_Name_kw (thn ((pe_var (pos := p) (i := i) nm vis d1 d2).run pins s σ H (fun v H1 => v = .ref f ∧ H1 = H) I ⟨.ref f, hf, rfl, rfl⟩) fun u s1 ⟨v, H1, I1, r1, ev, eH⟩ => ?_)
  subst ev
  rw [eH] at I1
  obtain rfl : u = Value.ref f := r1
  refine PySem.W.callWith_K (h₀ := X.base) I1.ok.mod.kin kp (thn (ha.run pos pins s1 σ H _ I1 h) fun us s2 ⟨vs, H2, I2, r2, q⟩ => ⟨I2.kIn, ?_⟩) se sp'
  exact run_fnS F hr b (hx σ) I2 r2 q
/-- f(k = v, ..), a def that may raise -/
structure CkX (P : Program) (w : World) (K : PySem.W.Frag) (mg : Str → Option Value) (base : Heap) (x : Str) (ps : List Str) (ks : List Str) (gV : List V → List V → List V) (lv : Nat) (sp : Sp) : Prop where
  ex : ∃ (f : Addr) (fd : FuncData) (g : List Value → List Value → List Value), FnOk P w K mg base (L2.CX P w) lv f fd ps sp ∧ mg x = some (.ref f) ∧ PySem.W.keepIn K (.ref f) = true ∧ KBn K fd ps 0 ks g gV
theorem pe_useKX {X : Cx} {ps ks : List Str} {gV : List V → List V → List V} {lv : Nat} {sp : Sp} {x : Str} {p pos : Pos} {tk : TA} {kws : List Keyword} {E : XK} (C : CkX X.prog X.w X.K X.mg X.base x ps ks gV lv sp) (hr : Room lv X.A) (hx : Passes (L2.CX X.prog X.w) X E) (gl : Gl X x) (hkw : PK X kws tk)
    (hall : (backToKw pos (keywordEach kws X.env)).all (·.1.isSome) = true := by rfl) (hks : (backToKw pos (keywordEach kws X.env)).filterMap (·.1) = ks := by rfl)
    (db : (x == ("__debug__" : Str)) = false := by decide) (spl : ((backTo pos (starEach [] X.env)).any (·.1) || (backToKw pos (keywordEach kws X.env)).any (·.1.isNone)) = false := by rfl) :
    PE X (.Call (.Name x p) [] kws pos) (tCallN 0 ks.length sp gV E tNil tk) := by
  obtain ⟨f, fd, g, F, mgx, kp, b⟩ := C.ex
  refine ⟨fun pins s σ H Q I h => wpAny_Call_Name_kw (ld_glob I gl mgx ?_ db)⟩
  refine PySem.W.callWith_KW0 (h₀ := X.base) I.ok.mod.kin kp hall ?_ spl
  refine thn (hkw.run pos pins s σ H _ I h) fun ws s2 ⟨zs, H2, I2, rz, l1, l2, q2⟩ => ⟨I2.kIn, ?_⟩
  rw [hks]
  exact run_fnN (us := []) (vs := []) F hr b hx I2 .nil rz rfl l2 q2
/-- a def by its body, its code object at c -/
theorem okC {P : Program} {w : World} {K : PySem.W.Frag} {mg : Str → Option Value} {base : Heap} {x qual : Str} {st : Stmt} {f c : Addr} {oc : Value} {od an : Option Addr} {osl : Array (Option Value)} {kV doc pm ct : Value} {N ps : List Str} {k : Nat} {sp : Sp}
    (lk : K.lookup f = some ⟨oc, od, .func (PySem.W.fnOf x qual (defArgs st) (defBody st) (defScope st) .none kV doc pm an (.ref c) ct), osl⟩) (cd : PySem.W.codeIn K (.ref c) qual = true) (S : FnScope N ps (defScope st)) (len : ∀ vs H Q E, sp vs H Q E → vs.length = ps.length)
    (hbody : ∀ (A : Around) (outer : List Env) (s : Shared) (H : Hp) (vs : List V) (Q : VK) (E : XK), Room k (A.deeper (envOfC qual (defScope st) s.heap.objs.size f (.ref c))) → sp vs H Q E →
      ∃ t, PSs (cxOf CX0 P w K mg base N qual (defScope st) f (.ref c) A outer s H E).nox (defBody st) t ∧ t { nx := fun _ H' => Q .non H', rt := Q } (start N vs) H) :
    FnOk P w K mg base CX0 (k + 1) f (PySem.W.fnOf x qual (defArgs st) (defBody st) (defScope st) .none kV doc pm an (.ref c) ct) ps sp := by
  refine fn_of lk cd S len fun A outer s H vs Q E hr hsp => ?_
  obtain ⟨t, h, q⟩ := hbody A outer s H vs Q E hr hsp
  exact ⟨t, h.nox, q⟩
end Lc


namespace Kw
open PySem PySem.Spec PyProof.Rows L2 Hb Ow
/-- repr of a bool -/
theorem call_repr_bl {X : Cx} : CallR X (.builtin "repr") (fun xs H Q => ∃ b : Bool, xs = [.bl b] ∧ Q (.str (if b then "True" else "False")) H) := by
  intro pins s σ H xs us Q I r h
  obtain ⟨b, rfl, q⟩ := h
  obtain ⟨u, rfl, rx⟩ := vals1 r
  obtain rfl : u = Value.bool b := rx
  exact PySem.P.repr_of_bool ⟨.str _, H, I.tok _, ⟨_, rfl⟩, q⟩
theorem vals_app {a b : List V} {x y : List Value} (h : Vals a x) (k : Vals b y) : Vals (a ++ b) (x ++ y) := by
  induction h with
  | nil => exact k
  | cons r _ ih => exact .cons r ih
theorem vals_rev {a : List V} {x : List Value} (h : Vals a x) : Vals a.reverse x.reverse := by
  induction h with
  | nil => exact .nil
  | cons r _ ih => rw [List.reverse_cons, List.reverse_cons]; exact vals_app ih (.cons r .nil)
/-- a def without defaults, all parameters by name, from the last one to the first -/
theorem kb_rev {K : PySem.W.Frag} {x qual : Str} {st : Stmt} {f : Addr} {fd : FuncData} {ps ks : List Str} (F : Fun K x qual st f fd)
    (h : ∀ (kV doc pm : Value) (an : Option Addr) (cdv ct : Value) (ws : List Value), ws.length = ks.length → bindArgs (PySem.W.fnOf x qual (defArgs st) (defBody st) (defScope st) .none kV doc pm an cdv ct) ⟨[], ks.zip ws⟩ = pure (ps.zip ws.reverse)) : KBn K fd ps 0 ks (fun _ ws => ws.reverse) (fun _ zs => zs.reverse) := by
  obtain ⟨oc, od, kV, doc, pm, an, cdv, ct, osl, rfl, lk, hcd⟩ := F.ex
  refine ⟨fun s us ws X l1 l2 => ?_, fun r1 r2 => vals_rev r2⟩
  obtain rfl := List.eq_nil_of_length_eq_zero l1
  exact .of_eq (h kV doc pm an cdv ct ws l2)
end Kw

namespace Ks
universe u
section
variable {β : Type u} (n : Nat) (ok : β → Nat → Bool)
/-! ### layings: strictly rising numbers, each fit for its thing -/
def nxt (laid : List Nat) : Nat := match laid.getLast? with
  | none => 0
  | some a => a + 1
def ext (h : β) (laid : List Nat) : List (List Nat) := ((List.range n).filter fun a => decide (nxt laid ≤ a) && ok h a).map fun a => laid ++ [a]
def lays : List β → List (List Nat) := List.foldl (fun found h => found.flatMap (ext n ok h)) [[]]
structure IsLay (hs : List β) (laid : List Nat) : Prop where
  len : laid.length = hs.length
  asc : laid.Pairwise (· < ·)
  fit : ∀ (i : Nat) a h, laid[i]? = some a → hs[i]? = some h → a < n ∧ ok h a = true
variable {n ok}
theorem lays_snoc (hs : List β) (h : β) : lays n ok (hs ++ [h]) = (lays n ok hs).flatMap (ext n ok h) := by
  unfold lays; rw [List.foldl_append]; rfl
theorem nxt_nil : nxt [] = 0 := rfl
theorem nxt_snoc (laid : List Nat) (a : Nat) : nxt (laid ++ [a]) = a + 1 := by unfold nxt; rw [List.getLast?_concat]
theorem nxt_le {laid : List Nat} (asc : laid.Pairwise (· < ·)) {m : Nat} : nxt laid ≤ m ↔ ∀ a ∈ laid, a < m := by
  rcases List.eq_nil_or_concat laid with rfl | ⟨l, b, rfl⟩
  · simp [nxt_nil]
  · rw [List.concat_eq_append] at *
    rw [nxt_snoc]
    rw [List.pairwise_append] at asc
    constructor
    · intro h a ha
      rcases List.mem_append.mp ha with ha | ha
      · have := asc.2.2 a ha b (List.mem_singleton.mpr rfl); omega
      · rw [List.mem_singleton.mp ha]; omega
    · intro h; exact h b (List.mem_append_right _ (List.mem_singleton.mpr rfl))
theorem IsLay.snoc {hs : List β} {laid : List Nat} {h : β} {a : Nat} : IsLay n ok (hs ++ [h]) (laid ++ [a]) ↔ IsLay n ok hs laid ∧ nxt laid ≤ a ∧ a < n ∧ ok h a = true := by
  constructor
  · rintro ⟨l, asc, fit⟩
    have l' : laid.length = hs.length := by rw [List.length_append, List.length_append] at l; simpa using l
    rw [List.pairwise_append] at asc
    refine ⟨⟨l', asc.1, fun i b g hb hg => fit i b g ?_ ?_⟩, (nxt_le asc.1).mpr fun b hb => asc.2.2 b hb a (List.mem_singleton.mpr rfl), ?_⟩
    · rw [List.getElem?_append_left (List.getElem?_eq_some_iff.mp hb).1]; exact hb
    · rw [List.getElem?_append_left (List.getElem?_eq_some_iff.mp hg).1]; exact hg
    · exact fit laid.length a h (by rw [List.getElem?_append_right (Nat.le_refl _)]; simp) (by rw [l', List.getElem?_append_right (Nat.le_refl _)]; simp)
  · rintro ⟨⟨l, asc, fit⟩, hn, ha, hk⟩
    refine ⟨by rw [List.length_append, List.length_append, l]; rfl, ?_, fun i b g hb hg => ?_⟩
    · rw [List.pairwise_append]
      exact ⟨asc, List.pairwise_singleton _ _, fun x hx y hy => by rw [List.mem_singleton.mp hy]; exact (nxt_le asc).mp hn x hx⟩
    · by_cases c : i < laid.length
      · rw [List.getElem?_append_left c] at hb
        rw [List.getElem?_append_left (l ▸ c)] at hg
        exact fit i b g hb hg
      · rw [List.getElem?_append_right (by omega)] at hb
        rw [List.getElem?_append_right (by omega)] at hg
        have e : i - laid.length = 0 := by
          have := (List.getElem?_eq_some_iff.mp hb).1
          rw [List.length_singleton] at this; omega
        rw [e] at hb
        rw [show i - hs.length = 0 by omega] at hg
        cases (Option.some.inj hb : a = b)
        cases (Option.some.inj hg : h = g)
        exact ⟨ha, hk⟩
theorem IsLay.nil {laid : List Nat} : IsLay n ok ([] : List β) laid ↔ laid = [] := by
  constructor
  · intro h; exact List.eq_nil_of_length_eq_zero h.len
  · rintro rfl; exact ⟨rfl, List.Pairwise.nil, fun i a h e => by simp at e⟩
theorem mem_lays : ∀ (r : List β) (laid : List Nat), laid ∈ lays n ok r.reverse ↔ IsLay n ok r.reverse laid
  | [], laid => by
    show laid ∈ [[]] ↔ _
    rw [List.mem_singleton]; exact IsLay.nil.symm
  | h :: r, laid => by
    rw [List.reverse_cons, lays_snoc, List.mem_flatMap]
    constructor
    · rintro ⟨l, hl, hx⟩
      obtain ⟨a, ha, rfl⟩ := List.mem_map.mp hx
      have := (List.mem_filter.mp ha)
      rw [Bool.and_eq_true, decide_eq_true_iff] at this
      exact IsLay.snoc.mpr ⟨(mem_lays r l).mp hl, this.2.1, List.mem_range.mp this.1, this.2.2⟩
    · intro hl
      rcases List.eq_nil_or_concat laid with rfl | ⟨l, a, rfl⟩
      · have := hl.len; simp at this
      · rw [List.concat_eq_append] at *
        obtain ⟨h1, h2, h3, h4⟩ := IsLay.snoc.mp hl
        refine ⟨l, (mem_lays r l).mpr h1, List.mem_map.mpr ⟨a, List.mem_filter.mpr ⟨List.mem_range.mpr h3, ?_⟩, rfl⟩⟩
        rw [Bool.and_eq_true, decide_eq_true_iff]; exact ⟨h2, h4⟩
theorem mem_lay {hs : List β} {laid : List Nat} : laid ∈ lays n ok hs ↔ IsLay n ok hs laid := by
  have := mem_lays (n := n) (ok := ok) hs.reverse laid
  rwa [List.reverse_reverse] at this
/-! ### how many -/
/-- how many layings of r (from the last thing on) with all numbers below m -/
def cnt (ok : β → Nat → Bool) : Nat → List β → Nat
  | _, [] => 1
  | 0, _ :: _ => 0
  | m + 1, h :: r => cnt ok m (h :: r) + if ok h m = true then cnt ok m r else 0
theorem cnt_nil (m : Nat) : cnt ok m ([] : List β) = 1 := by cases m <;> rfl
theorem filter_flat {α γ : Type _} (p : γ → Bool) (g : α → List γ) : ∀ l : List α, (l.flatMap g).filter p = l.flatMap fun a => (g a).filter p
  | [] => rfl
  | a :: l => by rw [List.flatMap_cons, List.flatMap_cons, List.filter_append, filter_flat p g l]
theorem len_flat_add {α γ δ : Type _} (g : α → List γ) (g1 : α → List δ) (q : α → Bool) (h : ∀ a, (g a).length = (g1 a).length + if q a = true then 1 else 0) : ∀ l : List α, (l.flatMap g).length = (l.flatMap g1).length + (l.filter q).length
  | [] => rfl
  | a :: l => by
    rw [List.flatMap_cons, List.flatMap_cons, List.length_append, List.length_append, h a, len_flat_add g g1 q h l, List.filter_cons]
    by_cases c : q a = true
    · rw [if_pos c, if_pos c, List.length_cons]; omega
    · rw [if_neg c, if_neg c]; omega
theorem below_ext (h : β) (laid : List Nat) (m : Nat) : ((ext n ok h laid).filter fun l => decide (nxt l ≤ m)).length = ((List.range n).filter fun a => (decide (nxt laid ≤ a) && ok h a) && decide (a < m)).length := by
  unfold ext
  rw [List.filter_map, List.length_map, List.filter_filter]
  congr 1
  refine List.filter_congr fun a _ => ?_
  show (decide (nxt (laid ++ [a]) ≤ m) && _) = _
  rw [nxt_snoc, Bool.and_comm]
  rfl
theorem range_cut (q : Nat → Bool) {m : Nat} (hm : m < n) : ((List.range n).filter fun a => q a && decide (a < m + 1)).length = ((List.range n).filter fun a => q a && decide (a < m)).length + if q m = true then 1 else 0 := by
  obtain ⟨d, rfl⟩ : ∃ d, n = m + 1 + d := ⟨n - (m + 1), by omega⟩
  rw [List.range_add, List.filter_append, List.filter_append, List.length_append, List.length_append]
  have z : ∀ k, k ≤ m + 1 → ((List.range d).map (m + 1 + ·)).filter (fun a => q a && decide (a < k)) = [] := fun k hk => by
    rw [List.filter_eq_nil_iff]
    intro a ha
    obtain ⟨b, _, rfl⟩ := List.mem_map.mp ha
    rw [decide_eq_false (by omega), Bool.and_false]; exact Bool.false_ne_true
  rw [z (m + 1) (Nat.le_refl _), z m (Nat.le_succ _), List.range_succ, List.filter_append, List.filter_append, List.length_append, List.length_append]
  have e1 : (List.range m).filter (fun a => q a && decide (a < m + 1)) = (List.range m).filter (fun a => q a && decide (a < m)) := List.filter_congr fun a ha => by
    have := List.mem_range.mp ha
    rw [decide_eq_true (show a < m + 1 by omega), decide_eq_true this]
  rw [e1]
  have e2 : ([m].filter fun a => q a && decide (a < m)) = [] := by
    rw [List.filter_eq_nil_iff]; intro a ha; rw [List.mem_singleton.mp ha, decide_eq_false (Nat.lt_irrefl _), Bool.and_false]; exact Bool.false_ne_true
  rw [e2]
  by_cases c : q m = true
  · rw [if_pos c, List.filter_cons_of_pos (by rw [c, decide_eq_true (Nat.lt_succ_self _)]; rfl)]; simp
  · rw [if_neg c, List.filter_cons_of_neg (by rw [Bool.not_eq_true] at c; rw [c]; exact Bool.false_ne_true)]; simp
theorem count_eq : ∀ (r : List β) (m : Nat), m ≤ n → ((lays n ok r.reverse).filter fun l => decide (nxt l ≤ m)).length = cnt ok m r
  | [], m, _ => by
    rw [cnt_nil]
    show ([[]].filter fun l => decide (nxt l ≤ m)).length = 1
    rw [List.filter_cons_of_pos (by rw [nxt_nil]; exact decide_eq_true (Nat.zero_le _))]; rfl
  | h :: r, 0, _ => by
    rw [List.reverse_cons, lays_snoc, filter_flat]
    show _ = 0
    rw [List.length_eq_zero_iff, List.flatMap_eq_nil_iff]
    intro l _
    have := below_ext (n := n) (ok := ok) h l 0
    rw [← List.length_eq_zero_iff, this, List.length_eq_zero_iff, List.filter_eq_nil_iff]
    intro a _
    rw [decide_eq_false (Nat.not_lt_zero _), Bool.and_false]; exact Bool.false_ne_true
  | h :: r, m + 1, hm => by
    have ih1 := count_eq (h :: r) m (by omega)
    have ih2 := count_eq r m (by omega)
    rw [List.reverse_cons, lays_snoc, filter_flat] at ih1 ⊢
    show _ = cnt ok m (h :: r) + if ok h m = true then cnt ok m r else 0
    rw [← ih1, ← ih2]
    have key := len_flat_add (fun l => (ext n ok h l).filter fun l => decide (nxt l ≤ m + 1)) (fun l => (ext n ok h l).filter fun l => decide (nxt l ≤ m)) (fun l => decide (nxt l ≤ m) && ok h m) (fun l => by
      rw [below_ext, below_ext, range_cut (fun a => decide (nxt l ≤ a) && ok h a) (by omega)]) (lays n ok r.reverse)
    rw [key]
    congr 1
    by_cases c : ok h m = true
    · rw [if_pos c]
      congr 1
      exact List.filter_congr fun l _ => by rw [c, Bool.and_true]
    · rw [if_neg c]
      rw [Bool.not_eq_true] at c
      rw [List.length_eq_zero_iff, List.filter_eq_nil_iff]
      intro l _
      rw [c, Bool.and_false]; exact Bool.false_ne_true
theorem count_all (r : List β) : (lays n ok r.reverse).length = cnt ok n r := by
  rw [← count_eq r n (Nat.le_refl _)]
  congr 1
  rw [List.filter_eq_self.mpr]
  intro l hl
  have il := (mem_lays r l).mp hl
  rw [decide_eq_true_iff, nxt_le il.asc]
  intro a ha
  obtain ⟨i, hi⟩ := List.mem_iff_getElem?.mp ha
  have hlt := (List.getElem?_eq_some_iff.mp hi).1
  exact (il.fit i a _ hi (List.getElem?_eq_getElem (by rw [← il.len]; exact hlt))).1
end
end Ks

namespace Ks
universe u
section
variable {β : Type u} {n : Nat} {ok : β → Nat → Bool}
/-! ### the greedy laying -/
def fst (n : Nat) (ok : β → Nat → Bool) (k : Nat) (h : β) : Option Nat := (List.range n).find? fun a => decide (k ≤ a) && ok h a
def gr (n : Nat) (ok : β → Nat → Bool) : List β → Nat → List Nat
  | [], _ => []
  | h :: hs, k => match fst n ok k h with
    | none => []
    | some a => a :: gr n ok hs (a + 1)
theorem fst_some {k a : Nat} {h : β} : fst n ok k h = some a ↔ (k ≤ a ∧ ok h a = true) ∧ a < n ∧ ∀ b, b < a → k ≤ b → ok h b = false := by
  unfold fst
  rw [List.find?_range_eq_some, List.mem_range, Bool.and_eq_true, decide_eq_true_iff]
  constructor
  · rintro ⟨p, q, r⟩
    refine ⟨p, q, fun b hb hk => ?_⟩
    have := r b hb
    rw [decide_eq_true hk, Bool.true_and] at this
    simpa using this
  · rintro ⟨p, q, r⟩
    refine ⟨p, q, fun b hb => ?_⟩
    by_cases c : k ≤ b
    · rw [decide_eq_true c, Bool.true_and, r b hb c]; rfl
    · rw [decide_eq_false c]; rfl
theorem fst_none {k : Nat} {h : β} : fst n ok k h = none ↔ ∀ b, b < n → k ≤ b → ok h b = false := by
  unfold fst
  rw [List.find?_eq_none]
  constructor
  · intro p b hb hk
    have := p b (List.mem_range.mpr hb)
    rw [decide_eq_true hk, Bool.true_and] at this
    simpa using this
  · intro p b hb
    have hb := List.mem_range.mp hb
    by_cases c : k ≤ b
    · rw [p b hb c, Bool.and_false]; exact Bool.false_ne_true
    · rw [decide_eq_false c, Bool.false_and]; exact Bool.false_ne_true
theorem fst_le {k k' a : Nat} {h : β} (hk : k' ≤ k) (ha : k ≤ a) (hn : a < n) (ho : ok h a = true) : ∃ b, fst n ok k' h = some b ∧ b ≤ a := by
  cases e : fst n ok k' h with
  | none => rw [fst_none.mp e a hn (by omega)] at ho; cases ho
  | some b =>
    refine ⟨b, rfl, ?_⟩
    have := (fst_some.mp e).2.2
    refine Decidable.byContradiction fun c => ?_
    have := this a (by omega) (by omega)
    rw [ho] at this; cases this
def LayF (n : Nat) (ok : β → Nat → Bool) : Nat → List β → List Nat → Prop
  | _, [], [] => True
  | k, h :: hs, a :: l => k ≤ a ∧ a < n ∧ ok h a = true ∧ LayF n ok (a + 1) hs l
  | _, _, _ => False
theorem layF_iff : ∀ (hs : List β) (k : Nat) (l : List Nat), LayF n ok k hs l ↔ IsLay n ok hs l ∧ ∀ a ∈ l, k ≤ a
  | [], k, l => by
    rw [IsLay.nil]
    cases l with
    | nil => simp [LayF]
    | cons a l => simp [LayF]
  | h :: hs, k, [] => by
    constructor
    · intro h; exact h.elim
    · rintro ⟨h, _⟩
      have := h.len
      simp at this
  | h :: hs, k, a :: l => by
    show (k ≤ a ∧ a < n ∧ ok h a = true ∧ LayF n ok (a + 1) hs l) ↔ _
    rw [layF_iff hs (a + 1) l]
    constructor
    · rintro ⟨h1, h2, h3, ⟨i1, i2, i3⟩, h4⟩
      refine ⟨⟨by rw [List.length_cons, List.length_cons, i1], List.pairwise_cons.mpr ⟨fun b hb => h4 b hb, i2⟩, fun i b g hb hg => ?_⟩, fun b hb => ?_⟩
      · cases i with
        | zero =>
          rw [List.getElem?_cons_zero] at hb hg
          cases hb; cases hg
          exact ⟨h2, h3⟩
        | succ i => exact i3 i b g (by simpa using hb) (by simpa using hg)
      · rcases List.mem_cons.mp hb with rfl | hb
        · exact h1
        · have := h4 b hb; omega
    · rintro ⟨⟨i1, i2, i3⟩, h4⟩
      have h0 := i3 0 a h rfl rfl
      rw [List.pairwise_cons] at i2
      exact ⟨h4 a List.mem_cons_self, h0.1, h0.2, ⟨by simpa using i1, i2.2, fun i b g hb hg => i3 (i + 1) b g (by simpa using hb) (by simpa using hg)⟩, fun b hb => i2.1 b hb⟩
theorem lay0 {hs : List β} {l : List Nat} : IsLay n ok hs l ↔ LayF n ok 0 hs l := by
  rw [layF_iff]
  exact ⟨fun h => ⟨h, fun _ _ => Nat.zero_le _⟩, fun h => h.1⟩
theorem gr_len : ∀ (hs : List β) (k : Nat), (gr n ok hs k).length ≤ hs.length
  | [], _ => Nat.le_refl _
  | h :: hs, k => by
    unfold gr
    cases fst n ok k h with
    | none => exact Nat.zero_le _
    | some a => exact Nat.succ_le_succ (gr_len hs (a + 1))
theorem gr_take : ∀ (hs : List β) (k j : Nat), gr n ok (hs.take j) k = (gr n ok hs k).take j
  | [], k, j => by simp [gr]
  | h :: hs, k, 0 => by simp [gr]
  | h :: hs, k, j + 1 => by
    rw [List.take_succ_cons]
    unfold gr
    cases fst n ok k h with
    | none => simp
    | some a =>
      show a :: gr n ok (hs.take j) (a + 1) = (a :: gr n ok hs (a + 1)).take (j + 1)
      rw [gr_take hs (a + 1) j, List.take_succ_cons]
theorem gr_lay : ∀ (hs : List β) (k : Nat), LayF n ok k (hs.take (gr n ok hs k).length) (gr n ok hs k)
  | [], k => by simp [gr, LayF]
  | h :: hs, k => by
    unfold gr
    cases e : fst n ok k h with
    | none => simp [LayF]
    | some a =>
      show LayF n ok k ((h :: hs).take ((gr n ok hs (a + 1)).length + 1)) (a :: gr n ok hs (a + 1))
      rw [List.take_succ_cons]
      have := fst_some.mp e
      exact ⟨this.1.1, this.2.1, this.1.2, gr_lay hs (a + 1)⟩
theorem gr_min : ∀ (hs : List β) (k k' : Nat) (l : List Nat), LayF n ok k hs l → k' ≤ k → (gr n ok hs k').length = hs.length ∧ ∀ (i : Nat) a b, l[i]? = some a → (gr n ok hs k')[i]? = some b → b ≤ a
  | [], k, k', l, h, _ => ⟨rfl, fun i a b _ e => by simp [gr] at e⟩
  | h :: hs, k, k', [], hl, _ => by cases hl
  | h :: hs, k, k', a :: l, ⟨h1, h2, h3, h4⟩, hk => by
    obtain ⟨b, e, hb⟩ := fst_le (k' := k') hk h1 h2 h3
    obtain ⟨i1, i2⟩ := gr_min hs (a + 1) (b + 1) l h4 (by omega)
    unfold gr
    rw [e]
    refine ⟨by show _ + 1 = _ + 1; rw [i1], fun i x y hx hy => ?_⟩
    cases i with
    | zero =>
      cases (Option.some.inj hx : a = x)
      cases (Option.some.inj hy : b = y)
      exact hb
    | succ i => exact i2 i x y (by simpa using hx) (by simpa using hy)
/-- all can be laid just if the greedy one is whole -/
theorem gr_whole {hs : List β} : (gr n ok hs 0).length = hs.length ↔ lays n ok hs ≠ [] := by
  constructor
  · intro e
    have := gr_lay (n := n) (ok := ok) hs 0
    rw [e, List.take_of_length_le (Nat.le_refl _)] at this
    exact List.ne_nil_of_mem (mem_lay.mpr (lay0.mpr this))
  · intro h
    obtain ⟨l, hl⟩ := List.exists_mem_of_ne_nil _ h
    exact (gr_min hs 0 0 l (lay0.mp (mem_lay.mp hl)) (Nat.le_refl _)).1
theorem gr_part (hs : List β) (m : Nat) (hm : m ≤ hs.length) : lays n ok (hs.take m) ≠ [] ↔ m ≤ (gr n ok hs 0).length := by
  rw [← gr_whole, gr_take, List.length_take, List.length_take, Nat.min_eq_left hm]
  omega
theorem gr_isLay {hs : List β} (h : lays n ok hs ≠ []) : IsLay n ok hs (gr n ok hs 0) := by
  have := gr_lay (n := n) (ok := ok) hs 0
  rw [gr_whole.mpr h, List.take_of_length_le (Nat.le_refl _)] at this
  exact lay0.mpr this
theorem gr_least {hs : List β} {l : List Nat} (hl : IsLay n ok hs l) {i a b : Nat} (ha : l[i]? = some a) (hb : (gr n ok hs 0)[i]? = some b) : b ≤ a :=
  (gr_min hs 0 0 l (lay0.mp hl) (Nat.le_refl _)).2 i a b ha hb
/-! ### from behind -/
def rv (n : Nat) (l : List Nat) : List Nat := l.reverse.map fun a => n - 1 - a
theorem rv_len (l : List Nat) : (rv n l).length = l.length := by unfold rv; rw [List.length_map, List.length_reverse]
theorem rv_get {l : List Nat} {i : Nat} (h : i < l.length) : (rv n l)[i]? = (l[l.length - 1 - i]?).map fun a => n - 1 - a := by
  unfold rv; rw [List.getElem?_map, List.getElem?_reverse h]
theorem IsLay.rv {hs : List β} {l : List Nat} (h : IsLay n ok hs l) : IsLay n (fun g a => ok g (n - 1 - a)) hs.reverse (rv n l) := by
  have below : ∀ a ∈ l, a < n := fun a ha => by
    obtain ⟨i, hi⟩ := List.mem_iff_getElem?.mp ha
    have hlt := (List.getElem?_eq_some_iff.mp hi).1
    exact (h.fit i a _ hi (List.getElem?_eq_getElem (by rw [← h.len]; exact hlt))).1
  refine ⟨by rw [rv_len, List.length_reverse, h.len], ?_, fun i a g ha hg => ?_⟩
  · unfold Ks.rv
    rw [List.pairwise_map, List.pairwise_reverse]
    exact h.asc.imp_of_mem fun {a b} ha hb hab => by
      have := below b hb
      omega
  · have hi : i < l.length := by
      have := (List.getElem?_eq_some_iff.mp ha).1
      rwa [rv_len] at this
    rw [rv_get hi] at ha
    rw [List.getElem?_reverse (by rw [← h.len]; exact hi), ← h.len] at hg
    obtain ⟨b, hb, e⟩ := Option.map_eq_some_iff.mp ha
    have := h.fit _ b g hb hg
    subst e
    refine ⟨by omega, ?_⟩
    show ok g (n - 1 - (n - 1 - b)) = true
    rw [show n - 1 - (n - 1 - b) = b by omega]
    exact this.2
theorem rv_rv {l : List Nat} (h : ∀ a ∈ l, a < n) : rv n (rv n l) = l := by
  unfold rv
  rw [← List.map_reverse, List.reverse_reverse, List.map_map]
  conv => rhs; rw [← List.map_id l]
  refine List.map_congr_left fun a ha => ?_
  have := h a ha
  show n - 1 - (n - 1 - a) = a
  omega
/-- the one from behind -/
def bk (n : Nat) (ok : β → Nat → Bool) (hs : List β) : List Nat := rv n (gr n (fun g a => ok g (n - 1 - a)) hs.reverse 0)
theorem IsLay.below {hs : List β} {l : List Nat} (h : IsLay n ok hs l) : ∀ a ∈ l, a < n := fun a ha => by
  obtain ⟨i, hi⟩ := List.mem_iff_getElem?.mp ha
  have hlt := (List.getElem?_eq_some_iff.mp hi).1
  exact (h.fit i a _ hi (List.getElem?_eq_getElem (by rw [← h.len]; exact hlt))).1
theorem IsLay.ok_congr {ok' : β → Nat → Bool} {hs : List β} {l : List Nat} (h : IsLay n ok hs l) (e : ∀ g a, a < n → ok g a = ok' g a) : IsLay n ok' hs l :=
  ⟨h.len, h.asc, fun i a g ha hg => let k := h.fit i a g ha hg; ⟨k.1, by rw [← e g a k.1]; exact k.2⟩⟩
theorem bk_isLay {hs : List β} (h : lays n ok hs ≠ []) : IsLay n ok hs (bk n ok hs) := by
  obtain ⟨l, hl⟩ := List.exists_mem_of_ne_nil _ h
  have h1 := (mem_lay.mp hl).rv
  have h2 := gr_isLay (List.ne_nil_of_mem (mem_lay.mpr h1))
  have h3 := h2.rv
  rw [List.reverse_reverse] at h3
  exact h3.ok_congr fun g a ha => by show ok g (n - 1 - (n - 1 - a)) = ok g a; rw [show n - 1 - (n - 1 - a) = a by omega]
theorem bk_great {hs : List β} {l : List Nat} (hl : IsLay n ok hs l) {i a b : Nat} (ha : l[i]? = some a) (hb : (bk n ok hs)[i]? = some b) : a ≤ b := by
  have h1 := hl.rv
  have hi : i < l.length := (List.getElem?_eq_some_iff.mp ha).1
  have hg : (gr n (fun g a => ok g (n - 1 - a)) hs.reverse 0).length = l.length := by
    rw [gr_whole.mpr (List.ne_nil_of_mem (mem_lay.mpr h1)), List.length_reverse, hl.len]
  unfold bk at hb
  rw [rv_get (by omega)] at hb
  obtain ⟨c, hc, e⟩ := Option.map_eq_some_iff.mp hb
  have hr : (rv n l)[l.length - 1 - i]? = some (n - 1 - a) := by
    rw [rv_get (by omega), show l.length - 1 - (l.length - 1 - i) = i by omega, ha]; rfl
  rw [hg] at hc
  have := gr_least h1 hr hc
  have := hl.below a (List.mem_of_getElem? ha)
  omega
/-- all between first and last that fit are some laying's -/
theorem between {hs : List β} (h : lays n ok hs ≠ []) {i x b c : Nat} {g : β} (hg : hs[i]? = some g) (hb : (gr n ok hs 0)[i]? = some b) (hc : (bk n ok hs)[i]? = some c) (h1 : b ≤ x) (h2 : x ≤ c) (hx : ok g x = true) : ∃ l ∈ lays n ok hs, l[i]? = some x := by
  have F := gr_isLay h
  have B := bk_isLay h
  have lf := F.len
  have lb := B.len
  have hi : i < hs.length := (List.getElem?_eq_some_iff.mp hg).1
  generalize gr n ok hs 0 = f at *
  generalize bk n ok hs = k at *
  have hn : x < n := by have := B.below c (List.mem_of_getElem? hc); omega
  have lt : (f.take i).length = i := by rw [List.length_take]; omega
  have gi : (f.take i ++ x :: k.drop (i + 1))[i]? = some x := by
    rw [List.getElem?_append_right (by omega), lt, Nat.sub_self]; rfl
  refine ⟨f.take i ++ x :: k.drop (i + 1), mem_lay.mpr ⟨?_, ?_, fun j a y ha hy => ?_⟩, gi⟩
  · rw [List.length_append, lt, List.length_cons, List.length_drop]; omega
  · rw [List.pairwise_append, List.pairwise_cons]
    have fb : ∀ a ∈ f.take i, a < x := fun a ha => by
      obtain ⟨j, hj⟩ := List.mem_iff_getElem?.mp ha
      have hji : j < i := by have := (List.getElem?_eq_some_iff.mp hj).1; omega
      rw [List.getElem?_take_of_lt hji] at hj
      obtain ⟨l1, e1⟩ := List.getElem?_eq_some_iff.mp hj
      obtain ⟨l2, e2⟩ := List.getElem?_eq_some_iff.mp hb
      have := List.pairwise_iff_getElem.mp F.asc j i l1 l2 hji
      omega
    have kb : ∀ a ∈ k.drop (i + 1), x < a := fun a ha => by
      obtain ⟨j, hj⟩ := List.mem_iff_getElem?.mp ha
      rw [List.getElem?_drop] at hj
      obtain ⟨l1, e1⟩ := List.getElem?_eq_some_iff.mp hj
      obtain ⟨l2, e2⟩ := List.getElem?_eq_some_iff.mp hc
      have := List.pairwise_iff_getElem.mp B.asc i (i + 1 + j) l2 l1 (by omega)
      omega
    refine ⟨F.asc.sublist (List.take_sublist _ _), ⟨kb, B.asc.sublist (List.drop_sublist _ _)⟩, fun a ha y hy => ?_⟩
    have := fb a ha
    rcases List.mem_cons.mp hy with rfl | hy
    · exact this
    · have := kb y hy; omega
  · rcases Nat.lt_trichotomy j i with c1 | rfl | c1
    · rw [List.getElem?_append_left (by omega), List.getElem?_take_of_lt c1] at ha
      exact F.fit j a y ha hy
    · rw [gi] at ha
      rw [hg] at hy
      cases ha; cases hy
      exact ⟨hn, hx⟩
    · rw [List.getElem?_append_right (by omega), lt, show j - i = (j - i - 1) + 1 by omega, List.getElem?_cons_succ, List.getElem?_drop, show i + 1 + (j - i - 1) = j by omega] at ha
      exact B.fit j a y ha hy
/-- the numbers that one of the things has in layings -/
theorem spots {hs : List β} (h : lays n ok hs ≠ []) {i b c : Nat} {g : β} (hg : hs[i]? = some g) (hb : (gr n ok hs 0)[i]? = some b) (hc : (bk n ok hs)[i]? = some c) (x : Nat) : (∃ l ∈ lays n ok hs, l[i]? = some x) ↔ (b ≤ x ∧ x ≤ c) ∧ ok g x = true := by
  constructor
  · rintro ⟨l, hl, e⟩
    have il := mem_lay.mp hl
    exact ⟨⟨gr_least il e hb, bk_great il e hc⟩, (il.fit i x g e hg).2⟩
  · rintro ⟨⟨h1, h2⟩, hx⟩
    exact between h hg hb hc h1 h2 hx
end
end Ks

namespace K6
open PySem PySem.Spec PyProof.Rows L2 Hb St Sq Ow En Zp RZ Rd
def top (i : Nat) : Stmt := PySem.Challenge.pw_curvebells_k86_whole_layings_of_heard_lo.main.body.getD i (.Pass ⟨0, 0, 0, 0⟩)
/-! ### any values, by their data -/
def tyD : PyData → Value
  | .none => .type "NoneType"
  | .bool _ => .type "bool"
  | .int _ => .type "int"
  | .str _ => .type "str"
  | .list _ => .type "list"
  | .tuple _ => .type "tuple"
  | _ => .type "dict"
theorem ty_lst {K : PySem.W.Frag} {H : Hp} {a : Addr} {xs : List V} (h : SqL K H a xs) : TyX K H (.ref a) (.type "list") := by
  rcases h with (e | ⟨o, e⟩) | ⟨o, its, n, e, c, _⟩
  · exact .base (.lst e)
  · exact .base (.frz e)
  · exact .kList e c
theorem ty_tup {K : PySem.W.Frag} {H : Hp} {a : Addr} {xs : List V} (h : SqT K H a xs) : TyX K H (.ref a) (.type "tuple") := by
  rcases h with (e | ⟨o, e⟩) | ⟨o, its, n, e, c, _⟩
  · exact .base (.tup e)
  · exact .fTuple e
  · exact .kTuple e c
theorem ty_dp {K : PySem.W.Frag} {H : Hp} {v : V} {d : PyData} (h : Dp K H v d) : TyX K H v (tyD d) := by
  cases h with
  | non => exact .base .non
  | bl b => exact .base (.bl b)
  | int i => exact .base (.int i)
  | str x => exact .base (.str x)
  | lst h _ => exact ty_lst h
  | tup h _ => exact ty_tup h
def isStrD : PyData → Bool
  | .str _ => true
  | _ => false
def isTupD : PyData → Bool
  | .tuple _ => true
  | _ => false
theorem kit_str {K : PySem.W.Frag} {H : Hp} {v : V} {d : PyData} (h : Dp K H v d) : PySem.W.kitOne K (tyD d) (.type "str") = some (isStrD d) := by
  cases h with
  | non => exact kit_ty (a := "NoneType") (b := "str") (r := false) (by decide +kernel)
  | bl b => exact kit_ty (a := "bool") (b := "str") (r := false) (by decide +kernel)
  | int i => exact kit_ty (a := "int") (b := "str") (r := false) (by decide +kernel)
  | str x => exact kit_ty (a := "str") (b := "str") (r := true) (by decide +kernel)
  | lst _ _ => exact kit_ty (a := "list") (b := "str") (r := false) (by decide +kernel)
  | tup _ _ => exact kit_ty (a := "tuple") (b := "str") (r := false) (by decide +kernel)
theorem kit_tup {K : PySem.W.Frag} {H : Hp} {v : V} {d : PyData} (h : Dp K H v d) : PySem.W.kitOne K (tyD d) (.type "tuple") = some (isTupD d) := by
  cases h with
  | non => exact kit_ty (a := "NoneType") (b := "tuple") (r := false) (by decide +kernel)
  | bl b => exact kit_ty (a := "bool") (b := "tuple") (r := false) (by decide +kernel)
  | int i => exact kit_ty (a := "int") (b := "tuple") (r := false) (by decide +kernel)
  | str x => exact kit_ty (a := "str") (b := "tuple") (r := false) (by decide +kernel)
  | lst _ _ => exact kit_ty (a := "list") (b := "tuple") (r := false) (by decide +kernel)
  | tup _ _ => exact kit_ty (a := "tuple") (b := "tuple") (r := true) (by decide +kernel)
theorem dpa_all {K : PySem.W.Frag} {H : Hp} : ∀ {xs : List V} {ds : List PyData}, DpAll K H xs ds → All2 (Dp K H) xs ds
  | _, _, .nil => .nil
  | _, _, .cons h t => .cons h (dpa_all t)
mutual
theorem dp_same {K : PySem.W.Frag} {H H' : Hp} (s : Same H H') : ∀ {d : PyData} {v : V}, Dp K H v d → Dp K H' v d
  | _, _, .non => .non
  | _, _, .bl b => .bl b
  | _, _, .int i => .int i
  | _, _, .str x => .str x
  | _, _, .lst h a => .lst (lstSame s h) (dpa_same s a)
  | _, _, .tup h a => .tup (tupFix (Fix.of s) h) (dpa_same s a)
theorem dpa_same {K : PySem.W.Frag} {H H' : Hp} (s : Same H H') : ∀ {ds : List PyData} {xs : List V}, DpAll K H xs ds → DpAll K H' xs ds
  | _, _, .nil => .nil
  | _, _, .cons h t => .cons (dp_same s h) (dpa_same s t)
end
/-- whether a text is a name -/
def nmB (x : Str) : Bool := decide (x.length ≤ 8) && (Txt.isascii x && (Txt.isalpha x && Txt.islower x))
def nmD : PyData → Bool
  | .str x => nmB x
  | _ => false
/-- texts that are short -/
def ShortD : PyData → Prop
  | .str x => x.length ≤ 1000
  | _ => True
theorem inV_strs (x : Str) (ns : List Str) : inV (.str x) (ns.map V.str) = decide (x ∈ ns) := by
  unfold inV
  rw [List.any_map]
  induction ns with
  | nil => simp
  | cons y r ih =>
    rw [List.any_cons, ih]
    show (eqV (.str y) (.str x) || decide (x ∈ r)) = _
    have e : eqV (.str y) (.str x) = decide (x = y) := by
      show decide (_ = _) = _
      exact decide_eq_decide.mpr ⟨fun h => h.symm, fun h => h.symm⟩
    rw [e]
    simp [List.mem_cons]
theorem flat_strs (ns : List Str) : (ns.map V.str).all flatV = true := by rw [List.all_map]; exact List.all_eq_true.mpr fun _ _ => rfl
theorem in_strs {K : PySem.W.Frag} {H : Hp} {a : Addr} {ns : List Str} {x : Str} {Q : VK} (h : SqX K H a (ns.map V.str)) (q : Q (.bl (decide (x ∈ ns))) H) : rIn K false (.str x) (.ref a) H Q :=
  ⟨a, _, rfl, h, rfl, flat_strs ns, by rw [inV_strs]; exact q⟩
section
variable {P : Program} {w : World} {K : PySem.W.Frag} {mg : Str → Option Value} {base : Heap}
/-! ### is_name -/
abbrev s_is_name : Stmt := top 6
theorem sc_is_name : FnScope ["value"] ["value"] (defScope s_is_name) := ⟨rfl, rfl, rfl, by decide +kernel, rfl, by decide +kernel, by decide +kernel⟩
def spIsName (K : PySem.W.Frag) : Sp := fun vs H Q _ => ∃ (v : V) (d : PyData), vs = [v] ∧ Dp K H v d ∧ ShortD d ∧ Q (.bl (nmD d)) H
theorem ok_is_name {f : Addr} {fd : FuncData} (F : Fun K "is_name" "is_name" s_is_name f fd) {tk : Tok} (g_LETTERS : mg "LETTERS" = some (.int 8 tk)) (n_isinstance : mg "isinstance" = none) (n_len : mg "len" = none) (n_str : mg "str" = none) : FnOk P w K mg base CX0 1 f fd ["value"] (spIsName K) := by
  refine F.ok sc_is_name (fun vs H Q E h => ?_) (fun cdv A outer s H vs Q E hr h => ?_)
  · obtain ⟨_, _, rfl, _⟩ := h
    rfl
  · obtain ⟨v, d, rfl, hv, sh, q⟩ := h
    refine ⟨_, (Evl.pss_cut (ps_if (PW.pt (pw_or (pt_not (pt_val (pe_callB call_isi (by rfl) n_isinstance (by decide +kernel) (pa_cons (pv 0) (pa_cons (pe_bltn (v := .ty "str") (by rfl) n_str (by decide +kernel) rfl) pa_nil))))) (pw_or1 (pt_cmpR op_gt (pe_callB call_len_str (by rfl) n_len PySem.boot_len (pa_cons (pv 0) pa_nil)) (pe_glob (v := .int 8) rfl g_LETTERS ⟨_, rfl⟩) (nomark _))))) (pss_one (ps_ret pe_bl)) pss_nil)
    (pss_one (ps_ret (pe_and (pe_bm0 PySem.F.plainAttrs_str PySem.F.slot_str_isascii PySem.F.type_str_isascii mt_isascii (pv 0)) (pe_and (pe_bm0 PySem.F.plainAttrs_str PySem.F.slot_str_isalpha PySem.F.type_str_isalpha mt_isalpha (pv 0)) (pe_one (pe_bm0 PySem.F.plainAttrs_str PySem.F.slot_str_islower PySem.F.type_str_islower mt_islower (pv 0)))))))), ?_⟩
    have ty := ty_dp hv
    have kt := kit_str hv
    cases hv with
    | str x =>
      have sh : x.length ≤ 1000 := sh
      have q : Q (.bl (nmB x)) H := q
      refine ⟨fun σ H' => σ = [some (.str x)] ∧ H' = H ∧ x.length ≤ 8, ?_, ?_⟩
      · refine ⟨_, rfl, .str x, .ty "str", _, _, _, rfl, .ty "str", ty, kt, true, rfl, iteF ?_⟩
        refine ⟨_, rfl, _, rfl, by rw [sizeLine_eq]; omega, _, _, rfl, rfl, _, rfl, ?_⟩
        by_cases c : x.length ≤ 8
        · rw [decide_eq_false (by omega)]
          exact iteF ⟨rfl, rfl, c⟩
        · rw [decide_eq_true (by omega)]
          refine iteT ?_
          have : nmB x = false := by unfold nmB; rw [decide_eq_false c]; rfl
          rw [this] at q
          exact q
      rintro σ H' ⟨rfl, rfl, c⟩
      unfold nmB at q
      rw [decide_eq_true c, Bool.true_and] at q
      refine ⟨_, rfl, rfl, _, rfl, rfl, trivial, _, rfl, ?_⟩
      cases c1 : Txt.isascii x with
      | false => rw [c1] at q; exact iteF q
      | true =>
        rw [c1, Bool.true_and] at q
        refine iteT ⟨_, rfl, rfl, _, rfl, rfl, trivial, _, rfl, ?_⟩
        cases c2 : Txt.isalpha x with
        | false => rw [c2] at q; exact iteF q
        | true =>
          rw [c2, Bool.true_and] at q
          exact iteT ⟨_, rfl, rfl, _, rfl, rfl, trivial, q⟩
    | _ =>
      exact ⟨fun _ _ => False, ⟨_, rfl, _, .ty "str", _, _, _, rfl, .ty "str", ty, kt, _, rfl, iteT q⟩, fun _ _ h => h.elim⟩
/-! ### thin_lot -/
abbrev s_thin_lot : Stmt := top 8
theorem sc_thin_lot : FnScope ["lot", "names", "name"] ["lot", "names"] (defScope s_thin_lot) := ⟨rfl, rfl, rfl, by decide +kernel, rfl, by decide +kernel, by decide +kernel⟩
def spThin (K : PySem.W.Frag) : Sp := fun vs H Q _ => ∃ (a b : Addr) (xs ys : List Str), vs = [.ref a, .ref b] ∧ SqT K H a (xs.map V.str) ∧ SqT K H b (ys.map V.str) ∧ xs.length ≤ 1000 ∧ ∀ p H', Same H H' → H' p = some (.tup ((xs.filter fun x => decide (x ∈ ys)).map V.str)) → Q (.ref p) H'
theorem ok_thin_lot {f : Addr} {fd : FuncData} (F : Fun K "thin_lot" "thin_lot" s_thin_lot f fd) (n_tuple : mg "tuple" = none) : FnOk P w K mg base CX0 1 f fd ["lot", "names"] (spThin K) := by
  refine F.ok sc_thin_lot (fun vs H Q E h => ?_) (fun cdv A outer s H vs Q E hr h => ?_)
  · obtain ⟨_, _, _, _, rfl, _⟩ := h
    rfl
  · obtain ⟨a, b, xs, ys, rfl, ha, hb, l, q⟩ := h
    refine ⟨_, (pss_one (ps_ret (pe_callTy call_tuple_of (by rfl) n_tuple (by decide +kernel) (pa_cons (pe_lc (own := [("name", 2)]) (g := gName 2) rfl sc_thin_lot.nd (pi_seq (pv 0)) (blkOk_by (N := ["lot", "names", "name"]) (sc := defScope s_thin_lot) (by decide +kernel)) (fun _ _ _ _ _ => pg_name (i := 2) sc_thin_lot.nd rfl (Or.inl rfl)) (fun _ _ _ _ _ => pts_one (pt_cmpR (r := rIn K false) op_in_seq (pv 2) (pv 1) rfl)) (fun _ _ _ _ _ => pv 2)) pa_nil)))), ?_⟩
    refine ⟨_, rfl, a, _, rfl, .inr ha, fun J S W s0 D hD => ?_⟩
    refine lc_mf (ds := xs) W (fun x => decide (x ∈ ys)) (fun _ y d => y = .str d) s0 hD (by simp) (fun i x d H' ex ed s m => ?_) (fun H' zs s e al => ?_)
    · rw [at_map ex ed]
      refine ⟨rfl, _, rfl, _, rfl, in_strs (.inr (tupFix (Fix.of s) hb)) ⟨_, rfl, ?_⟩⟩
      cases c : decide (d ∈ ys) with
      | true => exact iteT ⟨_, rfl, mf_yes m hD (fun _ _ _ _ _ h => h) ed (by omega) (Same.refl _) c rfl⟩
      | false => exact iteF (mf_no m (fun _ _ _ _ _ h => h) ed (Same.refl _) c)
    · have ez := al.map_eq (f := V.str) fun _ _ h => h
      rw [ez] at e
      exact ⟨D, _, rfl, .inl ⟨SqL.of e, fun l hl => q l _ (s.trans (same_new hl _)) upd_same⟩⟩
/-! ### is_part -/
/-- whether all of a lot is in another one -/
def prt (xs ys : List Str) : Bool := xs.all fun x => decide (x ∈ ys)
theorem prt_len (xs ys : List Str) : (decide (V.int ((xs.filter fun x => decide (x ∈ ys)).length : Nat) = V.int (xs.length : Nat))) = prt xs ys := by
  unfold prt
  rw [Bool.eq_iff_iff, decide_eq_true_iff, List.all_eq_true]
  constructor
  · intro e
    rw [← List.length_filter_eq_length_iff]
    injection e with e
    exact Int.ofNat_inj.mp e
  · intro e
    rw [List.length_filter_eq_length_iff.mpr e]
abbrev s_is_part : Stmt := top 13
theorem sc_is_part : FnScope ["lot", "other"] ["lot", "other"] (defScope s_is_part) := ⟨rfl, rfl, rfl, by decide +kernel, rfl, by decide +kernel, by decide +kernel⟩
def spPart (K : PySem.W.Frag) : Sp := fun vs H Q _ => ∃ (a b : Addr) (xs ys : List Str), vs = [.ref a, .ref b] ∧ SqT K H a (xs.map V.str) ∧ SqT K H b (ys.map V.str) ∧ xs.length ≤ 1000 ∧ ∀ H', Same H H' → Q (.bl (prt xs ys)) H'
theorem ok_is_part {f : Addr} {fd : FuncData} (F : Fun K "is_part" "is_part" s_is_part f fd) (C_thin_lot : Cl P w K mg base "thin_lot" ["lot", "names"] [] 1 (spThin K)) (n_len : mg "len" = none) : FnOk P w K mg base CX0 2 f fd ["lot", "other"] (spPart K) := by
  refine F.ok sc_is_part (fun vs H Q E h => ?_) (fun cdv A outer s H vs Q E hr h => ?_)
  · obtain ⟨_, _, _, _, rfl, _⟩ := h
    rfl
  · obtain ⟨a, b, xs, ys, rfl, ha, hb, l, q⟩ := h
    refine ⟨_, (pss_one (ps_ret (pe_cmpR op_eq (pe_callB call_len_seq (by rfl) n_len PySem.boot_len (pa_cons (pe_use C_thin_lot (hr.mono (by decide)) rfl (pa_cons (pv 0) (pa_cons (pv 1) pa_nil))) pa_nil)) (pe_callB call_len_seq (by rfl) n_len PySem.boot_len (pa_cons (pv 0) pa_nil)) (nomark _)))), ?_⟩
    refine ⟨_, rfl, _, rfl, a, b, xs, ys, rfl, ha, hb, l, fun p H' s e => ?_⟩
    refine ⟨p, _, rfl, .inr (SqT.of e), _, rfl, a, _, rfl, .inr (tupFix (Fix.of s) ha), ?_⟩
    refine ⟨rfl, ?_⟩
    rw [List.length_map, List.length_map, prt_len]
    exact q H' s
end
end K6

namespace K6
open PySem PySem.Spec PyProof.Rows L2 Hb St Sq Ow En Zp RZ Rd
/-! ### lots and tales, of any data -/
def ascD : List PyData → Bool
  | .str x :: .str y :: r => decide (x.cps.toList < y.cps.toList) && ascD (.str y :: r)
  | _ => true
def lotD : PyData → Bool
  | .tuple ds => !ds.isEmpty && (ds.all nmD && ascD ds)
  | _ => false
def taleD : PyData → Bool
  | .tuple ds => ds.all lotD
  | _ => false
def ltD : PyData × PyData → Bool
  | (.str x, .str y) => decide (x.cps.toList < y.cps.toList)
  | _ => true
theorem nm_str {d : PyData} (h : nmD d = true) : ∃ x, d = .str x ∧ nmB x = true := by
  cases d with
  | str x => exact ⟨x, rfl, h⟩
  | _ => cases h
theorem asc_zip : ∀ (d : PyData) (ds : List PyData), (d :: ds).all nmD = true → (((d :: ds).zip ds).all ltD) = ascD (d :: ds)
  | d, [], h => by
    obtain ⟨x, rfl, _⟩ := nm_str (List.all_eq_true.mp h d List.mem_cons_self)
    rfl
  | d, e :: ds, h => by
    obtain ⟨x, rfl, _⟩ := nm_str (List.all_eq_true.mp h d List.mem_cons_self)
    have h' : (e :: ds).all nmD = true := by
      rw [List.all_cons, Bool.and_eq_true] at h
      exact h.2
    obtain ⟨y, rfl, _⟩ := nm_str (List.all_eq_true.mp h' e List.mem_cons_self)
    have ih := asc_zip (.str y) ds h'
    rw [List.zip_cons_cons, List.all_cons, ih]
    rfl
theorem bl_map {α : Type} {ys : List V} {ds : List α} {f : α → Bool} (h : All2 (fun (y : V) (d : α) => y = .bl (f d)) ys ds) : ys = (ds.map f).map V.bl := by
  rw [List.map_map]
  exact h.map_eq fun a b e => e
theorem at2 {α β : Type} {R : α → β → Prop} {as : List α} {bs : List β} (h : All2 R as bs) {i : Nat} {a : α} {b : β} (ha : as[i]? = some a) (hb : bs[i]? = some b) : R a b := by
  obtain ⟨b', hb', r⟩ := h.get ha
  rw [hb] at hb'
  rw [Option.some.inj hb']
  exact r
theorem all_map {α : Type} (f : α → Bool) (l : List α) : (l.map f).all id = l.all f := by
  rw [List.all_map]; rfl
section
variable {P : Program} {w : World} {K : PySem.W.Frag} {mg : Str → Option Value} {base : Heap}
/-! ### is_lot -/
abbrev s_is_lot : Stmt := top 10
theorem sc_is_lot : FnScope ["value", "one", "other", "name"] ["value"] (defScope s_is_lot) := ⟨rfl, rfl, rfl, by decide +kernel, rfl, by decide +kernel, by decide +kernel⟩
/-- data with short rows and texts -/
def Sm1 : PyData → Prop
  | .tuple ds => ds.length ≤ 1000 ∧ ∀ d ∈ ds, ShortD d
  | _ => True
def spIsLot (K : PySem.W.Frag) : Sp := fun vs H Q _ => ∃ (v : V) (d : PyData), vs = [v] ∧ Dp K H v d ∧ Sm1 d ∧ ∀ H', Same H H' → Q (.bl (lotD d)) H'
theorem ok_is_lot {f : Addr} {fd : FuncData} (F : Fun K "is_lot" "is_lot" s_is_lot f fd) (C_is_name : Cl P w K mg base "is_name" ["value"] [] 1 (spIsName K)) (n_all : mg "all" = none) (n_isinstance : mg "isinstance" = none) (n_len : mg "len" = none) (n_tuple : mg "tuple" = none) (n_zip : mg "zip" = none) : FnOk P w K mg base CX0 2 f fd ["value"] (spIsLot K) := by
  refine F.ok sc_is_lot (fun vs H Q E h => ?_) (fun cdv A outer s H vs Q E hr h => ?_)
  · obtain ⟨_, _, rfl, _⟩ := h
    rfl
  · obtain ⟨v, d, rfl, hv, sm, q⟩ := h
    refine ⟨_, (Evl.pss_cut (ps_if (PW.pt (pw_or (pt_not (pt_val (pe_callB call_isi (by rfl) n_isinstance (by decide +kernel) (pa_cons (pv 0) (pa_cons (pe_bltn (v := .ty "tuple") (by rfl) n_tuple (by decide +kernel) rfl) pa_nil))))) (pw_or (pt_cmpR op_eq (pe_callB call_len_seq (by rfl) n_len PySem.boot_len (pa_cons (pv 0) pa_nil)) pe_int (nomark _)) (pw_or1 (pt_not (pt_val (pe_callB (cr_all rfl) (by rfl) n_all (by decide +kernel) (pa_cons (pe_lc (own := [("name", 3)]) (g := gName 3) rfl sc_is_lot.nd (pi_seq (pv 0)) (blkOk_by (N := ["value", "one", "other", "name"]) (sc := defScope s_is_lot) (by decide +kernel)) (fun _ _ _ _ _ => pg_name (i := 3) sc_is_lot.nd rfl (Or.inl rfl)) (fun _ _ _ _ _ => pts_nil) (fun _ _ _ _ _ => pe_use C_is_name (hr.mono (by decide)) rfl (pa_cons (pv 3) pa_nil))) pa_nil)))))))) (pss_one (ps_ret pe_bl)) pss_nil)
    (pss_one (ps_ret (pe_callB (cr_all rfl) (by rfl) n_all (by decide +kernel) (pa_cons (pe_lc (own := [("one", 1), ("other", 2)]) (g := gTup K 2 (gCons (gName 1) (gCons (gName 2) gNil))) rfl sc_is_lot.nd (pi_zipA (by rfl) n_zip (pa_cons (pv 0) (pa_cons (pe_slice (r := rSlA K) sl_tupA (pv 0) (po_some pe_int) po_none) pa_nil))) (blkOk_by (N := ["value", "one", "other", "name"]) (sc := defScope s_is_lot) (by decide +kernel)) (fun _ _ _ _ _ => pg_tup rfl (pgs_cons (pg_name (i := 1) sc_is_lot.nd rfl (Or.inl rfl)) (pgs_cons (pg_name (i := 2) sc_is_lot.nd rfl (Or.inl rfl)) pgs_nil))) (fun _ _ _ _ _ => pts_nil) (fun _ _ _ _ _ => pe_cmpR op_lt_str (pv 1) (pv 2) (nomark _))) pa_nil))))), ?_⟩
    have ty := ty_dp hv
    have kt := kit_tup hv
    cases hv with
    | @tup a xs ds ht ha =>
      have al := dpa_all ha
      have sm : ds.length ≤ 1000 ∧ ∀ d ∈ ds, ShortD d := sm
      have hl := al.len
      have q : ∀ H', Same H H' → Q (.bl (!ds.isEmpty && (ds.all nmD && ascD ds))) H' := q
      refine ⟨fun σ H' => σ = [some (.ref a), none, none, none] ∧ Same H H' ∧ ds ≠ [] ∧ ds.all nmD = true, ?_, ?_⟩
      · refine ⟨_, rfl, _, .ty "tuple", _, _, _, rfl, .ty "tuple", ty, kt, true, rfl, iteF ?_⟩
        refine ⟨_, rfl, a, _, rfl, .inr ht, rfl, _, rfl, ?_⟩
        by_cases c : ds = []
        · subst c
          have ex : xs = [] := List.eq_nil_of_length_eq_zero (by rw [hl]; rfl)
          subst ex
          exact iteT (q _ (Same.refl _))
        · have nl : xs.length ≠ 0 := fun e => c (List.eq_nil_of_length_eq_zero (by rw [← hl]; exact e))
          rw [decide_eq_false (fun e => nl (by injection e with e; omega))]
          refine iteF ⟨_, rfl, a, _, rfl, .inr ht, fun J S W s0 D hD => ?_⟩
          refine lc_mf (ds := ds) W (fun _ => true) (fun _ y d => y = .bl (nmD d)) s0 hD hl (fun i x d H' ex ed s m => ?_) (fun H' ys s e al2 => ?_)
          · refine ⟨rfl, _, rfl, x, d, rfl, dp_same s (at2 al ex ed), sm.2 d (at_mem ed), ?_⟩
            exact mf_yes m hD (fun _ _ _ _ _ h => h) ed (by omega) (Same.refl _) rfl rfl
          · rw [Rd.filter_all] at al2
            have ey := bl_map al2
            refine ⟨D, _, rfl, SqL.of (by rw [← ey]; exact e), _, rfl, ?_⟩
            rw [all_map]
            cases c2 : ds.all nmD with
            | true => exact iteF ⟨rfl, s, c, rfl⟩
            | false =>
              have q := q H' s
              rw [c2, Bool.false_and, Bool.and_false] at q
              exact iteT q
      rintro σ H1 ⟨rfl, s1, ne, nm⟩
      cases al with
      | nil => exact absurd rfl ne
      | @cons x0 d0 xr dr r0 rr =>
      have h1 := tupFix (Fix.of s1) ht
      refine ⟨_, rfl, ?_⟩
      refine rd_slc rfl h1 fun p H2 hp s2 e2 => ?_
      have h2 := tupFix (Fix.of s2) h1
      refine ⟨a, p, _, _, rfl, .inr ⟨h2, SqT.of e2, fun D hD => ?_⟩⟩
      have aw : All2 (Dp K H) (x0 :: xr) (d0 :: dr) := .cons r0 rr
      refine lc_mp wp_tup (ds := (d0 :: dr).zip dr) (fun _ => true) (fun _ y p => y = .bl (ltD p)) ⟨h2, SqT.of e2⟩ hD (by rw [List.length_zip, List.length_zip, aw.len, rr.len]) (fun _ _ _ _ _ h => h) (fun i T pr d H3 ep ed s3 eT m => ?_) (fun H3 ys s3 e al2 => ?_)
      · obtain ⟨p1, p2⟩ := pr
        obtain ⟨d1, d2⟩ := d
        obtain ⟨ea, eb⟩ := List.getElem?_zip_eq_some.mp ep
        obtain ⟨ga, gb⟩ := List.getElem?_zip_eq_some.mp ed
        have w1 := at2 aw ea ga
        have w2 := at2 rr eb gb
        obtain ⟨x, rfl, _⟩ := nm_str (List.all_eq_true.mp nm d1 (at_mem ga))
        obtain ⟨y, rfl, _⟩ := nm_str (List.all_eq_true.mp nm d2 (List.mem_cons_of_mem _ (at_mem gb)))
        cases w1
        cases w2
        refine ⟨T, _, rfl, SqT.of eT, rfl, _, _, rfl, _, _, rfl, rfl, rfl, _, rfl, _, rfl, _, _, rfl, rfl, ?_⟩
        exact mf_yes m hD (fun _ _ _ _ _ h => h) ed (by rw [List.length_zip]; have := sm.1; rw [List.length_cons] at this; omega) (Same.refl _) rfl rfl
      · rw [Rd.filter_all] at al2
        have ey := bl_map al2
        refine ⟨D, _, rfl, SqL.of (by rw [← ey]; exact e), ?_⟩
        rw [all_map, asc_zip _ _ nm]
        have q := q H3 ((s1.trans s2).trans s3)
        rw [nm] at q
        exact q
    | _ =>
      exact ⟨fun _ _ => False, ⟨_, rfl, _, .ty "tuple", _, _, _, rfl, .ty "tuple", ty, kt, _, rfl, iteT (q _ (Same.refl _))⟩, fun _ _ h => h.elim⟩
/-! ### is_tale -/
abbrev s_is_tale : Stmt := top 11
theorem sc_is_tale : FnScope ["value", "lot"] ["value"] (defScope s_is_tale) := ⟨rfl, rfl, rfl, by decide +kernel, rfl, by decide +kernel, by decide +kernel⟩
def Sm2 : PyData → Prop
  | .tuple ds => ds.length ≤ 1000 ∧ ∀ d ∈ ds, Sm1 d
  | _ => True
def spIsTale (K : PySem.W.Frag) : Sp := fun vs H Q _ => ∃ (v : V) (d : PyData), vs = [v] ∧ Dp K H v d ∧ Sm2 d ∧ ∀ H', Same H H' → Q (.bl (taleD d)) H'
theorem ok_is_tale {f : Addr} {fd : FuncData} (F : Fun K "is_tale" "is_tale" s_is_tale f fd) (C_is_lot : Cl P w K mg base "is_lot" ["value"] [] 2 (spIsLot K)) (n_all : mg "all" = none) (n_isinstance : mg "isinstance" = none) (n_tuple : mg "tuple" = none) : FnOk P w K mg base CX0 3 f fd ["value"] (spIsTale K) := by
  refine F.ok sc_is_tale (fun vs H Q E h => ?_) (fun cdv A outer s H vs Q E hr h => ?_)
  · obtain ⟨_, _, rfl, _⟩ := h
    rfl
  · obtain ⟨v, d, rfl, hv, sm, q⟩ := h
    refine ⟨_, (pss_one (ps_ret (pe_and (pe_callB call_isi (by rfl) n_isinstance (by decide +kernel) (pa_cons (pv 0) (pa_cons (pe_bltn (v := .ty "tuple") (by rfl) n_tuple (by decide +kernel) rfl) pa_nil))) (pe_one (pe_callB (cr_all rfl) (by rfl) n_all (by decide +kernel) (pa_cons (pe_lc (own := [("lot", 1)]) (g := gName 1) rfl sc_is_tale.nd (pi_seq (pv 0)) (blkOk_by (N := ["value", "lot"]) (sc := defScope s_is_tale) (by decide +kernel)) (fun _ _ _ _ _ => pg_name (i := 1) sc_is_tale.nd rfl (Or.inl rfl)) (fun _ _ _ _ _ => pts_nil) (fun _ _ _ _ _ => pe_use C_is_lot (hr.mono (by decide)) rfl (pa_cons (pv 1) pa_nil))) pa_nil)))))), ?_⟩
    have ty := ty_dp hv
    have kt := kit_tup hv
    cases hv with
    | @tup a xs ds ht ha =>
      have al := dpa_all ha
      have sm : ds.length ≤ 1000 ∧ ∀ d ∈ ds, Sm1 d := sm
      have hl := al.len
      have q : ∀ H', Same H H' → Q (.bl (ds.all lotD)) H' := q
      refine ⟨_, rfl, _, .ty "tuple", _, _, _, rfl, .ty "tuple", ty, kt, true, rfl, iteT ?_⟩
      refine ⟨_, rfl, a, _, rfl, .inr ht, fun J S W s0 D hD => ?_⟩
      refine lc_mf (ds := ds) W (fun _ => true) (fun _ y d => y = .bl (lotD d)) s0 hD hl (fun i x d H' ex ed s m => ?_) (fun H' ys s e al2 => ?_)
      · refine ⟨rfl, _, rfl, x, d, rfl, dp_same s (at2 al ex ed), sm.2 d (at_mem ed), fun H2 s2 => ?_⟩
        exact mf_yes m hD (fun _ _ _ _ _ h => h) ed (by omega) s2 rfl rfl
      · rw [Rd.filter_all] at al2
        have ey := bl_map al2
        refine ⟨D, _, rfl, SqL.of (by rw [← ey]; exact e), ?_⟩
        rw [all_map]
        exact q H' s
    | _ =>
      exact ⟨_, rfl, _, .ty "tuple", _, _, _, rfl, .ty "tuple", ty, kt, _, rfl, iteF (q _ (Same.refl _))⟩
end
end K6

namespace K6
open PySem PySem.Spec PyProof.Rows L2 Hb St Sq Ow En Zp RZ Rd
/-! ### tales as rows of texts -/
def TupS (K : PySem.W.Frag) (H : Hp) (v : V) (l : List Str) : Prop := ∃ b, v = .ref b ∧ SqT K H b (l.map V.str)
def LT (K : PySem.W.Frag) (H : Hp) (a : Addr) (ls : List (List Str)) : Prop := ∃ its, H a = some (.tup its) ∧ All2 (TupS K H) its ls
theorem TupS.fix {K : PySem.W.Frag} {H H' : Hp} {v : V} {l : List Str} (h : TupS K H v l) (f : Fix H H') : TupS K H' v l := let ⟨b, e, t⟩ := h; ⟨b, e, tupFix f t⟩
theorem not_mut_tup (xs : List V) : ¬ Mut (.tup xs) := by
  rintro (⟨_, e⟩ | ⟨_, e⟩) <;> cases e
theorem LT.fix {K : PySem.W.Frag} {H H' : Hp} {a : Addr} {ls : List (List Str)} (h : LT K H a ls) (f : Fix H H') : LT K H' a ls :=
  let ⟨its, e, al⟩ := h; ⟨its, f _ _ e (not_mut_tup _), al.imp fun _ _ t => t.fix f⟩
def natV (i : Nat) : V := .int (i : Nat)
def okL (ls : List (List Str)) (h : List Str) (i : Nat) : Bool := prt h (ls.getD i [])
theorem gr_cons_some {β : Type} {n : Nat} {ok : β → Nat → Bool} {h : β} {hs : List β} {k a : Nat} (e : Ks.fst n ok k h = some a) : Ks.gr n ok (h :: hs) k = a :: Ks.gr n ok hs (a + 1) := by
  show (match Ks.fst n ok k h with | none => [] | some a => a :: Ks.gr n ok hs (a + 1)) = _
  rw [e]
theorem gr_cons_none {β : Type} {n : Nat} {ok : β → Nat → Bool} {h : β} {hs : List β} {k : Nat} (e : Ks.fst n ok k h = none) : Ks.gr n ok (h :: hs) k = [] := by
  show (match Ks.fst n ok k h with | none => [] | some a => a :: Ks.gr n ok hs (a + 1)) = _
  rw [e]
section
variable {P : Program} {w : World} {K : PySem.W.Frag} {mg : Str → Option Value} {base : Heap}
/-! ### least_laying -/
abbrev s_least_laying : Stmt := top 14
theorem sc_least_laying : FnScope ["lots", "heard", "laying", "number", "lot"] ["lots", "heard"] (defScope s_least_laying) := ⟨rfl, rfl, rfl, by decide +kernel, rfl, by decide +kernel, by decide +kernel⟩
def spLay (K : PySem.W.Frag) : Sp := fun vs H Q _ => ∃ (a b : Addr) (ls hs : List (List Str)), vs = [.ref a, .ref b] ∧ LT K H a ls ∧ LT K H b hs ∧ ls.length ≤ 1000 ∧ hs.length ≤ 1000 ∧ (∀ h ∈ hs, h.length ≤ 1000) ∧
  ∀ p H', Same H H' → H' p = some (.lst ((Ks.gr ls.length (okL ls) hs 0).map natV)) → Q (.ref p) H'
theorem ok_least {f : Addr} {fd : FuncData} (F : Fun K "least_laying" "least_laying" s_least_laying f fd) (C_is_part : Cl P w K mg base "is_part" ["lot", "other"] [] 2 (spPart K)) (n_len : mg "len" = none) : FnOk P w K mg base CX0 3 f fd ["lots", "heard"] (spLay K) := by
  refine F.ok sc_least_laying (fun vs H Q E h => ?_) (fun cdv A outer s H vs Q E hr h => ?_)
  · obtain ⟨_, _, _, _, rfl, _⟩ := h
    rfl
  · obtain ⟨a, b, ls, hs, rfl, ha, hb, l1, l2, l3, q⟩ := h
    refine ⟨_, (pss_cons (ps_set (i := 2) sc_least_laying.nd rfl (Or.inl rfl) (pe_lst pa_nil))
    (pss_cons (ps_set (i := 3) sc_least_laying.nd rfl (Or.inl rfl) pe_int)
    (Evl.pss_cut (ps_for PassesOwn.never rfl (pi_seq (pv 1)) (pg_name (i := 4) sc_least_laying.nd rfl (Or.inl rfl))
      (Evl.pss_cut (ps_while PassesOwn.never (PW.pt (pw_and (pt_cmpR op_lt (pv 3) (pe_callB call_len_seq (by rfl) n_len PySem.boot_len (pa_cons (pv 0) pa_nil)) (nomark _)) (pw_and1 (pt_not (pt_val (pe_use C_is_part (hr.mono (by decide)) rfl (pa_cons (pv 4) (pa_cons (pe_ix ix_tup (pv 0) (pv 3) (fun _ _ => rfl)) pa_nil))))))))
      (pss_one (ps_aug (i := 3) sc_least_laying.nd rfl (Or.inl rfl) pe_int ip_add)))
    (Evl.pss_cut (ps_if (pt_cmpR op_eq (pv 3) (pe_callB call_len_seq (by rfl) n_len PySem.boot_len (pa_cons (pv 0) pa_nil)) (nomark _)) (pss_one (ps_ret (pv 2))) pss_nil)
    (pss_cons (ps_expr (pe_bm PySem.F.plainAttrs_list PySem.F.slot_list_append PySem.F.type_list_append mt_append (pv 2) (pa_cons (pv 3) pa_nil)))
    (pss_one (ps_aug (i := 3) sc_least_laying.nd rfl (Or.inl rfl) pe_int ip_add))))))
    (pss_one (ps_ret (pv 2)))))), ?_⟩
    refine ⟨by show 0 ≤ sizeLine; decide, fun p hp => ?_⟩
    have s0 := same_new hp (.lst [])
    have ep0 : upd H p (.lst []) p = some (.lst []) := upd_same
    have kin : ∀ H', Kept p (upd H p (.lst [])) H' → Same H H' := fun H' k x o e => k x o (s0 _ _ e) (ne_of_none e hp)
    generalize upd H p (.lst []) = H0 at s0 ep0 kin ⊢
    have ha0 := ha.fix (Fix.of s0)
    have hb0 := hb.fix (Fix.of s0)
    have na : a ≠ p := by obtain ⟨its, e, _⟩ := ha; exact ne_of_none e hp
    have nb : b ≠ p := by obtain ⟨its, e, _⟩ := hb; exact ne_of_none e hp
    let n := ls.length
    let ok := okL ls
    refine ⟨fun σ H' => (∃ k o, σ = [some (.ref a), some (.ref b), some (.ref p), some (.int k), o]) ∧ Kept p H0 H' ∧ H' p = some (.lst ((Ks.gr n ok hs 0).map natV)), ?_, ?_⟩
    · obtain ⟨bits, eb, alb⟩ := hb0
      refine ⟨_, rfl, b, _, rfl, .inr (SqT.of eb), fun J S W z0 => ?_⟩
      let Pv : Nat → L2.St → Hp → Prop := fun j σ H' => ∃ (k : Nat) (o : Option V) (laid : List Nat), σ = [some (.ref a), some (.ref b), some (.ref p), some (.int (k : Nat)), o] ∧ Kept p H0 H' ∧ H' p = some (.lst (laid.map natV)) ∧ k ≤ n ∧ laid ++ Ks.gr n ok (hs.drop j) k = Ks.gr n ok hs 0 ∧ laid.length ≤ j
      refine for_sq W Pv ⟨0, none, [], rfl, Kept.refl _ _, ep0, Nat.zero_le _, rfl, Nat.le_refl _⟩ (fun j σ H' pv => W.keep (fun o e => let ⟨_, _, _, _, k, _⟩ := pv; k _ _ e nb) z0) ?_ ?_
      · rintro j σ H1 y ey ⟨k, o, laid, rfl, k1, e1, kn, eg, lj⟩
        obtain ⟨h, eh, hy⟩ := alb.get ey
        have hj : j < hs.length := (List.getElem?_eq_some_iff.mp eh).1
        have lh := l3 h (at_mem eh)
        have edr : hs.drop j = h :: hs.drop (j + 1) := by rw [List.drop_eq_getElem_cons hj, (List.getElem?_eq_some_iff.mp eh).2]
        rw [edr] at eg
        let σW : Nat → L2.St := fun k2 => [some (.ref a), some (.ref b), some (.ref p), some (.int (k2 : Nat)), some y]
        refine ⟨fun σ H' => ∃ k2 : Nat, σ = σW k2 ∧ Kept p H0 H' ∧ H' p = some (.lst (laid.map natV)) ∧ k2 ≤ n ∧ k ≤ k2 ∧ (∀ i, k ≤ i → i < k2 → ok h i = false) ∧ (k2 = n ∨ ok h k2 = true), ?_, ?_⟩
        · refine ⟨fun m σ H' => ∃ k2 : Nat, m = n - k2 ∧ σ = σW k2 ∧ Kept p H0 H' ∧ H' p = some (.lst (laid.map natV)) ∧ k2 ≤ n ∧ k ≤ k2 ∧ (∀ i, k ≤ i → i < k2 → ok h i = false), ⟨n - k, k, rfl, rfl, k1, e1, kn, Nat.le_refl _, fun i h1 h2 => by omega⟩, ?_⟩
          rintro m σ H2 ⟨k2, rfl, rfl, k3, e3, kn2, kk, all⟩
          obtain ⟨aits, ea, ala⟩ := ha0.fix (Fix.kept ep0 k3)
          have la : aits.length = n := ala.len
          refine ⟨_, rfl, _, rfl, a, aits, rfl, .inr (SqT.of ea), _, _, rfl, rfl, _, rfl, ?_⟩
          rw [la]
          by_cases c : k2 < n
          · rw [decide_eq_true (show ((k2 : Nat) : Int) < (n : Nat) by omega)]
            refine iteT ?_
            obtain ⟨l, el⟩ : ∃ l, ls[k2]? = some l := ⟨_, List.getElem?_eq_getElem c⟩
            obtain ⟨z, ez, lb, rfl, hl⟩ := ala.getR el
            obtain ⟨hb', rfl, hhb⟩ := hy.fix (Fix.kept ep0 k3)
            refine ⟨_, rfl, _, rfl, _, rfl, a, aits, (k2 : Nat), .ref lb, rfl, rfl, SqT.of ea, atI_nat ez, hb', lb, h, l, rfl, hhb, hl, lh, fun H3 s3 => ?_⟩
            have eok : prt h l = ok h k2 := by show _ = prt h (ls.getD k2 []); rw [List.getD_eq_getElem?_getD, el]; rfl
            rw [eok]
            have k4 : Kept p H0 H3 := k3.trans fun x o e _ => s3 x o e
            refine ⟨_, rfl, ?_⟩
            cases cc : ok h k2 with
            | true => exact iteF ⟨k2, rfl, k4, s3 _ _ e3, kn2, kk, all, .inr cc⟩
            | false =>
              refine iteT ⟨fun σ H' => ∃ k2' : Nat, n - k2' < n - k2 ∧ σ = σW k2' ∧ Kept p H0 H' ∧ H' p = some (.lst (laid.map natV)) ∧ k2' ≤ n ∧ k ≤ k2' ∧ (∀ i, k ≤ i → i < k2' → ok h i = false), fun σ' H' ⟨k2', lt, r⟩ => ⟨_, lt, k2', rfl, r⟩, ?_⟩
              refine ⟨_, rfl, _, _, rfl, rfl, k2 + 1, by omega, ?_, k4, s3 _ _ e3, c, by omega, fun i h1 h2 => ?_⟩
              · rfl
              · by_cases e : i = k2
                · rw [e]; exact cc
                · exact all i h1 (by omega)
          · rw [decide_eq_false (show ¬ ((k2 : Nat) : Int) < (n : Nat) by omega)]
            exact iteF ⟨k2, rfl, k3, e3, kn2, kk, all, .inl (by omega)⟩
        rintro σ H2 ⟨k2, rfl, k3, e3, kn2, kk, all, fin⟩
        obtain ⟨aits, ea, ala⟩ := ha0.fix (Fix.kept ep0 k3)
        have la : aits.length = n := ala.len
        refine ⟨fun σ H' => σ = σW k2 ∧ H' = H2 ∧ k2 < n, ?_, ?_⟩
        · refine ⟨_, rfl, _, rfl, a, aits, rfl, .inr (SqT.of ea), rfl, _, rfl, ?_⟩
          rw [la]
          by_cases c : k2 = n
          · rw [decide_eq_true (by rw [c])]
            refine iteT ⟨_, rfl, ?_⟩
            have ef : Ks.fst n ok k h = none := Ks.fst_none.mpr fun i h1 h2 => all i h2 (by omega)
            rw [gr_cons_none ef, List.append_nil] at eg
            exact q p H2 (kin _ k3) (by rw [← eg]; exact e3)
          · rw [decide_eq_false (fun e => c (by injection e with e; omega))]
            exact iteF ⟨rfl, rfl, by omega⟩
        rintro σ H3 ⟨rfl, rfl, c⟩
        have okk : ok h k2 = true := fin.resolve_left (by omega)
        have ef : Ks.fst n ok k h = some k2 := Ks.fst_some.mpr ⟨⟨kk, okk⟩, c, fun i h1 h2 => all i h2 h1⟩
        rw [gr_cons_some ef] at eg
        have lenl : laid.length ≤ hs.length := by omega
        have app : (laid.map natV) ++ [natV k2] = (laid ++ [k2]).map natV := by rw [List.map_append]; rfl
        have k5 : Kept p H0 (upd H3 p (.lst ((laid ++ [k2]).map natV))) := fun x o e nx => by rw [upd_ne nx]; exact k3 x o e nx
        refine ⟨_, rfl, .inl ⟨rfl, _, SqL.of e3⟩, _, rfl, p, laid.map natV, natV k2, rfl, rfl, e3, by rw [List.length_map, sizeLine_eq]; omega, ?_⟩
        rw [app]
        refine ⟨_, rfl, _, _, rfl, rfl, k2 + 1, some y, laid ++ [k2], ?_, k5, upd_same, c, ?_, by rw [List.length_append]; show laid.length + 1 ≤ _; omega⟩
        · rfl
        · rw [List.append_assoc]
          exact eg
      · rintro σ H1 ⟨k, o, laid, rfl, k1, e1, kn, eg, lj⟩
        have ln : bits.length = hs.length := alb.len
        rw [ln, List.drop_length] at eg
        have eg : laid ++ [] = Ks.gr n ok hs 0 := eg
        rw [List.append_nil] at eg
        exact ⟨⟨k, o, rfl⟩, k1, by rw [← eg]; exact e1⟩
    rintro σ H1 ⟨⟨k, o, rfl⟩, k1, e1⟩
    exact ⟨_, rfl, q p H1 (kin _ k1) e1⟩
end
end K6

namespace K6
open PySem PySem.Spec PyProof.Rows L2 Hb St Sq Ow En Zp RZ Rd Xb
/-! ### a plain call of a def with a star -/
theorem pe_goR {X : Cx} {CX : CXT} {k : Nat} {f : Addr} {sp : Sp} {x : Str} {p pos : Pos} {e : Expr} {es : List Expr} {t : TA} {E : L2.St → XK} (F : FnR X.prog X.w X.K X.mg X.base CX k f sp) (hm : X.mg x = some (.ref f)) (hk : PySem.W.keepIn X.K (.ref f) = true) (hr : Room k X.A) (hx : ∀ σ, PassesAt CX X σ (E σ)) (hg : Gl X x) (ha : PA X (e :: es) t) (hdb : (x == ("__debug__" : Str)) = false := by decide)
    (he : starEach (e :: es) X.env = (false, eval e X.env) :: starEach es X.env := by rfl) (hpl : (backTo pos (starEach es X.env)).any (·.1) = false := by rfl) : PE X (.Call (.Name x p) (e :: es) [] pos) (tCallS sp E t) := by
  refine ⟨fun pins s σ H Q I h => wpAny_Call_Name_kw (ld_glob I hg hm ?_ hdb)⟩
  refine PySem.W.callWith_K (h₀ := X.base) I.ok.mod.kin hk (thn (ha.run pos pins s σ H _ I h) fun us s1 ⟨vs, H1, I1, r, q⟩ => ⟨I1.kIn, ?_⟩) he hpl
  refine wpAny_call (codeAny_mono (F X.A X.stack s1 H1 us vs Q (E σ) hr I1.env0 r q) fun r s' z => ?_)
  rcases r with u | (_ | _ | _ | v)
  · exact hx σ pins H1 s1 u s' I1 z
  · exact False.elim z
  · exact False.elim z
  · exact False.elim z
  · exact I1.after z
/-! ### need_tales -/
def firstNo (ds : List PyData) : Option Nat := ds.findIdx? fun d => !taleD d
section
variable {P : Program} {w : World} {K : PySem.W.Frag} {mg : Str → Option Value} {base : Heap}
abbrev s_need_tales : Stmt := top 12
theorem sc_need_tales : FnScope ["values", "at", "value"] [] (defScope s_need_tales) := ⟨rfl, rfl, rfl, by decide +kernel, rfl, by decide +kernel, by decide +kernel⟩
def errH (at_ : Int) : HO := .xd [(("at" : Str), .int at_)]
def spNeed (K : PySem.W.Frag) (C : Addr) : Sp := fun vs H Q E => ∃ (p : Addr) (xs : List V) (ds : List PyData), vs = [.ref p] ∧ H p = some (.tup xs) ∧ All2 (Dp K H) xs ds ∧ ds.length ≤ 1000 ∧ (∀ d ∈ ds, Sm2 d) ∧ (firstNo ds = none → ∀ H', Same H H' → Q .non H') ∧
  ∀ k, firstNo ds = some k → ∀ dd H', Same H H' → H' dd = some (errH (k : Nat)) → E (.ref C) (some dd) H'
def spNeedR (K : PySem.W.Frag) (C : Addr) : Sp := fun vs H Q E => ∃ ws rest : List V, vs = ws ++ rest ∧ ws.length = 0 ∧ rest.length ≤ sizeLine ∧ ∀ p : Addr, H p = none → spNeed K C (ws ++ [V.ref p]) (upd H p (.tup rest)) Q E
theorem sc_nt : FnScope ["values", "at", "value"] (([] : List Str) ++ [("values" : Str)]) (defScope s_need_tales) := ⟨rfl, rfl, rfl, by decide +kernel, rfl, by decide +kernel, by decide +kernel⟩
theorem ok_need {f C fI : Addr} {fd : FuncData} (F : Fun K "need_tales" "need_tales" s_need_tales f fd) (T : ErrC K mg "InvalidHeard" C fI) (C_is_tale : Cl P w K mg base "is_tale" ["value"] [] 3 (spIsTale K)) (n_enumerate : mg "enumerate" = none) : FnR P w K mg base (L2.CX P w) 4 f (spNeedR K C) := by
  obtain ⟨oc, od, kV, doc, pm, an, cdv, ct, osl, rfl, lk, hcd⟩ := F.ex
  refine StX.fn_star (ps := []) (pv := "values") (sp := spNeed K C) lk hcd sc_nt StX.cxUp (fun us rest hu => ?_) (fun A outer s H vs Q E hr h => ?_)
  · cases us with
    | nil => cases rest <;> rfl
    | cons _ _ => cases hu
  · obtain ⟨p, xs, ds, rfl, hp, al, dl, sm, q, e⟩ := h
    refine ⟨_, (pss_one (ps_for (passes_of rfl) rfl (pi_enumT (by rfl) n_enumerate (pa_cons (pv 0) pa_nil)) (pg_tup rfl (pgs_cons (pg_name (i := 1) sc_nt.nd rfl (Or.inl rfl)) (pgs_cons (pg_name (i := 2) sc_nt.nd rfl (Or.inl rfl)) pgs_nil)))
      (pss_one (ps_if (pt_not (pt_val (pe_use C_is_tale (hr.mono (by decide)) rfl (pa_cons (pv 2) pa_nil)))) (pss_one (ps_raiseAt rfl T hr (takes_of rfl rfl rfl rfl) (pa_cons (pv 1) pa_nil) rfl)) pss_nil)))), ?_⟩
    refine ⟨_, rfl, p, rfl, ⟨xs, SqT.of hp⟩, ?_⟩
    refine for_en en_tup (fun i σ H' => (∃ o1 o2, σ = [some (.ref p), o1, o2]) ∧ Same H H' ∧ ∀ d ∈ ds.take i, taleD d = true) ⟨⟨none, none, rfl⟩, Same.refl _, fun d hd => by cases hd⟩ (fun i σ H' pv => SqT.of (pv.2.1 _ _ hp)) ?_ ?_
    · rintro i σ H1 x t ex ⟨⟨o1, o2, rfl⟩, s1, all⟩ ht
      have s2 := same_new ht (.tup [.int (i : Nat), x])
      refine ⟨t, _, rfl, SqT.of upd_same, rfl, _, _, rfl, _, _, rfl, rfl, ?_⟩
      generalize upd H1 t (.tup [.int (i : Nat), x]) = H2 at s2 ⊢
      obtain ⟨d, ed, hd⟩ := al.get ex
      refine ⟨_, rfl, x, d, rfl, dp_same (s1.trans s2) hd, sm d (at_mem ed), fun H3 s3 => ⟨_, rfl, ?_⟩⟩
      have s13 := (s1.trans s2).trans s3
      cases c : taleD d with
      | true =>
        refine iteF ⟨⟨_, _, rfl⟩, s13, fun d' hd' => ?_⟩
        rw [List.take_add_one, ed] at hd'
        rcases List.mem_append.mp hd' with z | z
        · exact all d' z
        · rw [List.mem_singleton.mp z]; exact c
      | false =>
        refine iteT ⟨_, rfl, _, rfl, fun dd hn => ?_⟩
        refine e i ?_ dd _ (s13.trans (same_new hn _)) upd_same
        unfold firstNo
        rw [List.findIdx?_eq_some_iff_getElem]
        have hi : i < ds.length := (List.getElem?_eq_some_iff.mp ed).1
        refine ⟨hi, ?_, fun j hj => ?_⟩
        · rw [(List.getElem?_eq_some_iff.mp ed).2, c]; rfl
        · have hj' : j < ds.length := by omega
          rw [all (ds[j]) (List.mem_iff_getElem?.mpr ⟨j, by rw [List.getElem?_take_of_lt hj]; exact List.getElem?_eq_getElem hj'⟩)]; decide
    · rintro σ H1 ⟨⟨o1, o2, rfl⟩, s1, all⟩
      refine q ?_ _ s1
      unfold firstNo
      rw [List.findIdx?_eq_none_iff]
      intro d hd
      rw [List.take_of_length_le (by rw [al.len]; exact Nat.le_refl _)] at all
      rw [all d hd]; rfl
end
end K6

namespace K6
open PySem PySem.Spec PyProof.Rows L2 Hb St Sq Ow En Zp RZ Rd Xb
/-! ### arguments that ought to be tales -/
def grL (ls hs : List (List Str)) : List Nat := Ks.gr ls.length (okL ls) hs 0
def stuckN (ls hs : List (List Str)) : Option Nat := if (grL ls hs).length < hs.length then some (grL ls hs).length else none
def optV : Option Nat → V
  | some k => .int (k : Nat)
  | none => .non
structure TIn (K : PySem.W.Frag) (H : Hp) (v u : V) (d e : PyData) (ls hs : List (List Str)) : Prop where
  dv : Dp K H v d
  du : Dp K H u e
  sd : Sm2 d
  se : Sm2 e
  ok : firstNo [d, e] = none → ∃ a b, v = .ref a ∧ u = .ref b ∧ LT K H a ls ∧ LT K H b hs
  ll : ls.length ≤ 1000
  lh : hs.length ≤ 1000
  l3 : ∀ h ∈ hs, h.length ≤ 1000
  l4 : ∀ l ∈ ls, l.length ≤ 1000
theorem TIn.same {K : PySem.W.Frag} {H H' : Hp} {v u : V} {d e : PyData} {ls hs : List (List Str)} (t : TIn K H v u d e ls hs) (s : Same H H') : TIn K H' v u d e ls hs :=
  ⟨dp_same s t.dv, dp_same s t.du, t.sd, t.se, fun n => let ⟨a, b, x, y, p, q⟩ := t.ok n; ⟨a, b, x, y, p.fix (Fix.of s), q.fix (Fix.of s)⟩, t.ll, t.lh, t.l3, t.l4⟩
section
variable {P : Program} {w : World} {K : PySem.W.Frag} {mg : Str → Option Value} {base : Heap}
/-- a def of the text that may raise, by its promise -/
structure Cx_ (P : Program) (w : World) (K : PySem.W.Frag) (mg : Str → Option Value) (base : Heap) (x : Str) (ps : List Str) (lv : Nat) (sp : Sp) : Prop where
  ex : ∃ (f : Addr) (fd : FuncData), FnOk P w K mg base (L2.CX P w) lv f fd ps sp ∧ mg x = some (.ref f) ∧ PySem.W.keepIn K (.ref f) = true ∧ Binds K fd ps []
theorem pe_useX {X : Cx} {ps : List Str} {lv : Nat} {sp : Sp} {E : L2.St → XK} {x : Str} {p pos : Pos} {e : Expr} {es : List Expr} {t : TA} (C : Cx_ X.prog X.w X.K X.mg X.base x ps lv sp) (hr : Room lv X.A) (hx : ∀ σ, PassesAt (L2.CX X.prog X.w) X σ (E σ)) (hg : Gl X x) (ha : PA X (e :: es) t) (hdb : (x == ("__debug__" : Str)) = false := by decide)
    (he : starEach (e :: es) X.env = (false, eval e X.env) :: starEach es X.env := by rfl) (hpl : (backTo pos (starEach es X.env)).any (·.1) = false := by rfl) : PE X (.Call (.Name x p) (e :: es) [] pos) (tCallS sp E t) :=
  let ⟨_, _, F, hm, hk, hb⟩ := C.ex
  pe_callS F hr hg hm hk hb hx ha hdb he hpl
/-! ### stuck_at -/
abbrev s_stuck_at : Stmt := top 15
theorem sc_stuck_at : FnScope ["lots", "heard", "many"] ["lots", "heard"] (defScope s_stuck_at) := ⟨rfl, rfl, rfl, by decide +kernel, rfl, by decide +kernel, by decide +kernel⟩
def spStuck (K : PySem.W.Frag) (C : Addr) : Sp := fun vs H Q E => ∃ (v u : V) (d e : PyData) (ls hs : List (List Str)), vs = [v, u] ∧ TIn K H v u d e ls hs ∧ (firstNo [d, e] = none → ∀ H', Same H H' → Q (optV (stuckN ls hs)) H') ∧
  ∀ k, firstNo [d, e] = some k → ∀ dd H', Same H H' → H' dd = some (errH (k : Nat)) → E (.ref C) (some dd) H'
theorem ok_stuck {f fn C : Addr} {fd : FuncData} (F : Fun K "stuck_at" "stuck_at" s_stuck_at f fd) (N : FnR P w K mg base (L2.CX P w) 4 fn (spNeedR K C)) (gN : mg "need_tales" = some (.ref fn)) (kN : PySem.W.keepIn K (.ref fn) = true) (C_least_laying : Cl P w K mg base "least_laying" ["lots", "heard"] [] 3 (spLay K)) (n_len : mg "len" = none) : FnOk P w K mg base (L2.CX P w) 5 f fd ["lots", "heard"] (spStuck K C) := by
  refine F.okX sc_stuck_at (fun vs H Q E h => ?_) (fun cdv A outer s H vs Q E hr h => ?_)
  · obtain ⟨_, _, _, _, _, _, rfl, _⟩ := h
    rfl
  · obtain ⟨v, u, d, e, ls, hs, rfl, ti, q, qe⟩ := h
    refine ⟨_, (pss_cons (ps_expr (pe_goR N gN kN (hr.mono (by decide)) (fun σ => passAt (takes_of rfl rfl rfl rfl) σ) rfl (pa_cons (pv 0) (pa_cons (pv 1) pa_nil))))
      (pss_cons (ps_set (i := 2) sc_stuck_at.nd rfl (Or.inl rfl) (pe_callB call_len_seq (by rfl) n_len PySem.boot_len (pa_cons (pe_use C_least_laying (hr.mono (by decide)) rfl (pa_cons (pv 0) (pa_cons (pv 1) pa_nil))) pa_nil)))
      (pss_one (ps_ret (pe_ifExp (pt_cmpR op_lt (pv 2) (pe_callB call_len_seq (by rfl) n_len PySem.boot_len (pa_cons (pv 1) pa_nil)) (nomark _)) (pv 2) pe_non))))), ?_⟩
    refine ⟨_, rfl, _, rfl, [], [v, u], rfl, rfl, by show 2 ≤ sizeLine; decide, fun p hp => ?_⟩
    have s1 := same_new hp (.tup [v, u])
    refine ⟨p, [v, u], [d, e], rfl, upd_same, .cons (dp_same s1 ti.dv) (.cons (dp_same s1 ti.du) .nil), by show 2 ≤ 1000; decide, fun d' hd' => ?_, fun no H2 s2 => ?_, fun k hk dd H2 s2 ed => qe k hk dd H2 (s1.trans s2) ed⟩
    · rcases List.mem_cons.mp hd' with rfl | z
      · exact ti.sd
      · rw [List.mem_singleton.mp z]; exact ti.se
    have t2 := ti.same (s1.trans s2)
    obtain ⟨a, b, rfl, rfl, ha, hb⟩ := t2.ok no
    refine ⟨_, rfl, _, rfl, a, b, ls, hs, rfl, ha, hb, t2.ll, t2.lh, t2.l3, fun g H3 s3 eg => ?_⟩
    obtain ⟨bits, eb, alb⟩ := hb.fix (Fix.of s3)
    have lb : bits.length = hs.length := alb.len
    refine ⟨g, _, rfl, .inl (SqL.of eg), _, rfl, _, rfl, b, bits, rfl, .inr (SqT.of eb), _, _, rfl, rfl, _, rfl, ?_⟩
    have sf := (s1.trans s2).trans s3
    have lm : ((Ks.gr ls.length (okL ls) hs 0).map natV).length = (grL ls hs).length := List.length_map ..
    rw [lm, lb]
    have q := q no H3 sf
    unfold stuckN at q
    by_cases c : (grL ls hs).length < hs.length
    · rw [decide_eq_true (show (((grL ls hs).length : Nat) : Int) < (hs.length : Nat) by omega)]
      rw [if_pos c] at q
      exact iteT ⟨_, rfl, q⟩
    · rw [decide_eq_false (show ¬ (((grL ls hs).length : Nat) : Int) < (hs.length : Nat) by omega)]
      rw [if_neg c] at q
      exact iteF q
/-! ### need_laying -/
abbrev s_need_laying : Stmt := top 17
theorem sc_need_laying : FnScope ["lots", "heard", "many"] ["lots", "heard"] (defScope s_need_laying) := ⟨rfl, rfl, rfl, by decide +kernel, rfl, by decide +kernel, by decide +kernel⟩
/-- what a need of a laying does: the two ends of a refusal -/
def Refd (K : PySem.W.Frag) (C R : Addr) (E : XK) (H : Hp) (d e : PyData) (ls hs : List (List Str)) : Prop :=
  (∀ m, firstNo [d, e] = none → stuckN ls hs = some m → ∀ dd H', Same H H' → H' dd = some (errH (m : Nat)) → E (.ref R) (some dd) H') ∧
  ∀ k, firstNo [d, e] = some k → ∀ dd H', Same H H' → H' dd = some (errH (k : Nat)) → E (.ref C) (some dd) H'
def spNeedL (K : PySem.W.Frag) (C R : Addr) : Sp := fun vs H Q E => ∃ (v u : V) (d e : PyData) (ls hs : List (List Str)), vs = [v, u] ∧ TIn K H v u d e ls hs ∧ (firstNo [d, e] = none → stuckN ls hs = none → ∀ H', Same H H' → Q .non H') ∧ Refd K C R E H d e ls hs
theorem ok_needL {f C R fR : Addr} {fd : FuncData} (F : Fun K "need_laying" "need_laying" s_need_laying f fd) (TR : ErrC K mg "Refused" R fR) (C_stuck_at : Cx_ P w K mg base "stuck_at" ["lots", "heard"] 5 (spStuck K C)) : FnOk P w K mg base (L2.CX P w) 6 f fd ["lots", "heard"] (spNeedL K C R) := by
  refine F.okX sc_need_laying (fun vs H Q E h => ?_) (fun cdv A outer s H vs Q E hr h => ?_)
  · obtain ⟨_, _, _, _, _, _, rfl, _⟩ := h
    rfl
  · obtain ⟨v, u, d, e, ls, hs, rfl, ti, q, qr, qe⟩ := h
    refine ⟨_, (pss_cons (ps_set (i := 2) sc_need_laying.nd rfl (Or.inl rfl) (pe_useX C_stuck_at (hr.mono (by decide)) (fun σ => passAt (takes_of rfl rfl rfl rfl) σ) rfl (pa_cons (pv 0) (pa_cons (pv 1) pa_nil))))
      (pss_one (ps_if (pt_cmpR op_notN (pv 2) pe_non (nomark _)) (pss_one (ps_raiseAt rfl TR hr (takes_of rfl rfl rfl rfl) (pa_cons (pv 2) pa_nil) rfl)) pss_nil))), ?_⟩
    refine ⟨_, rfl, _, rfl, v, u, d, e, ls, hs, rfl, ti, fun no H1 s1 => ?_, fun k hk dd H1 s1 ed => qe k hk dd H1 s1 ed⟩
    cases em : stuckN ls hs with
    | none =>
      exact ⟨_, rfl, rfl, _, rfl, iteF (q no em H1 s1)⟩
    | some m =>
      refine ⟨_, rfl, rfl, _, rfl, iteT ⟨_, rfl, _, rfl, fun dd hn => ?_⟩⟩
      exact qr m no em dd _ (s1.trans (same_new hn _)) upd_same
/-! ### first_laying -/
abbrev s_first_laying : Stmt := top 16
theorem sc_first_laying : FnScope ["lots", "heard"] ["lots", "heard"] (defScope s_first_laying) := ⟨rfl, rfl, rfl, by decide +kernel, rfl, by decide +kernel, by decide +kernel⟩
def spFirst (K : PySem.W.Frag) (C R : Addr) : Sp := fun vs H Q E => ∃ (v u : V) (d e : PyData) (ls hs : List (List Str)), vs = [v, u] ∧ TIn K H v u d e ls hs ∧ (firstNo [d, e] = none → stuckN ls hs = none → ∀ p H', Same H H' → H' p = some (.tup ((grL ls hs).map natV)) → Q (.ref p) H') ∧ Refd K C R E H d e ls hs
theorem ok_first {f C R : Addr} {fd : FuncData} (F : Fun K "first_laying" "first_laying" s_first_laying f fd) (C_need_laying : Cx_ P w K mg base "need_laying" ["lots", "heard"] 6 (spNeedL K C R)) (C_least_laying : Cl P w K mg base "least_laying" ["lots", "heard"] [] 3 (spLay K)) (n_tuple : mg "tuple" = none) : FnOk P w K mg base (L2.CX P w) 7 f fd ["lots", "heard"] (spFirst K C R) := by
  refine F.okX sc_first_laying (fun vs H Q E h => ?_) (fun cdv A outer s H vs Q E hr h => ?_)
  · obtain ⟨_, _, _, _, _, _, rfl, _⟩ := h
    rfl
  · obtain ⟨v, u, d, e, ls, hs, rfl, ti, q, qr, qe⟩ := h
    refine ⟨_, (pss_cons (ps_expr (pe_useX C_need_laying (hr.mono (by decide)) (fun σ => passAt (takes_of rfl rfl rfl rfl) σ) rfl (pa_cons (pv 0) (pa_cons (pv 1) pa_nil))))
      (pss_one (ps_ret (pe_callTy call_tuple_of (by rfl) n_tuple (by decide +kernel) (pa_cons (pe_use C_least_laying (hr.mono (by decide)) rfl (pa_cons (pv 0) (pa_cons (pv 1) pa_nil))) pa_nil))))), ?_⟩
    refine ⟨_, rfl, _, rfl, v, u, d, e, ls, hs, rfl, ti, fun no em H1 s1 => ?_, fun m no em dd H1 s1 ed => qr m no em dd H1 s1 ed, fun k hk dd H1 s1 ed => qe k hk dd H1 s1 ed⟩
    have t1 := ti.same s1
    obtain ⟨a, b, rfl, rfl, ha, hb⟩ := t1.ok no
    refine ⟨_, rfl, _, rfl, a, b, ls, hs, rfl, ha, hb, t1.ll, t1.lh, t1.l3, fun g H2 s2 eg => ?_⟩
    exact ⟨g, _, rfl, .inl ⟨SqL.of eg, fun l hl => q no em l _ ((s1.trans s2).trans (same_new hl _)) upd_same⟩⟩
end
end K6

namespace K6
open PySem PySem.Spec PyProof.Rows L2 Hb St Sq Ow En Zp RZ Rd Xb Rv
theorem fst_congr {β : Type} {n : Nat} {ok ok' : β → Nat → Bool} (h : ∀ g a, a < n → ok g a = ok' g a) (k : Nat) (g : β) : Ks.fst n ok k g = Ks.fst n ok' k g := by
  cases e : Ks.fst n ok' k g with
  | none =>
    have := Ks.fst_none.mp e
    exact Ks.fst_none.mpr fun b hb hk => by rw [h g b hb]; exact this b hb hk
  | some a =>
    obtain ⟨⟨h1, h2⟩, h3, h4⟩ := Ks.fst_some.mp e
    exact Ks.fst_some.mpr ⟨⟨h1, by rw [h g a h3]; exact h2⟩, h3, fun b hb hk => by rw [h g b (by omega)]; exact h4 b hb hk⟩
theorem gr_congr {β : Type} {n : Nat} {ok ok' : β → Nat → Bool} (h : ∀ g a, a < n → ok g a = ok' g a) : ∀ (hs : List β) (k : Nat), Ks.gr n ok hs k = Ks.gr n ok' hs k
  | [], _ => rfl
  | g :: hs, k => by
    cases e : Ks.fst n ok' k g with
    | none => rw [gr_cons_none e, gr_cons_none (by rw [fst_congr h]; exact e)]
    | some a => rw [gr_cons_some e, gr_cons_some (by rw [fst_congr h]; exact e), gr_congr h hs (a + 1)]
def bkL (ls hs : List (List Str)) : List Nat := Ks.bk ls.length (okL ls) hs
theorem bk_rev (ls hs : List (List Str)) : ((grL ls.reverse hs.reverse).reverse.map fun a => ls.length - 1 - a) = bkL ls hs := by
  unfold bkL Ks.bk Ks.rv grL
  rw [List.length_reverse]
  rw [gr_congr (ok' := fun g a => okL ls g (ls.length - 1 - a)) fun g a ha => ?_]
  unfold okL
  rw [List.getD_eq_getElem?_getD, List.getD_eq_getElem?_getD, List.getElem?_reverse ha]
theorem rev2 {α β : Type} {R : α → β → Prop} : ∀ {as : List α} {bs : List β}, All2 R as bs → All2 R as.reverse bs.reverse
  | _, _, .nil => .nil
  | _, _, .cons h t => by
    rw [List.reverse_cons, List.reverse_cons]
    exact (rev2 t).app (.cons h .nil)
theorem gr_below {β : Type} {n : Nat} {ok : β → Nat → Bool} : ∀ (hs : List β) (k : Nat), ∀ a ∈ Ks.gr n ok hs k, a < n
  | [], _, a, h => by cases h
  | g :: hs, k, a, h => by
    cases e : Ks.fst n ok k g with
    | none => rw [gr_cons_none e] at h; cases h
    | some b =>
      rw [gr_cons_some e] at h
      rcases List.mem_cons.mp h with rfl | z
      · exact (Ks.fst_some.mp e).2.1
      · exact gr_below hs (b + 1) a z
theorem LT.rev {K : PySem.W.Frag} {H : Hp} {p : Addr} {its : List V} {ls : List (List Str)} (al : All2 (TupS K H) its ls) (e : H p = some (.tup its.reverse)) : LT K H p ls.reverse := ⟨_, e, rev2 al⟩
section
variable {P : Program} {w : World} {K : PySem.W.Frag} {mg : Str → Option Value} {base : Heap}
theorem pe_revK {X : Cx} {e st : Expr} {te ts : TE} {p3 pos : Pos} (K : PySem.W.Frag) (he : PE X e te) (hs : PE X st ts) (hN : ∀ σ H (Q : VK), Q (.int (-1)) H → ts σ H Q) (hK : X.K = K := by rfl) : PE X (.Subscript e (.Slice none none (some st) p3) pos) (fun σ H Q => te σ H fun x H1 => ∃ a xs, x = .ref a ∧ SqL K H1 a xs ∧ ∀ p, H1 p = none → Q (.ref p) (upd H1 p (.lst xs.reverse))) := by
  subst hK
  exact pe_rev he hs hN
def rLenK (K : PySem.W.Frag) : List V → Hp → VK → Prop := fun xs H Q => ∃ p ys, xs = [V.ref p] ∧ (SqL K H p ys ∨ SqT K H p ys) ∧ Q (V.int (ys.length : Nat)) H
/-! ### last_laying -/
abbrev s_last_laying : Stmt := top 18
theorem sc_last_laying : FnScope ["lots", "heard", "behind", "number"] ["lots", "heard"] (defScope s_last_laying) := ⟨rfl, rfl, rfl, by decide +kernel, rfl, by decide +kernel, by decide +kernel⟩
def spLast (K : PySem.W.Frag) (C R : Addr) : Sp := fun vs H Q E => ∃ (v u : V) (d e : PyData) (ls hs : List (List Str)), vs = [v, u] ∧ TIn K H v u d e ls hs ∧ (firstNo [d, e] = none → stuckN ls hs = none → ∀ p H', Same H H' → H' p = some (.tup ((bkL ls hs).map natV)) → Q (.ref p) H') ∧ Refd K C R E H d e ls hs
theorem ok_last {f C R : Addr} {fd : FuncData} (F : Fun K "last_laying" "last_laying" s_last_laying f fd) (C_need_laying : Cx_ P w K mg base "need_laying" ["lots", "heard"] 6 (spNeedL K C R)) (C_least_laying : Cl P w K mg base "least_laying" ["lots", "heard"] [] 3 (spLay K)) (n_len : mg "len" = none) (n_tuple : mg "tuple" = none) : FnOk P w K mg base (L2.CX P w) 7 f fd ["lots", "heard"] (spLast K C R) := by
  refine F.okX sc_last_laying (fun vs H Q E h => ?_) (fun cdv A outer s H vs Q E hr h => ?_)
  · obtain ⟨_, _, _, _, _, _, rfl, _⟩ := h
    rfl
  · obtain ⟨v, u, d, e, ls, hs, rfl, ti, q, qr, qe⟩ := h
    refine ⟨_, (pss_cons (ps_expr (pe_useX C_need_laying (hr.mono (by decide)) (fun σ => passAt (takes_of rfl rfl rfl rfl) σ) rfl (pa_cons (pv 0) (pa_cons (pv 1) pa_nil))))
      (pss_cons (ps_set (i := 2) sc_last_laying.nd rfl (Or.inl rfl) (pe_use C_least_laying (hr.mono (by decide)) rfl (pa_cons (pe_revT K (pv 0) (pe_un un_neg pe_int) (fun _ _ _ q => ⟨1, rfl, q⟩)) (pa_cons (pe_revT K (pv 1) (pe_un un_neg pe_int) (fun _ _ _ q => ⟨1, rfl, q⟩)) pa_nil))))
      (pss_one (ps_ret (pe_callTy call_tuple_of (by rfl) n_tuple (by decide +kernel) (pa_cons (pe_lc (own := [("number", 3)]) (g := gName 3) rfl sc_last_laying.nd (pi_seq (pe_revK K (pv 2) (pe_un un_neg pe_int) (fun _ _ _ q => ⟨1, rfl, q⟩))) (blkOk_by (N := ["lots", "heard", "behind", "number"]) (sc := defScope s_last_laying) (by decide +kernel)) (fun _ _ _ _ _ => pg_name (i := 3) sc_last_laying.nd rfl (Or.inl rfl)) (fun _ _ _ _ _ => pts_nil) (fun _ _ _ _ _ => pe_op op_sub (pe_op op_sub (pe_callB (r := rLenK K) call_len_seq (by rfl) n_len PySem.boot_len (pa_cons (pv 0) pa_nil)) pe_int) (pv 3))) pa_nil)))))), ?_⟩
    refine ⟨_, rfl, _, rfl, v, u, d, e, ls, hs, rfl, ti, fun no em H1 s1 => ?_, fun m no em dd H1 s1 ed => qr m no em dd H1 s1 ed, fun k hk dd H1 s1 ed => qe k hk dd H1 s1 ed⟩
    have t1 := ti.same s1
    obtain ⟨a, b, rfl, rfl, ⟨aits, ea, ala⟩, ⟨bits, eb, alb⟩⟩ := t1.ok no
    refine ⟨_, rfl, a, aits, rfl, SqT.of ea, fun ra kra => ?_⟩
    have s2 := same_new kra (.tup aits.reverse)
    have era : upd H1 ra (.tup aits.reverse) ra = some (.tup aits.reverse) := upd_same
    generalize upd H1 ra (.tup aits.reverse) = H2 at s2 era ⊢
    refine ⟨_, rfl, b, bits, rfl, SqT.of (s2 _ _ eb), fun rb krb => ?_⟩
    have s3 := same_new krb (.tup bits.reverse)
    have erb : upd H2 rb (.tup bits.reverse) rb = some (.tup bits.reverse) := upd_same
    generalize upd H2 rb (.tup bits.reverse) = H3 at s3 erb ⊢
    have ha3 : LT K H3 ra ls.reverse := LT.rev (ala.imp fun _ _ t => t.fix (Fix.of (s2.trans s3))) (s3 _ _ era)
    have hb3 : LT K H3 rb hs.reverse := LT.rev (alb.imp fun _ _ t => t.fix (Fix.of (s2.trans s3))) erb
    refine ⟨ra, rb, ls.reverse, hs.reverse, rfl, ha3, hb3, by rw [List.length_reverse]; exact t1.ll, by rw [List.length_reverse]; exact t1.lh, fun h hh => t1.l3 h (List.mem_reverse.mp hh), fun g H4 s4 eg => ?_⟩
    have eg : H4 g = some (.lst ((grL ls.reverse hs.reverse).map natV)) := eg
    refine ⟨_, rfl, g, _, rfl, SqL.of eg, fun rg krg => ?_⟩
    have s5 := same_new krg (.lst ((grL ls.reverse hs.reverse).map natV).reverse)
    have erg : upd H4 rg (.lst ((grL ls.reverse hs.reverse).map natV).reverse) rg = some (.lst ((grL ls.reverse hs.reverse).map natV).reverse) := upd_same
    generalize upd H4 rg (.lst ((grL ls.reverse hs.reverse).map natV).reverse) = H5 at s5 erg ⊢
    have s15 := ((s2.trans s3).trans s4).trans s5
    refine ⟨rg, _, rfl, SqX.lst erg, fun J S W z0 D hD => ?_⟩
    have lg : (grL ls.reverse hs.reverse).length ≤ 1000 := Nat.le_trans (Ks.gr_len _ _) (by rw [List.length_reverse]; exact t1.lh)
    refine lc_mf (ds := (grL ls.reverse hs.reverse).reverse) W (fun _ => true) (fun _ y n => y = natV (ls.length - 1 - n)) z0 hD (by simp) (fun i x n H' ex en s m => ?_) (fun H' ys s e al => ?_)
    · rw [← List.map_reverse] at ex
      rw [at_map ex en]
      have nb : n < ls.length := by
        have := gr_below hs.reverse 0 n (List.mem_reverse.mp (at_mem en))
        rwa [List.length_reverse] at this
      have la : aits.length = ls.length := ala.len
      refine ⟨rfl, _, rfl, a, aits, rfl, .inr (SqT.of (s _ _ (s15 _ _ ea))), _, _, rfl, rfl, _, rfl, _, _, rfl, rfl, ?_⟩
      refine mf_yes m hD (fun _ _ _ _ _ h => h) en (by rw [List.length_reverse]; omega) (Same.refl _) rfl ?_
      rw [la]
      show V.int _ = V.int _
      congr 1
      omega
    · rw [Rd.filter_all] at al
      have ey := al.map_eq (f := fun n => natV (ls.length - 1 - n)) fun _ _ h => h
      refine ⟨D, _, rfl, .inl ⟨SqL.of e, fun l hl => q no em l _ ((s1.trans (s15.trans s)).trans (same_new hl _)) ?_⟩⟩
      rw [upd_same, ey, ← bk_rev, List.map_map]
      rfl
end
end K6

namespace K6
open PySem PySem.Spec PyProof.Rows L2 Hb St Sq Ow En Zp RZ Rd Xb
/-- a list of tales' lots -/
def LL (K : PySem.W.Frag) (H : Hp) (a : Addr) (ls : List (List Str)) : Prop := ∃ its, H a = some (.lst its) ∧ All2 (TupS K H) its ls
def TupN (H : Hp) (v : V) (l : List Nat) : Prop := ∃ b, v = .ref b ∧ H b = some (.tup (l.map natV))
theorem cnt_le {β : Type} (ok : β → Nat → Bool) : ∀ (m : Nat) (r : List β), Ks.cnt ok m r ≤ 2 ^ m
  | m, [] => by rw [Ks.cnt_nil]; exact Nat.one_le_two_pow
  | 0, _ :: _ => Nat.zero_le _
  | m + 1, h :: r => by
    have h1 := cnt_le ok m (h :: r)
    have h2 := cnt_le ok m r
    show Ks.cnt ok m (h :: r) + (if ok h m = true then Ks.cnt ok m r else 0) ≤ 2 ^ (m + 1)
    rw [Nat.pow_succ]
    split <;> omega
theorem lays_le {β : Type} (n : Nat) (ok : β → Nat → Bool) (hs : List β) : (Ks.lays n ok hs).length ≤ 2 ^ n := by
  have := Ks.count_all (n := n) (ok := ok) hs.reverse
  rw [List.reverse_reverse] at this
  rw [this]
  exact cnt_le ok n _
section
variable {P : Program} {w : World} {K : PySem.W.Frag} {mg : Str → Option Value} {base : Heap}
/-! ### _law_once -/
abbrev s__law_once : Stmt := top 30
theorem sc__law_once : FnScope ["numbers", "found", "number"] ["numbers"] (defScope s__law_once) := ⟨rfl, rfl, rfl, by decide +kernel, rfl, by decide +kernel, by decide +kernel⟩
def once (ns : List Nat) : List Nat := ns.foldl (fun f n => if n ∈ f then f else f ++ [n]) []
theorem once_snoc (ns : List Nat) (n : Nat) : once (ns ++ [n]) = if n ∈ once ns then once ns else once ns ++ [n] := by unfold once; rw [List.foldl_append]; rfl
theorem once_len : ∀ ns : List Nat, (once ns).length ≤ ns.length := fun ns => by
  have : ∀ r : List Nat, (once r.reverse).length ≤ r.length := fun r => by
    induction r with
    | nil => exact Nat.le_refl _
    | cons n r ih =>
      rw [List.reverse_cons, once_snoc, List.length_cons]
      split
      · omega
      · rw [List.length_append]; show _ + 1 ≤ _; omega
  have := this ns.reverse
  rwa [List.reverse_reverse, List.length_reverse] at this
theorem inV_nats (x : Nat) (ns : List Nat) : inV (natV x) (ns.map natV) = decide (x ∈ ns) := by
  unfold inV
  rw [List.any_map]
  induction ns with
  | nil => simp
  | cons y r ih =>
    rw [List.any_cons, ih]
    show (eqV (natV y) (natV x) || decide (x ∈ r)) = _
    have e : eqV (natV y) (natV x) = decide (x = y) := by
      show decide (_ = _) = _
      exact decide_eq_decide.mpr ⟨fun h => (Int.ofNat_inj.mp h).symm, fun h => by rw [h]⟩
    rw [e]
    simp [List.mem_cons]
theorem flat_nats (ns : List Nat) : (ns.map natV).all flatV = true := by rw [List.all_map]; exact List.all_eq_true.mpr fun _ _ => rfl
theorem nin_nats {H : Hp} {a : Addr} {ns : List Nat} {x : Nat} {Q : VK} (h : SqX K H a (ns.map natV)) (q : Q (.bl (!decide (x ∈ ns))) H) : rIn K true (natV x) (.ref a) H Q :=
  ⟨a, _, rfl, h, rfl, flat_nats ns, by rw [inV_nats]; exact q⟩
def spOnce (K : PySem.W.Frag) : Sp := fun vs H Q _ => ∃ (a : Addr) (ns : List Nat), vs = [.ref a] ∧ H a = some (.lst (ns.map natV)) ∧ ns.length ≤ 1000 ∧ ∀ p H', Same H H' → H' p = some (.lst ((once ns).map natV)) → Q (.ref p) H'
theorem ok_once {f : Addr} {fd : FuncData} (F : Fun K "_law_once" "_law_once" s__law_once f fd)  : FnOk P w K mg base CX0 1 f fd ["numbers"] (spOnce K) := by
  refine F.ok sc__law_once (fun vs H Q E h => ?_) (fun cdv A outer s H vs Q E hr h => ?_)
  · obtain ⟨_, _, rfl, _⟩ := h
    rfl
  · obtain ⟨a, ns, rfl, ha, l, q⟩ := h
    refine ⟨_, (pss_cons (ps_set (i := 1) sc__law_once.nd rfl (Or.inl rfl) (pe_lst pa_nil))
    (Evl.pss_cut (ps_for PassesOwn.never rfl (pi_seq (pv 0)) (pg_name (i := 2) sc__law_once.nd rfl (Or.inl rfl))
      (pss_one (ps_set (i := 1) sc__law_once.nd rfl (Or.inl rfl) (pe_op op_cat (pv 1) (pe_ifExp (pt_cmpR op_notIn_seq (pv 2) (pv 1) rfl) (pe_lst (pa_cons (pv 2) pa_nil)) (pe_lst pa_nil))))))
    (pss_one (ps_ret (pv 1))))), ?_⟩
    refine ⟨by show 0 ≤ sizeLine; decide, fun p0 hp0 => ?_⟩
    have s0 := same_new hp0 (.lst [])
    have ep0 : upd H p0 (.lst []) p0 = some (.lst []) := upd_same
    generalize upd H p0 (.lst []) = H0 at s0 ep0 ⊢
    refine ⟨fun σ H' => ∃ fp o, σ = [some (.ref a), some (.ref fp), o] ∧ Same H H' ∧ H' fp = some (.lst ((once ns).map natV)), ?_, ?_⟩
    · refine ⟨_, rfl, a, _, rfl, SqX.lst (s0 _ _ ha), fun J S W z0 => ?_⟩
      refine for_sq W (fun i σ H' => ∃ fp o, σ = [some (.ref a), some (.ref fp), o] ∧ Same H0 H' ∧ H' fp = some (.lst ((once (ns.take i)).map natV))) ⟨p0, none, rfl, Same.refl _, ep0⟩ (fun i σ H' pv => W.keep (fun o e => let ⟨_, _, _, s, _⟩ := pv; s _ _ e) z0) ?_ ?_
      · rintro i σ H1 x ex ⟨fp, o, rfl, s1, e1⟩
        obtain ⟨n, en, rfl⟩ : ∃ n, ns[i]? = some n ∧ x = natV n := by
          rw [List.getElem?_map] at ex
          obtain ⟨n, en, e⟩ := Option.map_eq_some_iff.mp ex
          exact ⟨n, en, e.symm⟩
        have lo := once_len (ns.take i)
        have lt : (ns.take i).length ≤ 1000 := by rw [List.length_take]; omega
        have eo : once (ns.take (i + 1)) = if n ∈ once (ns.take i) then once (ns.take i) else once (ns.take i) ++ [n] := by
          rw [List.take_add_one, en]; exact once_snoc _ _
        refine ⟨_, rfl, _, rfl, _, rfl, nin_nats (SqX.lst e1) ⟨_, rfl, ?_⟩⟩
        by_cases c : n ∈ once (ns.take i)
        · rw [decide_eq_true c]
          rw [if_pos c] at eo
          refine iteF ⟨by show 0 ≤ sizeLine; decide, fun t ht => ?_⟩
          have s2 := same_new ht (.lst [])
          refine ⟨fp, t, (once (ns.take i)).map natV, [], rfl, rfl, s2 _ _ e1, upd_same, by rw [List.length_map, sizeLine_eq]; show _ + 0 ≤ _; omega, fun p hp => ⟨p, some (natV n), rfl, (s1.trans s2).trans (same_new hp _), ?_⟩⟩
          rw [upd_same, eo, List.append_nil]
        · rw [decide_eq_false c]
          rw [if_neg c] at eo
          refine iteT ⟨_, rfl, by show 1 ≤ sizeLine; decide, fun t ht => ?_⟩
          have s2 := same_new ht (.lst [natV n])
          refine ⟨fp, t, (once (ns.take i)).map natV, [natV n], rfl, rfl, s2 _ _ e1, upd_same, by rw [List.length_map, sizeLine_eq]; show _ + 1 ≤ _; omega, fun p hp => ⟨p, some (natV n), rfl, (s1.trans s2).trans (same_new hp _), ?_⟩⟩
          rw [upd_same, eo, List.map_append]
          rfl
      · rintro σ H1 ⟨fp, o, rfl, s1, e1⟩
        refine ⟨fp, o, rfl, s0.trans s1, ?_⟩
        rw [List.length_map, List.take_length] at e1
        exact e1
    rintro σ H1 ⟨fp, o, rfl, s1, e1⟩
    exact ⟨_, rfl, q fp H1 s1 e1⟩
end
end K6

namespace K6
open PySem PySem.Spec PyProof.Rows L2 Hb St Sq Ow En Zp RZ Rd Xb Da
theorem range_from (n lo : Nat) (q : Nat → Bool) : ((List.range n).filter fun a => decide (lo ≤ a) && q a) = ((List.range (n - lo)).map (lo + ·)).filter q := by
  by_cases c : lo ≤ n
  · obtain ⟨d, rfl⟩ : ∃ d, n = lo + d := ⟨n - lo, by omega⟩
    rw [List.range_add, List.filter_append, show lo + d - lo = d by omega]
    have z : (List.range lo).filter (fun a => decide (lo ≤ a) && q a) = [] := by
      rw [List.filter_eq_nil_iff]
      intro a ha
      have := List.mem_range.mp ha
      rw [decide_eq_false (by omega)]; simp
    rw [z, List.nil_append]
    refine List.filter_congr fun a ha => ?_
    obtain ⟨b, _, rfl⟩ := List.mem_map.mp ha
    rw [decide_eq_true (by omega)]; rfl
  · rw [show n - lo = 0 by omega]
    show _ = []
    rw [List.filter_eq_nil_iff]
    intro a ha
    have := List.mem_range.mp ha
    rw [decide_eq_false (by omega)]; simp
theorem miss_prt (h l : List Str) : decide ((h.filter fun x => !decide (x ∈ l)) = []) = prt h l := by
  unfold prt
  rw [Bool.eq_iff_iff, decide_eq_true_iff, List.filter_eq_nil_iff, List.all_eq_true]
  exact ⟨fun z x hx => by have := z x hx; simpa using this, fun z x hx => by have := z x hx; simpa using this⟩
theorem nin_strs {K : PySem.W.Frag} {H : Hp} {a : Addr} {ns : List Str} {x : Str} {Q : VK} (h : SqX K H a (ns.map V.str)) (q : Q (.bl (!decide (x ∈ ns))) H) : rIn K true (.str x) (.ref a) H Q :=
  ⟨a, _, rfl, h, rfl, flat_strs ns, by rw [inV_strs]; exact q⟩
theorem TupN.same {H H' : Hp} {v : V} {l : List Nat} (h : TupN H v l) (s : Fix H H') : TupN H' v l := let ⟨b, e, t⟩ := h; ⟨b, e, s _ _ t (not_mut_tup _)⟩
theorem LL.same {K : PySem.W.Frag} {H H' : Hp} {a : Addr} {ls : List (List Str)} (h : LL K H a ls) (s : Same H H') : LL K H' a ls :=
  let ⟨its, e, al⟩ := h; ⟨its, s _ _ e, al.imp fun _ _ t => t.fix (Fix.of s)⟩
theorem flat_len {α β : Type} (g : α → List β) (n : Nat) (h : ∀ a, (g a).length ≤ n) : ∀ l : List α, (l.flatMap g).length ≤ n * l.length
  | [] => Nat.zero_le _
  | a :: l => by
    have := flat_len g n h l
    have := h a
    rw [List.flatMap_cons, List.length_append, List.length_cons, Nat.mul_succ]; omega
theorem ext_len {β : Type} (n : Nat) (ok : β → Nat → Bool) (h : β) (laid : List Nat) : (Ks.ext n ok h laid).length ≤ n := by
  unfold Ks.ext
  rw [List.length_map]
  exact Nat.le_trans (List.length_filter_le _ _) (by rw [List.length_range]; exact Nat.le_refl _)
theorem asc_len : ∀ (k : Nat) (l : List Nat), l.length = k → l.Pairwise (· < ·) → k ≤ Ks.nxt l
  | 0, _, _, _ => Nat.zero_le _
  | k + 1, l, e, h => by
    rcases List.eq_nil_or_concat l with rfl | ⟨l', b, rfl⟩
    · cases e
    · rw [List.concat_eq_append] at *
      rw [Ks.nxt_snoc]
      rw [List.length_append] at e
      have e : l'.length + 1 = k + 1 := e
      obtain ⟨h1, _, h3⟩ := List.pairwise_append.mp h
      have ih := asc_len k l' (by omega) h1
      have := (Ks.nxt_le h1 (m := b)).mpr fun a ha => h3 a ha b (List.mem_singleton.mpr rfl)
      omega
theorem dp_nats {K : PySem.W.Frag} {H : Hp} : ∀ xs : List Nat, DpAll K H (xs.map natV) (xs.map fun i => PyData.int (i : Nat))
  | [] => .nil
  | x :: xs => .cons (.int (x : Nat)) (dp_nats xs)
theorem sh_nats (xs : List Nat) : Sh 1 (.tuple (xs.map fun i => PyData.int (i : Nat))) := sh_tup fun a _ => sh_int 0 _
theorem eqv_nats (xs ys : List Nat) : PyData.eqv (.tuple (xs.map fun i => PyData.int (i : Nat))) (.tuple (ys.map fun i => PyData.int (i : Nat))) = decide (xs = ys) :=
  eqvAll_map (fun a b => by rw [eqv_int]; exact decide_eq_decide.mpr Int.ofNat_inj) xs ys
section
variable {P : Program} {w : World} {K : PySem.W.Frag} {mg : Str → Option Value} {base : Heap}
/-! ### _law_layings -/
abbrev s__law_layings : Stmt := top 27
theorem sc__law_layings : FnScope ["lots", "heard", "found", "names", "later", "laid", "at", "name"] ["lots", "heard"] (defScope s__law_layings) := ⟨rfl, rfl, rfl, by decide +kernel, rfl, by decide +kernel, by decide +kernel⟩
def laysL (ls hs : List (List Str)) : List (List Nat) := Ks.lays ls.length (okL ls) hs
def spLLay (K : PySem.W.Frag) : Sp := fun vs H Q _ => ∃ (a b : Addr) (ls hs : List (List Str)), vs = [.ref a, .ref b] ∧ LL K H a ls ∧ LL K H b hs ∧ ls.length ≤ 7 ∧ (∀ h ∈ hs, h.length ≤ 1000 ∧ ∀ x ∈ h, IsNm x) ∧
  ∀ p its H', Same H H' → H' p = some (.lst its) → All2 (TupN H') its (laysL ls hs) → Q (.ref p) H'
theorem ok_llay {f : Addr} {fd : FuncData} (F : Fun K "_law_layings" "_law_layings" s__law_layings f fd) (n_len : mg "len" = none) (n_range : mg "range" = none) : FnOk P w K mg base CX0 1 f fd ["lots", "heard"] (spLLay K) := by
  refine F.ok sc__law_layings (fun vs H Q E h => ?_) (fun cdv A outer s H vs Q E hr h => ?_)
  · obtain ⟨_, _, _, _, rfl, _⟩ := h
    rfl
  · obtain ⟨a, b, ls, hs, rfl, ha, hb, l1, l3, q⟩ := h
    refine ⟨_, (pss_cons (ps_set (i := 2) sc__law_layings.nd rfl (Or.inl rfl) (pe_lst (pa_cons (pe_tup pa_nil) pa_nil)))
    (Evl.pss_cut (ps_for PassesOwn.never rfl (pi_seq (pv 1)) (pg_name (i := 3) sc__law_layings.nd rfl (Or.inl rfl))
      (pss_cons (ps_set (i := 4) sc__law_layings.nd rfl (Or.inl rfl) (pe_lst pa_nil))
    (Evl.pss_cut (ps_for PassesOwn.never rfl (pi_seq (pv 2)) (pg_name (i := 5) sc__law_layings.nd rfl (Or.inl rfl))
      (pss_one (ps_for PassesOwn.never rfl (pi_range2 (by rfl) n_range (pa_cons (pe_ifExp (pt_cmpR (op_neD hr.units) (pv 5) (pe_tup pa_nil) (nomark _)) (pe_op op_add (pe_ix ix_tup (pv 5) (pe_un un_neg pe_int) (fun _ _ => rfl)) pe_int) pe_int) (pa_cons (pe_callB call_len_seq (by rfl) n_len PySem.boot_len (pa_cons (pv 0) pa_nil)) pa_nil))) (pg_name (i := 6) sc__law_layings.nd rfl (Or.inr rfl))
      (pss_one (ps_if (pt_cmpR (op_eqD hr.units) (pe_lc (own := [("name", 7)]) (g := gName 7) rfl sc__law_layings.nd (pi_seq (pv 3)) (blkOk_by (N := ["lots", "heard", "found", "names", "later", "laid", "at", "name"]) (sc := defScope s__law_layings) (by decide +kernel)) (fun _ _ _ _ _ => pg_name (i := 7) sc__law_layings.nd rfl (Or.inl rfl)) (fun _ _ _ _ _ => pts_one (pt_cmpR (r := rIn K true) op_notIn_seq (pv 7) (pe_ix (r := rIxL K) ix_list (pv 0) (pv 6) (fun _ _ => rfl)) rfl)) (fun _ _ _ _ _ => pv 7)) (pe_lst pa_nil) (nomark _)) (pss_one (ps_expr (pe_bm PySem.F.plainAttrs_list PySem.F.slot_list_append PySem.F.type_list_append mt_append (pv 4) (pa_cons (pe_op op_catA (pv 5) (pe_tup (pa_cons (pv 6) pa_nil))) pa_nil)))) pss_nil)))))
    (pss_one (ps_set (i := 2) sc__law_layings.nd rfl (Or.inl rfl) (pv 4))))))
    (pss_one (ps_ret (pv 2))))), ?_⟩
    refine ⟨by show 0 ≤ sizeLine; decide, fun t0 k0 => ⟨by show 1 ≤ sizeLine; decide, fun f0 kf0 => ?_⟩⟩
    have a0 := same_new k0 (.tup [])
    have a1 := same_new kf0 (.lst [.ref t0])
    have et0 := a1 _ _ (show (upd H t0 (.tup [])) t0 = _ from upd_same)
    have ef0 : upd (upd H t0 (.tup [])) f0 (.lst [.ref t0]) f0 = some (.lst [.ref t0]) := upd_same
    have s0 : Same H (upd (upd H t0 (.tup [])) f0 (.lst [.ref t0])) := a0.trans a1
    generalize upd (upd H t0 (.tup [])) f0 (.lst [.ref t0]) = H0 at et0 ef0 s0 ⊢
    let n := ls.length
    let ok := okL ls
    let St : Addr → L2.St → Prop := fun fp σ => ∃ o3 o4 o5 o6 o7, σ = [some (.ref a), some (.ref b), some (.ref fp), o3, o4, o5, o6, o7]
    refine ⟨fun σ H' => ∃ fp its, St fp σ ∧ Same H H' ∧ H' fp = some (.lst its) ∧ All2 (TupN H') its (laysL ls hs), ?_, ?_⟩
    · have hb0 := hb.same s0
      obtain ⟨bits, eb, alb⟩ := hb0
      refine ⟨_, rfl, b, _, rfl, SqX.lst eb, fun J S W z0 => ?_⟩
      refine for_sq W (fun j σ H' => ∃ fp its, St fp σ ∧ Same H0 H' ∧ H' fp = some (.lst its) ∧ All2 (TupN H') its (Ks.lays n ok (hs.take j))) ⟨f0, [.ref t0], ⟨none, none, none, none, none, rfl⟩, Same.refl _, ef0, .cons ⟨t0, rfl, et0⟩ .nil⟩ (fun j σ H' pv => W.keep (fun o e => let ⟨_, _, _, s, _⟩ := pv; s _ _ e) z0) ?_ ?_
      · rintro j σ H1 y ey ⟨fp, its, ⟨o3, o4, o5, o6, o7, rfl⟩, s1, ef, alf⟩
        obtain ⟨h, eh, hy⟩ := alb.get ey
        have hs1 : Ks.lays n ok (hs.take (j + 1)) = (Ks.lays n ok (hs.take j)).flatMap (Ks.ext n ok h) := by rw [List.take_add_one, eh]; exact Ks.lays_snoc _ _
        refine ⟨by show 0 ≤ sizeLine; decide, fun lp klp => ?_⟩
        have s2 := same_new klp (.lst [])
        have el : upd H1 lp (.lst []) lp = some (.lst []) := upd_same
        have kin : ∀ H', Kept lp (upd H1 lp (.lst [])) H' → Same H1 H' := fun H' k x o e => k x o (s2 _ _ e) (ne_of_none e klp)
        generalize upd H1 lp (.lst []) = H2 at s2 el kin ⊢
        have nfl : fp ≠ lp := ne_of_none ef klp
        let F := Ks.lays n ok (hs.take j)
        let σM : Option V → Option V → Option V → L2.St := fun o5 o6 o7 => [some (.ref a), some (.ref b), some (.ref fp), some y, some (.ref lp), o5, o6, o7]
        have F7 : F.length ≤ 128 := Nat.le_trans (lays_le n ok _) (by have : 2 ^ n ≤ 2 ^ 7 := Nat.pow_le_pow_right (by decide) l1; omega)
        refine ⟨fun σ H' => ∃ jts o5 o6 o7, σ = σM o5 o6 o7 ∧ Kept lp H2 H' ∧ H' lp = some (.lst jts) ∧ All2 (TupN H') jts (Ks.lays n ok (hs.take (j + 1))), ?_, ?_⟩
        · refine ⟨_, rfl, fp, its, rfl, SqX.lst (s2 _ _ ef), fun J2 S2 W2 z2 => ?_⟩
          refine for_sq W2 (fun i σ H' => ∃ jts o5 o6 o7, σ = σM o5 o6 o7 ∧ Kept lp H2 H' ∧ H' lp = some (.lst jts) ∧ All2 (TupN H') jts ((F.take i).flatMap (Ks.ext n ok h))) ⟨[], o5, o6, o7, rfl, Kept.refl _ _, el, .nil⟩ (fun i σ H' pv => W2.keep (fun o e => let ⟨_, _, _, _, _, k, _⟩ := pv; k _ _ e nfl) z2) ?_ ?_
          · rintro i σ H3 x ex ⟨jts, o5, o6, o7, rfl, k3, e3, al3⟩
            obtain ⟨laid, elaid, tb, rfl, htb⟩ := alf.get ex
            have fx : Fix H1 H3 := (Fix.of s2).trans (Fix.kept el k3)
            have htb3 : H3 tb = some (.tup (laid.map natV)) := fx _ _ htb (not_mut_tup _)
            refine ⟨_, rfl, by show 0 ≤ sizeLine; decide, fun t5 k5 => ?_⟩
            have s4 := same_new k5 (.tup [])
            have et5 : upd H3 t5 (.tup []) t5 = some (.tup []) := upd_same
            generalize upd H3 t5 (.tup []) = H4 at s4 et5 ⊢
            refine ⟨.tuple (laid.map fun i => .int (i : Nat)), .tuple [], .tup (SqT.of (s4 _ _ htb3)) (dp_nats laid), .tup (SqT.of et5) .nil, (sh_nats laid).ok (by decide), by decide, _, rfl, ?_⟩
            rw [show PyData.eqv (.tuple (laid.map fun i => .int (i : Nat))) (.tuple []) = decide (laid = []) from eqv_nats laid []]
            obtain ⟨aits, ea, ala⟩ := (ha.same s0).same s1
            have fx4 : Fix H1 H4 := fx.trans (Fix.of s4)
            have nal : a ≠ lp := ne_of_none ea klp
            have ea4 : H4 a = some (.lst aits) := s4 _ _ (k3 _ _ (s2 _ _ ea) nal)
            have la : aits.length = n := ala.len
            have isl : Ks.IsLay n ok (hs.take j) laid := Ks.mem_lay.mp (at_mem elaid)
            have nx : Ks.nxt laid ≤ n := (Ks.nxt_le isl.asc).mpr isl.below
            obtain ⟨lo, hlo⟩ : ∃ lo, Ks.nxt laid = lo := ⟨_, rfl⟩
            obtain ⟨hb', ehb, hhb⟩ := id hy
            subst ehb
            have hh4 : SqT K H4 hb' (h.map V.str) := tupFix ((Fix.of s1).trans fx4) hhb
            have dn : ((((aits.length : Nat) : Int) - ((lo : Nat) : Int)).toNat) = n - lo := by rw [la]; omega
            have enc : (F.take (i + 1)).flatMap (Ks.ext n ok h) = (F.take i).flatMap (Ks.ext n ok h) ++ Ks.ext n ok h laid := by
              rw [List.take_add_one, elaid, List.flatMap_append]
              show _ = _ ++ (Ks.ext n ok h laid)
              congr 1
              exact List.append_nil _
            have eext : Ks.ext n ok h laid = (((List.range (n - lo)).map (lo + ·)).filter (ok h)).map fun a => laid ++ [a] := by
              unfold Ks.ext
              rw [hlo, range_from n lo (ok h)]
            have pre : ((F.take i).flatMap (Ks.ext n ok h)).length ≤ 896 := by
              have := flat_len (Ks.ext n ok h) 7 (fun l => Nat.le_trans (ext_len n ok h l) l1) (F.take i)
              rw [List.length_take] at this
              omega
            have al4 : All2 (TupN H4) jts ((F.take i).flatMap (Ks.ext n ok h)) := al3.imp fun _ _ t => t.same (Fix.of s4)
            have k4 : Kept lp H2 H4 := k3.trans fun b o e _ => s4 b o e
            have e4 := s4 _ _ e3
            have lay3 := l3 h (at_mem eh)
            have lenl : laid.length ≤ 7 := by
              have := asc_len _ laid rfl isl.asc
              omega
            by_cases c : laid = []
            · have z0 : lo = 0 := by rw [← hlo, c]; rfl
              rw [decide_eq_true c]
              refine iteF ⟨_, rfl, a, aits, rfl, .inl (SqL.of ea4), ((lo : Nat) : Int), _, by rw [z0]; rfl, ⟨by omega, by omega, by omega, by omega⟩, ?_⟩
              rw [dn]
              refine for_sq (wk_range (a := lp)) (fun i2 σ H' => ∃ jts2 o6 o7, σ = σM (some (.ref tb)) o6 o7 ∧ Kept lp H2 H' ∧ H' lp = some (.lst jts2) ∧ All2 (TupN H') jts2 ((F.take i).flatMap (Ks.ext n ok h) ++ (((List.range i2).map (lo + ·)).filter (ok h)).map fun a => laid ++ [a])) ⟨jts, o6, o7, rfl, k4, e4, by rw [List.range_zero]; simpa using al4⟩ (fun _ _ _ _ => trivial) ?_ ?_
              · rintro i2 σ H5 x ex ⟨jts2, o6, o7, rfl, k5, e5, al5⟩
                have hi2 : i2 < n - lo := by
                  have := (List.getElem?_eq_some_iff.mp ex).1
                  rwa [List.length_map, List.length_range] at this
                have exv : x = natV (lo + i2) := by
                  rw [List.getElem?_map, List.getElem?_range hi2] at ex
                  have := Option.some.inj ex
                  rw [← this]; rfl
                subst exv
                have fx5 : Fix H1 H5 := (Fix.of s2).trans (Fix.kept el k5)
                have hh5 : SqT K H5 hb' (h.map V.str) := tupFix ((Fix.of s1).trans fx5) hhb
                have ea5 : H5 a = some (.lst aits) := k5 _ _ (s2 _ _ ea) nal
                have htb5 : H5 tb = some (.tup (laid.map natV)) := fx5 _ _ htb (not_mut_tup _)
                obtain ⟨l, ell⟩ : ∃ l, ls[lo + i2]? = some l := ⟨_, List.getElem?_eq_getElem (show lo + i2 < ls.length by have : n = ls.length := rfl; omega)⟩
                obtain ⟨zz, ezz, lb, rfl, hlb⟩ := ala.getR ell
                have hlb5 : SqT K H5 lb (l.map V.str) := tupFix fx5 hlb
                have eok : prt h l = ok h (lo + i2) := by show _ = prt h (ls.getD (lo + i2) []); rw [List.getD_eq_getElem?_getD, ell]; rfl
                have grow : (((List.range (i2 + 1)).map (lo + ·)).filter (ok h)).map (fun a => laid ++ [a]) = (((List.range i2).map (lo + ·)).filter (ok h)).map (fun a => laid ++ [a]) ++ (if ok h (lo + i2) = true then [laid ++ [lo + i2]] else []) := by
                  rw [List.range_succ, List.map_append, List.filter_append, List.map_append]
                  congr 1
                  show List.map _ (List.filter (ok h) [lo + i2]) = _
                  by_cases cq : ok h (lo + i2) = true
                  · rw [if_pos cq, List.filter_cons_of_pos cq]; rfl
                  · rw [if_neg cq, List.filter_cons_of_neg cq]; rfl
                refine ⟨_, rfl, hb', _, rfl, .inr hh5, fun J3 S3 W3 z3 D hD => ?_⟩
                refine lc_mf (ds := h) W3 (fun x => !decide (x ∈ l)) (fun _ y x => y = .str x) z3 hD (by simp) (fun i3 x3 d3 H' ex3 ed3 s m => ?_) (fun H6 ys s6 e6 al6 => ?_)
                · rw [at_map ex3 ed3]
                  refine ⟨rfl, _, rfl, _, rfl, _, rfl, a, aits, ((lo + i2 : Nat) : Int), .ref lb, rfl, rfl, SqL.of (s _ _ ea5), atI_nat ezz, nin_strs (.inr (tupFix (Fix.of s) hlb5)) ⟨_, rfl, ?_⟩⟩
                  cases cc : !decide (d3 ∈ l) with
                  | true => exact iteT ⟨_, rfl, mf_yes m hD (fun _ _ _ _ _ h => h) ed3 (by omega) (Same.refl _) cc rfl⟩
                  | false => exact iteF (mf_no m (fun _ _ _ _ _ h => h) ed3 (Same.refl _) cc)
                have ey6 := al6.map_eq (f := V.str) fun _ _ h => h
                rw [ey6] at e6
                refine ⟨by show 0 ≤ sizeLine; decide, fun t6 k6 => ?_⟩
                have s7 := same_new k6 (.lst [])
                have e7 := s7 _ _ e6
                have et6 : upd H6 t6 (.lst []) t6 = some (.lst []) := upd_same
                generalize upd H6 t6 (.lst []) = H7 at s7 e7 et6 ⊢
                have s57 := s6.trans s7
                refine ⟨.list ((h.filter fun x => !decide (x ∈ l)).map .str), .list [], .lst (SqL.of e7) (dp_strs _), .lst (SqL.of et6) .nil, (sh_lst (n := 0) fun x hx => sh_str (lay3.2 x (List.mem_filter.mp hx).1)).ok (by decide), by decide, _, rfl, ?_⟩
                rw [show PyData.eqv (.list ((h.filter fun x => !decide (x ∈ l)).map .str)) (.list []) = decide ((h.filter fun x => !decide (x ∈ l)) = []) from eqvAll_map eqv_str _ [], miss_prt, eok]
                have k7 : Kept lp H2 H7 := k5.trans fun b o e _ => s57 b o e
                have el7 := s57 _ _ e5
                have pl : (((List.range i2).map (lo + ·)).filter (ok h)).length ≤ 7 := Nat.le_trans (List.length_filter_le _ _) (by rw [List.length_map, List.length_range]; omega)
                have lj : jts2.length ≤ 903 := by
                  rw [al5.len, List.length_append, List.length_map]; omega
                by_cases cq : ok h (lo + i2) = true
                · rw [if_pos cq] at grow
                  rw [cq]
                  refine iteT ⟨_, rfl, .inl ⟨rfl, _, SqL.of el7⟩, _, rfl, _, rfl, by show 1 ≤ sizeLine; decide, fun t8 k8 => ?_⟩
                  have s8 := same_new k8 (.tup [natV (lo + i2)])
                  have et8 : upd H7 t8 (.tup [natV (lo + i2)]) t8 = some (.tup [natV (lo + i2)]) := upd_same
                  generalize upd H7 t8 (.tup [natV (lo + i2)]) = H8 at s8 et8 ⊢
                  have htb8 := s8 _ _ (s57 _ _ htb5)
                  refine ⟨tb, t8, laid.map natV, [natV (lo + i2)], rfl, rfl, SqT.of htb8, SqT.of et8, by rw [List.length_map, sizeLine_eq]; show _ + 1 ≤ _; omega, fun e => ?_, fun _ e => by (cases e), fun ne _ p kp => ?_⟩
                  · have el0 : laid = [] := List.map_eq_nil_iff.mp e
                    have el8 := s8 _ _ el7
                    refine ⟨lp, jts2, .ref t8, rfl, rfl, el8, by rw [sizeLine_eq]; omega, jts2 ++ [.ref t8], some (natV (lo + i2)), o7, rfl, ?_, upd_same, ?_⟩
                    · exact fun b o e nb => by rw [upd_ne nb]; exact s8 _ _ (k7 b o e nb)
                    · rw [grow, ← List.append_assoc]
                      have fxe : Fix H5 (upd H8 lp (.lst (jts2 ++ [.ref t8]))) := (Fix.of (s57.trans s8)).trans (Fix.lst el8)
                      refine (al5.imp fun _ _ t => t.same fxe).app (.cons ⟨t8, rfl, ?_⟩ .nil)
                      rw [el0]
                      exact Fix.lst el8 _ _ et8 (not_mut_tup _)
                  · have s9 := same_new kp (.tup (laid.map natV ++ [natV (lo + i2)]))
                    have ep9 : upd H8 p (.tup (laid.map natV ++ [natV (lo + i2)])) p = some (.tup (laid.map natV ++ [natV (lo + i2)])) := upd_same
                    generalize upd H8 p (.tup (laid.map natV ++ [natV (lo + i2)])) = H9 at s9 ep9 ⊢
                    have el9 := s9 _ _ (s8 _ _ el7)
                    refine ⟨lp, jts2, .ref p, rfl, rfl, el9, by rw [sizeLine_eq]; omega, jts2 ++ [.ref p], some (natV (lo + i2)), o7, rfl, ?_, upd_same, ?_⟩
                    · exact fun b o e nb => by rw [upd_ne nb]; exact s9 _ _ (s8 _ _ (k7 b o e nb))
                    · rw [grow, ← List.append_assoc]
                      have fxe : Fix H5 (upd H9 lp (.lst (jts2 ++ [.ref p]))) := (Fix.of ((s57.trans s8).trans s9)).trans (Fix.lst el9)
                      refine (al5.imp fun _ _ t => t.same fxe).app (.cons ⟨p, rfl, ?_⟩ .nil)
                      have := Fix.lst (o := .lst (jts2 ++ [.ref p])) el9 _ _ ep9 (not_mut_tup _)
                      rw [List.map_append]
                      exact this
                · rw [if_neg cq, List.append_nil] at grow
                  rw [Bool.eq_false_iff.mpr cq]
                  refine iteF ⟨jts2, some (natV (lo + i2)), o7, rfl, k7, el7, ?_⟩
                  rw [grow]
                  exact al5.imp fun _ _ t => t.same (Fix.of s57)
              · rintro σ H5 ⟨jts2, o6, o7, rfl, k5, e5, al5⟩
                refine ⟨jts2, _, o6, o7, rfl, k5, e5, ?_⟩
                rw [List.length_map, List.length_range, ← eext, ← enc] at al5
                exact al5
            · obtain ⟨l', z, ez⟩ : ∃ l' z, laid = l' ++ [z] := ⟨laid.dropLast, laid.getLast c, (List.dropLast_concat_getLast c).symm⟩
              have z0 : ((lo : Nat) : Int) = ((z : Nat) : Int) + 1 := by rw [← hlo, ez, Ks.nxt_snoc]; rfl
              rw [decide_eq_false c]
              refine iteT ⟨_, rfl, 1, rfl, tb, _, -1, natV z, rfl, rfl, SqT.of (s4 _ _ htb3), by rw [ez, List.map_append]; exact at_last, ?_⟩
              refine ⟨_, _, rfl, rfl, _, rfl, a, aits, rfl, .inl (SqL.of ea4), ((lo : Nat) : Int), _, by rw [z0], ⟨by omega, by omega, by omega, by omega⟩, ?_⟩
              rw [dn]
              refine for_sq (wk_range (a := lp)) (fun i2 σ H' => ∃ jts2 o6 o7, σ = σM (some (.ref tb)) o6 o7 ∧ Kept lp H2 H' ∧ H' lp = some (.lst jts2) ∧ All2 (TupN H') jts2 ((F.take i).flatMap (Ks.ext n ok h) ++ (((List.range i2).map (lo + ·)).filter (ok h)).map fun a => laid ++ [a])) ⟨jts, o6, o7, rfl, k4, e4, by rw [List.range_zero]; simpa using al4⟩ (fun _ _ _ _ => trivial) ?_ ?_
              · rintro i2 σ H5 x ex ⟨jts2, o6, o7, rfl, k5, e5, al5⟩
                have hi2 : i2 < n - lo := by
                  have := (List.getElem?_eq_some_iff.mp ex).1
                  rwa [List.length_map, List.length_range] at this
                have exv : x = natV (lo + i2) := by
                  rw [List.getElem?_map, List.getElem?_range hi2] at ex
                  have := Option.some.inj ex
                  rw [← this]; rfl
                subst exv
                have fx5 : Fix H1 H5 := (Fix.of s2).trans (Fix.kept el k5)
                have hh5 : SqT K H5 hb' (h.map V.str) := tupFix ((Fix.of s1).trans fx5) hhb
                have ea5 : H5 a = some (.lst aits) := k5 _ _ (s2 _ _ ea) nal
                have htb5 : H5 tb = some (.tup (laid.map natV)) := fx5 _ _ htb (not_mut_tup _)
                obtain ⟨l, ell⟩ : ∃ l, ls[lo + i2]? = some l := ⟨_, List.getElem?_eq_getElem (show lo + i2 < ls.length by have : n = ls.length := rfl; omega)⟩
                obtain ⟨zz, ezz, lb, rfl, hlb⟩ := ala.getR ell
                have hlb5 : SqT K H5 lb (l.map V.str) := tupFix fx5 hlb
                have eok : prt h l = ok h (lo + i2) := by show _ = prt h (ls.getD (lo + i2) []); rw [List.getD_eq_getElem?_getD, ell]; rfl
                have grow : (((List.range (i2 + 1)).map (lo + ·)).filter (ok h)).map (fun a => laid ++ [a]) = (((List.range i2).map (lo + ·)).filter (ok h)).map (fun a => laid ++ [a]) ++ (if ok h (lo + i2) = true then [laid ++ [lo + i2]] else []) := by
                  rw [List.range_succ, List.map_append, List.filter_append, List.map_append]
                  congr 1
                  show List.map _ (List.filter (ok h) [lo + i2]) = _
                  by_cases cq : ok h (lo + i2) = true
                  · rw [if_pos cq, List.filter_cons_of_pos cq]; rfl
                  · rw [if_neg cq, List.filter_cons_of_neg cq]; rfl
                refine ⟨_, rfl, hb', _, rfl, .inr hh5, fun J3 S3 W3 z3 D hD => ?_⟩
                refine lc_mf (ds := h) W3 (fun x => !decide (x ∈ l)) (fun _ y x => y = .str x) z3 hD (by simp) (fun i3 x3 d3 H' ex3 ed3 s m => ?_) (fun H6 ys s6 e6 al6 => ?_)
                · rw [at_map ex3 ed3]
                  refine ⟨rfl, _, rfl, _, rfl, _, rfl, a, aits, ((lo + i2 : Nat) : Int), .ref lb, rfl, rfl, SqL.of (s _ _ ea5), atI_nat ezz, nin_strs (.inr (tupFix (Fix.of s) hlb5)) ⟨_, rfl, ?_⟩⟩
                  cases cc : !decide (d3 ∈ l) with
                  | true => exact iteT ⟨_, rfl, mf_yes m hD (fun _ _ _ _ _ h => h) ed3 (by omega) (Same.refl _) cc rfl⟩
                  | false => exact iteF (mf_no m (fun _ _ _ _ _ h => h) ed3 (Same.refl _) cc)
                have ey6 := al6.map_eq (f := V.str) fun _ _ h => h
                rw [ey6] at e6
                refine ⟨by show 0 ≤ sizeLine; decide, fun t6 k6 => ?_⟩
                have s7 := same_new k6 (.lst [])
                have e7 := s7 _ _ e6
                have et6 : upd H6 t6 (.lst []) t6 = some (.lst []) := upd_same
                generalize upd H6 t6 (.lst []) = H7 at s7 e7 et6 ⊢
                have s57 := s6.trans s7
                refine ⟨.list ((h.filter fun x => !decide (x ∈ l)).map .str), .list [], .lst (SqL.of e7) (dp_strs _), .lst (SqL.of et6) .nil, (sh_lst (n := 0) fun x hx => sh_str (lay3.2 x (List.mem_filter.mp hx).1)).ok (by decide), by decide, _, rfl, ?_⟩
                rw [show PyData.eqv (.list ((h.filter fun x => !decide (x ∈ l)).map .str)) (.list []) = decide ((h.filter fun x => !decide (x ∈ l)) = []) from eqvAll_map eqv_str _ [], miss_prt, eok]
                have k7 : Kept lp H2 H7 := k5.trans fun b o e _ => s57 b o e
                have el7 := s57 _ _ e5
                have pl : (((List.range i2).map (lo + ·)).filter (ok h)).length ≤ 7 := Nat.le_trans (List.length_filter_le _ _) (by rw [List.length_map, List.length_range]; omega)
                have lj : jts2.length ≤ 903 := by
                  rw [al5.len, List.length_append, List.length_map]; omega
                by_cases cq : ok h (lo + i2) = true
                · rw [if_pos cq] at grow
                  rw [cq]
                  refine iteT ⟨_, rfl, .inl ⟨rfl, _, SqL.of el7⟩, _, rfl, _, rfl, by show 1 ≤ sizeLine; decide, fun t8 k8 => ?_⟩
                  have s8 := same_new k8 (.tup [natV (lo + i2)])
                  have et8 : upd H7 t8 (.tup [natV (lo + i2)]) t8 = some (.tup [natV (lo + i2)]) := upd_same
                  generalize upd H7 t8 (.tup [natV (lo + i2)]) = H8 at s8 et8 ⊢
                  have htb8 := s8 _ _ (s57 _ _ htb5)
                  refine ⟨tb, t8, laid.map natV, [natV (lo + i2)], rfl, rfl, SqT.of htb8, SqT.of et8, by rw [List.length_map, sizeLine_eq]; show _ + 1 ≤ _; omega, fun e => ?_, fun _ e => by (cases e), fun ne _ p kp => ?_⟩
                  · have el0 : laid = [] := List.map_eq_nil_iff.mp e
                    have el8 := s8 _ _ el7
                    refine ⟨lp, jts2, .ref t8, rfl, rfl, el8, by rw [sizeLine_eq]; omega, jts2 ++ [.ref t8], some (natV (lo + i2)), o7, rfl, ?_, upd_same, ?_⟩
                    · exact fun b o e nb => by rw [upd_ne nb]; exact s8 _ _ (k7 b o e nb)
                    · rw [grow, ← List.append_assoc]
                      have fxe : Fix H5 (upd H8 lp (.lst (jts2 ++ [.ref t8]))) := (Fix.of (s57.trans s8)).trans (Fix.lst el8)
                      refine (al5.imp fun _ _ t => t.same fxe).app (.cons ⟨t8, rfl, ?_⟩ .nil)
                      rw [el0]
                      exact Fix.lst el8 _ _ et8 (not_mut_tup _)
                  · have s9 := same_new kp (.tup (laid.map natV ++ [natV (lo + i2)]))
                    have ep9 : upd H8 p (.tup (laid.map natV ++ [natV (lo + i2)])) p = some (.tup (laid.map natV ++ [natV (lo + i2)])) := upd_same
                    generalize upd H8 p (.tup (laid.map natV ++ [natV (lo + i2)])) = H9 at s9 ep9 ⊢
                    have el9 := s9 _ _ (s8 _ _ el7)
                    refine ⟨lp, jts2, .ref p, rfl, rfl, el9, by rw [sizeLine_eq]; omega, jts2 ++ [.ref p], some (natV (lo + i2)), o7, rfl, ?_, upd_same, ?_⟩
                    · exact fun b o e nb => by rw [upd_ne nb]; exact s9 _ _ (s8 _ _ (k7 b o e nb))
                    · rw [grow, ← List.append_assoc]
                      have fxe : Fix H5 (upd H9 lp (.lst (jts2 ++ [.ref p]))) := (Fix.of ((s57.trans s8).trans s9)).trans (Fix.lst el9)
                      refine (al5.imp fun _ _ t => t.same fxe).app (.cons ⟨p, rfl, ?_⟩ .nil)
                      have := Fix.lst (o := .lst (jts2 ++ [.ref p])) el9 _ _ ep9 (not_mut_tup _)
                      rw [List.map_append]
                      exact this
                · rw [if_neg cq, List.append_nil] at grow
                  rw [Bool.eq_false_iff.mpr cq]
                  refine iteF ⟨jts2, some (natV (lo + i2)), o7, rfl, k7, el7, ?_⟩
                  rw [grow]
                  exact al5.imp fun _ _ t => t.same (Fix.of s57)
              · rintro σ H5 ⟨jts2, o6, o7, rfl, k5, e5, al5⟩
                refine ⟨jts2, _, o6, o7, rfl, k5, e5, ?_⟩
                rw [List.length_map, List.length_range, ← eext, ← enc] at al5
                exact al5
          · rintro σ H3 ⟨jts, o5, o6, o7, rfl, k3, e3, al3⟩
            have lf : its.length = F.length := alf.len
            rw [lf, List.take_length, ← hs1] at al3
            exact ⟨jts, o5, o6, o7, rfl, k3, e3, al3⟩
        rintro σ H3 ⟨jts, o5, o6, o7, rfl, k3, e3, al3⟩
        refine ⟨_, rfl, lp, jts, ⟨_, _, _, _, _, rfl⟩, s1.trans (kin _ k3), e3, al3⟩
      · rintro σ H1 ⟨fp, its, st, s1, ef, alf⟩
        have ln : bits.length = hs.length := alb.len
        rw [ln, List.take_length] at alf
        exact ⟨fp, its, st, s0.trans s1, ef, alf⟩
    rintro σ H1 ⟨fp, its, ⟨o3, o4, o5, o6, o7, rfl⟩, s1, ef, alf⟩
    exact ⟨_, rfl, q fp its H1 s1 ef alf⟩
end
end K6

namespace K6
open PySem PySem.Spec PyProof.Rows L2 Hb St Sq Ow En Zp RZ Rd Xb Da
theorem wk_itc {lo c : Int} {n : Nat} {a : Addr} : Wk (Itc lo c n) a (fun _ => True) ((List.range n).map fun k => V.int (lo + (k : Nat) * c)) where
  go := fun i H hi _ => by
    show i < n
    simpa using hi
  stop := fun H _ => by show n ≤ _; simp
  yld := fun i H v H' hi _ y => by
    obtain ⟨e, ev⟩ := (show H' = H ∧ v = .int (lo + (i : Nat) * c) from y)
    have hn : i < n := by simpa using hi
    exact ⟨e, by rw [ev, List.getElem?_map, List.getElem?_range hn] <;> rfl⟩
  keep := fun _ _ => trivial
theorem down_ok : ∀ k, k < 21 → RgC ((k : Nat) : Int) 0 (-1) k := by
  intro k hk
  refine ⟨by decide, by decide, ?_, ?_⟩
  · revert k; decide
  · revert k; decide
theorem cut_take {xs : List V} {n : Nat} : cutV xs none (some (n : Nat)) = xs.take n := by
  unfold cutV
  rw [HT.sIx_none, HT.sIx_nat, List.drop_zero, Nat.sub_zero, List.take_eq_take_iff]
  omega
def dL (L : List (List Nat)) : PyData := .list (L.map fun l => .tuple (l.map fun i => .int (i : Nat)))
theorem dL_dp {K : PySem.W.Frag} {H : Hp} {p : Addr} {its : List V} {L : List (List Nat)} (e : H p = some (.lst its)) (al : All2 (TupN H) its L) : Dp K H (.ref p) (dL L) :=
  .lst (SqL.of e) (dp_all (f := fun l : List Nat => .tuple (l.map fun i => .int (i : Nat))) (fun v l ⟨b, eb, hb⟩ => by rw [eb]; exact .tup (SqT.of hb) (dp_nats l)) al)
theorem dL_sh (L : List (List Nat)) : Sh 2 (dL L) := sh_lst fun l _ => sh_nats l
theorem dL_eq (L : List (List Nat)) : PyData.eqv (dL L) (.list []) = decide (L = []) := eqvAll_map eqv_nats L []
section
variable {P : Program} {w : World} {K : PySem.W.Frag} {mg : Str → Option Value} {base : Heap}
/-! ### _law_many -/
abbrev s__law_many : Stmt := top 29
theorem sc__law_many : FnScope ["lots", "heard", "many"] ["lots", "heard"] (defScope s__law_many) := ⟨rfl, rfl, rfl, by decide +kernel, rfl, by decide +kernel, by decide +kernel⟩
def spMany (K : PySem.W.Frag) : Sp := fun vs H Q _ => ∃ (a b : Addr) (ls hs : List (List Str)), vs = [.ref a, .ref b] ∧ LL K H a ls ∧ LL K H b hs ∧ ls.length ≤ 7 ∧ hs.length ≤ 20 ∧ (∀ h ∈ hs, h.length ≤ 1000 ∧ ∀ x ∈ h, IsNm x) ∧
  ∀ H', Same H H' → Q (.int ((grL ls hs).length : Nat)) H'
theorem ok_many {f : Addr} {fd : FuncData} (F : Fun K "_law_many" "_law_many" s__law_many f fd) (C__law_layings : Cl P w K mg base "_law_layings" ["lots", "heard"] [] 1 (spLLay K)) (n_len : mg "len" = none) (n_range : mg "range" = none) : FnOk P w K mg base CX0 2 f fd ["lots", "heard"] (spMany K) := by
  refine F.ok sc__law_many (fun vs H Q E h => ?_) (fun cdv A outer s H vs Q E hr h => ?_)
  · obtain ⟨_, _, _, _, rfl, _⟩ := h
    rfl
  · obtain ⟨a, b, ls, hs, rfl, ha, hb, l1, l2, l3, q⟩ := h
    refine ⟨_, (Evl.pss_cut (ps_for PassesOwn.never rfl (pi_range3 (by rfl) n_range (pa_cons (pe_callB call_len_seq (by rfl) n_len PySem.boot_len (pa_cons (pv 1) pa_nil)) (pa_cons pe_int (pa_cons (pe_op op_sub pe_int pe_int) pa_nil)))) (pg_name (i := 2) sc__law_many.nd rfl (Or.inl rfl))
      (pss_one (ps_if (pt_cmpR (op_neD hr.units) (pe_use C__law_layings (hr.mono (by decide)) rfl (pa_cons (pv 0) (pa_cons (pe_slice (r := rSlL K) sl_list (pv 1) po_none (po_some (pv 2))) pa_nil))) (pe_lst pa_nil) (nomark _)) (pss_one (ps_ret (pv 2))) pss_nil)))
    (pss_one (ps_ret pe_int))), ?_⟩
    have gl : (grL ls hs).length ≤ hs.length := Ks.gr_len _ _
    have gp : ∀ m, m ≤ hs.length → (laysL ls (hs.take m) ≠ [] ↔ m ≤ (grL ls hs).length) := fun m hm => Ks.gr_part hs m hm
    obtain ⟨bits, eb, alb⟩ := id hb
    have lb : bits.length = hs.length := alb.len
    refine ⟨fun σ H' => (∃ o, σ = [some (.ref a), some (.ref b), o]) ∧ Same H H' ∧ (grL ls hs).length = 0, ?_, ?_⟩
    · refine ⟨_, rfl, b, bits, rfl, .inl (SqL.of eb), _, _, rfl, rfl, ((hs.length : Nat) : Int), 0, -1, hs.length, by rw [lb]; rfl, down_ok _ (by omega), ?_⟩
      refine for_sq (wk_itc (a := b)) (fun i σ H' => (∃ o, σ = [some (.ref a), some (.ref b), o]) ∧ Same H H' ∧ (grL ls hs).length ≤ hs.length - i) ⟨⟨none, rfl⟩, Same.refl _, by omega⟩ (fun _ _ _ _ => trivial) ?_ ?_
      · rintro i σ H1 x ex ⟨⟨o, rfl⟩, s1, le⟩
        have hi : i < hs.length := by
          have := (List.getElem?_eq_some_iff.mp ex).1
          rwa [List.length_map, List.length_range] at this
        obtain ⟨m, hm⟩ : ∃ m, hs.length - i = m := ⟨_, rfl⟩
        have exv : x = natV m := by
          rw [List.getElem?_map, List.getElem?_range hi] at ex
          have := Option.some.inj ex
          rw [← this]
          show V.int _ = V.int _
          congr 1
          omega
        subst exv
        refine ⟨_, rfl, _, rfl, _, rfl, ((m : Nat) : Int), rfl, b, bits, rfl, SqL.of (s1 _ _ eb), fun p hp => ?_⟩
        rw [cut_take]
        have s2 := same_new hp (.lst (bits.take m))
        have ep : upd H1 p (.lst (bits.take m)) p = some (.lst (bits.take m)) := upd_same
        generalize upd H1 p (.lst (bits.take m)) = H2 at s2 ep ⊢
        have hp2 : LL K H2 p (hs.take m) := ⟨_, ep, (alb.imp fun _ _ t => t.fix (Fix.of (s1.trans s2))).take m⟩
        refine ⟨a, p, ls, hs.take m, rfl, ha.same (s1.trans s2), hp2, l1, fun h hh => l3 h (List.mem_of_mem_take hh), fun r its H3 s3 er alr => ?_⟩
        refine ⟨by show 0 ≤ sizeLine; decide, fun t kt => ?_⟩
        have s4 := same_new kt (.lst [])
        have et : upd H3 t (.lst []) t = some (.lst []) := upd_same
        generalize upd H3 t (.lst []) = H4 at s4 et ⊢
        have s14 := ((s1.trans s2).trans s3).trans s4
        have er4 := s4 _ _ er
        have alr4 : All2 (TupN H4) its (laysL ls (hs.take m)) := alr.imp fun _ _ t => t.same (Fix.of s4)
        refine ⟨dL (laysL ls (hs.take m)), .list [], dL_dp er4 alr4, .lst (SqL.of et) .nil, (dL_sh _).ok (by decide), by decide, _, rfl, ?_⟩
        rw [dL_eq]
        have g := gp m (by omega)
        by_cases c : laysL ls (hs.take m) = []
        · rw [decide_eq_true c]
          have : ¬ m ≤ (grL ls hs).length := fun z => (g.mpr z) c
          exact iteF ⟨⟨_, rfl⟩, s14, by omega⟩
        · rw [decide_eq_false c]
          have := g.mp c
          have em : m = (grL ls hs).length := by omega
          refine iteT ⟨_, rfl, ?_⟩
          rw [em]
          exact q H4 s14
      · rintro σ H1 ⟨⟨o, rfl⟩, s1, le⟩
        rw [List.length_map, List.length_range] at le
        exact ⟨⟨o, rfl⟩, s1, by omega⟩
    rintro σ H1 ⟨⟨o, rfl⟩, s1, e⟩
    have q := q H1 s1
    rw [e] at q
    exact q
end
end K6

namespace K6
open PySem PySem.Spec PyProof.Rows L2 Hb St Sq Ow En Zp RZ Rd Xb Da
local macro_rules | `(tactic| walk_at "sd") => `(tactic| (first
  | decide
  | exact ⟨by decide, by decide⟩
  | exact ⟨by decide, by decide, by decide⟩
  | exact Or.inl ⟨by decide, by decide⟩
  | exact Or.inr ⟨by decide, by decide⟩
  | exact divw (by decide) (by decide)
  | exact divw (by omega) (by omega)
  | exact Or.inl ⟨by omega, by omega⟩
  | exact Or.inr ⟨by omega, by omega⟩
  | (show (0 : Int) < _; omega)))
local macro_rules | `(tactic| walk_at "sq") => `(tactic| (first | exact SqT.of (by assumption) | exact SqL.of (by assumption) | exact SqL.of upd_same | assumption))
local macro_rules | `(tactic| walk_at "rd") => `(tactic| repeat (first
  | refine ⟨_, rfl, ?_⟩
  | refine ⟨_, _, rfl, rfl, (by walk_at "sd"), ?_⟩
  | refine ⟨_, _, rfl, rfl, ?_⟩
  | refine ⟨_, _, _, _, rfl, rfl, (by walk_at "sq"), rfl, ?_⟩
  | refine ⟨_, _, _, _, rfl, rfl, (by first | assumption | exact upd_same), rfl, ?_⟩
  | refine ⟨_, _, rfl, Or.inl (by walk_at "sq"), ?_⟩
  | refine ⟨_, _, rfl, ?_⟩
  | refine Or.inl ⟨_, rfl, ?_⟩
  | refine ⟨rfl, ?_⟩))
/-! ### deals -/
def DealN (H : Hp) (p l : Addr) (ns : List Int) (b : Int) : Prop := H p = some (.lst [.ref l, .int b]) ∧ H l = some (.lst (ns.map V.int)) ∧ p ≠ l ∧ ns.length ≤ 63 ∧ (∀ n ∈ ns, 0 ≤ n) ∧ 0 ≤ b ∧ b < 2 ^ 40
def DealAt (H : Hp) (p l : Addr) : Prop := ∃ ns b, DealN H p l ns b
def Kept2 (p l : Addr) (H H' : Hp) : Prop := ∀ b o, H b = some o → b ≠ p → b ≠ l → H' b = some o
theorem Kept2.refl (p l : Addr) (H : Hp) : Kept2 p l H H := fun _ _ e _ _ => e
theorem Kept2.trans {p l : Addr} {H H1 H2 : Hp} (a : Kept2 p l H H1) (b : Kept2 p l H1 H2) : Kept2 p l H H2 := fun c o e n m => b c o (a c o e n m) n m
theorem Kept2.same {p l : Addr} {H H' : Hp} (s : Same H H') : Kept2 p l H H' := fun b o e _ _ => s b o e
theorem Kept2.p {p l : Addr} {H : Hp} {o : HO} : Kept2 p l H (upd H p o) := fun b u e n _ => by rw [upd_ne n]; exact e
theorem Kept2.l {p l : Addr} {H : Hp} {o : HO} : Kept2 p l H (upd H l o) := fun b u e _ n => by rw [upd_ne n]; exact e
theorem DealAt.same {H H' : Hp} {p l : Addr} (h : DealAt H p l) (s : Same H H') : DealAt H' p l := let ⟨ns, b, a, c, r⟩ := h; ⟨ns, b, s _ _ a, s _ _ c, r⟩
theorem Kept2.fix {p l : Addr} {H H' : Hp} (k : Kept2 p l H H') (d : DealAt H p l) : Fix H H' := fun b o e n => by
  obtain ⟨ns, bb, h1, h2, _⟩ := d
  exact k b o e (fun z => n (by rw [z, h1] at e; exact .inl ⟨_, (Option.some.inj e).symm⟩)) fun z => n (by rw [z, h2] at e; exact .inl ⟨_, (Option.some.inj e).symm⟩)
section
variable {K : PySem.W.Frag} {H : Hp} {Q : VK}
theorem dp_ints : ∀ ns : List Int, DpAll K H (ns.map V.int) (ns.map PyData.int)
  | [] => .nil
  | n :: ns => .cons (.int n) (dp_ints ns)
theorem shp_ints (ns : List Int) : SeqAt.shaped (.list (ns.map PyData.int)) = true := (sh_lst (n := 0) fun x _ => sh_int 0 x).ok (by decide)
theorem eqv_nil (ns : List Int) : PyData.eqv (.list (ns.map PyData.int)) (.list []) = decide (ns = []) := eqvAll_map eqv_int ns []
theorem rd_neNil {l t : Addr} {ns : List Int} (hl : SqL K H l (ns.map V.int)) (ht : SqL K H t []) (q : Q (.bl (!decide (ns = []))) H) : rNeD K (.ref l) (.ref t) H Q :=
  ⟨_, _, .lst hl (dp_ints ns), .lst ht .nil, shp_ints ns, shp_ints [], by rw [eqv_nil]; exact q⟩
end
theorem abs_nn (i : Int) : 0 ≤ (if i < 0 then -i else i) := by
  by_cases h : i < 0
  · rw [if_pos h]; omega
  · rw [if_neg h]; omega
theorem cut_int (ns : List Int) (lo hi : Option Int) : ∃ ms : List Int, cutV (ns.map V.int) lo hi = ms.map V.int ∧ ms.length ≤ ns.length := by
  unfold cutV
  rw [List.length_map]
  refine ⟨_, by rw [List.map_drop.symm, List.map_take.symm], ?_⟩
  rw [List.length_take, List.length_drop]
  omega
section
variable {P : Program} {w : World} {K : PySem.W.Frag} {mg : Str → Option Value} {base : Heap}
/-! ### _law_heap -/
abbrev s__law_heap : Stmt := top 22
theorem sc__law_heap : FnScope ["script", "base", "cell", "cells", "stir"] ["script", "base"] (defScope s__law_heap) := ⟨rfl, rfl, rfl, by decide +kernel, rfl, by decide +kernel, by decide +kernel⟩
def spDeal (K : PySem.W.Frag) : Sp := fun vs H Q _ => ∃ (a : Addr) (ns : List Int), vs = [.ref a, .int 0] ∧ SqL K H a (ns.map V.int) ∧ ns.length ≤ 63 ∧ ∀ p l H', H p = none → H l = none → Same H H' → DealAt H' p l → Q (.ref p) H'
theorem ok_heap {f : Addr} {fd : FuncData} (F : Fun K "_law_heap" "_law_heap" s__law_heap f fd) (n_abs : mg "abs" = none) (n_int : mg "int" = none) : FnOk P w K mg base CX0 1 f fd ["script", "base"] (spDeal K) := by
  refine F.ok sc__law_heap (fun vs H Q E h => ?_) (fun cdv A outer s H vs Q E hr h => ?_)
  · obtain ⟨_, _, rfl, _⟩ := h
    rfl
  · obtain ⟨a, ns, rfl, hs, hl, q⟩ := h
    refine ⟨_, (Evl.pss_cut (ps_setLc (i := 3) (own := [("cell", 2)]) (g := gName 2) (by rfl) sc__law_heap.nd rfl rfl (sw_true rfl rfl rfl (by decide +kernel)) (pi_seq (pe_slice (r := rSlL K) sl_list (pv 0) (po_some (pv 1)) (po_some pe_int))) (blkOk_by (N := ["script", "base", "cell", "cells", "stir"]) (sc := defScope s__law_heap) (by decide +kernel)) (fun _ _ _ _ _ => pg_name (i := 2) sc__law_heap.nd rfl (Or.inl rfl)) (fun _ _ _ _ _ => pts_nil) (fun _ _ _ _ _ => pe_callB call_abs (by rfl) n_abs (by decide +kernel) (pa_cons (pv 2) pa_nil)))
    (pss_cons (ps_set (i := 4) sc__law_heap.nd rfl (Or.inl rfl) (pe_op op_add pe_int (pe_op op_mul pe_int (pv 1))))
    (Evl.pss_cut (ps_for PassesOwn.never rfl (pi_seq (pv 3)) (pg_name (i := 2) sc__law_heap.nd rfl (Or.inl rfl))
      (pss_one (ps_set (i := 4) sc__law_heap.nd rfl (Or.inl rfl) (pe_op op_mod (pe_callTy call_int1 (by rfl) n_int (by decide +kernel) (pa_cons (pe_op op_add (pe_op op_add (pe_op op_mul (pv 4) pe_int) (pe_op op_mod (pe_callTy call_int1 (by rfl) n_int (by decide +kernel) (pa_cons (pv 2) pa_nil)) pe_int)) pe_int) pa_nil)) pe_int))))
    (pss_one (ps_ret (pe_lst (pa_cons (pe_revK K (pe_lc (own := [("cell", 2)]) (g := gName 2) rfl sc__law_heap.nd (pi_seq (pv 3)) (blkOk_by (N := ["script", "base", "cell", "cells", "stir"]) (sc := defScope s__law_heap) (by decide +kernel)) (fun _ _ _ _ _ => pg_name (i := 2) sc__law_heap.nd rfl (Or.inl rfl)) (fun _ _ _ _ _ => pts_one (pt_cmpR op_ge (pv 2) (pe_op op_pow pe_int pe_int) (nomark _))) (fun _ _ _ _ _ => pv 2)) (pe_un un_neg pe_int) (fun _ _ _ q => ⟨1, rfl, q⟩)) (pa_cons (pv 4) pa_nil)))))))), ?_⟩
    refine ⟨fun σ H' => ∃ (c : Addr) (o : Option V) (ms : List Int), σ = [some (.ref a), some (.int 0), o, some (.ref c), none] ∧ Same H H' ∧ H' c = some (.lst (ms.map V.int)) ∧ ms.length ≤ 63 ∧ ∀ m ∈ ms, 0 ≤ m, ?_, ?_⟩
    · refine ⟨_, rfl, _, rfl, 0, rfl, 48, rfl, a, _, rfl, hs, fun p hp => ?_⟩
      have s1 := same_new hp (.lst (cutV (ns.map V.int) (some 0) (some 48)))
      obtain ⟨ms, em, lm⟩ := cut_int ns (some 0) (some 48)
      have e1 : (upd H p (.lst (cutV (ns.map V.int) (some 0) (some 48)))) p = some (.lst (ms.map V.int)) := by rw [upd_same, em]
      generalize upd H p (.lst (cutV (ns.map V.int) (some 0) (some 48))) = H1 at s1 e1 ⊢
      refine ⟨p, _, rfl, SqX.lst e1, fun J S W k D hD => ?_⟩
      refine lc_mf (ds := ms) W (fun _ => true) (fun _ y i => y = .int (if i < 0 then -i else i)) k hD (by rw [List.length_map]) (fun i x z H4 ex ez s4 m => ?_) (fun H4 ys s4 e al => ?_)
      · obtain rfl := at_map ex ez
        exact ⟨rfl, _, rfl, z, rfl, mf_yes m hD (fun _ _ _ _ _ h => h) ez (by omega) (Same.refl _) rfl rfl⟩
      · rw [Rd.filter_all] at al
        obtain rfl := al.map_eq fun _ _ h => h
        refine ⟨D, _, ms.map fun i => if i < 0 then -i else i, rfl, s1.trans s4, by rw [List.map_map]; exact e, by rw [List.length_map]; omega, fun m hm => ?_⟩
        obtain ⟨i, _, rfl⟩ := List.mem_map.mp hm
        exact abs_nn i
    rintro σ H1 ⟨c, o, ms, rfl, s1, e1, lm, pm⟩
    walk_at "rd"
    refine ⟨fun σ H' => ∃ o b, σ = [some (.ref a), some (.int 0), o, some (.ref c), some (.int b)] ∧ H' = H1 ∧ 0 ≤ b ∧ b < 2 ^ 40, ?_, ?_⟩
    · refine ⟨_, rfl, c, _, rfl, SqX.lst e1, fun J S W k => ?_⟩
      refine for_sq W (fun i σ H' => ∃ o b, σ = [some (.ref a), some (.int 0), o, some (.ref c), some (.int b)] ∧ H' = H1 ∧ 0 ≤ b ∧ b < 2 ^ 40) ⟨_, _, rfl, rfl, by decide, by decide⟩ (fun i σ H' p => ?_) ?_ ?_
      · obtain ⟨_, _, _, rfl, _⟩ := p
        exact k
      · rintro i σ H2 x ex ⟨o, b, rfl, rfl, b0, b1⟩
        obtain ⟨z, ez⟩ : ∃ z, ms[i]? = some z := ⟨_, List.getElem?_eq_getElem (by have := (List.getElem?_eq_some_iff.mp ex).1; rwa [List.length_map] at this)⟩
        obtain rfl := at_map ex ez
        walk_at "rd"
        exact ⟨Int.emod_nonneg _ (by decide), by omega⟩
      · rintro σ H2 ⟨o, b, rfl, rfl, b0, b1⟩
        exact ⟨o, b, rfl, rfl, b0, b1⟩
    rintro σ H2 ⟨o2, b, rfl, rfl, b0, b1⟩
    refine ⟨_, rfl, c, _, rfl, SqX.lst e1, fun J S W k D hD => ?_⟩
    refine lc_mf (ds := ms) W (fun m => decide ((10 ^ 18 : Int) ≤ m)) (fun _ y i => y = .int i) k hD (by rw [List.length_map]) (fun i x z H4 ex ez s4 m => ?_) (fun H4 ys s4 e al => ?_)
    · obtain rfl := at_map ex ez
      refine ⟨rfl, _, rfl, _, _, rfl, rfl, ⟨by decide, by decide, by decide⟩, _, _, rfl, rfl, _, rfl, ?_⟩
      refine iteD (fun c => ⟨_, rfl, mf_yes m hD (fun _ _ _ _ _ h => h) ez (by omega) (Same.refl _) (decide_eq_true c) rfl⟩) fun c => mf_no m (fun _ _ _ _ _ h => h) ez (Same.refl _) (decide_eq_false c)
    · obtain rfl := al.map_eq fun _ _ h => h
      refine ⟨D, _, rfl, SqL.of e, fun p hp => ?_⟩
      have s5 := same_new hp (.lst ((ms.filter fun m => decide ((10 ^ 18 : Int) ≤ m)).map V.int).reverse)
      refine ⟨_, rfl, by show 2 ≤ sizeLine; decide, fun d hd => ?_⟩
      have s6 := same_new hd (.lst [.ref p, .int b])
      have s26 := ((s1.trans s4).trans s5).trans s6
      have hpH : H p = none := by
        cases h : H p with
        | none => rfl
        | some o => exact absurd rfl (ne_of_none ((s1.trans s4) _ _ h) hp)
      have hdH : H d = none := by
        cases h : H d with
        | none => rfl
        | some o => exact absurd rfl (ne_of_none (((s1.trans s4).trans s5) _ _ h) hd)
      refine q d p _ hdH hpH s26 ⟨(ms.filter fun m => decide ((10 ^ 18 : Int) ≤ m)).reverse, b, upd_same, ?_, (ne_of_none (upd_same (H := H4) (o := .lst ((ms.filter fun m => decide ((10 ^ 18 : Int) ≤ m)).map V.int).reverse)) hd).symm, ?_, fun n hn => ?_, b0, b1⟩
      · rw [s6 _ _ (show upd H4 p (.lst ((ms.filter fun m => decide ((10 ^ 18 : Int) ≤ m)).map V.int).reverse) p = _ from upd_same), List.map_reverse]
      · rw [List.length_reverse]
        exact Nat.le_trans (List.length_filter_le _ _) lm
      · exact pm n (List.mem_filter.mp (List.mem_reverse.mp hn)).1
theorem last_at (ms : List Int) (z : Int) : (ms.map V.int ++ [V.int z])[(ms.map V.int ++ [V.int z]).length - 1]? = some (V.int z) := by
  rw [List.length_append, List.length_singleton, Nat.add_sub_cancel, List.getElem?_append_right (Nat.le_refl _), Nat.sub_self]; rfl
/-! ### _law_draw -/
abbrev s__law_draw : Stmt := top 23
theorem sc__law_draw : FnScope ["heap", "many", "rest"] ["heap", "many"] (defScope s__law_draw) := ⟨rfl, rfl, rfl, by decide +kernel, rfl, by decide +kernel, by decide +kernel⟩
def spDraw : Sp := fun vs H Q _ => ∃ (p l : Addr) (many : Int), vs = [.ref p, .int many] ∧ (1 ≤ many ∧ many < 2 ^ 30) ∧ DealAt H p l ∧ ∀ d H', 0 ≤ d → d < many → Kept2 p l H H' → DealAt H' p l → Q (.int d) H'
theorem ok_draw {f : Addr} {fd : FuncData} (F : Fun K "_law_draw" "_law_draw" s__law_draw f fd) (n_int : mg "int" = none) : FnOk P w K mg base CX0 1 f fd ["heap", "many"] spDraw := by
  refine F.ok sc__law_draw (fun vs H Q E h => ?_) (fun cdv A outer s H vs Q E hr h => ?_)
  · obtain ⟨_, _, _, rfl, _⟩ := h
    rfl
  · obtain ⟨p, l, many, rfl, hm, ⟨ns0, b, hd0⟩, q⟩ := h
    refine ⟨_, (Evl.pss_cut (ps_while PassesOwn.never (PW.pt (pw_and (pt_cmpR (op_neD hr.units) (pe_ix ix_list (pv 0) pe_int (fun _ _ => rfl)) (pe_lst pa_nil) (nomark _)) (pw_and1 (pt_cmpR op_eq (pe_ix ix_list (pe_ix ix_list (pv 0) pe_int (fun _ _ => rfl)) (pe_un un_neg pe_int) (fun _ _ => rfl)) pe_int (nomark _)))))
      (pss_one (ps_expr (pe_bm0 PySem.F.plainAttrs_list PySem.F.slot_list_pop PySem.F.type_list_pop mt_pop (pe_ix ix_list (pv 0) pe_int (fun _ _ => rfl))))))
    (Evl.pss_cut (ps_if (pt_cmpR (op_neD hr.units) (pe_ix ix_list (pv 0) pe_int (fun _ _ => rfl)) (pe_lst pa_nil) (nomark _)) (pss_cons (ps_set (i := 2) sc__law_draw.nd rfl (Or.inl rfl) (pe_bm0 PySem.F.plainAttrs_list PySem.F.slot_list_pop PySem.F.type_list_pop mt_pop (pe_ix ix_list (pv 0) pe_int (fun _ _ => rfl))))
    (pss_cons (ps_expr (pe_bm PySem.F.plainAttrs_list PySem.F.slot_list_append PySem.F.type_list_append mt_append (pe_ix ix_list (pv 0) pe_int (fun _ _ => rfl)) (pa_cons (pe_op op_fdivW (pv 2) (pv 1)) pa_nil)))
    (pss_one (ps_ret (pe_op op_mod (pe_callTy call_int1 (by rfl) n_int (by decide +kernel) (pa_cons (pv 2) pa_nil)) (pv 1)))))) pss_nil)
    (pss_cons (ps_asg (pe_op op_mod (pe_callTy call_int1 (by rfl) n_int (by decide +kernel) (pa_cons (pe_op op_add (pe_op op_mul (pe_ix ix_list (pv 0) pe_int (fun _ _ => rfl)) pe_int) pe_int) pa_nil)) pe_int) (pg_sub (pv 0) pe_int set_list))
    (pss_one (ps_ret (pe_op op_mod (pe_callTy call_int1 (by rfl) n_int (by decide +kernel) (pa_cons (pe_op op_fdivW (pe_ix ix_list (pv 0) pe_int (fun _ _ => rfl)) pe_int) pa_nil)) (pv 1))))))), ?_⟩
    refine ⟨fun σ H' => σ = [some (.ref p), some (.int many), none] ∧ Kept2 p l H H' ∧ ∃ ns, DealN H' p l ns b, ?_, ?_⟩
    · refine ⟨fun m σ H' => σ = [some (.ref p), some (.int many), none] ∧ Kept2 p l H H' ∧ ∃ ns, ns.length = m ∧ DealN H' p l ns b, ⟨_, rfl, Kept2.refl _ _ _, ns0, rfl, hd0⟩, ?_⟩
      rintro m σ H1 ⟨rfl, k1, ns, lm, hp, hl, npl, ln, pn, b0, b1⟩
      refine ⟨_, rfl, p, _, _, _, rfl, rfl, SqL.of hp, at0, by show 0 ≤ sizeLine; decide, fun t ht => ?_⟩
      have s2 := same_new ht (.lst [])
      have hp2 := s2 _ _ hp
      have hl2 := s2 _ _ hl
      refine rd_neNil (SqL.of hl2) (SqL.of upd_same) ?_
      have k2 := k1.trans (Kept2.same (p := p) (l := l) s2)
      refine ⟨_, rfl, ?_⟩
      rcases List.eq_nil_or_concat ns with e | ⟨ms, z, e⟩
      · subst e
        exact iteF ⟨rfl, k2, [], hp2, hl2, npl, ln, pn, b0, b1⟩
      rw [List.concat_eq_append] at e
      subst e
      rw [decide_eq_false (by simp)]
      have em : (ms ++ [z]).map V.int = ms.map V.int ++ [V.int z] := by rw [List.map_append]; rfl
      rw [em] at hl2
      generalize upd H1 t (.lst []) = H2 at s2 hp2 hl2 k2 ⊢
      refine iteT ⟨_, rfl, p, _, _, _, rfl, rfl, SqL.of hp2, at0, 1, rfl, l, _, _, _, rfl, rfl, SqL.of hl2, at_last, rfl, _, rfl, ?_⟩
      refine iteD (fun c => ?_) fun c => ⟨rfl, k2, ms ++ [z], hp2, em ▸ hl2, npl, ln, pn, b0, b1⟩
      refine ⟨fun σ H' => σ = [some (.ref p), some (.int many), none] ∧ Kept2 p l H H' ∧ ∃ ns, ns.length < m ∧ DealN H' p l ns b, fun σ' H' ⟨e1, e2, ns, e3, e4⟩ => ⟨ns.length, e3, e1, e2, ns, rfl, e4⟩, ?_⟩
      refine ⟨_, rfl, p, _, _, _, rfl, rfl, SqL.of hp2, at0, .inl ⟨rfl, _, SqL.of hl2⟩, l, _, .int z, rfl, rfl, hl2, last_at _ _, rfl, k2.trans Kept2.l, ms, by rw [← lm]; simp, ?_⟩
      rw [List.dropLast_concat]
      exact ⟨by rw [upd_ne npl]; exact hp2, upd_same, npl, by simp at ln; omega, fun n hn => pn n (List.mem_append_left _ hn), b0, b1⟩
    rintro σ H1 ⟨rfl, k1, ns, hp, hl, npl, ln, pn, b0, b1⟩
    have lp := npl.symm
    refine ⟨fun σ H' => σ = [some (.ref p), some (.int many), none] ∧ Kept2 p l H H' ∧ ∃ ns, DealN H' p l ns b, ?_, ?_⟩
    · refine ⟨_, rfl, p, _, _, _, rfl, rfl, SqL.of hp, at0, by show 0 ≤ sizeLine; decide, fun t ht => ?_⟩
      have s2 := same_new ht (.lst [])
      have hp2 := s2 _ _ hp
      have hl2 := s2 _ _ hl
      refine rd_neNil (SqL.of hl2) (SqL.of upd_same) ?_
      have k2 := k1.trans (Kept2.same (p := p) (l := l) s2)
      refine ⟨_, rfl, ?_⟩
      rcases List.eq_nil_or_concat ns with e | ⟨ms, z, e⟩
      · subst e
        exact iteF ⟨rfl, k2, [], hp2, hl2, npl, ln, pn, b0, b1⟩
      rw [List.concat_eq_append] at e
      subst e
      rw [decide_eq_false (by simp)]
      have em : (ms ++ [z]).map V.int = ms.map V.int ++ [V.int z] := by rw [List.map_append]; rfl
      rw [em] at hl2
      generalize upd H1 t (.lst []) = H2 at s2 hp2 hl2 k2 ⊢
      have z0 : 0 ≤ z := pn z (by simp)
      refine iteT ⟨_, rfl, p, _, _, _, rfl, rfl, SqL.of hp2, at0, .inl ⟨rfl, _, SqL.of hl2⟩, l, _, .int z, rfl, rfl, hl2, last_at _ _, ?_⟩
      rw [List.dropLast_concat]
      have hp3 : upd H2 l (.lst (ms.map V.int)) p = some (.lst [.ref l, .int b]) := by rw [upd_ne npl]; exact hp2
      have hl3 : upd H2 l (.lst (ms.map V.int)) l = some (.lst (ms.map V.int)) := upd_same
      have k3 := k2.trans (Kept2.l (p := p) (l := l) (H := H2) (o := .lst (ms.map V.int)))
      generalize upd H2 l (.lst (ms.map V.int)) = H3 at hp3 hl3 k3 ⊢
      have lms : ms.length + 1 ≤ 63 := by simpa using ln
      refine ⟨_, rfl, p, _, _, _, rfl, rfl, SqL.of hp3, at0, .inl ⟨rfl, _, SqL.of hl3⟩, _, rfl, _, rfl, _, _, rfl, rfl, divw (by omega) (by omega), l, _, _, rfl, rfl, hl3, by rw [List.length_map, sizeLine_eq]; omega, ?_⟩
      refine ⟨_, rfl, .inl ⟨_, rfl, _, rfl, _, _, rfl, rfl, (by show (0 : Int) < _; omega), ?_⟩⟩
      refine q _ _ (Int.emod_nonneg _ (by omega)) (Int.emod_lt_of_pos _ (by omega)) (k3.trans Kept2.l) ⟨ms ++ [z / many], b, by rw [upd_ne npl]; exact hp3, by rw [upd_same, List.map_append]; rfl, npl, by simp; omega, fun n hn => ?_, b0, b1⟩
      rcases List.mem_append.mp hn with h | h
      · exact pn n (List.mem_append_left _ h)
      · rw [List.mem_singleton.mp h]; exact Int.ediv_nonneg z0 (by omega)
    rintro σ H2 ⟨rfl, k2, ns2, hp2, hl2, _, ln2, pn2, b0, b1⟩
    refine ⟨_, rfl, p, _, _, _, rfl, rfl, SqL.of hp2, at1, ?_⟩
    walk_at "rd"
    exact q _ _ (Int.emod_nonneg _ (by omega)) (Int.emod_lt_of_pos _ (by omega)) (k2.trans Kept2.p) ⟨ns2, (b * 48271 + 11) % 2147483647, upd_same, by rw [upd_ne lp]; exact hl2, npl, ln2, pn2, Int.emod_nonneg _ (by decide), by omega⟩
end
end K6

namespace K6
open PySem PySem.Spec PyProof.Rows L2 Hb St Sq Ow En Zp RZ Rd Xb Da
section
variable {P : Program} {w : World} {K : PySem.W.Frag} {mg : Str → Option Value} {base : Heap}
/-! ### _law_pick -/
abbrev s__law_pick : Stmt := top 24
theorem sc__law_pick : FnScope ["heap", "some"] ["heap", "some"] (defScope s__law_pick) := ⟨rfl, rfl, rfl, by decide +kernel, rfl, by decide +kernel, by decide +kernel⟩
def spPick (K : PySem.W.Frag) : Sp := fun vs H Q _ => ∃ (p l s : Addr) (xs : List V), vs = [.ref p, .ref s] ∧ DealAt H p l ∧ (∀ H', Kept2 p l H H' → SqX K H' s xs) ∧ (1 ≤ xs.length ∧ xs.length ≤ 1000) ∧ ∀ x H', x ∈ xs → Kept2 p l H H' → DealAt H' p l → Q x H'
theorem ok_pick {f : Addr} {fd : FuncData} (F : Fun K "_law_pick" "_law_pick" s__law_pick f fd) (C__law_draw : Cl P w K mg base "_law_draw" ["heap", "many"] [] 1 spDraw) (n_len : mg "len" = none) : FnOk P w K mg base CX0 2 f fd ["heap", "some"] (spPick K) := by
  refine F.ok sc__law_pick (fun vs H Q E h => ?_) (fun cdv A outer s H vs Q E hr h => ?_)
  · obtain ⟨_, _, _, _, rfl, _⟩ := h
    rfl
  · obtain ⟨p, l, s, xs, rfl, hd, hs, hn, q⟩ := h
    refine ⟨_, (pss_one (ps_ret (pe_ix (r := rIx K) ix_seq (pv 1) (pe_use C__law_draw (hr.mono (by decide)) rfl (pa_cons (pv 0) (pa_cons (pe_callB call_len_seq (by rfl) n_len PySem.boot_len (pa_cons (pv 1) pa_nil)) pa_nil))) (fun _ _ => rfl)))), ?_⟩
    have len : ∃ p' ys, [V.ref s] = [V.ref p'] ∧ (SqL K H p' ys ∨ SqT K H p' ys) ∧ ys = xs := ⟨s, xs, rfl, hs H (Kept2.refl _ _ _), rfl⟩
    refine ⟨_, rfl, _, rfl, _, rfl, s, xs, rfl, hs H (Kept2.refl _ _ _), p, l, _, rfl, ?_, hd, fun d H' d0 d1 k b => ?_⟩
    · omega
    · have hdn : d.toNat < xs.length := by omega
      have e : d = ((d.toNat : Nat) : Int) := by omega
      obtain ⟨x, hx⟩ : ∃ x, xs[d.toNat]? = some x := ⟨_, List.getElem?_eq_getElem hdn⟩
      have hat : atI xs d = some x := by rw [e]; exact at_nat hx
      have qq := q _ H' (List.mem_of_getElem? hx) k b
      rcases hs H' k with hs | hs
      · exact .inl ⟨s, _, d, x, rfl, rfl, hs, hat, qq⟩
      · exact .inr (.inl ⟨s, _, d, x, rfl, rfl, hs, hat, qq⟩)
end
end K6

namespace K6
open PySem PySem.Spec PyProof.Rows L2 Hb St Sq Ow En Zp RZ Rd Xb Rv Zn
def mayL (ls hs : List (List Str)) : List (List Nat) := (hs.zip ((grL ls hs).zip (bkL ls hs))).map fun p => ((List.range (p.2.2 + 1 - p.2.1)).map (p.2.1 + ·)).filter (okL ls p.1)
theorem stuck_lays {ls hs : List (List Str)} (h : stuckN ls hs = none) : Ks.lays ls.length (okL ls) hs ≠ [] := by
  refine Ks.gr_whole.mp ?_
  have := Ks.gr_len (n := ls.length) (ok := okL ls) hs 0
  unfold stuckN grL at h
  by_cases c : (Ks.gr ls.length (okL ls) hs 0).length < hs.length
  · rw [if_pos c] at h; cases h
  · omega
theorem gr_lenN {ls hs : List (List Str)} (h : stuckN ls hs = none) : (grL ls hs).length = hs.length := Ks.gr_whole.mpr (stuck_lays h)
theorem bk_lenN {ls hs : List (List Str)} (h : stuckN ls hs = none) : (bkL ls hs).length = hs.length := (Ks.bk_isLay (stuck_lays h)).len
theorem zip_atG {α β : Type} {xs : List α} {ys : List β} {i : Nat} {x : α} {y : β} (hx : xs[i]? = some x) (hy : ys[i]? = some y) : (xs.zip ys)[i]? = some (x, y) := by
  rw [List.getElem?_zip_eq_some]; exact ⟨hx, hy⟩
theorem may_at {ls hs : List (List Str)} {i b c : Nat} {h : List Str} (e1 : hs[i]? = some h) (e2 : (grL ls hs)[i]? = some b) (e3 : (bkL ls hs)[i]? = some c) : (mayL ls hs)[i]? = some (((List.range (c + 1 - b)).map (b + ·)).filter (okL ls h)) := by
  unfold mayL
  rw [List.getElem?_map, zip_atG e1 (zip_atG e2 e3)]
  rfl
theorem may_len {ls hs : List (List Str)} (h : stuckN ls hs = none) : (mayL ls hs).length = hs.length := by
  unfold mayL
  rw [List.length_map, List.length_zip, List.length_zip, gr_lenN h, bk_lenN h]; omega
section
variable {P : Program} {w : World} {K : PySem.W.Frag} {mg : Str → Option Value} {base : Heap}
/-! ### may_lie -/
abbrev s_may_lie : Stmt := top 19
theorem sc_may_lie : FnScope ["lots", "heard", "numbers", "lot", "first", "last", "number"] ["lots", "heard"] (defScope s_may_lie) := ⟨rfl, rfl, rfl, by decide +kernel, rfl, by decide +kernel, by decide +kernel⟩
def spMay (K : PySem.W.Frag) (C R : Addr) : Sp := fun vs H Q E => ∃ (v u : V) (d e : PyData) (ls hs : List (List Str)), vs = [v, u] ∧ TIn K H v u d e ls hs ∧ (firstNo [d, e] = none → stuckN ls hs = none → ∀ p its H', Same H H' → H' p = some (.tup its) → All2 (TupN H') its (mayL ls hs) → Q (.ref p) H') ∧ Refd K C R E H d e ls hs
theorem ok_may {f C R : Addr} {fd : FuncData} (F : Fun K "may_lie" "may_lie" s_may_lie f fd) (C_first_laying : Cx_ P w K mg base "first_laying" ["lots", "heard"] 7 (spFirst K C R)) (C_last_laying : Cx_ P w K mg base "last_laying" ["lots", "heard"] 7 (spLast K C R)) (C_is_part : Cl P w K mg base "is_part" ["lot", "other"] [] 2 (spPart K)) (n_range : mg "range" = none) (n_tuple : mg "tuple" = none) (n_zip : mg "zip" = none) : FnOk P w K mg base (L2.CX P w) 8 f fd ["lots", "heard"] (spMay K C R) := by
  refine F.okX sc_may_lie (fun vs H Q E h => ?_) (fun cdv A outer s H vs Q E hr h => ?_)
  · obtain ⟨_, _, _, _, _, _, rfl, _⟩ := h
    rfl
  · obtain ⟨v, u, d, e, ls, hs, rfl, ti, q, qr, qe⟩ := h
    refine ⟨_, (pss_cons (ps_set (i := 2) sc_may_lie.nd rfl (Or.inl rfl) (pe_lst pa_nil))
      (Evl.pss_cut (ps_for (passes_of rfl) rfl (pi_zk true true true (by rfl) n_zip (pa_cons (pv 1) (pa_cons (pe_useX C_first_laying (hr.mono (by decide)) (fun σ => passAt (takes_of rfl rfl rfl rfl) σ) rfl (pa_cons (pv 0) (pa_cons (pv 1) pa_nil))) (pa_cons (pe_useX C_last_laying (hr.mono (by decide)) (fun σ => passAt (takes_of rfl rfl rfl rfl) σ) rfl (pa_cons (pv 0) (pa_cons (pv 1) pa_nil))) pa_nil)))) (pg_tup rfl (pgs_cons (pg_name (i := 3) sc_may_lie.nd rfl (Or.inr rfl)) (pgs_cons (pg_name (i := 4) sc_may_lie.nd rfl (Or.inl rfl)) (pgs_cons (pg_name (i := 5) sc_may_lie.nd rfl (Or.inl rfl)) pgs_nil))))
        (pss_one (ps_expr (pe_bm PySem.F.plainAttrs_list PySem.F.slot_list_append PySem.F.type_list_append mt_append (pv 2) (pa_cons (pe_callTy call_tuple_of (by rfl) n_tuple (by decide +kernel) (pa_cons (pe_lc (own := [("number", 6)]) (g := gName 6) rfl sc_may_lie.nd (pi_range2 (by rfl) n_range (pa_cons (pv 4) (pa_cons (pe_op op_add (pv 5) pe_int) pa_nil))) (blkOk_by (N := ["lots", "heard", "numbers", "lot", "first", "last", "number"]) (sc := defScope s_may_lie) (by decide +kernel)) (fun _ _ _ _ _ => pg_name (i := 6) sc_may_lie.nd rfl (Or.inl rfl)) (fun _ _ _ _ _ => pts_one (pt_val (pe_use C_is_part (hr.mono (by decide)) rfl (pa_cons (pv 3) (pa_cons (pe_ix (r := rIxT K) ix_tup (pv 0) (pv 6) (fun _ _ => rfl)) pa_nil))))) (fun _ _ _ _ _ => pv 6)) pa_nil)) pa_nil)))))
      (pss_one (ps_ret (pe_callTy call_tuple_of (by rfl) n_tuple (by decide +kernel) (pa_cons (pv 2) pa_nil)))))), ?_⟩
    refine ⟨by show 0 ≤ sizeLine; decide, fun np knp => ?_⟩
    have s1 := same_new knp (.lst [])
    have enp : upd H np (.lst []) np = some (.lst []) := upd_same
    have kin : ∀ H', Kept np (upd H np (.lst [])) H' → Same H H' := fun H' k x o e => k x o (s1 _ _ e) (ne_of_none e knp)
    generalize upd H np (.lst []) = H1 at s1 enp kin ⊢
    have t1 := ti.same s1
    refine ⟨fun σ H' => ∃ its o1 o2 o3 o4, σ = [some v, some u, some (.ref np), o1, o2, o3, o4] ∧ Kept np H1 H' ∧ H' np = some (.lst its) ∧ All2 (TupN H') its (mayL ls hs) ∧ firstNo [d, e] = none ∧ stuckN ls hs = none, ?_, ?_⟩
    · refine ⟨_, rfl, _, rfl, _, rfl, v, u, d, e, ls, hs, rfl, t1, fun no em p1 H2 s2 e2 => ?_, fun m no em dd H2 s2 ed => qr m no em dd H2 (s1.trans s2) ed, fun k hk dd H2 s2 ed => qe k hk dd H2 (s1.trans s2) ed⟩
      refine ⟨_, rfl, _, rfl, v, u, d, e, ls, hs, rfl, t1.same s2, fun _ _ p2 H3 s3 e3 => ?_, fun m no em dd H3 s3 ed => qr m no em dd H3 ((s1.trans s2).trans s3) ed, fun k hk dd H3 s3 ed => qe k hk dd H3 ((s1.trans s2).trans s3) ed⟩
      have t3 := t1.same (s2.trans s3)
      obtain ⟨a, b, rfl, rfl, ⟨aits, ea, ala⟩, ⟨bits, eb, alb⟩⟩ := t3.ok no
      have e2 := s3 _ _ e2
      have en3 := (s2.trans s3) _ _ enp
      have k13 : Kept np H1 H3 := fun x o e _ => (s2.trans s3) x o e
      refine ⟨b, p1, p2, bits, _, _, rfl, SqT.of eb, SqT.of e2, SqT.of e3, ?_⟩
      have lb : bits.length = hs.length := alb.len
      have lg := gr_lenN em
      have lk := bk_lenN em
      have la : aits.length = ls.length := ala.len
      have anp : a ≠ np := fun z => by rw [z, en3] at ea; cases ea
      have bnp : b ≠ np := fun z => by rw [z, en3] at eb; cases eb
      have pnp : p1 ≠ np := fun z => by rw [z, en3] at e2; cases e2
      have qnp : p2 ≠ np := fun z => by rw [z, en3] at e3; cases e3
      refine for_zk (by rw [List.length_map, lb, lg]) (by rw [List.length_map, lb, lk]) (fun i σ H' => ∃ its o1 o2 o3 o4, σ = [some (.ref a), some (.ref b), some (.ref np), o1, o2, o3, o4] ∧ Kept np H3 H' ∧ H' np = some (.lst its) ∧ All2 (TupN H') its ((mayL ls hs).take i)) ⟨[], _, _, _, _, rfl, Kept.refl _ _, en3, .nil⟩ (fun i σ H' pv => let ⟨_, _, _, _, _, _, k, _⟩ := pv; ⟨SqT.of (k _ _ eb bnp), SqT.of (k _ _ e2 pnp), SqT.of (k _ _ e3 qnp)⟩) ?_ ?_
      · rintro i x y z T σ H4 ex ey ez ⟨its, o1, o2, o3, o4, rfl, k4, e4, al4⟩ hT
        obtain ⟨h, eh, hb', rfl, hhb⟩ := alb.get ex
        have hi : i < hs.length := (List.getElem?_eq_some_iff.mp eh).1
        obtain ⟨fb, efb⟩ : ∃ n, (grL ls hs)[i]? = some n := ⟨_, List.getElem?_eq_getElem (by omega)⟩
        obtain ⟨lc, elc⟩ : ∃ n, (bkL ls hs)[i]? = some n := ⟨_, List.getElem?_eq_getElem (by omega)⟩
        obtain rfl := at_map ey efb
        obtain rfl := at_map ez elc
        have s5 := same_new hT (.tup [.ref hb', natV fb, natV lc])
        refine ⟨T, _, rfl, SqT.of upd_same, rfl, _, _, rfl, _, _, rfl, _, _, rfl, rfl, ?_⟩
        have e5 := s5 _ _ e4
        have k5 : Kept np H3 (upd H4 T (.tup [.ref hb', natV fb, natV lc])) := k4.trans fun x o e _ => s5 x o e
        have al5 := al4.imp fun _ _ t => TupN.same t (Fix.of s5)
        generalize upd H4 T (.tup [.ref hb', natV fb, natV lc]) = H5 at e5 k5 al5 ⊢
        have fx5 : Fix H3 H5 := Fix.kept en3 k5
        have ea5 : H5 a = some (.tup aits) := k5 _ _ ea anp
        have hh5 : SqT K H5 hb' (h.map V.str) := tupFix fx5 hhb
        have ll := t3.ll
        have blc : lc < ls.length := (Ks.bk_isLay (stuck_lays em)).below lc (at_mem elc)
        have bfb : fb < ls.length := gr_below hs 0 fb (at_mem efb)
        refine ⟨_, rfl, .inl ⟨rfl, _, SqL.of e5⟩, _, rfl, _, rfl, _, _, rfl, rfl, (fb : Nat), ((lc : Nat) : Int) + 1, rfl, ⟨by omega, by omega, by omega, by omega⟩, fun D hD => ?_⟩
        rw [show ((((lc : Nat) : Int) + 1 - ((fb : Nat) : Int)).toNat) = lc + 1 - fb by omega]
        refine lc_mf (ds := (List.range (lc + 1 - fb)).map (fb + ·)) (wk_range (a := np)) (fun x => okL ls h x) (fun _ y x => y = natV x) trivial hD (by rw [List.length_map, List.length_map]) (fun j x n H6 ex en s6 m => ?_) (fun H6 ys s6 e6 al6 => ?_)
        · have hj : j < lc + 1 - fb := by
            have := (List.getElem?_eq_some_iff.mp en).1
            rwa [List.length_map, List.length_range] at this
          obtain rfl : fb + j = n := by
            rw [List.getElem?_map, List.getElem?_range hj] at en
            exact Option.some.inj en
          obtain rfl : natV (fb + j) = x := by
            rw [List.getElem?_map, List.getElem?_range hj] at ex
            have := Option.some.inj ex
            rw [← this]; rfl
          obtain ⟨l, el⟩ : ∃ l, ls[fb + j]? = some l := ⟨_, List.getElem?_eq_getElem (by omega)⟩
          obtain ⟨z, ez, lb', rfl, hl⟩ := ala.getR el
          have eok : prt h l = okL ls h (fb + j) := by show _ = prt h (ls.getD (fb + j) []); rw [List.getD_eq_getElem?_getD, el]; rfl
          refine ⟨rfl, _, rfl, _, rfl, _, rfl, a, aits, ((fb + j : Nat) : Int), .ref lb', rfl, rfl, SqT.of (s6 _ _ ea5), atI_nat ez, hb', lb', h, l, rfl, tupFix (Fix.of s6) hh5, tupFix (fx5.trans (Fix.of s6)) hl, t3.l3 h (at_mem eh), fun H7 s7 => ⟨_, rfl, ?_⟩⟩
          rw [eok]
          cases cc : okL ls h (fb + j) with
          | true => exact iteT ⟨_, rfl, mf_yes m hD (fun _ _ _ _ _ h => h) en (by rw [List.length_map, List.length_range]; omega) s7 cc rfl⟩
          | false => exact iteF (mf_no m (fun _ _ _ _ _ h => h) en s7 cc)
        · have ey6 := al6.map_eq (f := natV) fun _ _ h => h
          rw [ey6] at e6
          refine ⟨D, _, rfl, .inl ⟨SqL.of e6, fun t ht => ?_⟩⟩
          have s7 := same_new ht (.tup ((((List.range (lc + 1 - fb)).map (fb + ·)).filter fun x => okL ls h x).map natV))
          have et : upd H6 t (.tup ((((List.range (lc + 1 - fb)).map (fb + ·)).filter fun x => okL ls h x).map natV)) t = _ := upd_same
          generalize upd H6 t (.tup ((((List.range (lc + 1 - fb)).map (fb + ·)).filter fun x => okL ls h x).map natV)) = H7 at s7 et ⊢
          have e7 := (s6.trans s7) _ _ e5
          have li : its.length = i := by rw [al4.len, List.length_take, may_len em]; omega
          have lhs := t3.lh
          refine ⟨np, its, .ref t, rfl, rfl, e7, by rw [sizeLine_eq]; omega, its ++ [.ref t], _, _, _, _, rfl, ?_, upd_same, ?_⟩
          · exact fun x o e n => by rw [upd_ne n]; exact (s6.trans s7) _ _ (k5 x o e n)
          · rw [List.take_add_one, may_at eh efb elc]
            refine (al5.imp fun _ _ z => ?_).app (.cons ⟨t, rfl, ?_⟩ .nil)
            · obtain ⟨b', q1, q2⟩ := z
              have nb : b' ≠ np := fun z => by rw [z, e5] at q2; cases q2
              exact ⟨b', q1, by rw [upd_ne nb]; exact (s6.trans s7) _ _ q2⟩
            · have nt : t ≠ np := fun z => by rw [z, e7] at et; cases et
              rw [upd_ne nt]; exact et
      · rintro σ H4 ⟨its, o1, o2, o3, o4, rfl, k4, e4, al4⟩
        rw [List.take_of_length_le (by rw [may_len em, lb]; exact Nat.le_refl _)] at al4
        exact ⟨its, o1, o2, o3, o4, rfl, k13.trans k4, e4, al4, no, em⟩
    rintro σ H2 ⟨its, o1, o2, o3, o4, rfl, k2, e2, al2, no, em⟩
    refine ⟨_, rfl, np, its, rfl, .inl ⟨SqL.of e2, fun l hl => ?_⟩⟩
    have s3 := same_new hl (.tup its)
    exact q no em l its _ ((kin _ k2).trans s3) upd_same (al2.imp fun _ _ t => t.same (Fix.of s3))
end
end K6

namespace K6
open PySem PySem.Spec PyProof.Rows L2 Hb St Sq Ow En Zp RZ Rd Xb Rv Zn
def csN (ok : List Str → Nat → Bool) (hs : List (List Str)) (j : Nat) : List Nat := (List.range (hs.length + 1)).map fun i => Ks.cnt ok j (hs.take i).reverse
theorem cs_len (ok : List Str → Nat → Bool) (hs : List (List Str)) (j : Nat) : (csN ok hs j).length = hs.length + 1 := by unfold csN; rw [List.length_map, List.length_range]
theorem cs_at {ok : List Str → Nat → Bool} {hs : List (List Str)} {j i : Nat} (h : i < hs.length + 1) : (csN ok hs j)[i]? = some (Ks.cnt ok j (hs.take i).reverse) := by
  unfold csN
  rw [List.getElem?_map, List.getElem?_range h]; rfl
theorem take_rev {hs : List (List Str)} {i : Nat} {h : List Str} (e : hs[i]? = some h) : (hs.take (i + 1)).reverse = h :: (hs.take i).reverse := by
  rw [List.take_add_one, e, List.reverse_append]; rfl
theorem cs_zero (ok : List Str → Nat → Bool) (hs : List (List Str)) : csN ok hs 0 = 1 :: List.replicate hs.length 0 := by
  refine List.ext_getElem? fun i => ?_
  by_cases h : i < hs.length + 1
  · rw [cs_at h]
    cases i with
    | zero => rfl
    | succ i =>
      have hi : i < hs.length := by omega
      rw [take_rev (List.getElem?_eq_getElem hi), List.getElem?_cons_succ, List.getElem?_replicate, if_pos hi]
      rfl
  · rw [List.getElem?_eq_none (by rw [cs_len]; omega), List.getElem?_eq_none (by rw [List.length_cons, List.length_replicate]; omega)]
def laidN (ok : List Str → Nat → Bool) (hs : List (List Str)) (j : Nat) : List Nat := (hs.zip (csN ok hs j)).map fun p => if ok p.1 j = true then p.2 else 0
theorem laid_len (ok : List Str → Nat → Bool) (hs : List (List Str)) (j : Nat) : (laidN ok hs j).length = hs.length := by
  unfold laidN
  rw [List.length_map, List.length_zip, cs_len]; omega
theorem cs_succ (ok : List Str → Nat → Bool) (hs : List (List Str)) (j : Nat) : csN ok hs (j + 1) = 1 :: (((csN ok hs j).drop 1).zip (laidN ok hs j)).map fun p => p.1 + p.2 := by
  refine List.ext_getElem? fun i => ?_
  by_cases h : i < hs.length + 1
  · rw [cs_at h]
    cases i with
    | zero => exact congrArg some (Ks.cnt_nil _)
    | succ i =>
      have hi : i < hs.length := by omega
      have e := List.getElem?_eq_getElem hi
      have e1 : ((csN ok hs j).drop 1)[i]? = some (Ks.cnt ok j (hs.take (i + 1)).reverse) := by
        rw [List.getElem?_drop, show 1 + i = i + 1 by omega, cs_at (by omega)]
      have e2 : (laidN ok hs j)[i]? = some (if ok hs[i] j = true then Ks.cnt ok j (hs.take i).reverse else 0) := by
        unfold laidN
        rw [List.getElem?_map, zip_atG e (cs_at (by omega))]; rfl
      rw [List.getElem?_cons_succ, List.getElem?_map, zip_atG e1 e2, take_rev e]
      rfl
  · rw [List.getElem?_eq_none (by rw [cs_len]; omega), List.getElem?_eq_none (by rw [List.length_cons, List.length_map, List.length_zip, List.length_drop, cs_len, laid_len]; omega)]
section
variable {P : Program} {w : World} {K : PySem.W.Frag} {mg : Str → Option Value} {base : Heap}
/-! ### count_layings -/
abbrev s_count_layings : Stmt := top 20
theorem sc_count_layings : FnScope ["lots", "heard", "counts", "lot", "laid", "one", "many", "more"] ["lots", "heard"] (defScope s_count_layings) := ⟨rfl, rfl, rfl, by decide +kernel, rfl, by decide +kernel, by decide +kernel⟩
def spCount (K : PySem.W.Frag) (C R : Addr) : Sp := fun vs H Q E => ∃ (v u : V) (d e : PyData) (ls hs : List (List Str)), vs = [v, u] ∧ TIn K H v u d e ls hs ∧ (firstNo [d, e] = none → stuckN ls hs = none → ∀ H', Same H H' → Q (natV (Ks.lays ls.length (okL ls) hs).length) H') ∧ Refd K C R E H d e ls hs
theorem ok_count {f C R : Addr} {fd : FuncData} (F : Fun K "count_layings" "count_layings" s_count_layings f fd) (C_need_laying : Cx_ P w K mg base "need_laying" ["lots", "heard"] 6 (spNeedL K C R)) (C_is_part : Cl P w K mg base "is_part" ["lot", "other"] [] 2 (spPart K)) (n_len : mg "len" = none) (n_zip : mg "zip" = none) : FnOk P w K mg base (L2.CX P w) 7 f fd ["lots", "heard"] (spCount K C R) := by
  refine F.okX sc_count_layings (fun vs H Q E h => ?_) (fun cdv A outer s H vs Q E hr h => ?_)
  · obtain ⟨_, _, _, _, _, _, rfl, _⟩ := h
    rfl
  · obtain ⟨v, u, d, e, ls, hs, rfl, ti, q, qr, qe⟩ := h
    refine ⟨_, (pss_cons (ps_expr (pe_useX C_need_laying (hr.mono (by decide)) (fun σ => passAt (takes_of rfl rfl rfl rfl) σ) rfl (pa_cons (pv 0) (pa_cons (pv 1) pa_nil))))
      (pss_cons (ps_set (i := 2) sc_count_layings.nd rfl (Or.inl rfl) (pe_op op_cat (pe_lst (pa_cons pe_int pa_nil)) (pe_op op_rep (pe_lst (pa_cons pe_int pa_nil)) (pe_callB call_len_seq (by rfl) n_len PySem.boot_len (pa_cons (pv 1) pa_nil)))))
      (Evl.pss_cut (ps_for (passes_of rfl) rfl (pi_seq (pv 0)) (pg_name (i := 3) sc_count_layings.nd rfl (Or.inr rfl))
        (Evl.pss_cut (ps_setLc (i := 4) (own := [("one", 5), ("many", 6)]) (g := gTup K 2 (gCons (gName 5) (gCons (gName 6) gNil))) (by rfl) sc_count_layings.nd rfl rfl (sw_true rfl rfl rfl (by decide +kernel)) (pi_zj true false (by rfl) n_zip (pa_cons (pv 1) (pa_cons (pv 2) pa_nil))) (blkOk_by (N := ["lots", "heard", "counts", "lot", "laid", "one", "many", "more"]) (sc := defScope s_count_layings) (by decide +kernel)) (fun _ _ _ _ _ => pg_tup rfl (pgs_cons (pg_name (i := 5) sc_count_layings.nd rfl (Or.inl rfl)) (pgs_cons (pg_name (i := 6) sc_count_layings.nd rfl (Or.inl rfl)) pgs_nil))) (fun _ _ _ _ _ => pts_nil) (fun _ _ _ _ _ => pe_ifExp (pt_val (pe_use C_is_part (hr.mono (by decide)) rfl (pa_cons (pv 5) (pa_cons (pv 3) pa_nil)))) (pv 6) pe_int))
      (pss_one (ps_set (i := 2) sc_count_layings.nd rfl (Or.inl rfl) (pe_op op_cat (pe_lst (pa_cons pe_int pa_nil)) (pe_lc (own := [("many", 6), ("more", 7)]) (g := gTup K 2 (gCons (gName 6) (gCons (gName 7) gNil))) rfl sc_count_layings.nd (pi_zj false false (by rfl) n_zip (pa_cons (pe_slice (r := rSlL K) sl_list (pv 2) (po_some pe_int) po_none) (pa_cons (pv 4) pa_nil))) (blkOk_by (N := ["lots", "heard", "counts", "lot", "laid", "one", "many", "more"]) (sc := defScope s_count_layings) (by decide +kernel)) (fun _ _ _ _ _ => pg_tup rfl (pgs_cons (pg_name (i := 6) sc_count_layings.nd rfl (Or.inl rfl)) (pgs_cons (pg_name (i := 7) sc_count_layings.nd rfl (Or.inl rfl)) pgs_nil))) (fun _ _ _ _ _ => pts_nil) (fun _ _ _ _ _ => pe_op op_add (pv 6) (pv 7))))))))
      (pss_one (ps_ret (pe_ix ix_list (pv 2) (pe_un un_neg pe_int) (fun _ _ => rfl))))))), ?_⟩
    refine ⟨_, rfl, _, rfl, v, u, d, e, ls, hs, rfl, ti, fun no em H1 s1 => ?_, fun m no em dd H1 s1 ed => qr m no em dd H1 s1 ed, fun k hk dd H1 s1 ed => qe k hk dd H1 s1 ed⟩
    have t1 := ti.same s1
    obtain ⟨a, b, rfl, rfl, ⟨aits, ea, ala⟩, ⟨bits, eb, alb⟩⟩ := t1.ok no
    have lb : bits.length = hs.length := alb.len
    have lhs := t1.lh
    obtain ⟨ok, hok⟩ : ∃ ok, okL ls = ok := ⟨_, rfl⟩
    refine ⟨by show 1 ≤ sizeLine; decide, fun po hpo => ⟨by show 1 ≤ sizeLine; decide, fun pz hpz => ?_⟩⟩
    have s2 := same_new hpo (.lst [.int 1])
    have s3 := same_new hpz (.lst [.int 0])
    have epo : upd (upd H1 po (.lst [.int 1])) pz (.lst [.int 0]) po = some (.lst [.int 1]) := s3 _ _ upd_same
    have epz : upd (upd H1 po (.lst [.int 1])) pz (.lst [.int 0]) pz = some (.lst [.int 0]) := upd_same
    generalize upd (upd H1 po (.lst [.int 1])) pz (.lst [.int 0]) = H2 at s3 epo epz ⊢
    have eb2 := (s2.trans s3) _ _ eb
    refine ⟨_, rfl, b, bits, rfl, .inr (SqT.of eb2), pz, (bits.length : Nat), _, rfl, rfl, epz, by omega, by omega, by rw [sizeLine_eq]; show 1 * _ ≤ _; omega, fun pr hpr => ?_⟩
    have s4 := same_new hpr (.lst (List.replicate ((bits.length : Nat) : Int).toNat [V.int 0]).flatten)
    have epr : upd H2 pr (.lst (List.replicate ((bits.length : Nat) : Int).toNat [V.int 0]).flatten) pr = some (.lst ((List.replicate hs.length 0).map natV)) := by
      rw [upd_same, List.map_replicate, ← lb, Int.toNat_natCast, List.flatten_replicate_singleton]; rfl
    generalize upd H2 pr (.lst (List.replicate ((bits.length : Nat) : Int).toNat [V.int 0]).flatten) = H3 at s4 epr ⊢
    refine ⟨po, pr, _, _, rfl, rfl, s4 _ _ epo, epr, by rw [List.length_map, List.length_replicate, sizeLine_eq]; show 1 + _ ≤ _; omega, fun cp hcp => ?_⟩
    have s5 := same_new hcp (.lst ([V.int 1] ++ (List.replicate hs.length 0).map natV))
    have ecp : upd H3 cp (.lst ([V.int 1] ++ (List.replicate hs.length 0).map natV)) cp = some (.lst ((csN ok hs 0).map natV)) := by
      rw [upd_same, cs_zero]; rfl
    generalize upd H3 cp (.lst ([V.int 1] ++ (List.replicate hs.length 0).map natV)) = H4 at s5 ecp ⊢
    have s14 := ((s2.trans s3).trans s4).trans s5
    let St : Addr → L2.St → Prop := fun cp σ => ∃ o3 o4 o5 o6 o7, σ = [some (.ref a), some (.ref b), some (.ref cp), o3, o4, o5, o6, o7]
    refine ⟨fun σ H' => ∃ cp, St cp σ ∧ Same H4 H' ∧ H' cp = some (.lst ((csN ok hs ls.length).map natV)), ?_, ?_⟩
    · refine ⟨_, rfl, a, _, rfl, SqX.tup (s14 _ _ ea), fun J S W z0 => ?_⟩
      refine for_sq W (fun j σ H' => ∃ cp, St cp σ ∧ Same H4 H' ∧ H' cp = some (.lst ((csN ok hs j).map natV))) ⟨cp, ⟨_, _, _, _, _, rfl⟩, Same.refl _, ecp⟩ (fun j σ H' pv => W.keep (fun o e => let ⟨_, _, s, _⟩ := pv; s _ _ e) z0) ?_ ?_
      · rintro j σ H5 x ex ⟨cp, ⟨o3, o4, o5, o6, o7, rfl⟩, s45, ecp⟩
        obtain ⟨l, el, lb', rfl, hl⟩ := ala.get ex
        have s15 := s14.trans s45
        have eb5 := s15 _ _ eb
        refine ⟨fun σ H' => ∃ lp o5 o6 o7, σ = [some (.ref a), some (.ref b), some (.ref cp), some (.ref lb'), some (.ref lp), o5, o6, o7] ∧ Same H5 H' ∧ H' lp = some (.lst ((laidN ok hs j).map natV)), ?_, ?_⟩
        · refine ⟨_, rfl, _, rfl, b, cp, bits, _, rfl, SqT.of eb5, SqL.of ecp, fun D hD => ?_⟩
          refine lc_mp (ds := hs.zip (csN ok hs j)) wp_zj (fun _ => true) (fun _ y p => y = natV (if ok p.1 j = true then p.2 else 0)) ⟨SqT.of eb5, SqL.of ecp⟩ hD (by rw [List.length_zip, List.length_zip, List.length_map, lb]) (fun _ _ _ _ _ h => h) (fun i T p q H6 ep eq s6 eT m => ?_) (fun H6 ys s6 e6 al6 => ?_)
          · obtain ⟨h, n⟩ := q
            obtain ⟨eh, en⟩ := List.getElem?_zip_eq_some.mp eq
            obtain ⟨e1, e2⟩ := List.getElem?_zip_eq_some.mp ep
            have eh : hs[i]? = some h := eh
            have en : (csN ok hs j)[i]? = some n := en
            obtain ⟨h', eh', hb', ehb, hhb⟩ := alb.get e1
            rw [eh] at eh'
            obtain rfl := Option.some.inj eh'
            have e2 := at_map e2 en
            rw [ehb, e2] at eT
            have eok : prt h l = ok h j := by rw [← hok]; show _ = prt h (ls.getD j []); rw [List.getD_eq_getElem?_getD, el]; rfl
            refine ⟨T, _, rfl, SqT.of eT, rfl, _, _, rfl, _, _, rfl, rfl, rfl, _, rfl, _, rfl, hb', lb', h, l, rfl, tupFix (Fix.of (s15.trans s6)) hhb, tupFix (Fix.of (s15.trans s6)) hl, t1.l3 h (at_mem eh), fun H7 s7 => ⟨_, rfl, ?_⟩⟩
            rw [eok]
            have lz : (hs.zip (csN ok hs j)).length ≤ 100000 := by rw [List.length_zip]; omega
            cases cc : ok h j with
            | true => exact iteT ⟨_, rfl, mf_yes m hD (fun _ _ _ _ _ h => h) eq lz s7 rfl (by rw [if_pos cc])⟩
            | false => exact iteF (mf_yes m hD (fun _ _ _ _ _ h => h) eq lz s7 rfl (by rw [if_neg (by rw [cc]; decide)]; rfl))
          · rw [Rd.filter_all] at al6
            have ey := al6.map_eq (f := fun p : List Str × Nat => natV (if ok p.1 j = true then p.2 else 0)) fun _ _ h => h
            exact ⟨D, _, _, _, rfl, s6, by rw [e6, ey]; unfold laidN; rw [List.map_map]; rfl⟩
        rintro σ H6 ⟨lp, o5, o6, o7, rfl, s56, elp⟩
        have ecp6 := s56 _ _ ecp
        refine ⟨by show 1 ≤ sizeLine; decide, fun po2 hpo2 => ?_⟩
        have s7 := same_new hpo2 (.lst [.int 1])
        have epo2 : upd H6 po2 (.lst [.int 1]) po2 = some (.lst [.int 1]) := upd_same
        generalize upd H6 po2 (.lst [.int 1]) = H7 at s7 epo2 ⊢
        have ecp7 := s7 _ _ ecp6
        have elp7 := s7 _ _ elp
        have s57 := s56.trans s7
        obtain ⟨c0, cr, ec⟩ : ∃ c r, csN ok hs j = c :: r := by
          cases e : csN ok hs j with
          | nil => have := cs_len ok hs j; rw [e] at this; cases this
          | cons c r => exact ⟨c, r, rfl⟩
        have lcr : cr.length = hs.length := by have := cs_len ok hs j; rw [ec, List.length_cons] at this; omega
        rw [ec] at ecp7
        refine ⟨_, rfl, 1, rfl, cp, _, rfl, SqL.of ecp7, fun sp hsp => ?_⟩
        have s8 := same_new hsp (.lst (cutV ((c0 :: cr).map natV) (some 1) none))
        have esp : upd H7 sp (.lst (cutV ((c0 :: cr).map natV) (some 1) none)) sp = some (.lst (cr.map natV)) := by rw [upd_same, List.map_cons, cut1]
        generalize upd H7 sp (.lst (cutV ((c0 :: cr).map natV) (some 1) none)) = H8 at s8 esp ⊢
        have elp8 := s8 _ _ elp7
        refine ⟨_, rfl, sp, lp, _, _, rfl, SqL.of esp, SqL.of elp8, fun D hD => ?_⟩
        refine lc_mp (ds := cr.zip (laidN ok hs j)) wp_zj (fun _ => true) (fun _ y p => y = natV (p.1 + p.2)) ⟨SqL.of esp, SqL.of elp8⟩ hD (by rw [List.length_zip, List.length_zip, List.length_map, List.length_map]) (fun _ _ _ _ _ h => h) (fun i T p q H9 ep eq s9 eT m => ?_) (fun H9 ys s9 e9 al9 => ?_)
        · obtain ⟨n, r⟩ := q
          obtain ⟨en, er⟩ := List.getElem?_zip_eq_some.mp eq
          obtain ⟨e1, e2⟩ := List.getElem?_zip_eq_some.mp ep
          have e1 := at_map e1 (show cr[i]? = some n from en)
          have e2 := at_map e2 (show (laidN ok hs j)[i]? = some r from er)
          rw [e1, e2] at eT
          refine ⟨T, _, rfl, SqT.of eT, rfl, _, _, rfl, _, _, rfl, rfl, rfl, _, rfl, _, rfl, _, _, rfl, rfl, mf_yes m hD (fun _ _ _ _ _ h => h) eq (by rw [List.length_zip]; omega) (Same.refl _) rfl ?_⟩
          show V.int _ = V.int _
          congr 1
        · rw [Rd.filter_all] at al9
          have ey := al9.map_eq (f := fun p : Nat × Nat => natV (p.1 + p.2)) fun _ _ h => h
          have s79 := s8.trans s9
          refine ⟨po2, D, _, _, rfl, rfl, s79 _ _ epo2, e9, by rw [ey, List.length_map, List.length_zip, sizeLine_eq]; show 1 + _ ≤ _; omega, fun cp2 hcp2 => ?_⟩
          refine ⟨cp2, ⟨_, _, _, _, _, rfl⟩, ((s45.trans s57).trans s79).trans (same_new hcp2 _), ?_⟩
          rw [upd_same, ey, cs_succ, ec]
          show some (HO.lst ([V.int 1] ++ _)) = some (HO.lst (natV 1 :: _))
          rw [List.map_map]; rfl
      · rintro σ H5 ⟨cp, st, s45, ecp⟩
        rw [show aits.length = ls.length from ala.len] at ecp
        exact ⟨cp, st, s45, ecp⟩
    rintro σ H5 ⟨cp, ⟨o3, o4, o5, o6, o7, rfl⟩, s45, ecp⟩
    have el : (csN ok hs ls.length).map natV = ((List.range hs.length).map fun i => natV (Ks.cnt ok ls.length (hs.take i).reverse)) ++ [natV (Ks.lays ls.length ok hs).length] := by
      unfold csN
      rw [List.range_succ, List.map_append, List.map_append, List.map_map]
      congr 1
      have := Ks.count_all (n := ls.length) (ok := ok) hs.reverse
      rw [List.reverse_reverse] at this
      show [natV (Ks.cnt ok ls.length (hs.take hs.length).reverse)] = _
      rw [List.take_length, this]
    rw [el] at ecp
    refine ⟨_, rfl, 1, rfl, cp, _, (-1 : Int), natV (Ks.lays ls.length ok hs).length, rfl, rfl, SqL.of ecp, atI_last _ _, ?_⟩
    have q := q no em H5 (s1.trans (s14.trans s45))
    rw [hok] at q
    exact q
end
end K6

namespace K6
open PySem PySem.Spec PyProof.Rows L2 Hb St Sq Ow En Zp RZ Rd Xb Da Lg
def LotH (H : Hp) (v : V) (l : List Str) : Prop := ∃ b, v = .ref b ∧ H b = some (.tup (l.map V.str))
theorem LotH.fix {H H' : Hp} {v : V} {l : List Str} (h : LotH H v l) (s : Fix H H') : LotH H' v l := let ⟨b, e, t⟩ := h; ⟨b, e, s _ _ t (not_mut_tup _)⟩
def LotOk (ns l : List Str) : Prop := l ≠ [] ∧ l.Pairwise sLt ∧ ∀ x ∈ l, x ∈ ns
structure NsOk (ns : List Str) : Prop where
  nd : ns.Nodup
  ne : ns ≠ []
  ln : ns.length ≤ 4
  nm : ∀ x ∈ ns, IsNm x
/-- all is kept but the box and the thing at t -/
def Kept3 (p l t : Addr) (H H' : Hp) : Prop := ∀ b o, H b = some o → b ≠ p → b ≠ l → b ≠ t → H' b = some o
theorem Kept3.refl (p l t : Addr) (H : Hp) : Kept3 p l t H H := fun _ _ e _ _ _ => e
theorem Kept3.two {p l t : Addr} {H H1 H2 : Hp} (a : Kept3 p l t H H1) (b : Kept2 p l H1 H2) : Kept3 p l t H H2 := fun c o e n m k => b c o (a c o e n m k) n m
theorem Kept3.put {p l t : Addr} {H H1 : Hp} {o : HO} (a : Kept3 p l t H H1) : Kept3 p l t H (upd H1 t o) := fun c u e n m k => by rw [upd_ne k]; exact a c u e n m k
theorem Kept2.of3 {p l t : Addr} {H H' : Hp} (a : Kept3 p l t H H') (n : H t = none) : Kept2 p l H H' := fun c o e x y => a c o e x y (ne_of_none e n)
theorem DealAt.ne_tup {H : Hp} {p l b : Addr} {xs : List V} (d : DealAt H p l) (e : H b = some (.tup xs)) : b ≠ p ∧ b ≠ l := by
  obtain ⟨ns, bb, h1, h2, _⟩ := d
  exact ⟨fun z => by (rw [z, h1] at e; cases e), fun z => by (rw [z, h2] at e; cases e)⟩
theorem DealAt.ne_none {H : Hp} {p l b : Addr} (d : DealAt H p l) (e : H b = none) : b ≠ p ∧ b ≠ l := by
  obtain ⟨ns, bb, h1, h2, _⟩ := d
  exact ⟨fun z => by (rw [z, h1] at e; cases e), fun z => by (rw [z, h2] at e; cases e)⟩
theorem DealAt.put {H : Hp} {p l t : Addr} {o : HO} (d : DealAt H p l) (n : p ≠ t) (m : l ≠ t) : DealAt (upd H t o) p l := by
  obtain ⟨ns, b, h1, h2, r⟩ := d
  exact ⟨ns, b, by rw [upd_ne n]; exact h1, by rw [upd_ne m]; exact h2, r⟩
theorem LotH.dp {K : PySem.W.Frag} {H : Hp} {v : V} {l : List Str} (h : LotH H v l) : Dp K H v (.tuple (l.map .str)) := let ⟨_, e, t⟩ := h; e ▸ .tup (SqT.of t) (dp_strs l)
theorem sh_lot {l : List Str} (h : ∀ x ∈ l, IsNm x) : Sh 1 (.tuple (l.map .str)) := sh_tup fun x hx => sh_str (h x hx)
theorem eqv_none (d : PyData) : ∀ ds : List PyData, PyData.eqv (.list ds) (.list []) = decide (ds = [])
  | [] => rfl
  | _ :: _ => rfl
theorem LotH.put {H : Hp} {v : V} {l : List Str} {t : Addr} {ys : List V} {o : HO} (h : LotH H v l) (e : H t = some (.lst ys)) : LotH (upd H t o) v l := by
  obtain ⟨b, ev, eb⟩ := h
  exact ⟨b, ev, by rw [upd_ne (fun z => by rw [z, e] at eb; cases eb)]; exact eb⟩
theorem lotOk_sort {ns xs ys : List Str} (ok : NsOk ns) (s : xs.Sublist ns) (pm : ys.Perm xs) (so : sortedS ys = true) : ys.Pairwise sLt ∧ ∀ x ∈ ys, x ∈ ns :=
  ⟨sorted_asc so (pm.nodup_iff.mpr (s.nodup ok.nd)), fun x hx => s.subset (pm.subset hx)⟩
theorem all2_snoc {α β : Type} {R : α → β → Prop} : ∀ {xs : List α} {ys : List β} {y : β}, All2 R xs (ys ++ [y]) → ∃ zs z, xs = zs ++ [z] ∧ R z y ∧ All2 R zs ys
  | _, [], _, h => by
    cases h with
    | cons r t =>
      cases t
      exact ⟨[], _, rfl, r, .nil⟩
  | _, b :: ys, y, h => by
    cases h with
    | cons r t =>
      obtain ⟨zs, z, e, h1, h2⟩ := all2_snoc t
      exact ⟨_ :: zs, z, by rw [e]; rfl, h1, .cons r h2⟩
section
variable {P : Program} {w : World} {K : PySem.W.Frag} {mg : Str → Option Value} {base : Heap}
/-! ### _law_tale -/
abbrev s__law_tale : Stmt := top 25
theorem sc__law_tale : FnScope ["heap", "names", "most", "lots", "turn", "lot", "form", "name"] ["heap", "names", "most"] (defScope s__law_tale) := ⟨rfl, rfl, rfl, by decide +kernel, rfl, by decide +kernel, by decide +kernel⟩
def spTale : Sp := fun vs H Q _ => ∃ (p l nb : Addr) (many : Int) (ns : List Str), vs = [.ref p, .ref nb, .int many] ∧ DealAt H p l ∧ H nb = some (.tup (ns.map V.str)) ∧ (0 ≤ many ∧ many ≤ 7) ∧ NsOk ns ∧
  ∀ t its lots H', H t = none → Kept2 p l H H' → DealAt H' p l → H' t = some (.lst its) → All2 (LotH H') its lots → (∀ x ∈ lots, LotOk ns x) → ((lots.length : Nat) : Int) ≤ many → Q (.ref t) H'
theorem ok_tale {f : Addr} {fd : FuncData} (F : Fun K "_law_tale" "_law_tale" s__law_tale f fd) (C__law_draw : Cl P w K mg base "_law_draw" ["heap", "many"] [] 1 spDraw) (C__law_pick : Cl P w K mg base "_law_pick" ["heap", "some"] [] 2 (spPick K)) (n_range : mg "range" = none) (n_sorted : mg "sorted" = none) (n_tuple : mg "tuple" = none) : FnOk P w K mg base CX0 3 f fd ["heap", "names", "most"] spTale := by
  refine F.ok sc__law_tale (fun vs H Q E h => ?_) (fun cdv A outer s H vs Q E hr h => ?_)
  · obtain ⟨_, _, _, _, _, rfl, _⟩ := h
    rfl
  · obtain ⟨p, l, nb, many, ns, rfl, hd, hn, hm, ok, q⟩ := h
    refine ⟨_, (pss_cons (ps_set (i := 3) sc__law_tale.nd rfl (Or.inl rfl) (pe_lst pa_nil))
    (Evl.pss_cut (ps_for PassesOwn.never rfl (pi_range1 (by rfl) n_range (pa_cons (pe_use C__law_draw (hr.mono (by decide)) rfl (pa_cons (pv 0) (pa_cons (pe_op op_add (pv 2) pe_int) pa_nil))) pa_nil)) (pg_name (i := 4) sc__law_tale.nd rfl (Or.inl rfl))
      (pss_cons (ps_set (i := 5) sc__law_tale.nd rfl (Or.inl rfl) (pe_callTy call_tuple_of (by rfl) n_tuple (by decide +kernel) (pa_cons (pe_callB cr_sortedS (by rfl) n_sorted (by decide +kernel) (pa_cons (pe_lc (own := [("name", 7)]) (g := gName 7) rfl sc__law_tale.nd (pi_seq (pv 1)) (blkOk_by (N := ["heap", "names", "most", "lots", "turn", "lot", "form", "name"]) (sc := defScope s__law_tale) (by decide +kernel)) (fun _ _ _ _ _ => pg_name (i := 7) sc__law_tale.nd rfl (Or.inl rfl)) (fun _ _ _ _ _ => pts_one (pt_cmpR op_eq (pe_use C__law_draw (hr.mono (by decide)) rfl (pa_cons (pv 0) (pa_cons pe_int pa_nil))) pe_int (nomark _))) (fun _ _ _ _ _ => pv 7)) pa_nil)) pa_nil)))
    (pss_cons (ps_set (i := 6) sc__law_tale.nd rfl (Or.inl rfl) (pe_use C__law_draw (hr.mono (by decide)) rfl (pa_cons (pv 0) (pa_cons pe_int pa_nil))))
    (Evl.pss_cut (ps_set (i := 5) sc__law_tale.nd rfl (Or.inl rfl) (pe_ifExp (PW.pt (pw_and (pt_cmpR op_eq (pv 6) pe_int (nomark _)) (pw_and1 (pt_cmpR (op_neD hr.units) (pv 3) (pe_lst pa_nil) (nomark _))))) (pe_ix ix_list (pv 3) (pe_un un_neg pe_int) (fun _ _ => rfl)) (pe_ifExp (PW.pt (pw_or (pt_cmpR (op_eqD hr.units) (pv 5) (pe_tup pa_nil) (nomark _)) (pw_or1 (pt_cmpR op_eq (pv 6) pe_int (nomark _))))) (pe_tup (pa_cons (pe_use C__law_pick (hr.mono (by decide)) rfl (pa_cons (pv 0) (pa_cons (pv 1) pa_nil))) pa_nil)) (pv 5))))
    (pss_one (ps_expr (pe_bm PySem.F.plainAttrs_list PySem.F.slot_list_append PySem.F.type_list_append mt_append (pv 3) (pa_cons (pv 5) pa_nil))))))))
    (pss_one (ps_ret (pv 3))))), ?_⟩
    refine ⟨by show 0 ≤ sizeLine; decide, fun tp ktp => ?_⟩
    obtain ⟨tp1, tp2⟩ := hd.ne_none ktp
    have s1 := same_new ktp (.lst [])
    have etp : upd H tp (.lst []) tp = some (.lst []) := upd_same
    have hd1 := hd.same s1
    have hn1 := s1 _ _ hn
    have kin : ∀ H', Kept3 p l tp (upd H tp (.lst [])) H' → Kept2 p l H H' := fun H' k b o e x y => k b o (s1 _ _ e) x y (ne_of_none e ktp)
    generalize upd H tp (.lst []) = H1 at s1 etp hd1 hn1 kin ⊢
    obtain ⟨nb1, nb2⟩ := hd1.ne_tup hn1
    have nb3 : nb ≠ tp := fun z => by rw [z, etp] at hn1; cases hn1
    let St : L2.St → Prop := fun σ => ∃ o4 o5 o6 o7, σ = [some (.ref p), some (.ref nb), some (.int many), some (.ref tp), o4, o5, o6, o7]
    let Inv : Hp → Nat → Prop := fun H' n => ∃ its lots, Kept3 p l tp H1 H' ∧ DealAt H' p l ∧ H' tp = some (.lst its) ∧ All2 (LotH H') its lots ∧ (∀ x ∈ lots, LotOk ns x) ∧ lots.length = n
    refine ⟨fun σ H' => St σ ∧ ∃ n, Inv H' n ∧ ((n : Nat) : Int) ≤ many, ?_, ?_⟩
    · refine ⟨_, rfl, _, rfl, _, _, rfl, rfl, p, l, many + 1, rfl, by omega, hd1, fun d H2 d0 d1 k2 hd2 => ?_⟩
      have k02 : Kept3 p l tp H1 H2 := fun b o e x y _ => k2 b o e x y
      refine ⟨d, rfl, by omega, by omega, ?_⟩
      refine for_sq (wk_range (a := tp)) (fun i σ H' => St σ ∧ Inv H' i) ⟨⟨none, none, none, none, rfl⟩, [], [], k02, hd2, k2 _ _ etp tp1 tp2, .nil, (fun x hx => by cases hx), rfl⟩ (fun _ _ _ _ => trivial) ?_ ?_
      · rintro i σ H3 x ex ⟨⟨o4, o5, o6, o7, rfl⟩, its, lots, k3, hd3, et3, al3, okl, ln⟩
        have hi : i < d.toNat := by
          have := (List.getElem?_eq_some_iff.mp ex).1
          rw [List.length_map, List.length_range] at this
          omega
        have hn3 : H3 nb = some (.tup (ns.map V.str)) := k3 _ _ hn1 nb1 nb2 nb3
        refine ⟨_, rfl, nb, _, rfl, SqX.tup hn3, fun J S W z0 D hD => ?_⟩
        obtain ⟨D1, D2⟩ := hd3.ne_none hD
        have D3 : D ≠ tp := (ne_of_none et3 hD).symm
        have D4 : D ≠ nb := (ne_of_none hn3 hD).symm
        refine lc_go W (fun j H' => Kept2 p l H3 H' ∧ DealAt H' p l ∧ ∃ xs : List Str, H' D = some (.lst (xs.map V.str)) ∧ xs.Sublist (ns.take j)) ⟨?_, ?_, [], upd_same, List.nil_sublist _⟩ (fun j H' m => W.keep (fun o e => by rw [hn3] at e; cases e; exact m.1 _ _ hn3 nb1 nb2) z0) ?_ ?_
        · exact fun b o e _ _ => by rw [upd_ne (ne_of_none e hD)]; exact e
        · exact hd3.put D1.symm D2.symm
        · rintro j y H4 ey ⟨k4, hd4, xs, eD, sub⟩
          obtain ⟨nm, en⟩ : ∃ nm, ns[j]? = some nm := ⟨_, List.getElem?_eq_getElem (by have := (List.getElem?_eq_some_iff.mp ey).1; rwa [List.length_map] at this)⟩
          obtain rfl := at_map ey en
          refine ⟨rfl, _, rfl, p, l, 2, rfl, by decide, hd4, fun d' H5 _ _ k5 hd5 => ?_⟩
          have eD5 := k5 _ _ eD D1 D2
          have lx : xs.length ≤ 4 := Nat.le_trans sub.length_le (Nat.le_trans (List.length_take_le' ..) ok.ln)
          refine ⟨rfl, _, rfl, iteD (fun c => ⟨_, rfl, _, eD5, by rw [List.length_map, sizeLine_eq]; omega, fun b o e x y => ?_, hd5.put D1.symm D2.symm, xs ++ [nm], by rw [upd_same, List.map_append]; rfl, sub_yes sub en⟩) fun c => ⟨k4.trans k5, hd5, xs, eD5, sub_no sub⟩⟩
          rw [upd_ne (ne_of_none e hD)]
          exact (k4.trans k5) b o e x y
        · rintro H4 ⟨k4, hd4, xs, eD, sub⟩
          rw [List.length_map, List.take_length] at sub
          refine ⟨D, xs, rfl, SqL.of eD, by have := sub.length_le; have := ok.ln; omega, fun ys sp pm so ksp => ⟨sp, _, rfl, .inl ⟨SqL.of upd_same, fun tq ktq => ?_⟩⟩⟩
          obtain ⟨asc, inn⟩ := lotOk_sort ok sub pm so
          have s5 := (same_new ksp (.lst (ys.map V.str))).trans (same_new ktq (.tup (ys.map V.str)))
          have eq5 : upd (upd H4 sp (.lst (ys.map V.str))) tq (.tup (ys.map V.str)) tq = some (.tup (ys.map V.str)) := upd_same
          generalize upd (upd H4 sp (.lst (ys.map V.str))) tq (.tup (ys.map V.str)) = H5 at s5 eq5 ⊢
          have hd5 := hd4.same s5
          refine ⟨_, rfl, p, l, 4, rfl, by decide, hd5, fun fm H6 _ _ k6 hd6 => ?_⟩
          have k36 : Kept2 p l H3 H6 := k4.trans ((Kept2.same s5).trans k6)
          have et6 : H6 tp = some (.lst its) := k36 _ _ et3 tp1 tp2
          have al6 := al3.imp fun _ _ t => t.fix (k36.fix hd3)
          obtain ⟨q1, q2⟩ := hd5.ne_tup eq5
          have eq6 := k6 _ _ eq5 q1 q2
          refine ⟨fun σ H' => ∃ v lot, σ = [some (.ref p), some (.ref nb), some (.int many), some (.ref tp), some x, some v, some (.int fm), o7] ∧ Kept2 p l H6 H' ∧ DealAt H' p l ∧ LotH H' v lot ∧ LotOk ns lot, ?_, ?_⟩
          · refine ⟨_, rfl, rfl, _, rfl, ?_⟩
            by_cases c1 : fm = 0
            · rw [decide_eq_true (by rw [c1])]
              refine iteT ⟨_, rfl, by show 0 ≤ sizeLine; decide, fun t7 kt7 => ?_⟩
              have s7 := same_new kt7 (.lst [])
              have e7 : upd H6 t7 (.lst []) t7 = some (.lst []) := upd_same
              generalize upd H6 t7 (.lst []) = H7 at s7 e7 ⊢
              have al7 := al6.imp fun _ _ t => t.fix (Fix.of s7)
              refine ⟨.list (lots.map fun l => .tuple (l.map .str)), .list [], .lst (SqL.of (s7 _ _ et6)) (dp_all (fun _ _ h => h.dp) al7), .lst (SqL.of e7) .nil, (sh_lst (n := 1) fun l hl => sh_lot fun x hx => ok.nm x ((okl l hl).2.2 x hx)).ok (by decide), by decide, _, rfl, ?_⟩
              rcases List.eq_nil_or_concat lots with el | ⟨ms, z, el⟩
              · rw [el]
                refine iteF ?_
                refine ⟨_, rfl, by show 0 ≤ sizeLine; decide, fun t8 kt8 => ?_⟩
                have s8 := same_new kt8 (.tup [])
                have e8 : upd H7 t8 (.tup []) t8 = some (.tup []) := upd_same
                generalize upd H7 t8 (.tup []) = H8 at s8 e8 ⊢
                have eq8 := (s7.trans s8) _ _ eq6
                have hd8 := hd6.same (s7.trans s8)
                have hn8 : H8 nb = some (.tup (ns.map V.str)) := (s7.trans s8) _ _ (k36 _ _ hn3 nb1 nb2)
                refine ⟨.tuple (ys.map .str), .tuple [], .tup (SqT.of eq8) (dp_strs _), .tup (SqT.of e8) .nil, (sh_lot fun x hx => ok.nm x (inn x hx)).ok (by decide), by decide, _, rfl, ?_⟩
                rw [show PyData.eqv (.tuple (ys.map .str)) (.tuple []) = decide (ys = []) from eqvAll_map eqv_str ys []]
                by_cases cy : ys = []
                · rw [decide_eq_true cy]
                  refine iteT (iteT ?_)
                  refine ⟨_, rfl, _, rfl, p, l, nb, ns.map V.str, rfl, hd8, fun H' k => SqX.tup (k _ _ hn8 nb1 nb2), ⟨by rw [List.length_map]; have := List.length_pos_iff.mpr ok.ne; omega, by rw [List.length_map]; have := ok.ln; omega⟩, fun xx H9 hx k9 hd9 => ⟨by show 1 ≤ sizeLine; decide, fun t9 kt9 => ?_⟩⟩
                  obtain ⟨nm, hnm, rfl⟩ := List.mem_map.mp hx
                  have s9 := same_new kt9 (.tup [V.str nm])
                  exact ⟨_, [nm], rfl, ((Kept2.same (s7.trans s8)).trans k9).trans (Kept2.same s9), hd9.same s9, ⟨t9, rfl, upd_same⟩, by simp, List.pairwise_singleton _ _, fun x hx => by rw [List.mem_singleton.mp hx]; exact hnm⟩
                · rw [decide_eq_false cy]
                  refine iteF ⟨_, rfl, rfl, _, rfl, ?_⟩
                  by_cases c2 : fm = 1
                  · rw [decide_eq_true (by rw [c2])]
                    refine iteT ?_
                    refine ⟨_, rfl, _, rfl, p, l, nb, ns.map V.str, rfl, hd8, fun H' k => SqX.tup (k _ _ hn8 nb1 nb2), ⟨by rw [List.length_map]; have := List.length_pos_iff.mpr ok.ne; omega, by rw [List.length_map]; have := ok.ln; omega⟩, fun xx H9 hx k9 hd9 => ⟨by show 1 ≤ sizeLine; decide, fun t9 kt9 => ?_⟩⟩
                    obtain ⟨nm, hnm, rfl⟩ := List.mem_map.mp hx
                    have s9 := same_new kt9 (.tup [V.str nm])
                    exact ⟨_, [nm], rfl, ((Kept2.same (s7.trans s8)).trans k9).trans (Kept2.same s9), hd9.same s9, ⟨t9, rfl, upd_same⟩, by simp, List.pairwise_singleton _ _, fun x hx => by rw [List.mem_singleton.mp hx]; exact hnm⟩
                  · rw [decide_eq_false (fun e => c2 (by injection e))]
                    exact iteF ⟨_, rfl, _, ys, rfl, Kept2.same (s7.trans s8), hd8, ⟨tq, rfl, eq8⟩, cy, asc, inn⟩
              · rw [List.concat_eq_append] at el
                subst el
                rw [show PyData.eqv (.list ((ms ++ [z]).map fun l => .tuple (l.map .str))) (.list []) = false by cases ms <;> rfl]
                obtain ⟨jts, vz, rfl, hvz, alz⟩ := all2_snoc al7
                refine iteT ⟨_, rfl, 1, rfl, tp, _, (-1 : Int), vz, rfl, rfl, SqL.of (s7 _ _ et6), atI_last _ _, vz, z, rfl, Kept2.same s7, hd6.same s7, hvz, okl z (List.mem_append_right _ (List.mem_singleton.mpr rfl))⟩
            · rw [decide_eq_false (fun e => c1 (by injection e))]
              have s7 := Same.refl H6
              refine iteF ?_
              refine ⟨_, rfl, by show 0 ≤ sizeLine; decide, fun t8 kt8 => ?_⟩
              have s8 := same_new kt8 (.tup [])
              have e8 : upd H6 t8 (.tup []) t8 = some (.tup []) := upd_same
              generalize upd H6 t8 (.tup []) = H8 at s8 e8 ⊢
              have eq8 := (s7.trans s8) _ _ eq6
              have hd8 := hd6.same (s7.trans s8)
              have hn8 : H8 nb = some (.tup (ns.map V.str)) := (s7.trans s8) _ _ (k36 _ _ hn3 nb1 nb2)
              refine ⟨.tuple (ys.map .str), .tuple [], .tup (SqT.of eq8) (dp_strs _), .tup (SqT.of e8) .nil, (sh_lot fun x hx => ok.nm x (inn x hx)).ok (by decide), by decide, _, rfl, ?_⟩
              rw [show PyData.eqv (.tuple (ys.map .str)) (.tuple []) = decide (ys = []) from eqvAll_map eqv_str ys []]
              by_cases cy : ys = []
              · rw [decide_eq_true cy]
                refine iteT (iteT ?_)
                refine ⟨_, rfl, _, rfl, p, l, nb, ns.map V.str, rfl, hd8, fun H' k => SqX.tup (k _ _ hn8 nb1 nb2), ⟨by rw [List.length_map]; have := List.length_pos_iff.mpr ok.ne; omega, by rw [List.length_map]; have := ok.ln; omega⟩, fun xx H9 hx k9 hd9 => ⟨by show 1 ≤ sizeLine; decide, fun t9 kt9 => ?_⟩⟩
                obtain ⟨nm, hnm, rfl⟩ := List.mem_map.mp hx
                have s9 := same_new kt9 (.tup [V.str nm])
                exact ⟨_, [nm], rfl, ((Kept2.same (s7.trans s8)).trans k9).trans (Kept2.same s9), hd9.same s9, ⟨t9, rfl, upd_same⟩, by simp, List.pairwise_singleton _ _, fun x hx => by rw [List.mem_singleton.mp hx]; exact hnm⟩
              · rw [decide_eq_false cy]
                refine iteF ⟨_, rfl, rfl, _, rfl, ?_⟩
                by_cases c2 : fm = 1
                · rw [decide_eq_true (by rw [c2])]
                  refine iteT ?_
                  refine ⟨_, rfl, _, rfl, p, l, nb, ns.map V.str, rfl, hd8, fun H' k => SqX.tup (k _ _ hn8 nb1 nb2), ⟨by rw [List.length_map]; have := List.length_pos_iff.mpr ok.ne; omega, by rw [List.length_map]; have := ok.ln; omega⟩, fun xx H9 hx k9 hd9 => ⟨by show 1 ≤ sizeLine; decide, fun t9 kt9 => ?_⟩⟩
                  obtain ⟨nm, hnm, rfl⟩ := List.mem_map.mp hx
                  have s9 := same_new kt9 (.tup [V.str nm])
                  exact ⟨_, [nm], rfl, ((Kept2.same (s7.trans s8)).trans k9).trans (Kept2.same s9), hd9.same s9, ⟨t9, rfl, upd_same⟩, by simp, List.pairwise_singleton _ _, fun x hx => by rw [List.mem_singleton.mp hx]; exact hnm⟩
                · rw [decide_eq_false (fun e => c2 (by injection e))]
                  exact iteF ⟨_, rfl, _, ys, rfl, Kept2.same (s7.trans s8), hd8, ⟨tq, rfl, eq8⟩, cy, asc, inn⟩
          · rintro σ H7 ⟨v, lot, rfl, k7, hd7, hl, lo⟩
            have et7 : H7 tp = some (.lst its) := k7 _ _ et6 tp1 tp2
            have k37 := k36.trans k7
            refine ⟨_, rfl, .inl ⟨rfl, _, SqL.of et7⟩, _, rfl, tp, its, v, rfl, rfl, et7, ?_, ⟨_, _, _, _, rfl⟩, its ++ [v], lots ++ [lot], (k3.two k37).put, hd7.put tp1.symm tp2.symm, upd_same, ?_, ?_, by rw [List.length_append, ln]; rfl⟩
            · have := al3.len; rw [sizeLine_eq]; omega
            · exact ((al6.imp fun _ _ t => t.fix (k7.fix hd6)).imp fun _ _ t => t.put et7).app (.cons (hl.put et7) .nil)
            · intro x hx
              rcases List.mem_append.mp hx with h | h
              · exact okl x h
              · rw [List.mem_singleton.mp h]; exact lo
      · rintro σ H3 ⟨st, iv⟩
        rw [List.length_map, List.length_range] at iv
        exact ⟨st, _, iv, by omega⟩
    rintro σ H2 ⟨⟨o4, o5, o6, o7, rfl⟩, n, ⟨its, lots, k2, hd2, et2, al, okl, ln⟩, nm⟩
    exact ⟨_, rfl, q tp its lots H2 ktp (kin _ k2) hd2 et2 al okl (by omega)⟩
end
end K6

namespace K6
open PySem PySem.Spec PyProof.Rows L2 Hb St Sq Ow En Zp RZ Rd Xb Da Lg
theorem LotOk.sub {ns l m : List Str} (h : LotOk ns l) (s : m.Sublist l) (n : m ≠ []) : LotOk ns m := ⟨n, h.2.1.sublist s, fun x hx => h.2.2 x (s.subset hx)⟩
theorem cut_from {xs : List V} {n : Nat} : cutV xs (some (n : Nat)) none = xs.drop n := by
  unfold cutV
  rw [HT.sIx_none, HT.sIx_nat]
  by_cases h : n ≤ xs.length
  · rw [Nat.min_eq_left h, List.take_of_length_le (by rw [List.length_drop]; exact Nat.le_refl _)]
  · rw [List.drop_eq_nil_of_le (as := xs) (i := n) (by omega), Nat.min_eq_right (by omega), List.drop_length, List.take_nil]
theorem nodup_len {α : Type} [DecidableEq α] : ∀ {l m : List α}, l.Nodup → (∀ x ∈ l, x ∈ m) → l.length ≤ m.length
  | [], _, _, _ => Nat.zero_le _
  | a :: l, m, nd, s => by
    obtain ⟨n1, n2⟩ := List.nodup_cons.mp nd
    have h := nodup_len (l := l) (m := m.erase a) n2 fun x hx => (List.mem_erase_of_ne (show x ≠ a from fun e => n1 (by rw [← e]; exact hx))).mpr (s x (List.mem_cons_of_mem _ hx))
    have ha := s a List.mem_cons_self
    have := List.length_erase_of_mem ha
    have := List.length_pos_of_mem ha
    rw [List.length_cons]; omega
theorem all2_take {α β : Type} {R : α → β → Prop} : ∀ {xs : List α} {ys : List β}, All2 R xs ys → ∀ n, All2 R (xs.take n) (ys.take n)
  | _, _, .nil, n => by rw [List.take_nil, List.take_nil]; exact .nil
  | _, _, .cons r t, 0 => .nil
  | _, _, .cons r t, n + 1 => .cons r (all2_take t n)
theorem all2_drop {α β : Type} {R : α → β → Prop} : ∀ {xs : List α} {ys : List β}, All2 R xs ys → ∀ n, All2 R (xs.drop n) (ys.drop n)
  | _, _, .nil, n => by rw [List.drop_nil, List.drop_nil]; exact .nil
  | _, _, .cons r t, 0 => .cons r t
  | _, _, .cons r t, n + 1 => all2_drop t n
theorem fresh2 {p l c : Addr} {H H' : Hp} (k : Kept2 p l H H') (d : DealAt H' p l) (e : H' c = none) : H c = none := by
  obtain ⟨n1, n2⟩ := d.ne_none e
  cases h : H c with
  | none => rfl
  | some o => rw [k c o h n1 n2] at e; cases e
section
variable {P : Program} {w : World} {K : PySem.W.Frag} {mg : Str → Option Value} {base : Heap}
/-! ### _law_less -/
abbrev s__law_less : Stmt := top 26
theorem sc__law_less : FnScope ["heap", "lots", "found", "lot", "at", "name"] ["heap", "lots"] (defScope s__law_less) := ⟨rfl, rfl, rfl, by decide +kernel, rfl, by decide +kernel, by decide +kernel⟩
def spLess (K : PySem.W.Frag) : Sp := fun vs H Q _ => ∃ (p l a : Addr) (its : List V) (lots : List (List Str)) (ns : List Str), vs = [.ref p, .ref a] ∧ DealAt H p l ∧ H a = some (.lst its) ∧ (a ≠ p ∧ a ≠ l) ∧ All2 (LotH H) its lots ∧ (∀ x ∈ lots, LotOk ns x) ∧ lots.length ≤ 7 ∧ NsOk ns ∧
  ∀ t jts ls H', H t = none → Kept2 p l H H' → DealAt H' p l → H' t = some (.lst jts) → All2 (LotH H') jts ls → (∀ x ∈ ls, LotOk ns x) → ls.length ≤ 8 → Q (.ref t) H'
theorem ok_less {f : Addr} {fd : FuncData} (F : Fun K "_law_less" "_law_less" s__law_less f fd) (C__law_draw : Cl P w K mg base "_law_draw" ["heap", "many"] [] 1 spDraw) (C__law_pick : Cl P w K mg base "_law_pick" ["heap", "some"] [] 2 (spPick K)) (n_len : mg "len" = none) (n_tuple : mg "tuple" = none) : FnOk P w K mg base CX0 3 f fd ["heap", "lots"] (spLess K) := by
  refine F.ok sc__law_less (fun vs H Q E h => ?_) (fun cdv A outer s H vs Q E hr h => ?_)
  · obtain ⟨_, _, _, _, _, _, rfl, _⟩ := h
    rfl
  · obtain ⟨p, l, a, its, lots, ns, rfl, hd, ea, ⟨a1, a2⟩, al, okl, ll, ok, q⟩ := h
    refine ⟨_, (pss_cons (ps_set (i := 2) sc__law_less.nd rfl (Or.inl rfl) (pe_lst pa_nil))
    (Evl.pss_cut (ps_for PassesOwn.never rfl (pi_seq (pv 1)) (pg_name (i := 3) sc__law_less.nd rfl (Or.inl rfl))
      (pss_cons (ps_set (i := 3) sc__law_less.nd rfl (Or.inl rfl) (pe_callTy call_tuple_of (by rfl) n_tuple (by decide +kernel) (pa_cons (pe_lc (own := [("name", 5)]) (g := gName 5) rfl sc__law_less.nd (pi_seq (pv 3)) (blkOk_by (N := ["heap", "lots", "found", "lot", "at", "name"]) (sc := defScope s__law_less) (by decide +kernel)) (fun _ _ _ _ _ => pg_name (i := 5) sc__law_less.nd rfl (Or.inl rfl)) (fun _ _ _ _ _ => pts_one (pt_cmpR op_gt (pe_use C__law_draw (hr.mono (by decide)) rfl (pa_cons (pv 0) (pa_cons pe_int pa_nil))) pe_int (nomark _))) (fun _ _ _ _ _ => pv 5)) pa_nil)))
    (pss_one (ps_set (i := 2) sc__law_less.nd rfl (Or.inl rfl) (pe_op op_cat (pv 2) (pe_ifExp (pt_cmpR (op_neD hr.units) (pv 3) (pe_tup pa_nil) (nomark _)) (pe_lst (pa_cons (pv 3) pa_nil)) (pe_lst pa_nil)))))))
    (Evl.pss_cut (ps_if (PW.pt (pw_and (pt_cmpR (op_neD hr.units) (pv 1) (pe_lst pa_nil) (nomark _)) (pw_and1 (pt_cmpR op_eq (pe_use C__law_draw (hr.mono (by decide)) rfl (pa_cons (pv 0) (pa_cons pe_int pa_nil))) pe_int (nomark _))))) (pss_cons (ps_set (i := 4) sc__law_less.nd rfl (Or.inl rfl) (pe_use C__law_draw (hr.mono (by decide)) rfl (pa_cons (pv 0) (pa_cons (pe_op op_add (pe_callB call_len_seq (by rfl) n_len PySem.boot_len (pa_cons (pv 2) pa_nil)) pe_int) pa_nil))))
    (pss_one (ps_set (i := 2) sc__law_less.nd rfl (Or.inl rfl) (pe_op op_cat (pe_op op_cat (pe_slice (r := rSlL K) sl_list (pv 2) po_none (po_some (pv 4))) (pe_lst (pa_cons (pe_use C__law_pick (hr.mono (by decide)) rfl (pa_cons (pv 0) (pa_cons (pv 1) pa_nil))) pa_nil))) (pe_slice (r := rSlL K) sl_list (pv 2) (po_some (pv 4)) po_none))))) pss_nil)
    (pss_one (ps_ret (pv 2)))))), ?_⟩
    refine ⟨by show 0 ≤ sizeLine; decide, fun fp kfp => ?_⟩
    have s1 := same_new kfp (.lst [])
    have efp : upd H fp (.lst []) fp = some (.lst []) := upd_same
    have hd1 := hd.same s1
    have ea1 := s1 _ _ ea
    have al1 := al.imp fun _ _ t => t.fix (Fix.of s1)
    have kin : ∀ H', Kept2 p l (upd H fp (.lst [])) H' → Kept2 p l H H' := fun H' k => (Kept2.same s1).trans k
    have frs : ∀ b, upd H fp (.lst []) b = none → H b = none := fun b e => by
      cases h : H b with
      | none => rfl
      | some o => rw [s1 _ _ h] at e; cases e
    have ffp : fp ≠ p ∧ fp ≠ l := hd.ne_none kfp
    generalize upd H fp (.lst []) = H1 at s1 efp hd1 ea1 al1 kin frs ⊢
    have la : its.length = lots.length := al.len
    let St : Addr → L2.St → Prop := fun g σ => ∃ o3 o4 o5, σ = [some (.ref p), some (.ref a), some (.ref g), o3, o4, o5]
    let Inv : Addr → Hp → Nat → Prop := fun g H' n => Kept2 p l H1 H' ∧ DealAt H' p l ∧ (g ≠ p ∧ g ≠ l) ∧ H g = none ∧ ∃ jts ls, H' g = some (.lst jts) ∧ All2 (LotH H') jts ls ∧ (∀ x ∈ ls, LotOk ns x) ∧ ls.length ≤ n
    refine ⟨fun σ H' => ∃ g, St g σ ∧ Inv g H' lots.length, ?_, ?_⟩
    · refine ⟨_, rfl, a, its, rfl, SqX.lst ea1, fun J S W z0 => ?_⟩
      refine for_sq W (fun i σ H' => ∃ g, St g σ ∧ Inv g H' i) ⟨fp, ⟨none, none, none, rfl⟩, Kept2.refl _ _ _, hd1, ffp, kfp, [], [], efp, .nil, (fun x hx => by cases hx), Nat.le_refl _⟩ (fun j σ H' pv => W.keep (fun o e => let ⟨_, _, k, _⟩ := pv; k _ _ e a1 a2) z0) ?_ ?_
      · rintro i σ H2 x ex ⟨g, ⟨o3, o4, o5, rfl⟩, k2, hd2, ⟨g1, g2⟩, kg, jts, ls, eg, alj, okj, lj⟩
        have al2 := al1.imp fun _ _ t => t.fix (k2.fix hd1)
        obtain ⟨lot, elot, lb, rfl, elb⟩ := al2.get ex
        have lo := okl lot (at_mem elot)
        have lln : lot.length ≤ 4 := Nat.le_trans (nodup_len (asc_nodupS lo.2.1) lo.2.2) ok.ln
        obtain ⟨lb1, lb2⟩ := hd2.ne_tup elb
        refine ⟨_, rfl, lb, _, rfl, SqX.tup elb, fun J2 S2 W2 z2 D hD => ?_⟩
        obtain ⟨D1, D2⟩ := hd2.ne_none hD
        refine lc_go W2 (fun j H' => Kept2 p l H2 H' ∧ DealAt H' p l ∧ ∃ xs : List Str, H' D = some (.lst (xs.map V.str)) ∧ xs.Sublist (lot.take j)) ⟨?_, ?_, [], upd_same, List.nil_sublist _⟩ (fun j H' m => W2.keep (fun o e => by rw [elb] at e; cases e; exact m.1 _ _ elb lb1 lb2) z2) ?_ ?_
        · exact fun b o e _ _ => by rw [upd_ne (ne_of_none e hD)]; exact e
        · exact hd2.put D1.symm D2.symm
        · rintro j y H4 ey ⟨k4, hd4, xs, eD, sub⟩
          obtain ⟨nm, en⟩ : ∃ nm, lot[j]? = some nm := ⟨_, List.getElem?_eq_getElem (by have := (List.getElem?_eq_some_iff.mp ey).1; rwa [List.length_map] at this)⟩
          obtain rfl := at_map ey en
          refine ⟨rfl, _, rfl, p, l, 3, rfl, by decide, hd4, fun d' H5 _ _ k5 hd5 => ?_⟩
          have eD5 := k5 _ _ eD D1 D2
          have lx : xs.length ≤ 4 := Nat.le_trans sub.length_le (Nat.le_trans (List.length_take_le' ..) lln)
          refine ⟨_, _, rfl, rfl, _, rfl, iteD (fun c => ⟨_, rfl, _, eD5, by rw [List.length_map, sizeLine_eq]; omega, fun b o e x y => ?_, hd5.put D1.symm D2.symm, xs ++ [nm], by rw [upd_same, List.map_append]; rfl, sub_yes sub en⟩) fun c => ⟨k4.trans k5, hd5, xs, eD5, sub_no sub⟩⟩
          rw [upd_ne (ne_of_none e hD)]
          exact (k4.trans k5) b o e x y
        · rintro H4 ⟨k4, hd4, xs, eD, sub⟩
          rw [List.length_map, List.take_length] at sub
          refine ⟨D, _, rfl, .inl ⟨SqL.of eD, fun tq ktq => ?_⟩⟩
          have s5 := same_new ktq (.tup (xs.map V.str))
          have eq5 : upd H4 tq (.tup (xs.map V.str)) tq = some (.tup (xs.map V.str)) := upd_same
          generalize upd H4 tq (.tup (xs.map V.str)) = H5 at s5 eq5 ⊢
          have k25 := k4.trans (Kept2.same s5)
          have eg5 := k25 _ _ eg g1 g2
          have alj5 := alj.imp fun _ _ t => t.fix (k25.fix hd2)
          have hd5 := hd4.same s5
          refine ⟨_, rfl, _, rfl, by show 0 ≤ sizeLine; decide, fun t6 kt6 => ?_⟩
          have s6 := same_new kt6 (.tup [])
          have e6 : upd H5 t6 (.tup []) t6 = some (.tup []) := upd_same
          generalize upd H5 t6 (.tup []) = H6 at s6 e6 ⊢
          refine ⟨.tuple (xs.map .str), .tuple [], .tup (SqT.of (s6 _ _ eq5)) (dp_strs _), .tup (SqT.of e6) .nil, (sh_lot fun x hx => ok.nm x (lo.2.2 x (sub.subset hx))).ok (by decide), by decide, _, rfl, ?_⟩
          rw [show PyData.eqv (.tuple (xs.map .str)) (.tuple []) = decide (xs = []) from eqvAll_map eqv_str xs []]
          have ljt : jts.length ≤ 7 := by
            have := alj.len
            have hi : i < its.length := (List.getElem?_eq_some_iff.mp ex).1
            omega
          have s56 := s6
          have hd6 := hd5.same s6
          have k16 := k2.trans (k25.trans (Kept2.same s6))
          have eg6 := s6 _ _ eg5
          have alj6 := alj5.imp fun _ _ t => t.fix (Fix.of s6)
          by_cases cx : xs = []
          · rw [decide_eq_true cx]
            refine iteF ⟨by show 0 ≤ sizeLine; decide, fun t7 kt7 => ?_⟩
            have s7 := same_new kt7 (.lst [])
            have e7 : upd H6 t7 (.lst []) t7 = some (.lst []) := upd_same
            generalize upd H6 t7 (.lst []) = H7 at s7 e7 ⊢
            have hd7 := hd6.same s7
            have k17 := k16.trans (Kept2.same s7)
            refine ⟨g, t7, jts, [], rfl, rfl, s7 _ _ eg6, e7, by rw [sizeLine_eq]; show _ + 0 ≤ _; omega, fun g' kg' => ?_⟩
            have s8 := same_new kg' (.lst (jts ++ []))
            exact ⟨g', ⟨_, _, _, rfl⟩, k17.trans (Kept2.same s8), hd7.same s8, hd7.ne_none kg', frs _ (fresh2 k17 hd7 kg'), jts ++ [], ls ++ [], upd_same, ((alj6.imp fun _ _ t => t.fix (Fix.of s7)).imp fun _ _ t => t.fix (Fix.of s8)).app .nil, (by rw [List.append_nil]; exact okj), by rw [List.append_nil]; omega⟩
          · rw [decide_eq_false cx]
            refine iteT ⟨_, rfl, by show 1 ≤ sizeLine; decide, fun t7 kt7 => ?_⟩
            have s7 := same_new kt7 (.lst [.ref tq])
            have e7 : upd H6 t7 (.lst [.ref tq]) t7 = some (.lst [.ref tq]) := upd_same
            generalize upd H6 t7 (.lst [.ref tq]) = H7 at s7 e7 ⊢
            have hd7 := hd6.same s7
            have k17 := k16.trans (Kept2.same s7)
            refine ⟨g, t7, jts, [.ref tq], rfl, rfl, s7 _ _ eg6, e7, by rw [sizeLine_eq]; show _ + 1 ≤ _; omega, fun g' kg' => ?_⟩
            have s8 := same_new kg' (.lst (jts ++ [.ref tq]))
            refine ⟨g', ⟨_, _, _, rfl⟩, k17.trans (Kept2.same s8), hd7.same s8, hd7.ne_none kg', frs _ (fresh2 k17 hd7 kg'), jts ++ [.ref tq], ls ++ [xs], upd_same, ((alj6.imp fun _ _ t => t.fix (Fix.of s7)).imp fun _ _ t => t.fix (Fix.of s8)).app (.cons ⟨tq, rfl, ((s6.trans s7).trans s8) _ _ eq5⟩ .nil), (fun z hz => ?_), by rw [List.length_append]; show _ + 1 ≤ _; omega⟩
            rcases List.mem_append.mp hz with h | h
            · exact okj z h
            · rw [List.mem_singleton.mp h]; exact lo.sub sub cx
      · rintro σ H2 ⟨g, st, iv⟩
        rw [la] at iv
        exact ⟨g, st, iv⟩
    rintro σ H2 ⟨g, ⟨o3, o4, o5, rfl⟩, k2, hd2, ⟨g1, g2⟩, kg, jts, ls, eg, alj, okj, lj⟩
    have ea2 := k2 _ _ ea1 a1 a2
    have al2 := al1.imp fun _ _ t => t.fix (k2.fix hd1)
    refine ⟨fun σ H' => ∃ g, St g σ ∧ Inv g H' 8, ?_, ?_⟩
    · refine ⟨_, rfl, by show 0 ≤ sizeLine; decide, fun t3 kt3 => ?_⟩
      have s3 := same_new kt3 (.lst [])
      have e3 : upd H2 t3 (.lst []) t3 = some (.lst []) := upd_same
      generalize upd H2 t3 (.lst []) = H3 at s3 e3 ⊢
      have al3 := al2.imp fun _ _ t => t.fix (Fix.of s3)
      have hd3 := hd2.same s3
      have k13 := k2.trans (Kept2.same s3)
      have eg3 := s3 _ _ eg
      have alj3 := alj.imp fun _ _ t => t.fix (Fix.of s3)
      have ea3 := s3 _ _ ea2
      refine ⟨.list (lots.map fun l => .tuple (l.map .str)), .list [], .lst (SqL.of ea3) (dp_all (fun _ _ h => h.dp) al3), .lst (SqL.of e3) .nil, (sh_lst (n := 1) fun l hl => sh_lot fun x hx => ok.nm x ((okl l hl).2.2 x hx)).ok (by decide), by decide, _, rfl, ?_⟩
      by_cases el : lots = []
      · rw [el]
        exact iteF (iteF ⟨g, ⟨_, _, _, rfl⟩, k13, hd3, ⟨g1, g2⟩, kg, jts, ls, eg3, alj3, okj, by omega⟩)
      · rw [show PyData.eqv (.list (lots.map fun l => .tuple (l.map .str))) (.list []) = false by cases lots with | nil => exact absurd rfl el | cons _ _ => rfl]
        refine iteT ⟨_, rfl, p, l, 5, rfl, by decide, hd3, fun d H4 _ _ k4 hd4 => ⟨rfl, _, rfl, ?_⟩⟩
        have k14 := k13.trans k4
        have eg4 := k4 _ _ eg3 g1 g2
        have ea4 := k4 _ _ ea3 a1 a2
        have alj4 := alj3.imp fun _ _ t => t.fix (k4.fix hd3)
        have al4 := al3.imp fun _ _ t => t.fix (k4.fix hd3)
        by_cases c : d = 0
        · rw [decide_eq_true (by rw [c])]
          have ljn : jts.length = ls.length := alj.len
          refine iteT ⟨_, rfl, _, rfl, g, jts, rfl, .inl (SqL.of eg4), _, _, rfl, rfl, p, l, ((jts.length : Nat) : Int) + 1, rfl, by omega, hd4, fun at' H5 t0 t1 k5 hd5 => ?_⟩
          obtain ⟨at', rfl⟩ : ∃ n : Nat, at' = (n : Nat) := ⟨at'.toNat, by omega⟩
          have k15 := k14.trans k5
          have eg5 := k5 _ _ eg4 g1 g2
          refine ⟨_, rfl, _, rfl, _, rfl, g, _, rfl, SqL.of eg5, fun p6 hp6 => ?_⟩
          have s6 := same_new hp6 (.lst (cutV jts none (some (at' : Nat))))
          have e6 : upd H5 p6 (.lst (cutV jts none (some (at' : Nat)))) p6 = some (.lst (jts.take at')) := by rw [upd_same, cut_take]
          generalize upd H5 p6 (.lst (cutV jts none (some (at' : Nat)))) = H6 at s6 e6 ⊢
          obtain ⟨p61, p62⟩ := hd5.ne_none hp6
          have hd6 := hd5.same s6
          have k46 := k5.trans (Kept2.same s6)
          have ea6 := k46 _ _ ea4 a1 a2
          refine ⟨_, rfl, _, rfl, p, l, a, its, rfl, hd6, fun H' k => SqX.lst (k _ _ ea6 a1 a2), ⟨by have := List.length_pos_iff.mpr el; omega, by omega⟩, fun xx H7 hx k7 hd7 => ⟨by show 1 ≤ sizeLine; decide, fun t8 kt8 => ?_⟩⟩
          have k47 := k46.trans k7
          have eg7 := k47 _ _ eg4 g1 g2
          have e67 := k7 _ _ e6 p61 p62
          have al7 := al4.imp fun _ _ t => t.fix (k47.fix hd4)
          have alj7 := alj4.imp fun _ _ t => t.fix (k47.fix hd4)
          obtain ⟨ix, eix⟩ := List.mem_iff_getElem?.mp hx
          obtain ⟨lot, elot, hlot⟩ := al7.get eix
          have s8 := same_new kt8 (.lst [xx])
          have e8 : upd H7 t8 (.lst [xx]) t8 = some (.lst [xx]) := upd_same
          generalize upd H7 t8 (.lst [xx]) = H8 at s8 e8 ⊢
          refine ⟨p6, t8, _, _, rfl, rfl, s8 _ _ e67, e8, by rw [List.length_take, sizeLine_eq]; show _ + 1 ≤ _; omega, fun p9 hp9 => ?_⟩
          have s9 := same_new hp9 (.lst (jts.take at' ++ [xx]))
          have e9 : upd H8 p9 (.lst (jts.take at' ++ [xx])) p9 = some (.lst (jts.take at' ++ [xx])) := upd_same
          generalize upd H8 p9 (.lst (jts.take at' ++ [xx])) = H9 at s9 e9 ⊢
          have eg9 := (s8.trans s9) _ _ eg7
          refine ⟨_, rfl, _, rfl, _, rfl, g, _, rfl, SqL.of eg9, fun pa hpa => ?_⟩
          have s10 := same_new hpa (.lst (cutV jts (some (at' : Nat)) none))
          have e10 : upd H9 pa (.lst (cutV jts (some (at' : Nat)) none)) pa = some (.lst (jts.drop at')) := by rw [upd_same, cut_from]
          generalize upd H9 pa (.lst (cutV jts (some (at' : Nat)) none)) = H10 at s10 e10 ⊢
          have s710 := (s8.trans s9).trans s10
          have k110 := k14.trans (k47.trans (Kept2.same s710))
          have hd10 := hd7.same s710
          refine ⟨p9, pa, _, _, rfl, rfl, s10 _ _ e9, e10, by rw [List.length_append, List.length_take, List.length_drop, sizeLine_eq]; show _ + 1 + _ ≤ _; omega, fun gn hgn => ?_⟩
          have s11 := same_new hgn (.lst (jts.take at' ++ [xx] ++ jts.drop at'))
          have al11 := alj7.imp fun _ _ t => t.fix (Fix.of (s710.trans s11))
          refine ⟨gn, ⟨_, _, _, rfl⟩, k110.trans (Kept2.same s11), hd10.same s11, hd10.ne_none hgn, frs _ (fresh2 k110 hd10 hgn), _, ls.take at' ++ [lot] ++ ls.drop at', upd_same, ((all2_take al11 at').app (.cons (hlot.fix (Fix.of (s710.trans s11))) .nil)).app (all2_drop al11 at'), fun z hz => ?_, by rw [List.length_append, List.length_append, List.length_take, List.length_drop]; show _ + 1 + _ ≤ _; omega⟩
          rcases List.mem_append.mp hz with h | h
          · rcases List.mem_append.mp h with h | h
            · exact okj z (List.mem_of_mem_take h)
            · rw [List.mem_singleton.mp h]; exact okl lot (at_mem elot)
          · exact okj z (List.mem_of_mem_drop h)
        · rw [decide_eq_false (fun e => c (by injection e))]
          exact iteF ⟨g, ⟨_, _, _, rfl⟩, k14, hd4, ⟨g1, g2⟩, kg, jts, ls, eg4, alj4, okj, by omega⟩
    rintro σ H3 ⟨g, ⟨o3, o4, o5, rfl⟩, k3, hd3, ⟨g1, g2⟩, kg, jts, ls, eg, alj, okj, lj⟩
    exact ⟨_, rfl, q g jts ls H3 kg (kin _ k3) hd3 eg alj okj lj⟩
end
end K6

namespace K6
open PySem PySem.Spec PyProof.Rows L2 Hb St Sq Ow En Zp RZ Rd Xb Da Lg LamX Ty
/-! ### _law_told -/
abbrev s__law_told : Stmt := top 28
theorem sc__law_told : FnScope ["work", "wrong"] ["work"] (defScope s__law_told) := ⟨rfl, rfl, rfl, by decide +kernel, rfl, by decide +kernel, by decide +kernel⟩
/-- what a told error leaves: the two ends of its list -/
def eTold (K : PySem.W.Frag) (C R : Addr) (Q : VK) : XK := fun cls d H => ∃ (dd : Addr) (k : Int), d = some dd ∧ H dd = some (errH k) ∧
  ((cls = .ref C ∧ ∀ t H', Same H H' → H' t = some (.lst [.str (Str.ofString "heard"), .int k]) → Q (.ref t) H') ∨
   (cls = .ref R ∧ ∀ t H', Same H H' → H' t = some (.lst [.str (Str.ofString "refused"), .int k, .bl false]) → Q (.ref t) H'))
def TTold2 (K : PySem.W.Frag) (C R : Addr) : (XK → Hp → VK → Prop) → Hp → VK → Prop := fun tl H Q => tl (eTold K C R Q) H Q
theorem told2 {X : Cx} {q : Str} {g C R fC fR : Addr} {cdg : Value} (T : ErrC X.K X.mg "InvalidHeard" C fC) (TR : ErrC X.K X.mg "Refused" R fR) (TI : IsC X.K R) (kRC : PySem.W.kitOne X.K (.ref R) (.ref C) = some false) (eRC : PySem.W.exmOne X.K (.ref R) (.ref C) = some false) (n_isinstance : X.mg "isinstance" = none) :
    GivesTo X ["work", "wrong"] "_law_told" (defScope s__law_told) g cdg (defBody s__law_told) "work" q (TTold2 X.K C R) := by
  intro f c' s H Q tl act hc h
  refine ⟨_, pss_one (ps_try_asM (X := (cxOf C8.CX0 X.prog X.w X.K X.mg X.base ["work", "wrong"] "_law_told" (defScope s__law_told) g cdg X.A X.stack s H C8.E0).nox) (i := 1) (n := "wrong")
      (l := [(.ref C, _), (.ref R, _)])
      (tb := fun W D σ H => ∃ Ech : XK, (∀ cls d σ' H', Ech cls d H' → W cls d σ' H') ∧ σ[0]? = some (some (.ref f)) ∧ H c' = some (CodeO c' q) ∧ tl Ech H D.rt)
      rfl rfl sc__law_told.nd rfl rfl LamX.takes0 (fun W pn xe tk _ => ?_)
      (.cons ⟨rfl, by decide, .inl T.gC⟩ (fun a oe cls d pn hz hf => pss_one (ps_ret (pe_lst (pa_cons pe_str (pa_cons (pe_xf T.xf T.noN hz hf (pv 1)) pa_nil)))))
        (.cons ⟨rfl, by decide, .inl TR.gC⟩ (fun a oe cls d pn hz hf => pss_one (ps_ret (pe_lst (pa_cons pe_str (pa_cons (pe_xf TR.xf TR.noN hz hf (pv 1)) (pa_cons (pe_callB (call_isAt TI hz hf) (by rfl) n_isinstance (by decide +kernel) (pa_cons (pv 1) (pa_cons (pe_glob (v := .ref C) (by rfl) T.gC rfl) pa_nil))) pa_nil)))))) .nil))), ?_⟩
  · refine ⟨fun pins s' σ H' D I h' => ?_⟩
    obtain ⟨Ech, hW, h1, h2, h3⟩ := h'
    exact (pss_one (ps_ret (act W pn xe Ech _ _ tk hW))).run pins s' σ H' D I ⟨h1, h2, h3⟩
  · refine ⟨eTold X.K C R Q, fun cls d σ' H' he => ?_, rfl, hc, h⟩
    obtain ⟨dd, k, rfl, ed, ⟨rfl, hq⟩ | ⟨rfl, hq⟩⟩ := he
    · refine ⟨true, T.te, fun _ z hz ln => ?_, fun y => (by cases y)⟩
      match σ', ln with
      | [o0, o1], _ =>
        refine ⟨_, rfl, rfl, rfl, dd, _, .int k, rfl, ed, rfl, by show 2 ≤ sizeLine; decide, fun t ht => hq t _ (same_new ht _) upd_same⟩
    · refine ⟨false, eRC, fun y => (by cases y), fun _ => ⟨true, TR.te, fun _ z hz ln => ?_, fun y => (by cases y)⟩⟩
      match σ', ln with
      | [o0, o1], _ =>
        refine ⟨_, rfl, rfl, rfl, dd, _, .int k, rfl, ed, rfl, _, rfl, rfl, .ref C, .ref C, false, dd, _, rfl, rfl, ed, fun u r => r, kRC, by show 3 ≤ sizeLine; decide, fun t ht => hq t _ (same_new ht _) upd_same⟩
end K6

namespace K6
open PySem PySem.Spec PyProof.Rows L2 Hb St Sq Ow En Zp RZ Rd Xb Da Lg
/-! ### drawn tales as data -/
def tD (ls : List (List Str)) : PyData := .tuple (ls.map fun l => .tuple (l.map .str))
theorem nm_B {x : Str} (h : IsNm x) : nmB x = true := by
  unfold nmB
  rw [decide_eq_true h.2.1, nm_ascii h, nm_alpha h, nm_lower h]; rfl
theorem asc_D : ∀ l : List Str, l.Pairwise sLt → ascD (l.map .str) = true
  | [], _ => rfl
  | [_], _ => rfl
  | x :: y :: r, h => by
    obtain ⟨h1, h2⟩ := List.pairwise_cons.mp h
    show (decide (x.cps.toList < y.cps.toList) && ascD ((y :: r).map .str)) = true
    rw [asc_D (y :: r) h2, decide_eq_true (show x.cps.toList < y.cps.toList from h1 y List.mem_cons_self)]; rfl
theorem lot_D {nms l : List Str} (nok : NsOk nms) (h : LotOk nms l) : lotD (.tuple (l.map .str)) = true := by
  obtain ⟨h1, h2, h3⟩ := h
  show (!(l.map PyData.str).isEmpty && ((l.map PyData.str).all nmD && ascD (l.map .str))) = true
  have e1 : (l.map PyData.str).isEmpty = false := by cases l with | nil => exact absurd rfl h1 | cons _ _ => rfl
  have e2 : (l.map PyData.str).all nmD = true := by
    rw [List.all_map, List.all_eq_true]
    exact fun x hx => nm_B (nok.nm x (h3 x hx))
  rw [e1, e2, asc_D l h2]; rfl
theorem tale_D {nms : List Str} {ls : List (List Str)} (nok : NsOk nms) (h : ∀ x ∈ ls, LotOk nms x) : taleD (tD ls) = true := by
  show (ls.map fun l => PyData.tuple (l.map .str)).all lotD = true
  rw [List.all_map, List.all_eq_true]
  exact fun l hl => lot_D nok (h l hl)
theorem lot_len {nms l : List Str} (nok : NsOk nms) (h : LotOk nms l) : l.length ≤ 4 := Nat.le_trans (nodup_len (asc_nodupS h.2.1) h.2.2) nok.ln
theorem lot_sm {nms l : List Str} (nok : NsOk nms) (h : LotOk nms l) : Sm1 (.tuple (l.map .str)) := by
  refine ⟨by rw [List.length_map]; have := lot_len nok h; omega, fun d hd => ?_⟩
  obtain ⟨x, hx, rfl⟩ := List.mem_map.mp hd
  have := (nok.nm x (h.2.2 x hx)).2.1
  show x.length ≤ 1000
  omega
theorem tale_sm {nms : List Str} {ls : List (List Str)} (nok : NsOk nms) (h : ∀ x ∈ ls, LotOk nms x) (n : ls.length ≤ 1000) : Sm2 (tD ls) := by
  refine ⟨by rw [List.length_map]; exact n, fun d hd => ?_⟩
  obtain ⟨l, hl, rfl⟩ := List.mem_map.mp hd
  exact lot_sm nok (h l hl)
theorem tale_dp {K : PySem.W.Frag} {H : Hp} {t : Addr} {its : List V} {ls : List (List Str)} (e : H t = some (.tup its)) (al : All2 (LotH H) its ls) : Dp K H (.ref t) (tD ls) := .tup (SqT.of e) (dp_all (fun _ _ h => h.dp) al)
theorem lotH_S {K : PySem.W.Frag} {H : Hp} {v : V} {l : List Str} (h : LotH H v l) : TupS K H v l := let ⟨b, e, t⟩ := h; ⟨b, e, SqT.of t⟩
theorem tin_of {K : PySem.W.Frag} {H : Hp} {t u : Addr} {its jts : List V} {nms : List Str} {ls hs : List (List Str)} (nok : NsOk nms) (et : H t = some (.tup its)) (eu : H u = some (.tup jts)) (al : All2 (LotH H) its ls) (bl : All2 (LotH H) jts hs)
    (okl : ∀ x ∈ ls, LotOk nms x) (okh : ∀ x ∈ hs, LotOk nms x) (n : ls.length ≤ 1000) (m : hs.length ≤ 1000) : TIn K H (.ref t) (.ref u) (tD ls) (tD hs) ls hs :=
  ⟨tale_dp et al, tale_dp eu bl, tale_sm nok okl n, tale_sm nok okh m, fun _ => ⟨t, u, rfl, rfl, ⟨its, et, al.imp fun _ _ h => lotH_S h⟩, ⟨jts, eu, bl.imp fun _ _ h => lotH_S h⟩⟩, n, m, fun h hh => by have := lot_len nok (okh h hh); omega, fun h hh => by have := lot_len nok (okl h hh); omega⟩
theorem no_first {d e : PyData} (h1 : taleD d = true) (h2 : taleD e = true) : firstNo [d, e] = none := by
  unfold firstNo
  rw [List.findIdx?_eq_none_iff]
  intro x hx
  simp only [List.mem_cons, List.not_mem_nil, or_false] at hx
  rcases hx with rfl | rfl
  · rw [h1]; rfl
  · rw [h2]; rfl
theorem first_0 {d e : PyData} (h1 : taleD d = false) : firstNo [d, e] = some 0 := by
  unfold firstNo
  rw [List.findIdx?_cons, h1]; rfl
theorem first_1 {d e : PyData} (h1 : taleD d = true) (h2 : taleD e = false) : firstNo [d, e] = some 1 := by
  unfold firstNo
  rw [List.findIdx?_cons, h1, List.findIdx?_cons, h2]; rfl
theorem lays_nil (ls hs : List (List Str)) : laysL ls hs = [] ↔ stuckN ls hs = some (grL ls hs).length := by
  have g := Ks.gr_len (n := ls.length) (ok := okL ls) hs 0
  have w := Ks.gr_whole (n := ls.length) (ok := okL ls) (hs := hs)
  unfold stuckN
  constructor
  · intro z
    have : ¬ (Ks.gr ls.length (okL ls) hs 0).length = hs.length := fun e => w.mp e z
    rw [if_pos (show (grL ls hs).length < hs.length by unfold grL; omega)]
  · intro z
    by_cases c : (grL ls hs).length < hs.length
    · exact Classical.byContradiction fun y => by have := w.mpr y; unfold grL at c; omega
    · rw [if_neg c] at z; cases z
theorem lays_ne {ls hs : List (List Str)} (h : laysL ls hs ≠ []) : stuckN ls hs = none := by
  have w := (Ks.gr_whole (n := ls.length) (ok := okL ls) (hs := hs)).mpr h
  unfold stuckN grL
  rw [if_neg (by omega)]
/-- what stands when all is drawn -/
structure Wst (K : PySem.W.Frag) (Pt p l nb a b cc tt uu : Addr) (nms : List Str) (ls hs : List (List Str)) (H : Hp) : Prop where
  eP : H Pt = some (.tbl #[])
  hd : DealAt H p l
  en : H nb = some (.tup (nms.map V.str))
  nok : NsOk nms
  ea : ∃ its jts, H a = some (.lst its) ∧ H b = some (.lst jts) ∧ H tt = some (.tup its) ∧ H uu = some (.tup jts) ∧ All2 (LotH H) its ls ∧ All2 (LotH H) jts hs
  okl : ∀ x ∈ ls, LotOk nms x
  okh : ∀ x ∈ hs, LotOk nms x
  ll : ls.length ≤ 7
  lh : hs.length ≤ 8
  ec : ∃ kts, H cc = some (.lst kts) ∧ All2 (TupN H) kts (laysL ls hs)
theorem Wst.same {K : PySem.W.Frag} {Pt p l nb a b cc tt uu : Addr} {nms : List Str} {ls hs : List (List Str)} {H H' : Hp} (w : Wst K Pt p l nb a b cc tt uu nms ls hs H) (s : Same H H') : Wst K Pt p l nb a b cc tt uu nms ls hs H' := by
  obtain ⟨its, jts, e1, e2, e3, e4, al, bl⟩ := w.ea
  obtain ⟨kts, e5, cl⟩ := w.ec
  exact ⟨s _ _ w.eP, w.hd.same s, s _ _ w.en, w.nok, ⟨its, jts, s _ _ e1, s _ _ e2, s _ _ e3, s _ _ e4, al.imp fun _ _ t => t.fix (Fix.of s), bl.imp fun _ _ t => t.fix (Fix.of s)⟩, w.okl, w.okh, w.ll, w.lh, ⟨kts, s _ _ e5, cl.imp fun _ _ t => t.same (Fix.of s)⟩⟩
theorem Wst.tin {K : PySem.W.Frag} {Pt p l nb a b cc tt uu : Addr} {nms : List Str} {ls hs : List (List Str)} {H : Hp} (w : Wst K Pt p l nb a b cc tt uu nms ls hs H) : TIn K H (.ref tt) (.ref uu) (tD ls) (tD hs) ls hs := by
  obtain ⟨its, jts, e1, e2, e3, e4, al, bl⟩ := w.ea
  exact tin_of w.nok e3 e4 al bl w.okl w.okh (by have := w.ll; omega) (by have := w.lh; omega)
theorem Wst.no {K : PySem.W.Frag} {Pt p l nb a b cc tt uu : Addr} {nms : List Str} {ls hs : List (List Str)} {H : Hp} (w : Wst K Pt p l nb a b cc tt uu nms ls hs H) : firstNo [tD ls, tD hs] = none := no_first (tale_D w.nok w.okl) (tale_D w.nok w.okh)
theorem notbl {xs : List V} : ∀ ps, HO.tup xs ≠ .tbl ps := fun ps z => by cases z
theorem notbl_l {xs : List V} : ∀ ps, HO.lst xs ≠ .tbl ps := fun ps z => by cases z
theorem lotH_ext {H H' : Hp} {v : V} {l : List Str} (h : LotH H v l) (e : LamX.ExtN H H') : LotH H' v l := let ⟨b, ev, eb⟩ := h; ⟨b, ev, e _ _ eb notbl⟩
theorem Wst.tinX {K : PySem.W.Frag} {Pt p l nb a b cc tt uu : Addr} {nms : List Str} {ls hs : List (List Str)} {H H' : Hp} (w : Wst K Pt p l nb a b cc tt uu nms ls hs H) (e : LamX.ExtN H H') : TIn K H' (.ref tt) (.ref uu) (tD ls) (tD hs) ls hs := by
  obtain ⟨its, jts, e1, e2, e3, e4, al, bl⟩ := w.ea
  exact tin_of w.nok (e _ _ e3 notbl) (e _ _ e4 notbl) (al.imp fun _ _ h => lotH_ext h e) (bl.imp fun _ _ h => lotH_ext h e) w.okl w.okh (by have := w.ll; omega) (by have := w.lh; omega)
theorem due_sh (m : Int) : SeqAt.shaped (.list [.str (Str.ofString "refused"), .int m, .bool false]) = true := by
  unfold SeqAt.shaped
  show ((PyData.strOk (Str.ofString "refused") && (true && (true && true))) && decide (max 0 (max 0 (max 0 0)) + 1 ≤ 64)) = true
  rw [show PyData.strOk (Str.ofString "refused") = true by clear m; decide +kernel]; rfl
theorem heard_sh (m : Int) : SeqAt.shaped (.list [.str (Str.ofString "heard"), .int m]) = true := by
  unfold SeqAt.shaped
  show ((PyData.strOk (Str.ofString "heard") && (true && true)) && decide (max 0 (max 0 0) + 1 ≤ 64)) = true
  rw [show PyData.strOk (Str.ofString "heard") = true by clear m; decide +kernel]; rfl
theorem sh_refl {d : PyData} (h : SeqAt.shaped d = true) : PyData.eqv d d = true := SeqAt.eqv_refl _ (SeqAt.canLay_of_shaped h)
end K6

namespace K6
open PySem PySem.Spec PyProof.Rows L2 Hb St Sq Ow En Zp RZ Rd Xb Da Lg
/-! ### the numbers of one heard lot in all layings -/
theorem mem_once {x : Nat} : ∀ r : List Nat, x ∈ once r.reverse ↔ x ∈ r.reverse
  | [] => Iff.rfl
  | n :: r => by
    have ih := mem_once (x := x) r
    rw [List.reverse_cons, once_snoc]
    by_cases c : n ∈ once r.reverse
    · rw [if_pos c, List.mem_append, List.mem_singleton]
      exact ⟨fun h => .inl (ih.mp h), fun h => h.elim ih.mpr fun e => e ▸ c⟩
    · rw [if_neg c, List.mem_append, List.mem_append, ih]
theorem mem_once' {x : Nat} {l : List Nat} : x ∈ once l ↔ x ∈ l := by
  have := mem_once (x := x) l.reverse
  rwa [List.reverse_reverse] at this
theorem nd_once : ∀ r : List Nat, (once r.reverse).Nodup
  | [] => List.nodup_nil
  | n :: r => by
    have ih := nd_once r
    rw [List.reverse_cons, once_snoc]
    by_cases c : n ∈ once r.reverse
    · rw [if_pos c]; exact ih
    · rw [if_neg c, List.nodup_append]
      exact ⟨ih, List.nodup_cons.mpr ⟨List.not_mem_nil, List.nodup_nil⟩, fun a ha b hb => by rw [List.mem_singleton.mp hb]; exact fun e => c (e ▸ ha)⟩
theorem nd_once' (l : List Nat) : (once l).Nodup := by
  have := nd_once l.reverse
  rwa [List.reverse_reverse] at this
def colN (L : List (List Nat)) (i : Nat) : List Nat := L.map fun l => l.getD i 0
def intL (l : List Nat) : List Int := l.map fun (n : Nat) => (n : Int)
theorem intL_nat (l : List Nat) : (intL l).map V.int = l.map natV := by unfold intL; rw [List.map_map]; rfl
theorem lay_len {ls hs : List (List Str)} {l : List Nat} (h : l ∈ laysL ls hs) : l.length = hs.length := (Ks.mem_lay.mp h).len
theorem mem_col {ls hs : List (List Str)} {i x : Nat} (hi : i < hs.length) : x ∈ colN (laysL ls hs) i ↔ ∃ l ∈ laysL ls hs, l[i]? = some x := by
  unfold colN
  rw [List.mem_map]
  constructor
  · rintro ⟨l, hl, rfl⟩
    have := lay_len hl
    exact ⟨l, hl, by rw [List.getD_eq_getElem?_getD, List.getElem?_eq_getElem (show i < l.length by omega)]; rfl⟩
  · rintro ⟨l, hl, e⟩
    exact ⟨l, hl, by rw [List.getD_eq_getElem?_getD, e]; rfl⟩
theorem may_get {ls hs : List (List Str)} (cL : laysL ls hs ≠ []) {i : Nat} (hi : i < hs.length) : ∃ g b c, hs[i]? = some g ∧ (grL ls hs)[i]? = some b ∧ (bkL ls hs)[i]? = some c ∧ (mayL ls hs)[i]? = some (((List.range (c + 1 - b)).map (b + ·)).filter (okL ls g)) ∧ b ≤ c ∧ okL ls g b = true ∧ okL ls g c = true := by
  have es := lays_ne cL
  have n1 := gr_lenN es
  have n2 := bk_lenN es
  obtain ⟨g, eg⟩ : ∃ g, hs[i]? = some g := ⟨_, List.getElem?_eq_getElem hi⟩
  obtain ⟨b, eb⟩ : ∃ b, (grL ls hs)[i]? = some b := ⟨_, List.getElem?_eq_getElem (by omega)⟩
  obtain ⟨c, ec⟩ : ∃ c, (bkL ls hs)[i]? = some c := ⟨_, List.getElem?_eq_getElem (by omega)⟩
  have G := Ks.gr_isLay (n := ls.length) (ok := okL ls) (hs := hs) cL
  have B := Ks.bk_isLay (n := ls.length) (ok := okL ls) (hs := hs) cL
  exact ⟨g, b, c, eg, eb, ec, may_at eg eb ec, Ks.gr_least B ec eb, (G.fit i b g eb eg).2, (B.fit i c g ec eg).2⟩
theorem mem_rng {q : Nat → Bool} {b n x : Nat} : x ∈ ((List.range n).map (b + ·)).filter q ↔ (b ≤ x ∧ x < b + n) ∧ q x = true := by
  rw [List.mem_filter, List.mem_map]
  constructor
  · rintro ⟨⟨k, hk, rfl⟩, h⟩
    have := List.mem_range.mp hk
    exact ⟨⟨by omega, by omega⟩, h⟩
  · rintro ⟨⟨h1, h2⟩, h⟩
    exact ⟨⟨x - b, List.mem_range.mpr (by omega), by omega⟩, h⟩
theorem asc_rng {q : Nat → Bool} {b n : Nat} : (((List.range n).map (b + ·)).filter q).Pairwise (· < ·) := by
  refine List.Pairwise.sublist List.filter_sublist ?_
  rw [List.pairwise_map]
  exact List.pairwise_lt_range.imp fun h => by omega
theorem asc_int {l : List Nat} (h : l.Pairwise (· < ·)) : (intL l).Pairwise (· < ·) := by
  unfold intL
  rw [List.pairwise_map]
  exact h.imp fun h => by omega
theorem spot_eq {ls hs : List (List Str)} (cL : laysL ls hs ≠ []) {i : Nat} (hi : i < hs.length) {ys : List Int} (pm : ys.Perm (intL (once (colN (laysL ls hs) i)))) (so : ys.Pairwise (· ≤ ·)) : ∃ M, (mayL ls hs)[i]? = some M ∧ ys = intL M := by
  obtain ⟨g, b, c, eg, eb, ec, em, bc, _, _⟩ := may_get cL hi
  refine ⟨_, em, ?_⟩
  have nd : ys.Nodup := pm.nodup_iff.mpr (by
    unfold intL
    exact List.Pairwise.map _ (fun a b (h : a ≠ b) => by omega) (nd_once' _))
  have asc : ys.Pairwise (· < ·) := (so.and nd).imp fun h => Int.lt_iff_le_and_ne.mpr h
  have a2 := asc_int (asc_rng (q := okL ls g) (b := b) (n := c + 1 - b))
  rw [lotI_eq asc (l := ys) fun x => Iff.rfl, lotI_eq a2 (l := ys) fun x => ?_]
  rw [pm.mem_iff]
  unfold intL
  rw [List.mem_map, List.mem_map]
  have key : ∀ n, n ∈ once (colN (laysL ls hs) i) ↔ n ∈ ((List.range (c + 1 - b)).map (b + ·)).filter (okL ls g) := fun n => by
    rw [mem_once', mem_col hi]
    refine (Ks.spots cL eg eb ec n).trans ?_
    rw [mem_rng]
    constructor
    · rintro ⟨⟨h1, h2⟩, h3⟩
      exact ⟨⟨h1, by omega⟩, h3⟩
    · rintro ⟨⟨h1, h2⟩, h3⟩
      exact ⟨⟨h1, by omega⟩, h3⟩
  exact ⟨fun ⟨n, h, e⟩ => ⟨n, (key n).mpr h, e⟩, fun ⟨n, h, e⟩ => ⟨n, (key n).mp h, e⟩⟩
theorem once_small {ls hs : List (List Str)} {i : Nat} (hi : i < hs.length) : (once (colN (laysL ls hs) i)).length ≤ ls.length := by
  have := nodup_len (nd_once' (colN (laysL ls hs) i)) (m := List.range ls.length) fun x hx => by
    obtain ⟨l, hl, e⟩ := (mem_col hi).mp (mem_once'.mp hx)
    exact List.mem_range.mpr ((Ks.mem_lay.mp hl).below x (List.mem_of_getElem? e))
  rwa [List.length_range] at this
theorem may_first {ls hs : List (List Str)} (cL : laysL ls hs ≠ []) {i : Nat} {M : List Nat} (e : (mayL ls hs)[i]? = some M) : ∃ b, (grL ls hs)[i]? = some b ∧ M[0]? = some b := by
  have hi : i < hs.length := by have := (List.getElem?_eq_some_iff.mp e).1; rwa [may_len (lays_ne cL)] at this
  obtain ⟨g, b, c, eg, eb, ec, em, bc, ob, oc⟩ := may_get cL hi
  rw [em] at e
  obtain rfl := Option.some.inj e
  refine ⟨b, eb, ?_⟩
  obtain ⟨n, en⟩ : ∃ n, c + 1 - b = n + 1 := ⟨c - b, by omega⟩
  rw [en, List.range_succ_eq_map, List.map_cons, List.filter_cons_of_pos (by exact ob)]; rfl
theorem may_last {ls hs : List (List Str)} (cL : laysL ls hs ≠ []) {i : Nat} {M : List Nat} (e : (mayL ls hs)[i]? = some M) : ∃ c N, (bkL ls hs)[i]? = some c ∧ M = N ++ [c] := by
  have hi : i < hs.length := by have := (List.getElem?_eq_some_iff.mp e).1; rwa [may_len (lays_ne cL)] at this
  obtain ⟨g, b, c, eg, eb, ec, em, bc, ob, oc⟩ := may_get cL hi
  rw [em] at e
  obtain rfl := Option.some.inj e
  obtain ⟨n, en⟩ : ∃ n, c + 1 - b = n + 1 := ⟨c - b, by omega⟩
  refine ⟨c, ((List.range n).map (b + ·)).filter (okL ls g), ec, ?_⟩
  rw [en, List.range_succ, List.map_append, List.filter_append]
  congr 1
  show [b + n].filter (okL ls g) = [c]
  rw [show b + n = c by omega, List.filter_cons_of_pos oc]; rfl
theorem may_small {ls hs : List (List Str)} (cL : laysL ls hs ≠ []) {M : List Nat} (h : M ∈ mayL ls hs) : M.length ≤ ls.length := by
  obtain ⟨i, e⟩ := List.mem_iff_getElem?.mp h
  have hi : i < hs.length := by have := (List.getElem?_eq_some_iff.mp e).1; rwa [may_len (lays_ne cL)] at this
  obtain ⟨g, b, c, eg, eb, ec, em, bc, ob, oc⟩ := may_get cL hi
  rw [em] at e
  obtain rfl := Option.some.inj e
  have := (Ks.bk_isLay (n := ls.length) (ok := okL ls) (hs := hs) cL).below c (List.mem_of_getElem? ec)
  refine Nat.le_trans (List.length_filter_le _ _) ?_
  rw [List.length_map, List.length_range]; omega
theorem dp_natsF {K : PySem.W.Frag} {H : Hp} {α : Type} (f : α → Nat) : ∀ L : List α, DpAll K H (L.map fun M => natV (f M)) ((L.map f).map fun i => PyData.int (i : Nat))
  | [] => .nil
  | x :: L => .cons (.int _) (dp_natsF f L)
def dT (L : List (List Nat)) : PyData := .tuple (L.map fun l => .tuple (l.map fun i => .int (i : Nat)))
theorem dT_dp {K : PySem.W.Frag} {H : Hp} {p : Addr} {its : List V} {L : List (List Nat)} (e : H p = some (.tup its)) (al : All2 (TupN H) its L) : Dp K H (.ref p) (dT L) :=
  .tup (SqT.of e) (dp_all (f := fun l : List Nat => .tuple (l.map fun i => .int (i : Nat))) (fun v l ⟨b, eb, hb⟩ => by rw [eb]; exact .tup (SqT.of hb) (dp_nats l)) al)
theorem dT_sh (L : List (List Nat)) : Sh 2 (dT L) := sh_tup fun l _ => sh_nats l
end K6

namespace K6
open PySem PySem.Spec PyProof.Rows L2 Hb St Sq Ow En Zp RZ Rd Xb Da Lg LamX
/-! ### values that are no tales -/
def KpX (p l : Addr) (H H' : Hp) : Prop := ∀ b o, H b = some o → b ≠ p → b ≠ l → (∀ ps, o ≠ .tbl ps) → H' b = some o
theorem KpX.trans {p l : Addr} {H H1 H2 : Hp} (a : KpX p l H H1) (b : KpX p l H1 H2) : KpX p l H H2 := fun c o e n m t => b c o (a c o e n m t) n m t
theorem KpX.two {p l : Addr} {H H' : Hp} (k : Kept2 p l H H') : KpX p l H H' := fun b o e n m _ => k b o e n m
theorem KpX.same {p l : Addr} {H H' : Hp} (k : Same H H') : KpX p l H H' := fun b o e _ _ _ => k b o e
theorem KpX.ext {p l : Addr} {H H' : Hp} (k : ExtN H H') : KpX p l H H' := fun b o e _ _ t => k b o e t
/-- v holds d, wherever all but the box and the tables is as in H -/
def Nd (K : PySem.W.Frag) (p l : Addr) (H : Hp) (v : V) (d : PyData) : Prop := ∀ H', KpX p l H H' → Dp K H' v d
section
variable {K : PySem.W.Frag} {p l : Addr} {H H' : Hp} {v : V} {d : PyData}
theorem Nd.on (n : Nd K p l H v d) (k : KpX p l H H') : Nd K p l H' v d := fun H2 k2 => n H2 (k.trans k2)
theorem dpa_of {H : Hp} : ∀ {vs : List V} {ds : List PyData}, All2 (Dp K H) vs ds → DpAll K H vs ds
  | _, _, .nil => .nil
  | _, _, .cons h t => .cons h (dpa_of t)
theorem Nd.tup {a : Addr} {xs : List V} {ds : List PyData} (e : H a = some (.tup xs)) (hd : DealAt H p l) (al : All2 (Nd K p l H) xs ds) : Nd K p l H (.ref a) (.tuple ds) := fun H' k =>
  .tup (SqT.of (k _ _ e (hd.ne_tup e).1 (hd.ne_tup e).2 notbl)) (dpa_of (al.imp fun _ _ n => n H' k))
theorem Nd.lst {a : Addr} {xs : List V} {ds : List PyData} (e : H a = some (.lst xs)) (n1 : a ≠ p) (n2 : a ≠ l) (al : All2 (Nd K p l H) xs ds) : Nd K p l H (.ref a) (.list ds) := fun H' k =>
  .lst (SqL.of (k _ _ e n1 n2 notbl_l)) (dpa_of (al.imp fun _ _ n => n H' k))
theorem nd_str (x : Str) : Nd K p l H (.str x) (.str x) := fun _ _ => .str x
theorem nd_int (i : Int) : Nd K p l H (.int i) (.int i) := fun _ _ => .int i
theorem nd_non : Nd K p l H .non .none := fun _ _ => .non
theorem nd_strs : ∀ lot : List Str, All2 (Nd K p l H) (lot.map V.str) (lot.map .str)
  | [] => .nil
  | x :: r => .cons (nd_str x) (nd_strs r)
theorem nd_lot {lot : List Str} (hd : DealAt H p l) (h : LotH H v lot) : Nd K p l H v (.tuple (lot.map .str)) := by
  obtain ⟨b, rfl, e⟩ := h
  exact .tup e hd (nd_strs lot)
end
theorem nd_lots {K : PySem.W.Frag} {p l : Addr} {H : Hp} (hd : DealAt H p l) : ∀ {its : List V} {ls : List (List Str)}, All2 (LotH H) its ls → All2 (Nd K p l H) its (ls.map fun l => .tuple (l.map .str))
  | _, _, .nil => .nil
  | _, _, .cons h t => .cons (nd_lot hd h) (nd_lots hd t)
/-- no tale; a lot just if it is ("x",) -/
structure BadOk (d : PyData) : Prop where
  nt : taleD d = false
  s2 : Sm2 d
  s1 : Sm1 d
  sh : SeqAt.shaped d = true
  lt : lotD d = PyData.eqv d (.tuple [.str (Str.ofString "x")])
def shB : PyData → Bool
  | .str x => decide (x.length ≤ 1000)
  | _ => true
def sm1B : PyData → Bool
  | .tuple ds => decide (ds.length ≤ 1000) && ds.all shB
  | _ => true
def sm2B : PyData → Bool
  | .tuple ds => decide (ds.length ≤ 1000) && ds.all sm1B
  | _ => true
theorem sh_by : ∀ d : PyData, shB d = true → ShortD d
  | .str x, h => show x.length ≤ 1000 from of_decide_eq_true h
  | .int _, _ => trivial
  | .none, _ => trivial
  | .bool _, _ => trivial
  | .tuple _, _ => trivial
  | .list _, _ => trivial
  | .dict _, _ => trivial
theorem sm1_by : ∀ d : PyData, sm1B d = true → Sm1 d
  | .tuple ds, h => by
    have h : (decide (ds.length ≤ 1000) && ds.all shB) = true := h
    rw [Bool.and_eq_true, decide_eq_true_eq, List.all_eq_true] at h
    exact ⟨h.1, fun d hd => sh_by d (h.2 d hd)⟩
  | .int _, _ => trivial
  | .none, _ => trivial
  | .bool _, _ => trivial
  | .str _, _ => trivial
  | .list _, _ => trivial
  | .dict _, _ => trivial
theorem sm2_by : ∀ d : PyData, sm2B d = true → Sm2 d
  | .tuple ds, h => by
    have h : (decide (ds.length ≤ 1000) && ds.all sm1B) = true := h
    rw [Bool.and_eq_true, decide_eq_true_eq, List.all_eq_true] at h
    exact ⟨h.1, fun d hd => sm1_by d (h.2 d hd)⟩
  | .int _, _ => trivial
  | .none, _ => trivial
  | .bool _, _ => trivial
  | .str _, _ => trivial
  | .list _, _ => trivial
  | .dict _, _ => trivial
def badC (d : PyData) : Bool := !taleD d && (sm2B d && (sm1B d && (SeqAt.shaped d && (lotD d == PyData.eqv d (.tuple [.str (Str.ofString "x")])))))
theorem bad_by {d : PyData} (h : badC d = true) : BadOk d := by
  unfold badC at h
  simp only [Bool.and_eq_true, Bool.not_eq_true', beq_iff_eq] at h
  exact ⟨h.1, sm2_by d h.2.1, sm1_by d h.2.2.1, h.2.2.2.1, h.2.2.2.2⟩
theorem bad_list {ds : List PyData} (sh : SeqAt.shaped (.list ds) = true) : BadOk (.list ds) := ⟨rfl, trivial, trivial, sh, by cases ds <;> rfl⟩
theorem b_none : BadOk .none := bad_by (by decide +kernel)
theorem b_yx : BadOk (.tuple [.tuple [.str (Str.ofString "y"), .str (Str.ofString "x")]]) := bad_by (by decide +kernel)
theorem b_e : BadOk (.tuple [.tuple []]) := bad_by (by decide +kernel)
theorem b_x : BadOk (.tuple [.str (Str.ofString "x")]) := bad_by (by decide +kernel)
theorem b_xx : BadOk (.tuple [.tuple [.str (Str.ofString "x"), .str (Str.ofString "x")]]) := bad_by (by decide +kernel)
theorem b_3 : BadOk (.int 3) := bad_by (by decide +kernel)
theorem b_s : BadOk (.str (Str.ofString "x")) := bad_by (by decide +kernel)
theorem b_n : BadOk (.tuple [.tuple [.none]]) := bad_by (by decide +kernel)
theorem b_l : BadOk (.tuple [.list [.str (Str.ofString "x")]]) := bad_by (by decide +kernel)
theorem b_X : BadOk (.tuple [.tuple [.str (Str.ofString "X")]]) := bad_by (by decide +kernel)
theorem b_x3 : BadOk (.tuple [.tuple [.str (Str.ofString "x"), .int 3]]) := bad_by (by decide +kernel)
end K6

namespace K6
open PySem PySem.Spec PyProof.Rows L2 Hb St Sq Ow En Zp RZ Rd Xb Da Lg LamX Ty Lc
/-! ### the law -/
abbrev s_law : Stmt := top 31
theorem sc_law : FnScope ["script", "heap", "names", "lots", "heard", "all_of", "many", "works", "due", "work", "spots", "bads", "bad", "tale", "told", "at", "spot", "lot", "laid"] ["script"] (defScope s_law) := ⟨rfl, rfl, rfl, by decide +kernel, rfl, by decide +kernel, by decide +kernel⟩
theorem DealAt.l_some {H : Hp} {p l : Addr} (d : DealAt H p l) : ∃ o, H l = some o := let ⟨_, _, _, h, _⟩ := d; ⟨_, h⟩
def nmC (x : Str) : Bool := decide (0 < x.length) && (decide (x.length ≤ 8) && x.cps.toList.all fun c => decide (97 ≤ c) && decide (c < 123))
theorem nm_by {x : Str} (h : nmC x = true) : IsNm x := by
  unfold nmC at h
  simp only [Bool.and_eq_true, decide_eq_true_eq, List.all_eq_true] at h
  exact ⟨h.1, h.2.1, fun c hc => h.2.2 c hc⟩
theorem nsok_by {ns : List Str} (h : (decide ns.Nodup && (!ns.isEmpty && (decide (ns.length ≤ 4) && ns.all nmC))) = true) : NsOk ns := by
  simp only [Bool.and_eq_true, decide_eq_true_eq, Bool.not_eq_true', List.all_eq_true] at h
  obtain ⟨h1, h2, h3, h4⟩ := h
  exact ⟨h1, (by intro z; rw [z] at h2; cases h2), h3, fun x hx => nm_by (h4 x hx)⟩
theorem log_le {m : Nat} (h : m ≤ 1000) : ((m : Nat) : Int).natAbs.log2 < 1920 := by
  rw [Int.natAbs_natCast]
  by_cases c : m = 0
  · rw [c]; decide
  · exact Nat.lt_trans ((Nat.log2_lt c).mpr (show m < 2 ^ 10 by omega)) (by decide)
abbrev qLam : Str := (envOfC "law" (defScope s_law) 0 0 .none).qual ++ "<lambda>"
section
variable {P : Program} {w : World} {K : PySem.W.Frag} {mg : Str → Option Value} {base : Heap}
def spRefu (K : PySem.W.Frag) (R : Addr) : Sp := fun vs H Q E => ∃ (v u : V) (d e : PyData) (ls hs : List (List Str)) (m : Nat), vs = [v, u] ∧ TIn K H v u d e ls hs ∧ firstNo [d, e] = none ∧ stuckN ls hs = some m ∧ ∀ dd H', Same H H' → H' dd = some (errH (m : Nat)) → E (.ref R) (some dd) H'
def spBad (K : PySem.W.Frag) (C : Addr) : Sp := fun vs H Q E => ∃ (v u : V) (d e : PyData) (ls hs : List (List Str)) (k : Nat), vs = [v, u] ∧ TIn K H v u d e ls hs ∧ firstNo [d, e] = some k ∧ ∀ dd H', Same H H' → H' dd = some (errH (k : Nat)) → E (.ref C) (some dd) H'
def spLaw (K : PySem.W.Frag) (Pt : Addr) : Sp := fun vs H Q _ => ∃ (a : Addr) (ns : List Int), vs = [.ref a] ∧ SqL K H a (ns.map V.int) ∧ ns.length ≤ 63 ∧ H Pt = some (.tbl #[]) ∧ ∀ H', Q (.bl true) H'
theorem ok_law {f c Pt C R fC fR f1 f2 f3 f4 f5 g : Addr} {fdg : FuncData} {oc : Value} {od an : Option Addr} {osl : Array (Option Value)} {kV doc pm ct : Value}
    (lk : K.lookup f = some ⟨oc, od, .func (PySem.W.fnOf "law" "law" (defArgs s_law) (defBody s_law) (defScope s_law) .none kV doc pm an (.ref c) ct), osl⟩) (cd : PySem.W.codeIn K (.ref c) "law" = true) (TB : TabB base mg c Pt) (Fg : Fun K "_law_told" "_law_told" s__law_told g fdg) (bg0 : Binds K fdg ["work"] []) (mtold : mg "_law_told" = some (.ref g)) (T : ErrC K mg "InvalidHeard" C fC) (TR : ErrC K mg "Refused" R fR) (TI : IsC K R) (kRC : PySem.W.kitOne K (.ref R) (.ref C) = some false) (eRC : PySem.W.exmOne K (.ref R) (.ref C) = some false)
    (g1 : mg "first_laying" = some (.ref f1)) (g2 : mg "last_laying" = some (.ref f2)) (g3 : mg "may_lie" = some (.ref f3)) (g4 : mg "count_layings" = some (.ref f4)) (g5 : mg "stuck_at" = some (.ref f5)) (DR : ∀ f ∈ [f1, f2, f3, f4], DfX P w K mg base 8 f (spRefu K R)) (DB : ∀ f ∈ [f1, f2, f3, f4, f5], DfX P w K mg base 8 f (spBad K C))
    (C__law_draw : Cl P w K mg base "_law_draw" ["heap", "many"] [] 1 spDraw) (C__law_heap : Cl P w K mg base "_law_heap" ["script", "base"] [] 1 (spDeal K)) (C__law_layings : Cl P w K mg base "_law_layings" ["lots", "heard"] [] 1 (spLLay K)) (C__law_less : Cl P w K mg base "_law_less" ["heap", "lots"] [] 3 (spLess K)) (C__law_many : Cl P w K mg base "_law_many" ["lots", "heard"] [] 2 (spMany K)) (C__law_once : Cl P w K mg base "_law_once" ["numbers"] [] 1 (spOnce K)) (C__law_pick : Cl P w K mg base "_law_pick" ["heap", "some"] [] 2 (spPick K)) (C__law_tale : Cl P w K mg base "_law_tale" ["heap", "names", "most"] [] 3 spTale)
    (C_count_layings : Cx_ P w K mg base "count_layings" ["lots", "heard"] 7 (spCount K C R)) (C_is_lot : Cl P w K mg base "is_lot" ["value"] [] 2 (spIsLot K)) (C_is_tale : Cl P w K mg base "is_tale" ["value"] [] 3 (spIsTale K)) (C_last_laying : Cx_ P w K mg base "last_laying" ["lots", "heard"] 7 (spLast K C R)) (C_stuck_at : Cx_ P w K mg base "stuck_at" ["lots", "heard"] 5 (spStuck K C))
    (K_first_laying : CkX P w K mg base "first_laying" ["lots", "heard"] ["lots", "heard"] (fun _ zs => zs) 7 (spFirst K C R)) (K_may_lie : CkX P w K mg base "may_lie" ["lots", "heard"] ["heard", "lots"] (fun _ zs => zs.reverse) 8 (spMay K C R))
    (n_len : mg "len" = none) (n_list : mg "list" = none) (n_range : mg "range" = none) (n_repr : mg "repr" = none) (n_sorted : mg "sorted" = none) (n_tuple : mg "tuple" = none) (n_isinstance : mg "isinstance" = none) :
    FnOk P w K mg base CX0 11 f (PySem.W.fnOf "law" "law" (defArgs s_law) (defBody s_law) (defScope s_law) .none kV doc pm an (.ref c) ct) ["script"] (spLaw K Pt) := by
  obtain ⟨⟨ocg, odg, kVg, docg, pmg, ang, cdvg, ctg, oslg, rfl, lkg, cdg'⟩, kpg⟩ := Fg
  have bg := bg0
  refine okC lk cd sc_law (fun vs H Q E h => ?_) (fun A outer s H vs Q E hr h => ?_)
  · obtain ⟨_, _, rfl, _⟩ := h
    rfl
  · obtain ⟨a0, ns, rfl, h0, l0, eP, q⟩ := h
    refine ⟨_, (pss_cons (ps_set (i := 1) sc_law.nd rfl (Or.inl rfl) (pe_use C__law_heap (hr.mono (by decide)) rfl (pa_cons (pv 0) (pa_cons pe_int pa_nil))))
        (pss_cons (ps_set (i := 2) sc_law.nd rfl (Or.inl rfl) (pe_use C__law_pick (hr.mono (by decide)) rfl (pa_cons (pv 1) (pa_cons (pe_lst (pa_cons (pe_tup (pa_cons pe_str (pa_cons pe_str (pa_cons pe_str pa_nil)))) (pa_cons (pe_tup (pa_cons pe_str (pa_cons pe_str (pa_cons pe_str (pa_cons pe_str pa_nil))))) (pa_cons (pe_tup (pa_cons pe_str (pa_cons pe_str (pa_cons pe_str pa_nil)))) (pa_cons (pe_tup (pa_cons pe_str (pa_cons pe_str pa_nil))) pa_nil))))) pa_nil))))
        (pss_cons (ps_set (i := 3) sc_law.nd rfl (Or.inl rfl) (pe_use C__law_tale (hr.mono (by decide)) rfl (pa_cons (pv 1) (pa_cons (pv 2) (pa_cons pe_int pa_nil)))))
        (Evl.pss_cut (ps_set (i := 4) sc_law.nd rfl (Or.inl rfl) (pe_ifExp (pt_cmpR op_gt (pe_use C__law_draw (hr.mono (by decide)) rfl (pa_cons (pv 1) (pa_cons pe_int pa_nil))) pe_int (nomark _)) (pe_use C__law_less (hr.mono (by decide)) rfl (pa_cons (pv 1) (pa_cons (pv 3) pa_nil))) (pe_use C__law_tale (hr.mono (by decide)) rfl (pa_cons (pv 1) (pa_cons (pv 2) (pa_cons pe_int pa_nil))))))
        (pss_cons (ps_set (i := 5) sc_law.nd rfl (Or.inr rfl) (pe_use C__law_layings (hr.mono (by decide)) rfl (pa_cons (pv 3) (pa_cons (pv 4) pa_nil))))
        (pss_cons (ps_asg (pe_tup (pa_cons (pe_callTy call_tuple_of (by rfl) n_tuple (by decide +kernel) (pa_cons (pv 3) pa_nil)) (pa_cons (pe_callTy call_tuple_of (by rfl) n_tuple (by decide +kernel) (pa_cons (pv 4) pa_nil)) pa_nil))) (pg_tup rfl (pgs_cons (pg_name (i := 13) sc_law.nd rfl (Or.inr rfl)) (pgs_cons (pg_name (i := 14) sc_law.nd rfl (Or.inr rfl)) pgs_nil))))
        (pss_cons (ps_set (i := 6) sc_law.nd rfl (Or.inl rfl) (pe_use C__law_many (hr.mono (by decide)) rfl (pa_cons (pv 3) (pa_cons (pv 4) pa_nil))))
        (Evl.pss_cut (ps_if (pt_cmpR op_ne (pe_callB cr_reprN (by rfl) n_repr (by decide +kernel) (pa_cons (pe_useX C_stuck_at (hr.mono (by decide)) (fun σ => passAt L2.takes0 σ) rfl (pa_cons (pv 13) (pa_cons (pv 14) pa_nil))) pa_nil)) (pe_callB cr_reprN (by rfl) n_repr (by decide +kernel) (pa_cons (pe_ifExp (pt_cmpR (op_neD hr.units) (pv 5) (pe_lst pa_nil) (nomark _)) pe_non (pv 6)) pa_nil)) (nomark _)) (pss_one (ps_ret pe_bl)) pss_nil)
        (pss_cons (ps_set (i := 7) sc_law.nd rfl (Or.inl rfl) (pe_tup (pa_cons (pe_glob (v := .ref f1) (by rfl) g1 rfl) (pa_cons (pe_glob (v := .ref f2) (by rfl) g2 rfl) (pa_cons (pe_glob (v := .ref f3) (by rfl) g3 rfl) (pa_cons (pe_glob (v := .ref f4) (by rfl) g4 rfl) pa_nil))))))
        (pss_cons (ps_set (i := 8) sc_law.nd rfl (Or.inr rfl) (pe_lst (pa_cons pe_str (pa_cons (pv 6) (pa_cons pe_bl pa_nil)))))
        (Evl.pss_cut (ps_if (pt_cmpR (op_eqD hr.units) (pv 5) (pe_lst pa_nil) (nomark _)) (pss_one (ps_ret (pe_cmpR (op_eqD hr.units) (pe_lc (own := [("work", 9)]) (g := gName 9) rfl sc_law.nd (pi_seq (pv 7)) (blkOk_by (N := ["script", "heap", "names", "lots", "heard", "all_of", "many", "works", "due", "work", "spots", "bads", "bad", "tale", "told", "at", "spot", "lot", "laid"]) (sc := defScope s_law) (by decide +kernel)) (fun _ _ _ _ _ => pg_name (i := 9) sc_law.nd rfl (Or.inr rfl)) (fun _ _ _ _ _ => pts_one (pt_cmpR (r := rNeD K) (op_neD hr.units) (pe_lamcall (T := [(Pt, qLam)]) (t := fun E => tVarX P w K mg base 8 9 (spRefu K R) (fun _ => E) (tCons (tVar 13) (tCons (tVar 14) tNil))) (TT := TTold2 K C R) (k := 8) (a := "work") (Ng := ["work", "wrong"]) rfl mtold kpg lkg cdg' bg sc__law_told rfl (.inl rfl) (told2 T TR TI kRC eRC n_isinstance) TB rfl (List.mem_singleton.mpr rfl) (fun p hp _ => by rw [List.mem_singleton.mp hp] <;> rfl) (hr.mono (by decide)) (lamS_by rfl) rfl (fun _ _ _ _ _ => rfl) (fun A outer s H E f c' hr2 => pe_varX (lv := 8) (i := 9) (E := fun _ => E) rfl (.inr (.inr rfl)) hr2 (fun σ => passAt (takes_of rfl rfl rfl rfl) σ) (pa_cons (pv 13) (pa_cons (pv 14) pa_nil)))) (pv 8) (nomark _))) (fun _ _ _ _ _ => pv 9)) (pe_lst pa_nil) (nomark _)))) pss_nil)
        (Evl.pss_cut (ps_setLc (i := 10) (own := [("at", 15)]) (g := gName 15) (by rfl) sc_law.nd rfl rfl (sw_true rfl rfl rfl (by decide +kernel)) (pi_range1 (by rfl) n_range (pa_cons (pe_callB call_len_seq (by rfl) n_len PySem.boot_len (pa_cons (pv 4) pa_nil)) pa_nil)) (blkOk_by (N := ["script", "heap", "names", "lots", "heard", "all_of", "many", "works", "due", "work", "spots", "bads", "bad", "tale", "told", "at", "spot", "lot", "laid"]) (sc := defScope s_law) (by decide +kernel)) (fun _ _ _ _ _ => pg_name (i := 15) sc_law.nd rfl (Or.inr rfl)) (fun _ _ _ _ _ => pts_nil) (fun _ _ _ _ _ => pe_callTy (T := "tuple") (r := rTupE K) call_tupE (by rfl) n_tuple (by decide +kernel) (pa_cons (pe_callB (id := "sorted") (r := rSorted K) cr_sorted (by rfl) n_sorted (by decide +kernel) (pa_cons (pe_use C__law_once (hr.mono (by decide)) rfl (pa_cons (pe_lc (own := [("laid", 18)]) (g := gName 18) rfl sc_law.nd (wi := iSeq K (tVar 5)) (by exact pi_seq (pv 5)) (blkOk_by (N := ["script", "heap", "names", "lots", "heard", "all_of", "many", "works", "due", "work", "spots", "bads", "bad", "tale", "told", "at", "spot", "lot", "laid"]) rfl) (fun _ _ _ _ _ => pg_name (i := 18) sc_law.nd rfl (Or.inl rfl)) (fun _ _ _ _ _ => pts_nil) (fun _ _ _ _ _ => pe_ix (r := rIxT K) ix_tup (pv 18) (pv 15) (fun _ _ => rfl))) pa_nil)) pa_nil)) pa_nil)))
        (Evl.pss_cut (ps_if (pt_cmpR (op_neD hr.units) (pe_useKX K_first_laying (hr.mono (by decide)) (passes_call L2.takes0 fun _ _ _ _ h => h) rfl (pk_cons (pv 13) (pk_cons (pv 14) pk_nil))) (pe_callTy call_tuple_of (by rfl) n_tuple (by decide +kernel) (pa_cons (pe_lc (own := [("spot", 16)]) (g := gName 16) rfl sc_law.nd (pi_seq (pv 10)) (blkOk_by (N := ["script", "heap", "names", "lots", "heard", "all_of", "many", "works", "due", "work", "spots", "bads", "bad", "tale", "told", "at", "spot", "lot", "laid"]) (sc := defScope s_law) (by decide +kernel)) (fun _ _ _ _ _ => pg_name (i := 16) sc_law.nd rfl (Or.inl rfl)) (fun _ _ _ _ _ => pts_nil) (fun _ _ _ _ _ => pe_ix (r := rIxT K) ix_tup (pv 16) pe_int (fun _ _ => rfl))) pa_nil)) (nomark _)) (pss_one (ps_ret pe_bl)) pss_nil)
        (Evl.pss_cut (ps_if (PW.pt (pw_or (pt_cmpR (op_neD hr.units) (pe_useX C_last_laying (hr.mono (by decide)) (fun σ => passAt L2.takes0 σ) rfl (pa_cons (pv 13) (pa_cons (pv 14) pa_nil))) (pe_callTy call_tuple_of (by rfl) n_tuple (by decide +kernel) (pa_cons (pe_lc (own := [("spot", 16)]) (g := gName 16) rfl sc_law.nd (pi_seq (pv 10)) (blkOk_by (N := ["script", "heap", "names", "lots", "heard", "all_of", "many", "works", "due", "work", "spots", "bads", "bad", "tale", "told", "at", "spot", "lot", "laid"]) (sc := defScope s_law) (by decide +kernel)) (fun _ _ _ _ _ => pg_name (i := 16) sc_law.nd rfl (Or.inl rfl)) (fun _ _ _ _ _ => pts_nil) (fun _ _ _ _ _ => pe_ix (r := rIxT K) ix_tup (pv 16) (pe_un un_neg pe_int) (fun _ _ => rfl))) pa_nil)) (nomark _)) (pw_or1 (pt_cmpR (op_neD hr.units) (pe_useKX K_may_lie (hr.mono (by decide)) (passes_call L2.takes0 fun _ _ _ _ h => h) rfl (pk_cons (pv 14) (pk_cons (pv 13) pk_nil))) (pe_callTy call_tuple_of (by rfl) n_tuple (by decide +kernel) (pa_cons (pv 10) pa_nil)) (nomark _))))) (pss_one (ps_ret pe_bl)) pss_nil)
        (Evl.pss_cut (ps_if (pt_cmpR op_ne (pe_callB cr_reprN (by rfl) n_repr (by decide +kernel) (pa_cons (pe_useX C_count_layings (hr.mono (by decide)) (fun σ => passAt L2.takes0 σ) rfl (pa_cons (pv 13) (pa_cons (pv 14) pa_nil))) pa_nil)) (pe_callB cr_reprN (by rfl) n_repr (by decide +kernel) (pa_cons (pe_callB call_len_seq (by rfl) n_len PySem.boot_len (pa_cons (pv 5) pa_nil)) pa_nil)) (nomark _)) (pss_one (ps_ret pe_bl)) pss_nil)
        (pss_cons (ps_set (i := 11) sc_law.nd rfl (Or.inl rfl) (pe_lst (pa_cons pe_non (pa_cons (pe_callTy call_list_of (by rfl) n_list (by decide +kernel) (pa_cons (pv 13) pa_nil)) (pa_cons (pe_tup (pa_cons (pe_tup (pa_cons pe_str (pa_cons pe_str pa_nil))) pa_nil)) (pa_cons (pe_tup (pa_cons (pe_tup pa_nil) pa_nil)) (pa_cons (pe_tup (pa_cons pe_str pa_nil)) (pa_cons (pe_tup (pa_cons (pe_tup (pa_cons pe_str (pa_cons pe_str pa_nil))) pa_nil)) (pa_cons pe_int (pa_cons pe_str (pa_cons (pe_tup (pa_cons (pe_tup (pa_cons pe_non pa_nil)) pa_nil)) (pa_cons (pe_tup (pa_cons (pe_lst (pa_cons pe_str pa_nil)) pa_nil)) (pa_cons (pe_tup (pa_cons (pe_tup (pa_cons pe_str pa_nil)) pa_nil)) (pa_cons (pe_tup (pa_cons (pe_tup (pa_cons pe_str (pa_cons pe_int pa_nil))) pa_nil)) pa_nil))))))))))))))
        (pss_cons (ps_asg (pe_tup (pa_cons (pe_use C__law_pick (hr.mono (by decide)) rfl (pa_cons (pv 1) (pa_cons (pv 11) pa_nil))) (pa_cons (pe_use C__law_pick (hr.mono (by decide)) rfl (pa_cons (pv 1) (pa_cons (pe_op op_cat (pe_callTy call_list_of (by rfl) n_list (by decide +kernel) (pa_cons (pv 7) pa_nil)) (pe_lst (pa_cons (pe_glob (v := .ref f5) (by rfl) g5 rfl) pa_nil))) pa_nil))) pa_nil))) (pg_tup rfl (pgs_cons (pg_name (i := 12) sc_law.nd rfl (Or.inr rfl)) (pgs_cons (pg_name (i := 9) sc_law.nd rfl (Or.inr rfl)) pgs_nil))))
        (Evl.pss_cut (ps_if (PW.pt (pw_or (pt_val (pe_use C_is_tale (hr.mono (by decide)) rfl (pa_cons (pv 12) pa_nil))) (pw_or (pt_not (pt_val (pe_use C_is_tale (hr.mono (by decide)) rfl (pa_cons (pv 13) pa_nil)))) (pw_or (pt_not (pt_val (pe_use C_is_tale (hr.mono (by decide)) rfl (pa_cons (pv 14) pa_nil)))) (pw_or1 (pt_cmpR op_ne (pe_use C_is_lot (hr.mono (by decide)) rfl (pa_cons (pv 12) pa_nil)) (pe_cmpR (op_eqD hr.units) (pv 12) (pe_tup (pa_cons pe_str pa_nil)) (nomark _)) (nomark _))))))) (pss_one (ps_ret pe_bl)) pss_nil)
        (Evl.pss_cut (ps_if (PW.pt (pw_or (pt_cmpR (op_neD hr.units) (pe_lc (own := [("lot", 17)]) (g := gName 17) rfl sc_law.nd (pi_seq (pv 3)) (blkOk_by (N := ["script", "heap", "names", "lots", "heard", "all_of", "many", "works", "due", "work", "spots", "bads", "bad", "tale", "told", "at", "spot", "lot", "laid"]) (sc := defScope s_law) (by decide +kernel)) (fun _ _ _ _ _ => pg_name (i := 17) sc_law.nd rfl (Or.inl rfl)) (fun _ _ _ _ _ => pts_one (pt_not (pt_val (pe_use C_is_lot (hr.mono (by decide)) rfl (pa_cons (pv 17) pa_nil))))) (fun _ _ _ _ _ => pv 17)) (pe_lst pa_nil) (nomark _)) (pw_or (pt_val (pe_use C_is_lot (hr.mono (by decide)) rfl (pa_cons (pe_tup pa_nil) pa_nil))) (pw_or1 (pt_val (pe_use C_is_lot (hr.mono (by decide)) rfl (pa_cons (pe_callTy call_list_of (by rfl) n_list (by decide +kernel) (pa_cons (pe_slice (r := rSlA K) sl_tupA (pv 2) po_none (po_some pe_int)) pa_nil)) pa_nil))))))) (pss_one (ps_ret pe_bl)) pss_nil)
        (Evl.pss_cut (ps_if (pt_cmpR (op_neD hr.units) (pe_lamcall (T := [(Pt, qLam)]) (t := fun E => tVarX P w K mg base 8 9 (spBad K C) (fun _ => E) (tCons (tVar 12) (tCons (tC .non) tNil))) (TT := TTold2 K C R) (k := 8) (a := "work") (Ng := ["work", "wrong"]) rfl mtold kpg lkg cdg' bg sc__law_told rfl (.inl rfl) (told2 T TR TI kRC eRC n_isinstance) TB rfl (List.mem_singleton.mpr rfl) (fun p hp _ => by rw [List.mem_singleton.mp hp] <;> rfl) (hr.mono (by decide)) (lamS_by rfl) rfl (fun _ _ _ _ _ => rfl) (fun A outer s H E f c' hr2 => pe_varX (lv := 8) (i := 9) (E := fun _ => E) rfl (.inr (.inr rfl)) hr2 (fun σ => passAt (takes_of rfl rfl rfl rfl) σ) (pa_cons (pv 12) (pa_cons pe_non pa_nil)))) (pe_lst (pa_cons pe_str (pa_cons pe_int pa_nil))) (nomark _)) (pss_one (ps_ret pe_bl)) pss_nil)
        (pss_one (ps_ret (pe_cmpR (op_eqD hr.units) (pe_lamcall (T := [(Pt, qLam)]) (t := fun E => tVarX P w K mg base 8 9 (spBad K C) (fun _ => E) (tCons (tVar 13) (tCons (tVar 12) tNil))) (TT := TTold2 K C R) (k := 8) (a := "work") (Ng := ["work", "wrong"]) rfl mtold kpg lkg cdg' bg sc__law_told rfl (.inl rfl) (told2 T TR TI kRC eRC n_isinstance) TB rfl (List.mem_singleton.mpr rfl) (fun p hp _ => by rw [List.mem_singleton.mp hp] <;> rfl) (hr.mono (by decide)) (lamS_by rfl) rfl (fun _ _ _ _ _ => rfl) (fun A outer s H E f c' hr2 => pe_varX (lv := 8) (i := 9) (E := fun _ => E) rfl (.inr (.inr rfl)) hr2 (fun σ => passAt (takes_of rfl rfl rfl rfl) σ) (pa_cons (pv 13) (pa_cons (pv 12) pa_nil)))) (pe_lst (pa_cons pe_str (pa_cons pe_int pa_nil))) (nomark _)))))))))))))))))))))))), ?_⟩
    refine ⟨_, rfl, a0, ns, rfl, h0, l0, fun p l H1 kp kl s1 hd1 => ?_⟩
    have eP1 := s1 _ _ eP
    refine ⟨_, rfl, by show 3 ≤ sizeLine; decide, fun t1 k1 => ⟨by show 4 ≤ sizeLine; decide, fun t2 k2 => ⟨by show 3 ≤ sizeLine; decide, fun t3 k3 => ⟨by show 2 ≤ sizeLine; decide, fun t4 k4 => ⟨by show 4 ≤ sizeLine; decide, fun tl ktl => ?_⟩⟩⟩⟩⟩
    obtain ⟨H2, eH2⟩ : ∃ H2, H2 = upd (upd (upd (upd (upd H1 t1 (.tup [V.str "x", V.str "y", V.str "z"])) t2 (.tup [V.str "x", V.str "y", V.str "z", V.str "u"])) t3 (.tup [V.str "ab", V.str "b", V.str "ba"])) t4 (.tup [V.str "tick", V.str "tock"])) tl (.lst [.ref t1, .ref t2, .ref t3, .ref t4]) := ⟨_, rfl⟩
    have s12 : Same H1 H2 := by rw [eH2]; exact ((((same_new k1 _).trans (same_new k2 _)).trans (same_new k3 _)).trans (same_new k4 _)).trans (same_new ktl _)
    have etl : H2 tl = some (.lst [.ref t1, .ref t2, .ref t3, .ref t4]) := by rw [eH2, upd_same]
    have nm4 : ∀ x ∈ [V.ref t1, V.ref t2, V.ref t3, V.ref t4], ∃ nb nms, x = .ref nb ∧ H2 nb = some (.tup (nms.map V.str)) ∧ NsOk nms := by
      have e4 := same_new ktl (.lst [V.ref t1, .ref t2, .ref t3, .ref t4])
      have e3 := (same_new k4 (.tup [V.str "tick", V.str "tock"])).trans e4
      have e2 := (same_new k3 (.tup [V.str "ab", V.str "b", V.str "ba"])).trans e3
      have e1 := (same_new k2 (.tup [V.str "x", V.str "y", V.str "z", V.str "u"])).trans e2
      intro x hx
      simp only [List.mem_cons, List.not_mem_nil, or_false] at hx
      rcases hx with rfl | rfl | rfl | rfl
      · exact ⟨t1, ["x", "y", "z"], rfl, by rw [eH2]; exact e1 _ _ upd_same, nsok_by rfl⟩
      · exact ⟨t2, ["x", "y", "z", "u"], rfl, by rw [eH2]; exact e2 _ _ upd_same, nsok_by rfl⟩
      · exact ⟨t3, ["ab", "b", "ba"], rfl, by rw [eH2]; exact e3 _ _ upd_same, nsok_by rfl⟩
      · exact ⟨t4, ["tick", "tock"], rfl, by rw [eH2]; exact e4 _ _ upd_same, nsok_by rfl⟩
    have hd2 := hd1.same s12
    have tl1 : tl ≠ p ∧ tl ≠ l := by
      obtain ⟨ns', b', q1, q2, q3, _⟩ := hd2
      refine ⟨fun z => ?_, fun z => ?_⟩
      · rw [z, q1] at etl
        cases etl
      · have := ne_of_none ((((same_new k1 _).trans (same_new k2 _)).trans (same_new k3 _)).trans (same_new k4 (.tup [V.str "tick", V.str "tock"])) _ _ ((DealAt.l_some hd1).choose_spec)) ktl
        exact this z.symm
    rw [← eH2]
    refine ⟨p, l, tl, _, rfl, hd2, fun H' k => SqX.lst (k _ _ etl tl1.1 tl1.2), ⟨by show 1 ≤ 4; decide, by show 4 ≤ 1000; decide⟩, fun x H3 hx k3 hd3 => ?_⟩
    obtain ⟨nb, nms, rfl, enb, nok⟩ := nm4 x hx
    obtain ⟨nb1, nb2⟩ := hd2.ne_tup enb
    have enb3 := k3 _ _ enb nb1 nb2
    have Pp : Pt ≠ p := ne_of_none eP kp
    have Pl : Pt ≠ l := ne_of_none eP kl
    have eP3 := k3 _ _ (s12 _ _ eP1) Pp Pl
    clear nm4 eH2 etl tl1 s12 hd2 enb k3
    refine ⟨_, rfl, _, rfl, p, l, nb, 7, nms, rfl, hd3, enb3, ⟨by decide, by decide⟩, nok, fun a its ls H4 ka k4 hd4 ea al okl ll => ?_⟩
    obtain ⟨a1, a2⟩ := hd3.ne_none ka
    have enb4 := k4 _ _ enb3 nb1 nb2
    have eP4 := k4 _ _ eP3 Pp Pl
    have ll7 : ls.length ≤ 7 := by omega
    let St : Addr → L2.St → Prop := fun b σ => σ = [some (.ref a0), some (.ref p), some (.ref nb), some (.ref a), some (.ref b), none, none, none, none, none, none, none, none, none, none, none, none, none, none]
    refine ⟨fun σ H' => ∃ b jts hs, St b σ ∧ Kept2 p l H4 H' ∧ DealAt H' p l ∧ (b ≠ p ∧ b ≠ l) ∧ H' b = some (.lst jts) ∧ All2 (LotH H') jts hs ∧ (∀ x ∈ hs, LotOk nms x) ∧ hs.length ≤ 8, ?_, ?_⟩
    · refine ⟨_, rfl, p, l, 5, rfl, by decide, hd4, fun d H5 d0 d1 k5 hd5 => ⟨_, _, rfl, rfl, _, rfl, ?_⟩⟩
      have ea5 := k5 _ _ ea a1 a2
      have al5 := al.imp fun _ _ t => t.fix (k5.fix hd4)
      have enb5 := k5 _ _ enb4 nb1 nb2
      refine iteD (fun _ => ?_) fun _ => ?_
      · refine ⟨_, rfl, _, rfl, p, l, a, its, ls, nms, rfl, hd5, ea5, ⟨a1, a2⟩, al5, okl, ll7, nok, fun b jts hs H6 kb k6 hd6 eb bl okh lh => ?_⟩
        exact ⟨b, jts, hs, rfl, k5.trans k6, hd6, hd5.ne_none kb, eb, bl, okh, lh⟩
      · refine ⟨_, rfl, _, rfl, p, l, nb, 3, nms, rfl, hd5, enb5, ⟨by decide, by decide⟩, nok, fun b jts hs H6 kb k6 hd6 eb bl okh lh => ?_⟩
        exact ⟨b, jts, hs, rfl, k5.trans k6, hd6, hd5.ne_none kb, eb, bl, okh, by omega⟩
    rintro σ H5 ⟨b, jts, hs, rfl, k5, hd5, ⟨b1, b2⟩, eb, bl, okh, lh⟩
    have ea5 := k5 _ _ ea a1 a2
    have al5 := al.imp fun _ _ t => t.fix (k5.fix hd4)
    have enb5 := k5 _ _ enb4 nb1 nb2
    have eP5 := k5 _ _ eP4 Pp Pl
    have llA : LL K H5 a ls := ⟨its, ea5, al5.imp fun _ _ h => lotH_S h⟩
    have llB : LL K H5 b hs := ⟨jts, eb, bl.imp fun _ _ h => lotH_S h⟩
    have hlen : ∀ h ∈ hs, h.length ≤ 1000 ∧ ∀ x ∈ h, IsNm x := fun h hh => ⟨by have := lot_len nok (okh h hh); omega, fun x hx => nok.nm x ((okh h hh).2.2 x hx)⟩
    refine ⟨_, rfl, _, rfl, a, b, ls, hs, rfl, llA, llB, ll7, hlen, fun cc kts H6 s6 ec cl => ?_⟩
    have l1 : its.length = ls.length := al.len
    have l2 : jts.length = hs.length := bl.len
    refine ⟨_, rfl, a, its, rfl, .inl ⟨SqL.of (s6 _ _ ea5), fun tt ktt => ⟨_, rfl, b, jts, rfl, .inl ⟨SqL.of ((s6.trans (same_new ktt (.tup its))) _ _ eb), fun uu kuu => ⟨by show 2 ≤ sizeLine; decide, fun pr kpr => ⟨pr, _, rfl, SqT.of upd_same, rfl, _, _, rfl, _, _, rfl, rfl, ?_⟩⟩⟩⟩⟩⟩
    have w7 : Wst K Pt p l nb a b cc tt uu nms ls hs (upd (upd (upd H6 tt (.tup its)) uu (.tup jts)) pr (.tup [.ref tt, .ref uu])) := by
      have s7 := same_new ktt (.tup its)
      have s8 := same_new kuu (.tup jts)
      have s9 := same_new kpr (.tup [.ref tt, .ref uu])
      have s69 := (s7.trans s8).trans s9
      have s59 := s6.trans s69
      exact ⟨s59 _ _ eP5, hd5.same s59, s59 _ _ enb5, nok, ⟨its, jts, s59 _ _ ea5, s59 _ _ eb, (s8.trans s9) _ _ upd_same, s9 _ _ upd_same, al5.imp fun _ _ t => t.fix (Fix.of s59), bl.imp fun _ _ t => t.fix (Fix.of s59)⟩, okl, okh, ll7, lh, ⟨kts, s69 _ _ ec, cl.imp fun _ _ t => t.same (Fix.of s69)⟩⟩
    have p7 : (a ≠ p ∧ a ≠ l) ∧ (b ≠ p ∧ b ≠ l) := ⟨⟨a1, a2⟩, b1, b2⟩
    generalize upd (upd (upd H6 tt (.tup its)) uu (.tup jts)) pr (.tup [.ref tt, .ref uu]) = H7 at w7 ⊢
    clear llA llB ec cl eP5 enb5 ea5 al5 eb bl hd5 k5 hd4 ea al k4 enb4 eP4 ka enb3 eP3 hd3 kuu ktt kpr s6
    obtain ⟨its, jts, e1, e2, e3, e4, al, bl⟩ := w7.ea
    refine ⟨_, rfl, _, rfl, a, b, ls, hs, rfl, ⟨its, e1, al.imp fun _ _ h => lotH_S h⟩, ⟨jts, e2, bl.imp fun _ _ h => lotH_S h⟩, ll7, by omega, hlen, fun H8 s8 => ?_⟩
    have w8 := w7.same s8
    clear w7 s8 e1 e2 e3 e4 al bl
    obtain ⟨m, em⟩ : ∃ m, (grL ls hs).length = m := ⟨_, rfl⟩
    rw [em]
    let SA : Option V → Option V → Option V → Option V → Option V → Option V → L2.St := fun o7 o8 o9 o10 o11 o12 => [some (.ref a0), some (.ref p), some (.ref nb), some (.ref a), some (.ref b), some (.ref cc), some (natV m), o7, o8, o9, o10, o11, o12, some (.ref tt), some (.ref uu), none, none, none, none]
    refine ⟨fun σ H' => σ = SA none none none none none none ∧ Wst K Pt p l nb a b cc tt uu nms ls hs H', ?_, ?_⟩
    · have mle : m ≤ 1000 := by have := Ks.gr_len (n := ls.length) (ok := okL ls) hs 0; unfold grL at em; omega
      refine ⟨_, rfl, _, rfl, .ref tt, .ref uu, tD ls, tD hs, ls, hs, rfl, w8.tin, fun _ H10 s10 => ?_, fun k hk => (by rw [w8.no] at hk; cases hk)⟩
      have w10 := w8.same s10
      obtain ⟨kts, ec, cl⟩ := w10.ec
      have fin : ∀ t, H10 t = none → Wst K Pt p l nb a b cc tt uu nms ls hs (upd H10 t (.lst [])) := fun t kt => w10.same (same_new kt _)
      by_cases cL : laysL ls hs = []
      · have es : stuckN ls hs = some m := by rw [(lays_nil ls hs).mp cL, em]
        rw [es]
        refine ⟨some ((m : Nat) : Int), rfl, fun k hk => (by cases hk; exact log_le mle), _, rfl, by show 0 ≤ sizeLine; decide, fun t kt => ?_⟩
        have s11 := same_new kt (.lst [])
        refine ⟨dL (laysL ls hs), .list [], dL_dp (s11 _ _ ec) (cl.imp fun _ _ t => t.same (Fix.of s11)), .lst (SqL.of upd_same) .nil, (dL_sh _).ok (by decide), by decide, _, rfl, ?_⟩
        rw [dL_eq, decide_eq_true cL]
        refine iteF ⟨_, rfl, some ((m : Nat) : Int), rfl, fun k hk => (by cases hk; exact log_le mle), rfl, _, rfl, ?_⟩
        rw [decide_eq_true rfl]
        exact iteF ⟨rfl, fin t kt⟩
      · have es : stuckN ls hs = none := lays_ne cL
        rw [es]
        refine ⟨none, rfl, fun k hk => (by cases hk), _, rfl, by show 0 ≤ sizeLine; decide, fun t kt => ?_⟩
        have s11 := same_new kt (.lst [])
        refine ⟨dL (laysL ls hs), .list [], dL_dp (s11 _ _ ec) (cl.imp fun _ _ t => t.same (Fix.of s11)), .lst (SqL.of upd_same) .nil, (dL_sh _).ok (by decide), by decide, _, rfl, ?_⟩
        rw [dL_eq, decide_eq_false cL]
        refine iteT ⟨none, rfl, fun k hk => (by cases hk), rfl, _, rfl, ?_⟩
        rw [decide_eq_true rfl]
        exact iteF ⟨rfl, fin t kt⟩
    rintro σ H9 ⟨rfl, w9⟩
    refine ⟨by show 4 ≤ sizeLine; decide, fun wp kwp => ?_⟩
    have s10 := same_new kwp (.tup [.ref f1, .ref f2, .ref f3, .ref f4])
    have ewp : upd H9 wp (.tup [.ref f1, .ref f2, .ref f3, .ref f4]) wp = some (.tup [.ref f1, .ref f2, .ref f3, .ref f4]) := upd_same
    have w10 := w9.same s10
    generalize upd H9 wp (.tup [.ref f1, .ref f2, .ref f3, .ref f4]) = H10 at ewp w10 ⊢
    refine ⟨_, rfl, by show 3 ≤ sizeLine; decide, fun dp kdp => ?_⟩
    have s11 := same_new kdp (.lst [.str "refused", natV m, .bl false])
    have edp : upd H10 dp (.lst [.str "refused", natV m, .bl false]) dp = some (.lst [.str "refused", natV m, .bl false]) := upd_same
    have ewp := s11 _ _ ewp
    have w11 := w10.same s11
    generalize upd H10 dp (.lst [.str "refused", natV m, .bl false]) = H11 at edp ewp w11 ⊢
    clear s10 s11 w10 w9 kdp kwp
    obtain ⟨kts, ec, cl⟩ := w11.ec
    refine ⟨fun σ H' => σ = SA (some (.ref wp)) (some (.ref dp)) none none none none ∧ Wst K Pt p l nb a b cc tt uu nms ls hs H' ∧ H' wp = some (.tup [.ref f1, .ref f2, .ref f3, .ref f4]) ∧ laysL ls hs ≠ [], ?_, ?_⟩
    · refine ⟨_, rfl, by show 0 ≤ sizeLine; decide, fun t kt => ?_⟩
      have s12 := same_new kt (.lst [])
      refine ⟨dL (laysL ls hs), .list [], dL_dp (s12 _ _ ec) (cl.imp fun _ _ t => t.same (Fix.of s12)), .lst (SqL.of upd_same) .nil, (dL_sh _).ok (by decide), by decide, _, rfl, ?_⟩
      rw [dL_eq]
      by_cases cL : laysL ls hs = []
      · rw [decide_eq_true cL]
        have w12 := w11.same s12
        have ewp := s12 _ _ ewp
        have edp := s12 _ _ edp
        generalize upd H11 t (.lst []) = H12 at w12 ewp edp ⊢
        refine iteT ⟨_, rfl, wp, _, rfl, SqX.tup ewp, fun J S W z0 D hD => ?_⟩
        have nDP : D ≠ Pt := (ne_of_none w12.eP hD).symm
        have es : stuckN ls hs = some m := by rw [(lays_nil ls hs).mp cL, em]
        have eN0 : ExtN H12 (upd H12 D (.lst [])) := fun b o e _ => by rw [upd_ne (ne_of_none e hD)]; exact e
        refine lc_go W (fun i H' => ExtN (upd H12 D (.lst [])) H' ∧ Tabs [(Pt, qLam)] H') ⟨ExtN.refl _, fun p hp => by rw [List.mem_singleton.mp hp]; exact TabS.nil (by rw [upd_ne nDP.symm]; exact w12.eP)⟩ (fun i H' mm => W.keep (fun o e => by rw [ewp] at e; cases e; exact (eN0.trans mm.1) _ _ ewp notbl) z0) ?_ ?_
        · rintro i x H' ex ⟨eN, tab⟩
          obtain ⟨fj, rfl, hfj⟩ : ∃ fj, x = .ref fj ∧ fj ∈ [f1, f2, f3, f4] := by
            have hx := List.mem_of_getElem? ex
            simp only [List.mem_cons, List.not_mem_nil, or_false] at hx
            rcases hx with rfl | rfl | rfl | rfl <;> exact ⟨_, rfl, by simp⟩
          refine ⟨rfl, tab, fun H1 eN1 tab1 => ⟨fj, rfl, DR fj hfj, _, rfl, _, rfl, .ref tt, .ref uu, tD ls, tD hs, ls, hs, m, rfl, w12.tinX ((eN0.trans eN).trans eN1), w12.no, es, fun dd H2 s2 ed => ⟨dd, (m : Nat), rfl, ed, .inr ⟨rfl, fun t H3 s3 et => ?_⟩⟩⟩⟩
          have eN3 := ((eN.trans eN1).trans (ExtN.of s2)).trans (ExtN.of s3)
          refine ⟨_, rfl, _, _, .lst (SqL.of et) (.cons (.str _) (.cons (.int _) (.cons (.bl _) .nil))), .lst (SqL.of ((eN0.trans eN3) _ _ edp notbl_l)) (.cons (.str _) (.cons (.int _) (.cons (.bl _) .nil))), due_sh _, due_sh _, _, rfl, ?_⟩
          rw [sh_refl (due_sh _)]
          exact iteF ⟨eN3, (tab1.ext s2).ext s3⟩
        · rintro H' ⟨eN, tab⟩
          refine ⟨by show 0 ≤ sizeLine; decide, fun t kt => ?_⟩
          refine ⟨.list [], .list [], .lst (SqL.of (same_new kt (.lst []) _ _ (eN _ _ upd_same notbl_l))) .nil, .lst (SqL.of upd_same) .nil, by decide, by decide, ?_⟩
          exact q _
      · rw [decide_eq_false cL]
        exact iteF ⟨rfl, w11.same s12, s12 _ _ ewp, cL⟩
    rintro σ H12 ⟨rfl, w12, ewp, cL⟩
    obtain ⟨its, jts, e1, e2, e3, e4, al, bl⟩ := w12.ea
    obtain ⟨kts, ec, cl⟩ := w12.ec
    have jl : jts.length = hs.length := bl.len
    have lh8 := w12.lh
    have mle : (mayL ls hs).length = hs.length := may_len (lays_ne cL)
    refine ⟨fun σ H' => ∃ sp its10, σ = SA (some (.ref wp)) (some (.ref dp)) none (some (.ref sp)) none none ∧ Wst K Pt p l nb a b cc tt uu nms ls hs H' ∧ H' wp = some (.tup [.ref f1, .ref f2, .ref f3, .ref f4]) ∧ H' sp = some (.lst its10) ∧ All2 (TupN H') its10 (mayL ls hs), ?_, ?_⟩
    · refine ⟨_, rfl, b, jts, rfl, .inl (SqL.of e2), _, rfl, by omega, by omega, fun D hD => ?_⟩
      refine lc_mf (ds := mayL ls hs) (wk_range (a := D)) (fun _ => true) (fun H y M => TupN H y M) trivial hD (by rw [List.length_map, List.length_range, mle]; omega) (fun i x M H13 ex eM s13 m => ?_) (fun H13 ys s13 e13 al13 => ?_)
      · have hi : i < hs.length := by have := (List.getElem?_eq_some_iff.mp eM).1; omega
        obtain rfl : natV i = x := by
          rw [List.getElem?_map, List.getElem?_range (by omega)] at ex
          have := Option.some.inj ex
          rw [← this]
          show V.int _ = V.int _
          congr 1
          omega
        refine ⟨rfl, _, rfl, cc, kts, rfl, SqX.lst (s13 _ _ ec), fun J S W z0 D2 hD2 => ?_⟩
        refine lc_mf (ds := laysL ls hs) W (fun _ => true) (fun _ y lay => y = natV (lay.getD i 0)) z0 hD2 cl.len (fun j y lay H14 ey elay s14 m2 => ?_) (fun H14 zs s14 e14 al14 => ?_)
        · obtain ⟨lay', elay', bb, rfl, hbb⟩ := cl.get ey
          rw [elay] at elay'
          obtain rfl := Option.some.inj elay'
          have lln := lay_len (at_mem elay)
          have hg : lay[i]? = some (lay.getD i 0) := by rw [List.getD_eq_getElem?_getD, List.getElem?_eq_getElem (show i < lay.length by omega)]; rfl
          refine ⟨rfl, _, rfl, _, rfl, bb, lay.map natV, ((i : Nat) : Int), natV (lay.getD i 0), rfl, rfl, SqT.of ((s13.trans s14) _ _ hbb), atI_nat (by rw [List.getElem?_map, hg]; rfl), mf_yes m2 hD2 (fun _ _ _ _ _ h => h) elay (Nat.le_trans (lays_le _ _ _) (by have : 2 ^ ls.length ≤ 2 ^ 7 := Nat.pow_le_pow_right (by decide) ll7; omega)) (Same.refl _) rfl rfl⟩
        · rw [Rd.filter_all] at al14
          have ez := al14.map_eq (f := fun lay : List Nat => natV (lay.getD i 0)) fun _ _ h => h
          have ln := lays_le ls.length (okL ls) hs
          have l7 : 2 ^ ls.length ≤ 2 ^ 7 := Nat.pow_le_pow_right (by decide) ll7
          refine ⟨D2, colN (laysL ls hs) i, rfl, by rw [e14, ez]; unfold colN; rw [List.map_map]; rfl, by unfold colN; rw [List.length_map]; unfold laysL; omega, fun p2 H15 s15 e15 => ?_⟩
          refine ⟨p2, intL (once (colN (laysL ls hs) i)), rfl, by rw [intL_nat]; exact SqL.of e15, by unfold intL; rw [List.length_map]; have := once_small (ls := ls) hi; omega, fun ys p3 pm so kp3 => ?_⟩
          obtain ⟨M', eM', rfl⟩ := spot_eq cL hi pm so
          rw [eM] at eM'
          obtain rfl := Option.some.inj eM'
          refine ⟨p3, _, rfl, .inl ⟨SqL.of upd_same, fun tq ktq => ?_⟩⟩
          have s16 := (same_new kp3 (.lst ((intL M).map V.int))).trans (same_new ktq (.tup ((intL M).map V.int)))
          refine mf_yes m hD (fun _ _ _ _ f r => r.same f) eM (by omega) ((s14.trans s15).trans s16) rfl ⟨tq, rfl, ?_⟩
          rw [upd_same, intL_nat]
      · rw [Rd.filter_all] at al13
        exact ⟨D, ys, rfl, w12.same s13, s13 _ _ ewp, e13, al13⟩
    clear e1 e2 e3 e4 al bl ec cl w12 ewp
    rintro σ H13 ⟨sp, its10, rfl, w13, ewp, esp, al10⟩
    have es := lays_ne cL
    let PH : Hp → Prop := fun H' => Wst K Pt p l nb a b cc tt uu nms ls hs H' ∧ H' wp = some (.tup [.ref f1, .ref f2, .ref f3, .ref f4]) ∧ H' sp = some (.lst its10) ∧ All2 (TupN H') its10 (mayL ls hs)
    have phs : ∀ {H1 H2 : Hp}, PH H1 → Same H1 H2 → PH H2 := fun ⟨z1, z2, z3, z4⟩ s => ⟨z1.same s, s _ _ z2, s _ _ z3, z4.imp fun _ _ r => r.same (Fix.of s)⟩
    have no := w13.no
    have rf : ∀ (E : XK) H', Refd K C R E H' (tD ls) (tD hs) ls hs := fun E H' => ⟨fun m' _ z => (by rw [es] at z; cases z), fun k z => (by rw [no] at z; cases z)⟩
    have ph : PH H13 := ⟨w13, ewp, esp, al10⟩
    have ml8 : (mayL ls hs).length ≤ 100000 := by omega
    have heads : grL ls hs = (mayL ls hs).map fun M => M.headD 0 := by
      refine List.ext_getElem? fun i => ?_
      rw [List.getElem?_map]
      cases e : (mayL ls hs)[i]? with
      | none => rw [List.getElem?_eq_none (by have := List.getElem?_eq_none_iff.mp e; rw [gr_lenN es]; omega)]; rfl
      | some M =>
        obtain ⟨b0, q1, q2⟩ := may_first cL e
        rw [q1]
        show some b0 = some (M.headD 0)
        cases M with
        | nil => cases q2
        | cons x r => exact congrArg some (Option.some.inj q2).symm
    have lasts : bkL ls hs = (mayL ls hs).map fun M => M.getLastD 0 := by
      refine List.ext_getElem? fun i => ?_
      rw [List.getElem?_map]
      cases e : (mayL ls hs)[i]? with
      | none => rw [List.getElem?_eq_none (by have := List.getElem?_eq_none_iff.mp e; rw [bk_lenN es]; omega)]; rfl
      | some M =>
        obtain ⟨c0, N, q1, rfl⟩ := may_last cL e
        rw [q1]
        show some c0 = some ((N ++ [c0]).getLastD 0)
        rw [List.getLastD_concat]
    clear w13 ewp esp al10
    refine ⟨fun σ H' => σ = SA (some (.ref wp)) (some (.ref dp)) none (some (.ref sp)) none none ∧ PH H', ?_, ?_⟩
    · refine ⟨_, rfl, _, rfl, rfl, rfl, .ref tt, .ref uu, tD ls, tD hs, ls, hs, rfl, ph.1.tin, fun _ _ p1 H14 s14 e14 => ?_, rf _ _⟩
      have ph14 := phs ph s14
      refine ⟨_, rfl, sp, its10, rfl, SqX.lst ph14.2.2.1, fun J S W z0 D hD => ?_⟩
      refine lc_mf (ds := mayL ls hs) W (fun _ => true) (fun _ y M => y = natV (M.headD 0)) z0 hD ph14.2.2.2.len (fun i x M H15 ex eM s15 m => ?_) (fun H15 ys s15 e15 al15 => ?_)
      · obtain ⟨M', eM', bb, rfl, hbb⟩ := ph14.2.2.2.get ex
        rw [eM] at eM'
        obtain rfl := Option.some.inj eM'
        obtain ⟨b0, _, q2⟩ := may_first cL eM
        refine ⟨rfl, _, rfl, bb, M.map natV, (0 : Int), natV (M.headD 0), rfl, rfl, SqT.of (s15 _ _ hbb), ?_, mf_yes m hD (fun _ _ _ _ _ h => h) eM ml8 (Same.refl _) rfl rfl⟩
        cases M with
        | nil => cases q2
        | cons x r => exact at0
      · rw [Rd.filter_all] at al15
        have ez := al15.map_eq (f := fun M : List Nat => natV (M.headD 0)) fun _ _ h => h
        refine ⟨D, _, rfl, .inl ⟨SqL.of e15, fun tq ktq => ?_⟩⟩
        have s16 := same_new ktq (.tup ys)
        refine ⟨.tuple ((grL ls hs).map fun i => .int (i : Nat)), .tuple ((grL ls hs).map fun i => .int (i : Nat)), .tup (SqT.of ((s15.trans s16) _ _ e14)) (dp_nats _), .tup (xs := ys) (SqT.of upd_same) (by rw [ez, heads]; exact dp_natsF _ _), (sh_nats _).ok (by decide), (sh_nats _).ok (by decide), _, rfl, ?_⟩
        rw [eqv_nats, decide_eq_true rfl]
        exact iteF ⟨rfl, phs ph14 (s15.trans s16)⟩
    clear ph
    rintro σ H14 ⟨rfl, ph⟩
    refine ⟨fun σ H' => σ = SA (some (.ref wp)) (some (.ref dp)) none (some (.ref sp)) none none ∧ PH H', ?_, ?_⟩
    · refine ⟨_, rfl, _, rfl, .ref tt, .ref uu, tD ls, tD hs, ls, hs, rfl, ph.1.tin, fun _ _ p1 H15 s15 e15 => ?_, rf _ _⟩
      have ph15 := phs ph s15
      refine ⟨_, rfl, sp, its10, rfl, SqX.lst ph15.2.2.1, fun J S W z0 D hD => ?_⟩
      refine lc_mf (ds := mayL ls hs) W (fun _ => true) (fun _ y M => y = natV (M.getLastD 0)) z0 hD ph15.2.2.2.len (fun i x M H16 ex eM s16 m => ?_) (fun H16 ys s16 e16 al16 => ?_)
      · obtain ⟨M', eM', bb, rfl, hbb⟩ := ph15.2.2.2.get ex
        rw [eM] at eM'
        obtain rfl := Option.some.inj eM'
        obtain ⟨c0, N, _, rfl⟩ := may_last cL eM
        refine ⟨rfl, _, rfl, 1, rfl, bb, (N ++ [c0]).map natV, (-1 : Int), natV c0, rfl, rfl, SqT.of (s16 _ _ hbb), by rw [List.map_append]; exact atI_last _ _, mf_yes m hD (fun _ _ _ _ _ h => h) eM ml8 (Same.refl _) rfl (by rw [List.getLastD_concat])⟩
      · rw [Rd.filter_all] at al16
        have ez := al16.map_eq (f := fun M : List Nat => natV (M.getLastD 0)) fun _ _ h => h
        refine ⟨D, _, rfl, .inl ⟨SqL.of e16, fun tq ktq => ?_⟩⟩
        have s17 := same_new ktq (.tup ys)
        refine ⟨.tuple ((bkL ls hs).map fun i => .int (i : Nat)), .tuple ((bkL ls hs).map fun i => .int (i : Nat)), .tup (SqT.of ((s16.trans s17) _ _ e15)) (dp_nats _), .tup (xs := ys) (SqT.of upd_same) (by rw [ez, lasts]; exact dp_natsF _ _), (sh_nats _).ok (by decide), (sh_nats _).ok (by decide), _, rfl, ?_⟩
        rw [eqv_nats, decide_eq_true rfl]
        have ph17 := phs ph15 (s16.trans s17)
        refine iteF ⟨_, rfl, _, rfl, rfl, rfl, .ref tt, .ref uu, tD ls, tD hs, ls, hs, rfl, ph17.1.tin, fun _ _ p2 its2 H18 s18 e18 al18 => ?_, rf _ _⟩
        have ph18 := phs ph17 s18
        refine ⟨_, rfl, sp, its10, rfl, .inl ⟨SqL.of ph18.2.2.1, fun tr ktr => ?_⟩⟩
        have s19 := same_new ktr (.tup its10)
        have ph19 := phs ph18 s19
        refine ⟨dT (mayL ls hs), dT (mayL ls hs), dT_dp (s19 _ _ e18) (al18.imp fun _ _ r => r.same (Fix.of s19)), dT_dp upd_same ph19.2.2.2, (dT_sh _).ok (by decide), (dT_sh _).ok (by decide), _, rfl, ?_⟩
        rw [sh_refl ((dT_sh _).ok (by decide))]
        exact iteF ⟨rfl, ph19⟩
    clear ph
    rintro σ H15 ⟨rfl, ph⟩
    refine ⟨fun σ H' => σ = SA (some (.ref wp)) (some (.ref dp)) none (some (.ref sp)) none none ∧ PH H', ?_, ?_⟩
    · have ln : (laysL ls hs).length ≤ 1000 := by
        have := lays_le ls.length (okL ls) hs
        have : 2 ^ ls.length ≤ 2 ^ 7 := Nat.pow_le_pow_right (by decide) ll7
        unfold laysL; omega
      refine ⟨_, rfl, _, rfl, .ref tt, .ref uu, tD ls, tD hs, ls, hs, rfl, ph.1.tin, fun _ _ H16 s16 => ?_, rf _ _⟩
      have ph16 := phs ph s16
      obtain ⟨kts, ec, cl⟩ := ph16.1.ec
      refine ⟨some (((laysL ls hs).length : Nat) : Int), rfl, fun k hk => (by cases hk; exact log_le ln), _, rfl, cc, kts, rfl, .inl (SqL.of ec), some ((kts.length : Nat) : Int), rfl, fun k hk => (by cases hk; rw [show kts.length = (laysL ls hs).length from cl.len]; exact log_le ln), rfl, _, rfl, ?_⟩
      rw [show kts.length = (laysL ls hs).length from cl.len, decide_eq_true rfl]
      exact iteF ⟨rfl, ph16⟩
    clear ph
    rintro σ H16 ⟨rfl, ph⟩
    obtain ⟨its, jts, e1, e2, e3, e4, al, bl⟩ := ph.1.ea
    have hdB := ph.1.hd
    have shL : SeqAt.shaped (.list (ls.map fun l => .tuple (l.map .str))) = true := (sh_lst (n := 1) fun l hl => sh_lot fun x hx => nok.nm x ((okl l hl).2.2 x hx)).ok (by decide)
    refine ⟨_, rfl, tt, its, rfl, .inr (SqT.of e3), fun t0 kt0 => ?_⟩
    have s0 := same_new kt0 (.lst its)
    have e0 : upd H16 t0 (.lst its) t0 = some (.lst its) := upd_same
    have n0 := hdB.ne_none kt0
    have hdB := hdB.same s0
    have sB : Same H16 (upd H16 t0 (.lst its)) := s0
    have d0 : Nd K p l (upd H16 t0 (.lst its)) (.ref t0) (.list (ls.map fun l => .tuple (l.map .str))) := .lst e0 n0.1 n0.2 (nd_lots hdB (al.imp fun _ _ r => r.fix (Fix.of s0)))
    generalize upd H16 t0 (.lst its) = B0 at e0 d0 hdB sB ⊢
    clear s0 e0
    refine ⟨by show 2 ≤ sizeLine; decide, fun t1 kt1 => ?_⟩
    have s1 := same_new kt1 (.tup [.str (Str.ofString "y"), .str (Str.ofString "x")])
    have e1 : upd B0 t1 (.tup [.str (Str.ofString "y"), .str (Str.ofString "x")]) t1 = some (.tup [.str (Str.ofString "y"), .str (Str.ofString "x")]) := upd_same
    have n1 := hdB.ne_none kt1
    have hdB := hdB.same s1
    have d0 := d0.on (KpX.same s1)
    have sB := sB.trans s1
    have d1 : Nd K p l (upd B0 t1 (.tup [.str (Str.ofString "y"), .str (Str.ofString "x")])) (.ref t1) (.tuple [.str (Str.ofString "y"), .str (Str.ofString "x")]) := .tup e1 hdB (.cons (nd_str _) (.cons (nd_str _) .nil))
    generalize upd B0 t1 (.tup [.str (Str.ofString "y"), .str (Str.ofString "x")]) = B1 at e1 d1 hdB sB d0 ⊢
    clear s1 e1
    refine ⟨by show 1 ≤ sizeLine; decide, fun t2 kt2 => ?_⟩
    have s2 := same_new kt2 (.tup [.ref t1])
    have e2 : upd B1 t2 (.tup [.ref t1]) t2 = some (.tup [.ref t1]) := upd_same
    have n2 := hdB.ne_none kt2
    have hdB := hdB.same s2
    have d0 := d0.on (KpX.same s2)
    have d1 := d1.on (KpX.same s2)
    have sB := sB.trans s2
    have d2 : Nd K p l (upd B1 t2 (.tup [.ref t1])) (.ref t2) (.tuple [.tuple [.str (Str.ofString "y"), .str (Str.ofString "x")]]) := .tup e2 hdB (.cons d1 .nil)
    generalize upd B1 t2 (.tup [.ref t1]) = B2 at e2 d2 hdB sB d0 d1 ⊢
    clear s2 e2
    clear d1
    refine ⟨by show 0 ≤ sizeLine; decide, fun t3 kt3 => ?_⟩
    have s3 := same_new kt3 (.tup [])
    have e3 : upd B2 t3 (.tup []) t3 = some (.tup []) := upd_same
    have n3 := hdB.ne_none kt3
    have hdB := hdB.same s3
    have d0 := d0.on (KpX.same s3)
    have d2 := d2.on (KpX.same s3)
    have sB := sB.trans s3
    have d3 : Nd K p l (upd B2 t3 (.tup [])) (.ref t3) (.tuple []) := .tup e3 hdB .nil
    generalize upd B2 t3 (.tup []) = B3 at e3 d3 hdB sB d0 d2 ⊢
    clear s3 e3
    refine ⟨by show 1 ≤ sizeLine; decide, fun t4 kt4 => ?_⟩
    have s4 := same_new kt4 (.tup [.ref t3])
    have e4 : upd B3 t4 (.tup [.ref t3]) t4 = some (.tup [.ref t3]) := upd_same
    have n4 := hdB.ne_none kt4
    have hdB := hdB.same s4
    have d0 := d0.on (KpX.same s4)
    have d2 := d2.on (KpX.same s4)
    have d3 := d3.on (KpX.same s4)
    have sB := sB.trans s4
    have d4 : Nd K p l (upd B3 t4 (.tup [.ref t3])) (.ref t4) (.tuple [.tuple []]) := .tup e4 hdB (.cons d3 .nil)
    generalize upd B3 t4 (.tup [.ref t3]) = B4 at e4 d4 hdB sB d0 d2 d3 ⊢
    clear s4 e4
    clear d3
    refine ⟨by show 1 ≤ sizeLine; decide, fun t5 kt5 => ?_⟩
    have s5 := same_new kt5 (.tup [.str (Str.ofString "x")])
    have e5 : upd B4 t5 (.tup [.str (Str.ofString "x")]) t5 = some (.tup [.str (Str.ofString "x")]) := upd_same
    have n5 := hdB.ne_none kt5
    have hdB := hdB.same s5
    have d0 := d0.on (KpX.same s5)
    have d2 := d2.on (KpX.same s5)
    have d4 := d4.on (KpX.same s5)
    have sB := sB.trans s5
    have d5 : Nd K p l (upd B4 t5 (.tup [.str (Str.ofString "x")])) (.ref t5) (.tuple [.str (Str.ofString "x")]) := .tup e5 hdB (.cons (nd_str _) .nil)
    generalize upd B4 t5 (.tup [.str (Str.ofString "x")]) = B5 at e5 d5 hdB sB d0 d2 d4 ⊢
    clear s5 e5
    refine ⟨by show 2 ≤ sizeLine; decide, fun t6 kt6 => ?_⟩
    have s6 := same_new kt6 (.tup [.str (Str.ofString "x"), .str (Str.ofString "x")])
    have e6 : upd B5 t6 (.tup [.str (Str.ofString "x"), .str (Str.ofString "x")]) t6 = some (.tup [.str (Str.ofString "x"), .str (Str.ofString "x")]) := upd_same
    have n6 := hdB.ne_none kt6
    have hdB := hdB.same s6
    have d0 := d0.on (KpX.same s6)
    have d2 := d2.on (KpX.same s6)
    have d4 := d4.on (KpX.same s6)
    have d5 := d5.on (KpX.same s6)
    have sB := sB.trans s6
    have d6 : Nd K p l (upd B5 t6 (.tup [.str (Str.ofString "x"), .str (Str.ofString "x")])) (.ref t6) (.tuple [.str (Str.ofString "x"), .str (Str.ofString "x")]) := .tup e6 hdB (.cons (nd_str _) (.cons (nd_str _) .nil))
    generalize upd B5 t6 (.tup [.str (Str.ofString "x"), .str (Str.ofString "x")]) = B6 at e6 d6 hdB sB d0 d2 d4 d5 ⊢
    clear s6 e6
    refine ⟨by show 1 ≤ sizeLine; decide, fun t7 kt7 => ?_⟩
    have s7 := same_new kt7 (.tup [.ref t6])
    have e7 : upd B6 t7 (.tup [.ref t6]) t7 = some (.tup [.ref t6]) := upd_same
    have n7 := hdB.ne_none kt7
    have hdB := hdB.same s7
    have d0 := d0.on (KpX.same s7)
    have d2 := d2.on (KpX.same s7)
    have d4 := d4.on (KpX.same s7)
    have d5 := d5.on (KpX.same s7)
    have d6 := d6.on (KpX.same s7)
    have sB := sB.trans s7
    have d7 : Nd K p l (upd B6 t7 (.tup [.ref t6])) (.ref t7) (.tuple [.tuple [.str (Str.ofString "x"), .str (Str.ofString "x")]]) := .tup e7 hdB (.cons d6 .nil)
    generalize upd B6 t7 (.tup [.ref t6]) = B7 at e7 d7 hdB sB d0 d2 d4 d5 d6 ⊢
    clear s7 e7
    clear d6
    refine ⟨by show 1 ≤ sizeLine; decide, fun t8 kt8 => ?_⟩
    have s8 := same_new kt8 (.tup [.non])
    have e8 : upd B7 t8 (.tup [.non]) t8 = some (.tup [.non]) := upd_same
    have n8 := hdB.ne_none kt8
    have hdB := hdB.same s8
    have d0 := d0.on (KpX.same s8)
    have d2 := d2.on (KpX.same s8)
    have d4 := d4.on (KpX.same s8)
    have d5 := d5.on (KpX.same s8)
    have d7 := d7.on (KpX.same s8)
    have sB := sB.trans s8
    have d8 : Nd K p l (upd B7 t8 (.tup [.non])) (.ref t8) (.tuple [.none]) := .tup e8 hdB (.cons nd_non .nil)
    generalize upd B7 t8 (.tup [.non]) = B8 at e8 d8 hdB sB d0 d2 d4 d5 d7 ⊢
    clear s8 e8
    refine ⟨by show 1 ≤ sizeLine; decide, fun t9 kt9 => ?_⟩
    have s9 := same_new kt9 (.tup [.ref t8])
    have e9 : upd B8 t9 (.tup [.ref t8]) t9 = some (.tup [.ref t8]) := upd_same
    have n9 := hdB.ne_none kt9
    have hdB := hdB.same s9
    have d0 := d0.on (KpX.same s9)
    have d2 := d2.on (KpX.same s9)
    have d4 := d4.on (KpX.same s9)
    have d5 := d5.on (KpX.same s9)
    have d7 := d7.on (KpX.same s9)
    have d8 := d8.on (KpX.same s9)
    have sB := sB.trans s9
    have d9 : Nd K p l (upd B8 t9 (.tup [.ref t8])) (.ref t9) (.tuple [.tuple [.none]]) := .tup e9 hdB (.cons d8 .nil)
    generalize upd B8 t9 (.tup [.ref t8]) = B9 at e9 d9 hdB sB d0 d2 d4 d5 d7 d8 ⊢
    clear s9 e9
    clear d8
    refine ⟨by show 1 ≤ sizeLine; decide, fun t10 kt10 => ?_⟩
    have s10 := same_new kt10 (.lst [.str (Str.ofString "x")])
    have e10 : upd B9 t10 (.lst [.str (Str.ofString "x")]) t10 = some (.lst [.str (Str.ofString "x")]) := upd_same
    have n10 := hdB.ne_none kt10
    have hdB := hdB.same s10
    have d0 := d0.on (KpX.same s10)
    have d2 := d2.on (KpX.same s10)
    have d4 := d4.on (KpX.same s10)
    have d5 := d5.on (KpX.same s10)
    have d7 := d7.on (KpX.same s10)
    have d9 := d9.on (KpX.same s10)
    have sB := sB.trans s10
    have d10 : Nd K p l (upd B9 t10 (.lst [.str (Str.ofString "x")])) (.ref t10) (.list [.str (Str.ofString "x")]) := .lst e10 n10.1 n10.2 (.cons (nd_str _) .nil)
    generalize upd B9 t10 (.lst [.str (Str.ofString "x")]) = B10 at e10 d10 hdB sB d0 d2 d4 d5 d7 d9 ⊢
    clear s10 e10
    refine ⟨by show 1 ≤ sizeLine; decide, fun t11 kt11 => ?_⟩
    have s11 := same_new kt11 (.tup [.ref t10])
    have e11 : upd B10 t11 (.tup [.ref t10]) t11 = some (.tup [.ref t10]) := upd_same
    have n11 := hdB.ne_none kt11
    have hdB := hdB.same s11
    have d0 := d0.on (KpX.same s11)
    have d2 := d2.on (KpX.same s11)
    have d4 := d4.on (KpX.same s11)
    have d5 := d5.on (KpX.same s11)
    have d7 := d7.on (KpX.same s11)
    have d9 := d9.on (KpX.same s11)
    have d10 := d10.on (KpX.same s11)
    have sB := sB.trans s11
    have d11 : Nd K p l (upd B10 t11 (.tup [.ref t10])) (.ref t11) (.tuple [.list [.str (Str.ofString "x")]]) := .tup e11 hdB (.cons d10 .nil)
    generalize upd B10 t11 (.tup [.ref t10]) = B11 at e11 d11 hdB sB d0 d2 d4 d5 d7 d9 d10 ⊢
    clear s11 e11
    clear d10
    refine ⟨by show 1 ≤ sizeLine; decide, fun t12 kt12 => ?_⟩
    have s12 := same_new kt12 (.tup [.str (Str.ofString "X")])
    have e12 : upd B11 t12 (.tup [.str (Str.ofString "X")]) t12 = some (.tup [.str (Str.ofString "X")]) := upd_same
    have n12 := hdB.ne_none kt12
    have hdB := hdB.same s12
    have d0 := d0.on (KpX.same s12)
    have d2 := d2.on (KpX.same s12)
    have d4 := d4.on (KpX.same s12)
    have d5 := d5.on (KpX.same s12)
    have d7 := d7.on (KpX.same s12)
    have d9 := d9.on (KpX.same s12)
    have d11 := d11.on (KpX.same s12)
    have sB := sB.trans s12
    have d12 : Nd K p l (upd B11 t12 (.tup [.str (Str.ofString "X")])) (.ref t12) (.tuple [.str (Str.ofString "X")]) := .tup e12 hdB (.cons (nd_str _) .nil)
    generalize upd B11 t12 (.tup [.str (Str.ofString "X")]) = B12 at e12 d12 hdB sB d0 d2 d4 d5 d7 d9 d11 ⊢
    clear s12 e12
    refine ⟨by show 1 ≤ sizeLine; decide, fun t13 kt13 => ?_⟩
    have s13 := same_new kt13 (.tup [.ref t12])
    have e13 : upd B12 t13 (.tup [.ref t12]) t13 = some (.tup [.ref t12]) := upd_same
    have n13 := hdB.ne_none kt13
    have hdB := hdB.same s13
    have d0 := d0.on (KpX.same s13)
    have d2 := d2.on (KpX.same s13)
    have d4 := d4.on (KpX.same s13)
    have d5 := d5.on (KpX.same s13)
    have d7 := d7.on (KpX.same s13)
    have d9 := d9.on (KpX.same s13)
    have d11 := d11.on (KpX.same s13)
    have d12 := d12.on (KpX.same s13)
    have sB := sB.trans s13
    have d13 : Nd K p l (upd B12 t13 (.tup [.ref t12])) (.ref t13) (.tuple [.tuple [.str (Str.ofString "X")]]) := .tup e13 hdB (.cons d12 .nil)
    generalize upd B12 t13 (.tup [.ref t12]) = B13 at e13 d13 hdB sB d0 d2 d4 d5 d7 d9 d11 d12 ⊢
    clear s13 e13
    clear d12
    refine ⟨by show 2 ≤ sizeLine; decide, fun t14 kt14 => ?_⟩
    have s14 := same_new kt14 (.tup [.str (Str.ofString "x"), .int 3])
    have e14 : upd B13 t14 (.tup [.str (Str.ofString "x"), .int 3]) t14 = some (.tup [.str (Str.ofString "x"), .int 3]) := upd_same
    have n14 := hdB.ne_none kt14
    have hdB := hdB.same s14
    have d0 := d0.on (KpX.same s14)
    have d2 := d2.on (KpX.same s14)
    have d4 := d4.on (KpX.same s14)
    have d5 := d5.on (KpX.same s14)
    have d7 := d7.on (KpX.same s14)
    have d9 := d9.on (KpX.same s14)
    have d11 := d11.on (KpX.same s14)
    have d13 := d13.on (KpX.same s14)
    have sB := sB.trans s14
    have d14 : Nd K p l (upd B13 t14 (.tup [.str (Str.ofString "x"), .int 3])) (.ref t14) (.tuple [.str (Str.ofString "x"), .int 3]) := .tup e14 hdB (.cons (nd_str _) (.cons (nd_int 3) .nil))
    generalize upd B13 t14 (.tup [.str (Str.ofString "x"), .int 3]) = B14 at e14 d14 hdB sB d0 d2 d4 d5 d7 d9 d11 d13 ⊢
    clear s14 e14
    refine ⟨by show 1 ≤ sizeLine; decide, fun t15 kt15 => ?_⟩
    have s15 := same_new kt15 (.tup [.ref t14])
    have e15 : upd B14 t15 (.tup [.ref t14]) t15 = some (.tup [.ref t14]) := upd_same
    have n15 := hdB.ne_none kt15
    have hdB := hdB.same s15
    have d0 := d0.on (KpX.same s15)
    have d2 := d2.on (KpX.same s15)
    have d4 := d4.on (KpX.same s15)
    have d5 := d5.on (KpX.same s15)
    have d7 := d7.on (KpX.same s15)
    have d9 := d9.on (KpX.same s15)
    have d11 := d11.on (KpX.same s15)
    have d13 := d13.on (KpX.same s15)
    have d14 := d14.on (KpX.same s15)
    have sB := sB.trans s15
    have d15 : Nd K p l (upd B14 t15 (.tup [.ref t14])) (.ref t15) (.tuple [.tuple [.str (Str.ofString "x"), .int 3]]) := .tup e15 hdB (.cons d14 .nil)
    generalize upd B14 t15 (.tup [.ref t14]) = B15 at e15 d15 hdB sB d0 d2 d4 d5 d7 d9 d11 d13 d14 ⊢
    clear s15 e15
    clear d14
    refine ⟨by show 12 ≤ sizeLine; decide, fun bp kbp => ?_⟩
    have items : ∀ x ∈ [V.non, V.ref t0, V.ref t2, V.ref t4, V.ref t5, V.ref t7, V.int 3, V.str (Str.ofString "x"), V.ref t9, V.ref t11, V.ref t13, V.ref t15], ∃ d, Nd K p l B15 x d ∧ BadOk d := by
      intro x hx
      simp only [List.mem_cons, List.not_mem_nil, or_false] at hx
      rcases hx with rfl | rfl | rfl | rfl | rfl | rfl | rfl | rfl | rfl | rfl | rfl | rfl
      · exact ⟨PyData.none, nd_non, b_none⟩
      · exact ⟨PyData.list (ls.map fun l => .tuple (l.map .str)), d0, (bad_list shL)⟩
      · exact ⟨PyData.tuple [.tuple [.str (Str.ofString "y"), .str (Str.ofString "x")]], d2, b_yx⟩
      · exact ⟨PyData.tuple [.tuple []], d4, b_e⟩
      · exact ⟨PyData.tuple [.str (Str.ofString "x")], d5, b_x⟩
      · exact ⟨PyData.tuple [.tuple [.str (Str.ofString "x"), .str (Str.ofString "x")]], d7, b_xx⟩
      · exact ⟨PyData.int 3, (nd_int 3), b_3⟩
      · exact ⟨PyData.str (Str.ofString "x"), (nd_str _), b_s⟩
      · exact ⟨PyData.tuple [.tuple [.none]], d9, b_n⟩
      · exact ⟨PyData.tuple [.list [.str (Str.ofString "x")]], d11, b_l⟩
      · exact ⟨PyData.tuple [.tuple [.str (Str.ofString "X")]], d13, b_X⟩
      · exact ⟨PyData.tuple [.tuple [.str (Str.ofString "x"), .int 3]], d15, b_x3⟩
    obtain ⟨xs12, ex12⟩ : ∃ xs : List V, xs = [V.non, V.ref t0, V.ref t2, V.ref t4, V.ref t5, V.ref t7, V.int 3, V.str (Str.ofString "x"), V.ref t9, V.ref t11, V.ref t13, V.ref t15] := ⟨_, rfl⟩
    have ln12 : xs12.length = 12 := by rw [ex12]; rfl
    rw [← ex12] at items ⊢
    clear ex12 d0 d2 d4 d5 d7 d9 d11 d13 d15
    have nbp := hdB.ne_none kbp
    have s16 := same_new kbp (.lst xs12)
    have ebp : upd B15 bp (.lst xs12) bp = some (.lst xs12) := upd_same
    have hd17 := hdB.same s16
    have ph17 := phs ph (sB.trans s16)
    have items17 : ∀ x ∈ xs12, ∃ d, Nd K p l (upd B15 bp (.lst xs12)) x d ∧ BadOk d := fun x hx => let ⟨d, n, b⟩ := items x hx; ⟨d, n.on (KpX.same s16), b⟩
    generalize upd B15 bp (.lst xs12) = H17 at ebp hd17 ph17 items17 ⊢
    clear items s16 sB hdB kbp e1 e2 e4 al bl ph
    refine ⟨_, rfl, _, rfl, p, l, bp, xs12, rfl, hd17, fun H' k => SqX.lst (k _ _ ebp nbp.1 nbp.2), ⟨by omega, by omega⟩, fun bad H18 hbad k18 hd18 => ?_⟩
    have nwp := hd17.ne_tup ph17.2.1
    refine ⟨_, rfl, _, rfl, wp, _, rfl, .inr (SqT.of (k18 _ _ ph17.2.1 nwp.1 nwp.2)), fun lw klw => ⟨by show 1 ≤ sizeLine; decide, fun l5 kl5 => ?_⟩⟩
    have s19 := same_new klw (.lst [.ref f1, .ref f2, .ref f3, .ref f4])
    have s20 := same_new kl5 (.lst [.ref f5])
    refine ⟨lw, l5, _, _, rfl, rfl, s20 _ _ upd_same, upd_same, by show 4 + 1 ≤ sizeLine; decide, fun lc klc => ?_⟩
    have s21 := same_new klc (.lst ([.ref f1, .ref f2, .ref f3, .ref f4] ++ [V.ref f5]))
    have hd20 := (hd18.same s19).same s20
    have nlc := hd20.ne_none klc
    refine ⟨p, l, lc, _, rfl, hd20.same s21, fun H' k => SqX.lst (k _ _ upd_same nlc.1 nlc.2), ⟨by show 1 ≤ 5; decide, by show 5 ≤ 1000; decide⟩, fun wk H22 hwk k22 hd22 => ⟨by show 2 ≤ sizeLine; decide, fun pr kpr => ⟨pr, _, rfl, SqT.of upd_same, rfl, _, _, rfl, _, _, rfl, rfl, ?_⟩⟩⟩
    have s23 := same_new kpr (.tup [bad, wk])
    have kz : Kept2 p l H17 (upd H22 pr (.tup [bad, wk])) := k18.trans ((Kept2.same ((s19.trans s20).trans s21)).trans (k22.trans (Kept2.same s23)))
    have hdz := hd22.same s23
    obtain ⟨Hz, eHz⟩ : ∃ Hz, Hz = upd H22 pr (.tup [bad, wk]) := ⟨_, rfl⟩
    rw [← eHz] at kz hdz ⊢
    clear eHz s23 k22 hd22 nlc hd20 s21 s20 s19 klw kl5 klc kpr k18 hd18 nwp
    obtain ⟨d, nd17, bk⟩ := items17 bad hbad
    have nd : ∀ H', ExtN Hz H' → Dp K H' bad d := fun H' e => nd17 H' ((KpX.two kz).trans (KpX.ext e))
    obtain ⟨fj, rfl, hfj⟩ : ∃ fj, wk = .ref fj ∧ fj ∈ [f1, f2, f3, f4, f5] := by
      simp only [List.cons_append, List.nil_append, List.mem_cons, List.not_mem_nil, or_false] at hwk
      rcases hwk with rfl | rfl | rfl | rfl | rfl <;> exact ⟨_, rfl, by simp⟩
    obtain ⟨its, jts, e1, e2, e3, e4, al, bl⟩ := ph17.1.ea
    have fz := kz.fix hd17
    have ez1 := kz _ _ e1 p7.1.1 p7.1.2
    have ez3 := fz _ _ e3 (not_mut_tup _)
    have ez4 := fz _ _ e4 (not_mut_tup _)
    have ezn := fz _ _ ph17.1.en (not_mut_tup _)
    have alz := al.imp fun _ _ r => r.fix fz
    have blz := bl.imp fun _ _ r => r.fix fz
    have ePz : Hz Pt = some (.tbl #[]) := kz _ _ ph17.1.eP Pp Pl
    have tiD : ∀ H', ExtN Hz H' → Dp K H' (.ref tt) (tD ls) := fun H' e => tale_dp (e _ _ ez3 notbl) (alz.imp fun _ _ r => lotH_ext r e)
    have tjD : ∀ H', ExtN Hz H' → Dp K H' (.ref uu) (tD hs) := fun H' e => tale_dp (e _ _ ez4 notbl) (blz.imp fun _ _ r => lotH_ext r e)
    have taL := tale_D nok okl
    have taH := tale_D nok okh
    have smL := tale_sm nok okl (by omega)
    have smH := tale_sm nok okh (by omega)
    clear items17 ph17 phs rf e1 e2 e3 e4 al bl fz kz ebp
    refine ⟨fun σ H' => σ = SA (some (.ref wp)) (some (.ref dp)) (some (.ref fj)) (some (.ref sp)) (some (.ref bp)) (some bad) ∧ ExtN Hz H' ∧ Tabs [(Pt, qLam)] H', ?_, ?_⟩
    · refine ⟨_, rfl, bad, d, rfl, nd Hz (ExtN.refl _), bk.s2, fun G1 g1 => ⟨_, rfl, ?_⟩⟩
      rw [bk.nt]
      refine iteF ⟨_, rfl, .ref tt, tD ls, rfl, tiD G1 (ExtN.of g1), smL, fun G2 g2 => ⟨_, rfl, ?_⟩⟩
      rw [taL]
      refine iteF ⟨_, rfl, .ref uu, tD hs, rfl, tjD G2 (ExtN.of (g1.trans g2)), smH, fun G3 g3 => ⟨_, rfl, ?_⟩⟩
      rw [taH]
      have g13 := (g1.trans g2).trans g3
      refine iteF ⟨_, rfl, bad, d, rfl, nd G3 (ExtN.of g13), bk.s1, fun G4 g4 => ⟨_, rfl, by show 1 ≤ sizeLine; decide, fun t kt => ?_⟩⟩
      have g14 := (g13.trans g4).trans (same_new kt (.tup [.str (Str.ofString "x")]))
      refine ⟨d, .tuple [.str (Str.ofString "x")], nd _ (ExtN.of g14), .tup (SqT.of upd_same) (.cons (.str _) .nil), bk.sh, by decide +kernel, rfl, _, rfl, ?_⟩
      rw [bk.lt, decide_eq_true rfl]
      exact iteF ⟨rfl, ExtN.of g14, fun q hq => by rw [List.mem_singleton.mp hq]; exact TabS.nil (g14 _ _ ePz)⟩
    rintro σ H24 ⟨rfl, x24, tb24⟩
    refine ⟨fun σ H' => σ = SA (some (.ref wp)) (some (.ref dp)) (some (.ref fj)) (some (.ref sp)) (some (.ref bp)) (some bad) ∧ ExtN Hz H' ∧ Tabs [(Pt, qLam)] H', ?_, ?_⟩
    · refine ⟨_, rfl, a, its, rfl, SqX.lst (x24 _ _ ez1 notbl_l), fun J S W z0 D hD => ?_⟩
      refine lc_mf (ds := ls) W (fun _ => false) (fun _ _ _ => True) z0 hD alz.len (fun i x lot H' ex elot s m => ?_) (fun H' ys s e al => ?_)
      · obtain ⟨lot', elot', hx⟩ := alz.get ex
        rw [elot] at elot'
        obtain rfl := Option.some.inj elot'
        have lo := okl lot (at_mem elot)
        refine ⟨rfl, _, rfl, x, .tuple (lot.map .str), rfl, (lotH_ext hx (x24.trans (ExtN.of s))).dp, lot_sm nok lo, fun G g => ⟨_, rfl, ?_⟩⟩
        rw [lot_D nok lo]
        exact iteF (mf_no m (fun _ _ _ _ _ _ => trivial) elot g rfl)
      · rw [show ls.filter (fun _ => false) = [] by simp] at al
        cases al
        have x25 := x24.trans (ExtN.of s)
        have tb25 := tb24.ext s
        refine ⟨by show 0 ≤ sizeLine; decide, fun t kt => ?_⟩
        have s1 := same_new kt (.lst [])
        refine ⟨.list [], .list [], .lst (SqL.of (s1 _ _ e)) .nil, .lst (SqL.of upd_same) .nil, by decide, by decide, _, rfl, ?_⟩
        refine iteF ⟨by show 0 ≤ sizeLine; decide, fun t2 kt2 => ?_⟩
        have s2 := same_new kt2 (.tup [])
        refine ⟨.ref t2, .tuple [], rfl, .tup (SqT.of upd_same) .nil, ⟨by decide, fun d hd => by cases hd⟩, fun G g => ⟨_, rfl, ?_⟩⟩
        have s3 := (s1.trans s2).trans g
        have x26 := x25.trans (ExtN.of s3)
        have tb26 := tb25.ext s3
        refine iteF ⟨_, rfl, 1, rfl, nb, nms.map V.str, rfl, SqT.of (x26 _ _ ezn notbl), fun _ => ?_, fun _ t3 kt3 => ?_⟩
        · refine ⟨nb, _, rfl, .inr (SqT.of (x26 _ _ ezn notbl)), fun t4 kt4 => ?_⟩
          have s4 := same_new kt4 (.lst (nms.map V.str))
          refine ⟨.ref t4, .list (nms.map .str), rfl, .lst (SqL.of upd_same) (dp_strs _), trivial, fun G5 g5 => ⟨_, rfl, iteF ⟨rfl, x26.trans (ExtN.of (s4.trans g5)), tb26.ext (s4.trans g5)⟩⟩⟩
        · have s4 := same_new kt3 (.tup (cutV (nms.map V.str) none (some 1)))
          have ec : cutV (nms.map V.str) none (some 1) = (nms.take 1).map V.str := by rw [show (some (1 : Int)) = some ((1 : Nat) : Int) from rfl, cut_take, List.map_take]
          refine ⟨t3, (nms.take 1).map V.str, rfl, .inr (SqT.of (by rw [upd_same, ec])), fun t4 kt4 => ?_⟩
          have s5 := same_new kt4 (.lst ((nms.take 1).map V.str))
          have s45 := s4.trans s5
          refine ⟨.ref t4, .list ((nms.take 1).map .str), rfl, .lst (SqL.of upd_same) (dp_strs _), trivial, fun G5 g5 => ⟨_, rfl, iteF ⟨rfl, x26.trans (ExtN.of (s45.trans g5)), tb26.ext (s45.trans g5)⟩⟩⟩
    clear x24 tb24
    rintro σ H24 ⟨rfl, x24, tb24⟩
    refine ⟨fun σ H' => σ = SA (some (.ref wp)) (some (.ref dp)) (some (.ref fj)) (some (.ref sp)) (some (.ref bp)) (some bad) ∧ ExtN Hz H' ∧ Tabs [(Pt, qLam)] H', ?_, ?_⟩
    · refine ⟨tb24, fun H1 eN1 tab1 => ⟨fj, rfl, DB fj hfj, _, rfl, bad, .non, d, .none, [], [], 0, rfl, ⟨nd H1 (x24.trans eN1), .non, bk.s2, trivial, fun z => (by rw [first_0 bk.nt] at z; cases z), by decide, by decide, fun h hh => (by cases hh), fun h hh => (by cases hh)⟩, first_0 bk.nt, fun dd H2 s2 ed => ⟨dd, 0, rfl, ed, .inl ⟨rfl, fun t H3 s3 et => ⟨by show 2 ≤ sizeLine; decide, fun t2 kt2 => ?_⟩⟩⟩⟩⟩
      have s4 := same_new kt2 (.lst [.str (Str.ofString "heard"), .int 0])
      refine ⟨.list [.str (Str.ofString "heard"), .int 0], .list [.str (Str.ofString "heard"), .int 0], .lst (SqL.of (s4 _ _ et)) (.cons (.str _) (.cons (.int _) .nil)), .lst (SqL.of upd_same) (.cons (.str _) (.cons (.int _) .nil)), heard_sh _, heard_sh _, _, rfl, ?_⟩
      rw [sh_refl (heard_sh _)]
      have s24 := (s2.trans s3).trans s4
      exact iteF ⟨rfl, (x24.trans eN1).trans (ExtN.of s24), tab1.ext s24⟩
    clear x24 tb24
    rintro σ H24 ⟨rfl, x24, tb24⟩
    refine ⟨tb24, fun H1 eN1 tab1 => ⟨fj, rfl, DB fj hfj, _, rfl, _, rfl, .ref tt, bad, tD ls, d, [], [], 1, rfl, ⟨tiD H1 (x24.trans eN1), nd H1 (x24.trans eN1), smL, bk.s2, fun z => (by rw [first_1 taL bk.nt] at z; cases z), by decide, by decide, fun h hh => (by cases hh), fun h hh => (by cases hh)⟩, first_1 taL bk.nt, fun dd H2 s2 ed => ⟨dd, 1, rfl, ed, .inl ⟨rfl, fun t H3 s3 et => ⟨by show 2 ≤ sizeLine; decide, fun t2 kt2 => ?_⟩⟩⟩⟩⟩
    have s4 := same_new kt2 (.lst [.str (Str.ofString "heard"), .int 1])
    refine ⟨.list [.str (Str.ofString "heard"), .int 1], .list [.str (Str.ofString "heard"), .int 1], .lst (SqL.of (s4 _ _ et)) (.cons (.str _) (.cons (.int _) .nil)), .lst (SqL.of upd_same) (.cons (.str _) (.cons (.int _) .nil)), heard_sh _, heard_sh _, ?_⟩
    rw [sh_refl (heard_sh _)]
    exact q _
end
end K6

namespace K6
open PySem PySem.Spec PyProof.Rows L2 Hb St Sq Ow En Zp RZ Rd Xb Da Lg LamX Ty Lc
/-! ### the five as one -/
section
variable {K : PySem.W.Frag} {C R : Addr} {vs : List V} {H : Hp} {Q : VK} {E : XK}
theorem refu_first (z : spRefu K R vs H Q E) : spFirst K C R vs H Q E := by
  obtain ⟨v, u, d, e, ls, hs, m, rfl, ti, no, em, q⟩ := z
  exact ⟨v, u, d, e, ls, hs, rfl, ti, fun _ z => (by rw [em] at z; cases z), fun m' _ z dd H' s ed => (by rw [em] at z; cases z; exact q dd H' s ed), fun k z => (by rw [no] at z; cases z)⟩
theorem refu_last (z : spRefu K R vs H Q E) : spLast K C R vs H Q E := by
  obtain ⟨v, u, d, e, ls, hs, m, rfl, ti, no, em, q⟩ := z
  exact ⟨v, u, d, e, ls, hs, rfl, ti, fun _ z => (by rw [em] at z; cases z), fun m' _ z dd H' s ed => (by rw [em] at z; cases z; exact q dd H' s ed), fun k z => (by rw [no] at z; cases z)⟩
theorem refu_may (z : spRefu K R vs H Q E) : spMay K C R vs H Q E := by
  obtain ⟨v, u, d, e, ls, hs, m, rfl, ti, no, em, q⟩ := z
  exact ⟨v, u, d, e, ls, hs, rfl, ti, fun _ z => (by rw [em] at z; cases z), fun m' _ z dd H' s ed => (by rw [em] at z; cases z; exact q dd H' s ed), fun k z => (by rw [no] at z; cases z)⟩
theorem refu_count (z : spRefu K R vs H Q E) : spCount K C R vs H Q E := by
  obtain ⟨v, u, d, e, ls, hs, m, rfl, ti, no, em, q⟩ := z
  exact ⟨v, u, d, e, ls, hs, rfl, ti, fun _ z => (by rw [em] at z; cases z), fun m' _ z dd H' s ed => (by rw [em] at z; cases z; exact q dd H' s ed), fun k z => (by rw [no] at z; cases z)⟩
theorem bad_first (z : spBad K C vs H Q E) : spFirst K C R vs H Q E := by
  obtain ⟨v, u, d, e, ls, hs, k, rfl, ti, ek, q⟩ := z
  exact ⟨v, u, d, e, ls, hs, rfl, ti, fun z => (by rw [ek] at z; cases z), fun m' z => (by rw [ek] at z; cases z), fun k' z dd H' s ed => (by rw [ek] at z; cases z; exact q dd H' s ed)⟩
theorem bad_last (z : spBad K C vs H Q E) : spLast K C R vs H Q E := by
  obtain ⟨v, u, d, e, ls, hs, k, rfl, ti, ek, q⟩ := z
  exact ⟨v, u, d, e, ls, hs, rfl, ti, fun z => (by rw [ek] at z; cases z), fun m' z => (by rw [ek] at z; cases z), fun k' z dd H' s ed => (by rw [ek] at z; cases z; exact q dd H' s ed)⟩
theorem bad_may (z : spBad K C vs H Q E) : spMay K C R vs H Q E := by
  obtain ⟨v, u, d, e, ls, hs, k, rfl, ti, ek, q⟩ := z
  exact ⟨v, u, d, e, ls, hs, rfl, ti, fun z => (by rw [ek] at z; cases z), fun m' z => (by rw [ek] at z; cases z), fun k' z dd H' s ed => (by rw [ek] at z; cases z; exact q dd H' s ed)⟩
theorem bad_count (z : spBad K C vs H Q E) : spCount K C R vs H Q E := by
  obtain ⟨v, u, d, e, ls, hs, k, rfl, ti, ek, q⟩ := z
  exact ⟨v, u, d, e, ls, hs, rfl, ti, fun z => (by rw [ek] at z; cases z), fun m' z => (by rw [ek] at z; cases z), fun k' z dd H' s ed => (by rw [ek] at z; cases z; exact q dd H' s ed)⟩
theorem bad_stuck (z : spBad K C vs H Q E) : spStuck K C vs H Q E := by
  obtain ⟨v, u, d, e, ls, hs, k, rfl, ti, ek, q⟩ := z
  exact ⟨v, u, d, e, ls, hs, rfl, ti, fun z => (by rw [ek] at z; cases z), fun k' z dd H' s ed => (by rw [ek] at z; cases z; exact q dd H' s ed)⟩
end
/-- all parameters by name, in their order -/
theorem kb_fwd {K : PySem.W.Frag} {x qual : Str} {st : Stmt} {f : Addr} {fd : FuncData} {ps ks : List Str} (F : Fun K x qual st f fd)
    (h : ∀ (kV doc pm : Value) (an : Option Addr) (cdv ct : Value) (ws : List Value), ws.length = ks.length → bindArgs (PySem.W.fnOf x qual (defArgs st) (defBody st) (defScope st) .none kV doc pm an cdv ct) ⟨[], ks.zip ws⟩ = pure (ps.zip ws)) : KBn K fd ps 0 ks (fun _ ws => ws) (fun _ zs => zs) := by
  obtain ⟨oc, od, kV, doc, pm, an, cdv, ct, osl, rfl, lk, hcd⟩ := F.ex
  refine ⟨fun s us ws X l1 l2 => ?_, fun r1 r2 => r2⟩
  obtain rfl := List.eq_nil_of_length_eq_zero l1
  exact .of_eq (h kV doc pm an cdv ct ws l2)
theorem kb_bwd {K : PySem.W.Frag} {x qual : Str} {st : Stmt} {f : Addr} {fd : FuncData} {ps ks : List Str} (F : Fun K x qual st f fd)
    (h : ∀ (kV doc pm : Value) (an : Option Addr) (cdv ct : Value) (ws : List Value), ws.length = ks.length → bindArgs (PySem.W.fnOf x qual (defArgs st) (defBody st) (defScope st) .none kV doc pm an cdv ct) ⟨[], ks.zip ws⟩ = pure (ps.zip ws.reverse)) : KBn K fd ps 0 ks (fun _ ws => ws.reverse) (fun _ zs => zs.reverse) := Kw.kb_rev F h
end K6

namespace K6
open PySem PySem.Spec PyProof.Rows L2 Hb St Sq Ow En Zp RZ Rd Xb Da Lg LamX Ty Lc
theorem all_mk {l : PySem.W.OpenLaw} {w : World} {K : PySem.W.Frag} {h : Heap} {mg : Str → Option Value} {fa f_law cL PL f_is_name f_thin_lot f_is_part f_is_lot f_is_tale f_least_laying f_need_tales f_stuck_at f_need_laying f_first_laying f_last_laying f_may_lie f_count_layings f__law_heap f__law_draw f__law_pick f__law_tale f__law_less f__law_layings f__law_told f__law_many f__law_once : Addr} (X : K.In h) (G : h.Ns mainGlobals mg) (hfa : mg "law" = some (.ref fa)) (own : OwnTab K fa h) {B C R : Addr} {tkL : Tok} {N_c fI_c : Addr} {nm_c q_c : Str} {bs_c : List Value} {sn_c : List Str} {sub_c : List Value} {ab_c : Bool} {col_c : Option Bool} {dd_c : Option Addr} {m0_c m1_c m2_c m3_c m5_c : Option Value} {ocI_c dcI_c pmI_c cdI_c ctI_c : Value} {odI_c anI_c : Option Addr} {slI_c : Array (Option Value)} {N_r fI_r : Addr} {nm_r q_r : Str} {bs_r : List Value} {sn_r : List Str} {sub_r : List Value} {ab_r : Bool} {col_r : Option Bool} {dd_r : Option Addr} {m0_r m1_r m2_r m3_r m5_r : Option Value} {ocI_r dcI_r pmI_r cdI_r ctI_r : Value} {odI_r anI_r : Option Addr} {slI_r : Array (Option Value)}
    {odL anL ddC od0 an0 od1 an1 od2 an2 od3 an3 od4 an4 od5 an5 od6 an6 od7 an7 od8 an8 od9 an9 od10 an10 od11 an11 od12 an12 od13 an13 od14 an14 od15 an15 od16 an16 od17 an17 od18 an18 od19 an19 od20 an20 od21 an21 : Option Addr} {slL slC sl0 sl1 sl2 sl3 sl4 sl5 sl6 sl7 sl8 sl9 sl10 sl11 sl12 sl13 sl14 sl15 sl16 sl17 sl18 sl19 sl20 sl21 : Array (Option Value)} {ocL kVL dcL pmL ctL clC oc0 kV0 dc0 pm0 cd0 ct0 oc1 kV1 dc1 pm1 cd1 ct1 oc2 kV2 dc2 pm2 cd2 ct2 oc3 kV3 dc3 pm3 cd3 ct3 oc4 kV4 dc4 pm4 cd4 ct4 oc5 kV5 dc5 pm5 cd5 ct5 oc6 kV6 dc6 pm6 cd6 ct6 oc7 kV7 dc7 pm7 cd7 ct7 oc8 kV8 dc8 pm8 cd8 ct8 oc9 kV9 dc9 pm9 cd9 ct9 oc10 kV10 dc10 pm10 cd10 ct10 oc11 kV11 dc11 pm11 cd11 ct11 oc12 kV12 dc12 pm12 cd12 ct12 oc13 kV13 dc13 pm13 cd13 ct13 oc14 kV14 dc14 pm14 cd14 ct14 oc15 kV15 dc15 pm15 cd15 ct15 oc16 kV16 dc16 pm16 cd16 ct16 oc17 kV17 dc17 pm17 cd17 ct17 oc18 kV18 dc18 pm18 cd18 ct18 oc19 kV19 dc19 pm19 cd19 ct19 oc20 kV20 dc20 pm20 cd20 ct20 oc21 kV21 dc21 pm21 cd21 ct21 : Value} {vsC : Array Value}
    (aB : PySem.W.nsIn K mainGlobals "BellError" = some (some (.ref B)))
    (aC_c : PySem.W.nsIn K mainGlobals "InvalidHeard" = some (some (.ref C)))
    (xL_c : K.lookup C = some (PySem.excClassObj nm_c q_c C N_c bs_c [.ref B, .type "Exception", .type "BaseException", .type "object"] true sn_c sub_c ab_c col_c dd_c m0_c m1_c m2_c m3_c m5_c "Exception.__new__"))
    (sa_c : PySem.W.findIn K (.ref C) "__setattr__" = some (some (.builtin "object.__setattr__")))
    (ga_c : PySem.W.findIn K (.ref C) "__getattribute__" = some (some (.builtin "BaseException.__getattribute__")))
    (gg_c : PySem.W.findIn K (.ref C) "__getattr__" = some none)
    (nb_c : PySem.W.findIn K (.ref C) "at" = some none)
    (aI_c : PySem.W.findIn K (.ref C) "__init__" = some (some (.ref fI_c)))
    (tI_c : PySem.W.typeIn K (.ref fI_c) = some (.type "function"))
    (lI_c : K.lookup fI_c = some ⟨ocI_c, odI_c, .func (PySem.W.fnOf "__init__" "InvalidHeard.__init__" (Xb.iA ⟨6, 17, 6, 21⟩ ⟨6, 23, 6, 25⟩) (Xb.iB ⟨7, 8, 7, 12⟩ ⟨7, 8, 7, 15⟩ ⟨7, 18, 7, 20⟩ ⟨7, 8, 7, 20⟩) Xb.iS .none .none dcI_c pmI_c anI_c cdI_c ctI_c), slI_c⟩)
    (cI_c : PySem.W.codeIn K cdI_c "InvalidHeard.__init__" = true)
    (kC_c : PySem.W.keepIn K (.ref C) = true)
    (eC_c : PySem.W.subIn K (.ref C) (.type "BaseException") = some true)
    (tC_c : PySem.W.typeIn K (.ref C) = some (.type "type"))
    (hC_c : PySem.W.hasDictIn K C = true)
    (iC_c : (PySem.W.clsIn K C).isSome = true)
    (sC_c : PySem.W.subIn K (.ref C) (.ref C) = some true)
    (x1_c : PySem.W.findIn K (.ref C) "__class__" = some (some (.builtin "object.__class__")))
    (x4_c : PySem.W.mroIn K C (.type "object") = some true)
    (aC_r : PySem.W.nsIn K mainGlobals "Refused" = some (some (.ref R)))
    (xL_r : K.lookup R = some (PySem.excClassObj nm_r q_r R N_r bs_r [.ref B, .type "Exception", .type "BaseException", .type "object"] true sn_r sub_r ab_r col_r dd_r m0_r m1_r m2_r m3_r m5_r "Exception.__new__"))
    (sa_r : PySem.W.findIn K (.ref R) "__setattr__" = some (some (.builtin "object.__setattr__")))
    (ga_r : PySem.W.findIn K (.ref R) "__getattribute__" = some (some (.builtin "BaseException.__getattribute__")))
    (gg_r : PySem.W.findIn K (.ref R) "__getattr__" = some none)
    (nb_r : PySem.W.findIn K (.ref R) "at" = some none)
    (aI_r : PySem.W.findIn K (.ref R) "__init__" = some (some (.ref fI_r)))
    (tI_r : PySem.W.typeIn K (.ref fI_r) = some (.type "function"))
    (lI_r : K.lookup fI_r = some ⟨ocI_r, odI_r, .func (PySem.W.fnOf "__init__" "Refused.__init__" (Xb.iA ⟨10, 17, 10, 21⟩ ⟨10, 23, 10, 25⟩) (Xb.iB ⟨11, 8, 11, 12⟩ ⟨11, 8, 11, 15⟩ ⟨11, 18, 11, 20⟩ ⟨11, 8, 11, 20⟩) Xb.iS .none .none dcI_r pmI_r anI_r cdI_r ctI_r), slI_r⟩)
    (cI_r : PySem.W.codeIn K cdI_r "Refused.__init__" = true)
    (kC_r : PySem.W.keepIn K (.ref R) = true)
    (eC_r : PySem.W.subIn K (.ref R) (.type "BaseException") = some true)
    (tC_r : PySem.W.typeIn K (.ref R) = some (.type "type"))
    (hC_r : PySem.W.hasDictIn K R = true)
    (iC_r : (PySem.W.clsIn K R).isSome = true)
    (sC_r : PySem.W.subIn K (.ref R) (.ref R) = some true)
    (x1_r : PySem.W.findIn K (.ref R) "__class__" = some (some (.builtin "object.__class__")))
    (x4_r : PySem.W.mroIn K R (.type "object") = some true)
    (x2 : PySem.W.specialIn K (.builtin "object.__class__") "__get__" = some (some (.builtin "getset_descriptor.__get__")))
    (x3 : PySem.W.takesIn K (.builtin "object.__class__") = some true)
    (kRC : PySem.W.kitOne K (.ref R) (.ref C) = some false)
    (sRC : PySem.W.subIn K (.ref R) (.ref C) = some false)
    (a0 : PySem.W.nsIn K mainGlobals "is_name" = some (some (.ref f_is_name)))
    (l0 : K.lookup f_is_name = some ⟨oc0, od0, .func (PySem.W.fnOf "is_name" "is_name" (defArgs s_is_name) (defBody s_is_name) (defScope s_is_name) .none kV0 dc0 pm0 an0 cd0 ct0), sl0⟩)
    (c0 : PySem.W.codeIn K cd0 "is_name" = true)
    (k0 : PySem.W.keepIn K (.ref f_is_name) = true)
    (a1 : PySem.W.nsIn K mainGlobals "thin_lot" = some (some (.ref f_thin_lot)))
    (l1 : K.lookup f_thin_lot = some ⟨oc1, od1, .func (PySem.W.fnOf "thin_lot" "thin_lot" (defArgs s_thin_lot) (defBody s_thin_lot) (defScope s_thin_lot) .none kV1 dc1 pm1 an1 cd1 ct1), sl1⟩)
    (c1 : PySem.W.codeIn K cd1 "thin_lot" = true)
    (k1 : PySem.W.keepIn K (.ref f_thin_lot) = true)
    (a2 : PySem.W.nsIn K mainGlobals "is_part" = some (some (.ref f_is_part)))
    (l2 : K.lookup f_is_part = some ⟨oc2, od2, .func (PySem.W.fnOf "is_part" "is_part" (defArgs s_is_part) (defBody s_is_part) (defScope s_is_part) .none kV2 dc2 pm2 an2 cd2 ct2), sl2⟩)
    (c2 : PySem.W.codeIn K cd2 "is_part" = true)
    (k2 : PySem.W.keepIn K (.ref f_is_part) = true)
    (a3 : PySem.W.nsIn K mainGlobals "is_lot" = some (some (.ref f_is_lot)))
    (l3 : K.lookup f_is_lot = some ⟨oc3, od3, .func (PySem.W.fnOf "is_lot" "is_lot" (defArgs s_is_lot) (defBody s_is_lot) (defScope s_is_lot) .none kV3 dc3 pm3 an3 cd3 ct3), sl3⟩)
    (c3 : PySem.W.codeIn K cd3 "is_lot" = true)
    (k3 : PySem.W.keepIn K (.ref f_is_lot) = true)
    (a4 : PySem.W.nsIn K mainGlobals "is_tale" = some (some (.ref f_is_tale)))
    (l4 : K.lookup f_is_tale = some ⟨oc4, od4, .func (PySem.W.fnOf "is_tale" "is_tale" (defArgs s_is_tale) (defBody s_is_tale) (defScope s_is_tale) .none kV4 dc4 pm4 an4 cd4 ct4), sl4⟩)
    (c4 : PySem.W.codeIn K cd4 "is_tale" = true)
    (k4 : PySem.W.keepIn K (.ref f_is_tale) = true)
    (a5 : PySem.W.nsIn K mainGlobals "least_laying" = some (some (.ref f_least_laying)))
    (l5 : K.lookup f_least_laying = some ⟨oc5, od5, .func (PySem.W.fnOf "least_laying" "least_laying" (defArgs s_least_laying) (defBody s_least_laying) (defScope s_least_laying) .none kV5 dc5 pm5 an5 cd5 ct5), sl5⟩)
    (c5 : PySem.W.codeIn K cd5 "least_laying" = true)
    (k5 : PySem.W.keepIn K (.ref f_least_laying) = true)
    (a6 : PySem.W.nsIn K mainGlobals "need_tales" = some (some (.ref f_need_tales)))
    (l6 : K.lookup f_need_tales = some ⟨oc6, od6, .func (PySem.W.fnOf "need_tales" "need_tales" (defArgs s_need_tales) (defBody s_need_tales) (defScope s_need_tales) .none kV6 dc6 pm6 an6 cd6 ct6), sl6⟩)
    (c6 : PySem.W.codeIn K cd6 "need_tales" = true)
    (k6 : PySem.W.keepIn K (.ref f_need_tales) = true)
    (a7 : PySem.W.nsIn K mainGlobals "stuck_at" = some (some (.ref f_stuck_at)))
    (l7 : K.lookup f_stuck_at = some ⟨oc7, od7, .func (PySem.W.fnOf "stuck_at" "stuck_at" (defArgs s_stuck_at) (defBody s_stuck_at) (defScope s_stuck_at) .none kV7 dc7 pm7 an7 cd7 ct7), sl7⟩)
    (c7 : PySem.W.codeIn K cd7 "stuck_at" = true)
    (k7 : PySem.W.keepIn K (.ref f_stuck_at) = true)
    (a8 : PySem.W.nsIn K mainGlobals "need_laying" = some (some (.ref f_need_laying)))
    (l8 : K.lookup f_need_laying = some ⟨oc8, od8, .func (PySem.W.fnOf "need_laying" "need_laying" (defArgs s_need_laying) (defBody s_need_laying) (defScope s_need_laying) .none kV8 dc8 pm8 an8 cd8 ct8), sl8⟩)
    (c8 : PySem.W.codeIn K cd8 "need_laying" = true)
    (k8 : PySem.W.keepIn K (.ref f_need_laying) = true)
    (a9 : PySem.W.nsIn K mainGlobals "first_laying" = some (some (.ref f_first_laying)))
    (l9 : K.lookup f_first_laying = some ⟨oc9, od9, .func (PySem.W.fnOf "first_laying" "first_laying" (defArgs s_first_laying) (defBody s_first_laying) (defScope s_first_laying) .none kV9 dc9 pm9 an9 cd9 ct9), sl9⟩)
    (c9 : PySem.W.codeIn K cd9 "first_laying" = true)
    (k9 : PySem.W.keepIn K (.ref f_first_laying) = true)
    (a10 : PySem.W.nsIn K mainGlobals "last_laying" = some (some (.ref f_last_laying)))
    (l10 : K.lookup f_last_laying = some ⟨oc10, od10, .func (PySem.W.fnOf "last_laying" "last_laying" (defArgs s_last_laying) (defBody s_last_laying) (defScope s_last_laying) .none kV10 dc10 pm10 an10 cd10 ct10), sl10⟩)
    (c10 : PySem.W.codeIn K cd10 "last_laying" = true)
    (k10 : PySem.W.keepIn K (.ref f_last_laying) = true)
    (a11 : PySem.W.nsIn K mainGlobals "may_lie" = some (some (.ref f_may_lie)))
    (l11 : K.lookup f_may_lie = some ⟨oc11, od11, .func (PySem.W.fnOf "may_lie" "may_lie" (defArgs s_may_lie) (defBody s_may_lie) (defScope s_may_lie) .none kV11 dc11 pm11 an11 cd11 ct11), sl11⟩)
    (c11 : PySem.W.codeIn K cd11 "may_lie" = true)
    (k11 : PySem.W.keepIn K (.ref f_may_lie) = true)
    (a12 : PySem.W.nsIn K mainGlobals "count_layings" = some (some (.ref f_count_layings)))
    (l12 : K.lookup f_count_layings = some ⟨oc12, od12, .func (PySem.W.fnOf "count_layings" "count_layings" (defArgs s_count_layings) (defBody s_count_layings) (defScope s_count_layings) .none kV12 dc12 pm12 an12 cd12 ct12), sl12⟩)
    (c12 : PySem.W.codeIn K cd12 "count_layings" = true)
    (k12 : PySem.W.keepIn K (.ref f_count_layings) = true)
    (a13 : PySem.W.nsIn K mainGlobals "_law_heap" = some (some (.ref f__law_heap)))
    (l13 : K.lookup f__law_heap = some ⟨oc13, od13, .func (PySem.W.fnOf "_law_heap" "_law_heap" (defArgs s__law_heap) (defBody s__law_heap) (defScope s__law_heap) .none kV13 dc13 pm13 an13 cd13 ct13), sl13⟩)
    (c13 : PySem.W.codeIn K cd13 "_law_heap" = true)
    (k13 : PySem.W.keepIn K (.ref f__law_heap) = true)
    (a14 : PySem.W.nsIn K mainGlobals "_law_draw" = some (some (.ref f__law_draw)))
    (l14 : K.lookup f__law_draw = some ⟨oc14, od14, .func (PySem.W.fnOf "_law_draw" "_law_draw" (defArgs s__law_draw) (defBody s__law_draw) (defScope s__law_draw) .none kV14 dc14 pm14 an14 cd14 ct14), sl14⟩)
    (c14 : PySem.W.codeIn K cd14 "_law_draw" = true)
    (k14 : PySem.W.keepIn K (.ref f__law_draw) = true)
    (a15 : PySem.W.nsIn K mainGlobals "_law_pick" = some (some (.ref f__law_pick)))
    (l15 : K.lookup f__law_pick = some ⟨oc15, od15, .func (PySem.W.fnOf "_law_pick" "_law_pick" (defArgs s__law_pick) (defBody s__law_pick) (defScope s__law_pick) .none kV15 dc15 pm15 an15 cd15 ct15), sl15⟩)
    (c15 : PySem.W.codeIn K cd15 "_law_pick" = true)
    (k15 : PySem.W.keepIn K (.ref f__law_pick) = true)
    (a16 : PySem.W.nsIn K mainGlobals "_law_tale" = some (some (.ref f__law_tale)))
    (l16 : K.lookup f__law_tale = some ⟨oc16, od16, .func (PySem.W.fnOf "_law_tale" "_law_tale" (defArgs s__law_tale) (defBody s__law_tale) (defScope s__law_tale) .none kV16 dc16 pm16 an16 cd16 ct16), sl16⟩)
    (c16 : PySem.W.codeIn K cd16 "_law_tale" = true)
    (k16 : PySem.W.keepIn K (.ref f__law_tale) = true)
    (a17 : PySem.W.nsIn K mainGlobals "_law_less" = some (some (.ref f__law_less)))
    (l17 : K.lookup f__law_less = some ⟨oc17, od17, .func (PySem.W.fnOf "_law_less" "_law_less" (defArgs s__law_less) (defBody s__law_less) (defScope s__law_less) .none kV17 dc17 pm17 an17 cd17 ct17), sl17⟩)
    (c17 : PySem.W.codeIn K cd17 "_law_less" = true)
    (k17 : PySem.W.keepIn K (.ref f__law_less) = true)
    (a18 : PySem.W.nsIn K mainGlobals "_law_layings" = some (some (.ref f__law_layings)))
    (l18 : K.lookup f__law_layings = some ⟨oc18, od18, .func (PySem.W.fnOf "_law_layings" "_law_layings" (defArgs s__law_layings) (defBody s__law_layings) (defScope s__law_layings) .none kV18 dc18 pm18 an18 cd18 ct18), sl18⟩)
    (c18 : PySem.W.codeIn K cd18 "_law_layings" = true)
    (k18 : PySem.W.keepIn K (.ref f__law_layings) = true)
    (a19 : PySem.W.nsIn K mainGlobals "_law_told" = some (some (.ref f__law_told)))
    (l19 : K.lookup f__law_told = some ⟨oc19, od19, .func (PySem.W.fnOf "_law_told" "_law_told" (defArgs s__law_told) (defBody s__law_told) (defScope s__law_told) .none kV19 dc19 pm19 an19 cd19 ct19), sl19⟩)
    (c19 : PySem.W.codeIn K cd19 "_law_told" = true)
    (k19 : PySem.W.keepIn K (.ref f__law_told) = true)
    (a20 : PySem.W.nsIn K mainGlobals "_law_many" = some (some (.ref f__law_many)))
    (l20 : K.lookup f__law_many = some ⟨oc20, od20, .func (PySem.W.fnOf "_law_many" "_law_many" (defArgs s__law_many) (defBody s__law_many) (defScope s__law_many) .none kV20 dc20 pm20 an20 cd20 ct20), sl20⟩)
    (c20 : PySem.W.codeIn K cd20 "_law_many" = true)
    (k20 : PySem.W.keepIn K (.ref f__law_many) = true)
    (a21 : PySem.W.nsIn K mainGlobals "_law_once" = some (some (.ref f__law_once)))
    (l21 : K.lookup f__law_once = some ⟨oc21, od21, .func (PySem.W.fnOf "_law_once" "_law_once" (defArgs s__law_once) (defBody s__law_once) (defScope s__law_once) .none kV21 dc21 pm21 an21 cd21 ct21), sl21⟩)
    (c21 : PySem.W.codeIn K cd21 "_law_once" = true)
    (k21 : PySem.W.keepIn K (.ref f__law_once) = true)
    (aL : PySem.W.nsIn K mainGlobals "law" = some (some (.ref f_law)))
    (lL : K.lookup f_law = some ⟨ocL, odL, .func (PySem.W.fnOf "law" "law" (defArgs s_law) (defBody s_law) (defScope s_law) .none kVL dcL pmL anL (.ref cL) ctL), slL⟩)
    (cdL : PySem.W.codeIn K (.ref cL) "law" = true)
    (lC : K.lookup cL = some ⟨clC, ddC, .fields vsC, slC⟩)
    (vC : (vsC[11]? : Option Value) = some (.ref PL))
    (nP : K.lookup PL = none)
    (hC : PySem.W.codeHdIn K cL PL = true)
    (z_abs : PySem.W.nsIn K mainGlobals "abs" = some none)
    (z_all : PySem.W.nsIn K mainGlobals "all" = some none)
    (z_enumerate : PySem.W.nsIn K mainGlobals "enumerate" = some none)
    (z_int : PySem.W.nsIn K mainGlobals "int" = some none)
    (z_isinstance : PySem.W.nsIn K mainGlobals "isinstance" = some none)
    (z_len : PySem.W.nsIn K mainGlobals "len" = some none)
    (z_list : PySem.W.nsIn K mainGlobals "list" = some none)
    (z_range : PySem.W.nsIn K mainGlobals "range" = some none)
    (z_repr : PySem.W.nsIn K mainGlobals "repr" = some none)
    (z_sorted : PySem.W.nsIn K mainGlobals "sorted" = some none)
    (z_str : PySem.W.nsIn K mainGlobals "str" = some none)
    (z_tuple : PySem.W.nsIn K mainGlobals "tuple" = some none)
    (z_zip : PySem.W.nsIn K mainGlobals "zip" = some none)
    (gL : PySem.W.nsIn K mainGlobals "LETTERS" = some (some (.int 8 tkL)))
    : LawAtS l w K CX0 11 63 "script" mg fa h := by
  have e := hfa.symm.trans (PySem.W.mg_of X G aL)
  cases e
  have F_is_name := fun_mk (st := s_is_name) l0 c0 k0
  have b_is_name := F_is_name.binds (ps := ["value"]) fun _ _ _ _ _ _ us hl => match us, hl with | [_], _ => rfl
  have m_is_name := PySem.W.mg_of X G a0
  have F_thin_lot := fun_mk (st := s_thin_lot) l1 c1 k1
  have b_thin_lot := F_thin_lot.binds (ps := ["lot", "names"]) fun _ _ _ _ _ _ us hl => match us, hl with | [_, _], _ => rfl
  have m_thin_lot := PySem.W.mg_of X G a1
  have F_is_part := fun_mk (st := s_is_part) l2 c2 k2
  have b_is_part := F_is_part.binds (ps := ["lot", "other"]) fun _ _ _ _ _ _ us hl => match us, hl with | [_, _], _ => rfl
  have m_is_part := PySem.W.mg_of X G a2
  have F_is_lot := fun_mk (st := s_is_lot) l3 c3 k3
  have b_is_lot := F_is_lot.binds (ps := ["value"]) fun _ _ _ _ _ _ us hl => match us, hl with | [_], _ => rfl
  have m_is_lot := PySem.W.mg_of X G a3
  have F_is_tale := fun_mk (st := s_is_tale) l4 c4 k4
  have b_is_tale := F_is_tale.binds (ps := ["value"]) fun _ _ _ _ _ _ us hl => match us, hl with | [_], _ => rfl
  have m_is_tale := PySem.W.mg_of X G a4
  have F_least_laying := fun_mk (st := s_least_laying) l5 c5 k5
  have b_least_laying := F_least_laying.binds (ps := ["lots", "heard"]) fun _ _ _ _ _ _ us hl => match us, hl with | [_, _], _ => rfl
  have m_least_laying := PySem.W.mg_of X G a5
  have F_need_tales := fun_mk (st := s_need_tales) l6 c6 k6
  have m_need_tales := PySem.W.mg_of X G a6
  have F_stuck_at := fun_mk (st := s_stuck_at) l7 c7 k7
  have b_stuck_at := F_stuck_at.binds (ps := ["lots", "heard"]) fun _ _ _ _ _ _ us hl => match us, hl with | [_, _], _ => rfl
  have m_stuck_at := PySem.W.mg_of X G a7
  have F_need_laying := fun_mk (st := s_need_laying) l8 c8 k8
  have b_need_laying := F_need_laying.binds (ps := ["lots", "heard"]) fun _ _ _ _ _ _ us hl => match us, hl with | [_, _], _ => rfl
  have m_need_laying := PySem.W.mg_of X G a8
  have F_first_laying := fun_mk (st := s_first_laying) l9 c9 k9
  have b_first_laying := F_first_laying.binds (ps := ["lots", "heard"]) fun _ _ _ _ _ _ us hl => match us, hl with | [_, _], _ => rfl
  have m_first_laying := PySem.W.mg_of X G a9
  have F_last_laying := fun_mk (st := s_last_laying) l10 c10 k10
  have b_last_laying := F_last_laying.binds (ps := ["lots", "heard"]) fun _ _ _ _ _ _ us hl => match us, hl with | [_, _], _ => rfl
  have m_last_laying := PySem.W.mg_of X G a10
  have F_may_lie := fun_mk (st := s_may_lie) l11 c11 k11
  have b_may_lie := F_may_lie.binds (ps := ["lots", "heard"]) fun _ _ _ _ _ _ us hl => match us, hl with | [_, _], _ => rfl
  have m_may_lie := PySem.W.mg_of X G a11
  have F_count_layings := fun_mk (st := s_count_layings) l12 c12 k12
  have b_count_layings := F_count_layings.binds (ps := ["lots", "heard"]) fun _ _ _ _ _ _ us hl => match us, hl with | [_, _], _ => rfl
  have m_count_layings := PySem.W.mg_of X G a12
  have F__law_heap := fun_mk (st := s__law_heap) l13 c13 k13
  have b__law_heap := F__law_heap.binds (ps := ["script", "base"]) fun _ _ _ _ _ _ us hl => match us, hl with | [_, _], _ => rfl
  have m__law_heap := PySem.W.mg_of X G a13
  have F__law_draw := fun_mk (st := s__law_draw) l14 c14 k14
  have b__law_draw := F__law_draw.binds (ps := ["heap", "many"]) fun _ _ _ _ _ _ us hl => match us, hl with | [_, _], _ => rfl
  have m__law_draw := PySem.W.mg_of X G a14
  have F__law_pick := fun_mk (st := s__law_pick) l15 c15 k15
  have b__law_pick := F__law_pick.binds (ps := ["heap", "some"]) fun _ _ _ _ _ _ us hl => match us, hl with | [_, _], _ => rfl
  have m__law_pick := PySem.W.mg_of X G a15
  have F__law_tale := fun_mk (st := s__law_tale) l16 c16 k16
  have b__law_tale := F__law_tale.binds (ps := ["heap", "names", "most"]) fun _ _ _ _ _ _ us hl => match us, hl with | [_, _, _], _ => rfl
  have m__law_tale := PySem.W.mg_of X G a16
  have F__law_less := fun_mk (st := s__law_less) l17 c17 k17
  have b__law_less := F__law_less.binds (ps := ["heap", "lots"]) fun _ _ _ _ _ _ us hl => match us, hl with | [_, _], _ => rfl
  have m__law_less := PySem.W.mg_of X G a17
  have F__law_layings := fun_mk (st := s__law_layings) l18 c18 k18
  have b__law_layings := F__law_layings.binds (ps := ["lots", "heard"]) fun _ _ _ _ _ _ us hl => match us, hl with | [_, _], _ => rfl
  have m__law_layings := PySem.W.mg_of X G a18
  have F__law_told := fun_mk (st := s__law_told) l19 c19 k19
  have b__law_told := F__law_told.binds (ps := ["work"]) fun _ _ _ _ _ _ us hl => match us, hl with | [_], _ => rfl
  have m__law_told := PySem.W.mg_of X G a19
  have F__law_many := fun_mk (st := s__law_many) l20 c20 k20
  have b__law_many := F__law_many.binds (ps := ["lots", "heard"]) fun _ _ _ _ _ _ us hl => match us, hl with | [_, _], _ => rfl
  have m__law_many := PySem.W.mg_of X G a20
  have F__law_once := fun_mk (st := s__law_once) l21 c21 k21
  have b__law_once := F__law_once.binds (ps := ["numbers"]) fun _ _ _ _ _ _ us hl => match us, hl with | [_], _ => rfl
  have m__law_once := PySem.W.mg_of X G a21
  have n_abs := PySem.W.mg_none_of X G z_abs
  have n_all := PySem.W.mg_none_of X G z_all
  have n_enumerate := PySem.W.mg_none_of X G z_enumerate
  have n_int := PySem.W.mg_none_of X G z_int
  have n_isinstance := PySem.W.mg_none_of X G z_isinstance
  have n_len := PySem.W.mg_none_of X G z_len
  have n_list := PySem.W.mg_none_of X G z_list
  have n_range := PySem.W.mg_none_of X G z_range
  have n_repr := PySem.W.mg_none_of X G z_repr
  have n_sorted := PySem.W.mg_none_of X G z_sorted
  have n_str := PySem.W.mg_none_of X G z_str
  have n_tuple := PySem.W.mg_none_of X G z_tuple
  have n_zip := PySem.W.mg_none_of X G z_zip
  have g_L := PySem.W.mg_of X G gL
  have T_c : ErrC K mg "InvalidHeard" C fI_c := { gC := PySem.W.mg_of X G aC_c, cls := ⟨nm_c, q_c, N_c, bs_c, _, sn_c, sub_c, ab_c, col_c, dd_c, m0_c, m1_c, m2_c, m3_c, m5_c, xL_c, rfl⟩, sa := sa_c, ga := ga_c, gg := gg_c, noN := nb_c, iC := aI_c, tC := tI_c, kC := kC_c, exC := eC_c, tyC := tC_c, hdC := hC_c, te := PySem.W.exm_ref eC_c hC_c tC_c sC_c, fn := ⟨_, _, _, _, _, _, _, _, _, _, _, _, _, _, _, lI_c, cI_c⟩ }
  have T_r : ErrC K mg "Refused" R fI_r := { gC := PySem.W.mg_of X G aC_r, cls := ⟨nm_r, q_r, N_r, bs_r, _, sn_r, sub_r, ab_r, col_r, dd_r, m0_r, m1_r, m2_r, m3_r, m5_r, xL_r, rfl⟩, sa := sa_r, ga := ga_r, gg := gg_r, noN := nb_r, iC := aI_r, tC := tI_r, kC := kC_r, exC := eC_r, tyC := tC_r, hdC := hC_r, te := PySem.W.exm_ref eC_r hC_r tC_r sC_r, fn := ⟨_, _, _, _, _, _, _, _, _, _, _, _, _, _, _, lI_r, cI_r⟩ }
  have TI : IsC K R := ⟨iC_r, ga_r, gg_r, eC_r, x1_r, x2, x3, x4_r⟩
  have eRC : PySem.W.exmOne K (.ref R) (.ref C) = some false := PySem.W.exm_ref eC_c hC_c tC_c sRC
  refine ⟨PySem.W.fnOf "law" "law" (defArgs s_law) (defBody s_law) (defScope s_law) .none kVL dcL pmL anL (.ref cL) ctL, [(cL, PL)], spLaw K PL, fun p hp => ?_, fun p hp => ?_, fun p hp => ?_, fun s v => .of_eq rfl, fun H a ns hl _ hT hS => ⟨a, ns, rfl, hS, hl, hT (cL, PL) (List.mem_singleton.mpr rfl), fun _ => rfl⟩, fun base _ _ hTB => ?_⟩
  · rw [List.mem_singleton.mp hp]; exact own cL PL _ _ _ _ _ _ lL rfl rfl lC vC
  · rw [List.mem_singleton.mp hp]; exact nP
  · rw [List.mem_singleton.mp hp]; exact PySem.W.codeHd_of_K X hC
  have G_is_name := ok_is_name (P := l.prog) (w := w) (mg := mg) (base := base) F_is_name g_L n_isinstance n_len n_str
  have C_is_name : Hb.Cl l.prog w K mg base "is_name" ["value"] [] 1 (spIsName K) := ⟨_, _, [], G_is_name, m_is_name, k0, b_is_name, .nil⟩
  have G_thin_lot := ok_thin_lot (P := l.prog) (w := w) (mg := mg) (base := base) F_thin_lot n_tuple
  have C_thin_lot : Hb.Cl l.prog w K mg base "thin_lot" ["lot", "names"] [] 1 (spThin K) := ⟨_, _, [], G_thin_lot, m_thin_lot, k1, b_thin_lot, .nil⟩
  have G_is_part := ok_is_part (P := l.prog) (w := w) (mg := mg) (base := base) F_is_part C_thin_lot n_len
  have C_is_part : Hb.Cl l.prog w K mg base "is_part" ["lot", "other"] [] 2 (spPart K) := ⟨_, _, [], G_is_part, m_is_part, k2, b_is_part, .nil⟩
  have G_is_lot := ok_is_lot (P := l.prog) (w := w) (mg := mg) (base := base) F_is_lot C_is_name n_all n_isinstance n_len n_tuple n_zip
  have C_is_lot : Hb.Cl l.prog w K mg base "is_lot" ["value"] [] 2 (spIsLot K) := ⟨_, _, [], G_is_lot, m_is_lot, k3, b_is_lot, .nil⟩
  have G_is_tale := ok_is_tale (P := l.prog) (w := w) (mg := mg) (base := base) F_is_tale C_is_lot n_all n_isinstance n_tuple
  have C_is_tale : Hb.Cl l.prog w K mg base "is_tale" ["value"] [] 3 (spIsTale K) := ⟨_, _, [], G_is_tale, m_is_tale, k4, b_is_tale, .nil⟩
  have G_least_laying := ok_least (P := l.prog) (w := w) (mg := mg) (base := base) F_least_laying C_is_part n_len
  have C_least_laying : Hb.Cl l.prog w K mg base "least_laying" ["lots", "heard"] [] 3 (spLay K) := ⟨_, _, [], G_least_laying, m_least_laying, k5, b_least_laying, .nil⟩
  have G__law_heap := ok_heap (P := l.prog) (w := w) (mg := mg) (base := base) F__law_heap n_abs n_int
  have C__law_heap : Hb.Cl l.prog w K mg base "_law_heap" ["script", "base"] [] 1 (spDeal K) := ⟨_, _, [], G__law_heap, m__law_heap, k13, b__law_heap, .nil⟩
  have G__law_draw := ok_draw (P := l.prog) (w := w) (mg := mg) (base := base) F__law_draw n_int
  have C__law_draw : Hb.Cl l.prog w K mg base "_law_draw" ["heap", "many"] [] 1 (spDraw) := ⟨_, _, [], G__law_draw, m__law_draw, k14, b__law_draw, .nil⟩
  have G__law_pick := ok_pick (P := l.prog) (w := w) (mg := mg) (base := base) F__law_pick C__law_draw n_len
  have C__law_pick : Hb.Cl l.prog w K mg base "_law_pick" ["heap", "some"] [] 2 (spPick K) := ⟨_, _, [], G__law_pick, m__law_pick, k15, b__law_pick, .nil⟩
  have G__law_tale := ok_tale (P := l.prog) (w := w) (mg := mg) (base := base) F__law_tale C__law_draw C__law_pick n_range n_sorted n_tuple
  have C__law_tale : Hb.Cl l.prog w K mg base "_law_tale" ["heap", "names", "most"] [] 3 (spTale) := ⟨_, _, [], G__law_tale, m__law_tale, k16, b__law_tale, .nil⟩
  have G__law_less := ok_less (P := l.prog) (w := w) (mg := mg) (base := base) F__law_less C__law_draw C__law_pick n_len n_tuple
  have C__law_less : Hb.Cl l.prog w K mg base "_law_less" ["heap", "lots"] [] 3 (spLess K) := ⟨_, _, [], G__law_less, m__law_less, k17, b__law_less, .nil⟩
  have G__law_layings := ok_llay (P := l.prog) (w := w) (mg := mg) (base := base) F__law_layings n_len n_range
  have C__law_layings : Hb.Cl l.prog w K mg base "_law_layings" ["lots", "heard"] [] 1 (spLLay K) := ⟨_, _, [], G__law_layings, m__law_layings, k18, b__law_layings, .nil⟩
  have G__law_many := ok_many (P := l.prog) (w := w) (mg := mg) (base := base) F__law_many C__law_layings n_len n_range
  have C__law_many : Hb.Cl l.prog w K mg base "_law_many" ["lots", "heard"] [] 2 (spMany K) := ⟨_, _, [], G__law_many, m__law_many, k20, b__law_many, .nil⟩
  have G__law_once := ok_once (P := l.prog) (w := w) (mg := mg) (base := base) F__law_once 
  have C__law_once : Hb.Cl l.prog w K mg base "_law_once" ["numbers"] [] 1 (spOnce K) := ⟨_, _, [], G__law_once, m__law_once, k21, b__law_once, .nil⟩
  have G_need := ok_need (P := l.prog) (w := w) (mg := mg) (base := base) F_need_tales T_c C_is_tale n_enumerate
  have G_stuck_at := ok_stuck (P := l.prog) (w := w) (mg := mg) (base := base) F_stuck_at G_need m_need_tales k6 C_least_laying n_len
  have C_stuck_at : Cx_ l.prog w K mg base "stuck_at" ["lots", "heard"] 5 (spStuck K C) := ⟨_, _, G_stuck_at, m_stuck_at, k7, b_stuck_at⟩
  have G_need_laying := ok_needL (P := l.prog) (w := w) (mg := mg) (base := base) F_need_laying T_r C_stuck_at
  have C_need_laying : Cx_ l.prog w K mg base "need_laying" ["lots", "heard"] 6 (spNeedL K C R) := ⟨_, _, G_need_laying, m_need_laying, k8, b_need_laying⟩
  have G_first_laying := ok_first (P := l.prog) (w := w) (mg := mg) (base := base) F_first_laying C_need_laying C_least_laying n_tuple
  have C_first_laying : Cx_ l.prog w K mg base "first_laying" ["lots", "heard"] 7 (spFirst K C R) := ⟨_, _, G_first_laying, m_first_laying, k9, b_first_laying⟩
  have G_last_laying := ok_last (P := l.prog) (w := w) (mg := mg) (base := base) F_last_laying C_need_laying C_least_laying n_len n_tuple
  have C_last_laying : Cx_ l.prog w K mg base "last_laying" ["lots", "heard"] 7 (spLast K C R) := ⟨_, _, G_last_laying, m_last_laying, k10, b_last_laying⟩
  have G_may_lie := ok_may (P := l.prog) (w := w) (mg := mg) (base := base) F_may_lie C_first_laying C_last_laying C_is_part n_range n_tuple n_zip
  have G_count_layings := ok_count (P := l.prog) (w := w) (mg := mg) (base := base) F_count_layings C_need_laying C_is_part n_len n_zip
  have C_count_layings : Cx_ l.prog w K mg base "count_layings" ["lots", "heard"] 7 (spCount K C R) := ⟨_, _, G_count_layings, m_count_layings, k12, b_count_layings⟩
  have B_f := kb_fwd (ps := ["lots", "heard"]) (ks := ["lots", "heard"]) F_first_laying fun kV doc pm an cdv ct ws h => match ws, h with | [_, _], _ => rfl
  have B_m := kb_bwd (ps := ["lots", "heard"]) (ks := ["heard", "lots"]) F_may_lie fun kV doc pm an cdv ct ws h => match ws, h with | [_, _], _ => rfl
  have K_f : CkX l.prog w K mg base "first_laying" ["lots", "heard"] ["lots", "heard"] (fun _ zs => zs) 7 (spFirst K C R) := ⟨_, _, _, G_first_laying, m_first_laying, k9, B_f⟩
  have K_m : CkX l.prog w K mg base "may_lie" ["lots", "heard"] ["heard", "lots"] (fun _ zs => zs.reverse) 8 (spMay K C R) := ⟨_, _, _, G_may_lie, m_may_lie, k11, B_m⟩
  have R_first_laying : DfX l.prog w K mg base 8 f_first_laying (spRefu K R) := .of G_first_laying k9 b_first_laying (by decide) fun vs H Q E z => refu_first z
  have U_first_laying : DfX l.prog w K mg base 8 f_first_laying (spBad K C) := .of G_first_laying k9 b_first_laying (by decide) fun vs H Q E z => bad_first z
  have R_last_laying : DfX l.prog w K mg base 8 f_last_laying (spRefu K R) := .of G_last_laying k10 b_last_laying (by decide) fun vs H Q E z => refu_last z
  have U_last_laying : DfX l.prog w K mg base 8 f_last_laying (spBad K C) := .of G_last_laying k10 b_last_laying (by decide) fun vs H Q E z => bad_last z
  have R_may_lie : DfX l.prog w K mg base 8 f_may_lie (spRefu K R) := .of G_may_lie k11 b_may_lie (by decide) fun vs H Q E z => refu_may z
  have U_may_lie : DfX l.prog w K mg base 8 f_may_lie (spBad K C) := .of G_may_lie k11 b_may_lie (by decide) fun vs H Q E z => bad_may z
  have R_count_layings : DfX l.prog w K mg base 8 f_count_layings (spRefu K R) := .of G_count_layings k12 b_count_layings (by decide) fun vs H Q E z => refu_count z
  have U_count_layings : DfX l.prog w K mg base 8 f_count_layings (spBad K C) := .of G_count_layings k12 b_count_layings (by decide) fun vs H Q E z => bad_count z
  have U_stuck_at : DfX l.prog w K mg base 8 f_stuck_at (spBad K C) := .of G_stuck_at k7 b_stuck_at (by decide) fun vs H Q E z => bad_stuck z
  refine ok_law (P := l.prog) (w := w) (mg := mg) (base := base) lL cdL (hTB (cL, PL) (List.mem_singleton.mpr rfl)) F__law_told b__law_told m__law_told T_c T_r TI kRC eRC m_first_laying m_last_laying m_may_lie m_count_layings m_stuck_at (fun f hf => ?R) (fun f hf => ?U) C__law_draw C__law_heap C__law_layings C__law_less C__law_many C__law_once C__law_pick C__law_tale C_count_layings C_is_lot C_is_tale C_last_laying C_stuck_at K_f K_m n_len n_list n_range n_repr n_sorted n_tuple n_isinstance
  case R =>
    simp only [List.mem_cons, List.not_mem_nil, or_false] at hf
    rcases hf with rfl | rfl | rfl | rfl <;> assumption
  case U =>
    simp only [List.mem_cons, List.not_mem_nil, or_false] at hf
    rcases hf with rfl | rfl | rfl | rfl | rfl <;> assumption
theorem walk {l : PySem.W.OpenLaw} {q : Program} {loose : List Str} {XP : (Str → Option Value) → Heap → Prop} {YP : World → Heap → Prop} {d : DefRec} {K : Params → PySem.W.Frag} (hn : l.most = some 63) (hdf : d.params.defaults = []) (hrec : ((recsOf q).any fun e => e.name == d.name) = true)
    (hY : ∀ (w : World) (h : Heap), YP w h → (K w.params).In h)
    (F : ∀ (w : World) (mg : Str → Option Value) (fa : Addr) (h : Heap), (K w.params).In h → h.Ns mainGlobals mg → mg d.name = some (.ref fa) → OwnTab (K w.params) fa h → LawAtS l w (K w.params) CX0 11 63 "script" mg fa h) :
    PySem.W.WalkO q loose XP YP l.row.toRowW d [] (fun f vs => PySem.call f vs) :=
  walk_ofOwn (n := 63) (k := 11) (x := "script") (CX := fun _ => CX0) hn (by decide) hdf ⟨rfl, by decide, by decide⟩ hrec hY (fun w mg fa h _ KX G hm own => F w mg fa h KX G hm own) fun _ _ _ _ _ z => z
end K6
open PySem PySem.W PyProof.Rows
set_option maxRecDepth 100000 in
set_option maxHeartbeats 0 in
theorem PySem.Challenge.cw_curvebells_k86_whole_layings_of_heard_lo_holds : PySem.Challenge.rw_curvebells_k86_whole_layings_of_heard_lo.Holds := by
  w_on; o_law; k_head; (case hw => w_witness2)
  k_fill
  refine K6.walk (l := PySem.Challenge.rw_curvebells_k86_whole_layings_of_heard_lo) rfl rfl ?hrec (fun w h Y => PySem.W.km_in_of Y) ?F
  case hrec => first | rfl | decide +kernel | k_is
  case F =>
    intro w mg fa h KX G hmg own
    refine' K6.all_mk KX G hmg own ?aB ?aC_c ?xL_c ?sa_c ?ga_c ?gg_c ?nb_c ?aI_c ?tI_c ?lI_c ?cI_c ?kC_c ?eC_c ?tC_c ?hC_c ?iC_c ?sC_c ?x1_c ?x4_c ?aC_r ?xL_r ?sa_r ?ga_r ?gg_r ?nb_r ?aI_r ?tI_r ?lI_r ?cI_r ?kC_r ?eC_r ?tC_r ?hC_r ?iC_r ?sC_r ?x1_r ?x4_r ?x2 ?x3 ?kRC ?sRC ?a0 ?l0 ?c0 ?k0 ?a1 ?l1 ?c1 ?k1 ?a2 ?l2 ?c2 ?k2 ?a3 ?l3 ?c3 ?k3 ?a4 ?l4 ?c4 ?k4 ?a5 ?l5 ?c5 ?k5 ?a6 ?l6 ?c6 ?k6 ?a7 ?l7 ?c7 ?k7 ?a8 ?l8 ?c8 ?k8 ?a9 ?l9 ?c9 ?k9 ?a10 ?l10 ?c10 ?k10 ?a11 ?l11 ?c11 ?k11 ?a12 ?l12 ?c12 ?k12 ?a13 ?l13 ?c13 ?k13 ?a14 ?l14 ?c14 ?k14 ?a15 ?l15 ?c15 ?k15 ?a16 ?l16 ?c16 ?k16 ?a17 ?l17 ?c17 ?k17 ?a18 ?l18 ?c18 ?k18 ?a19 ?l19 ?c19 ?k19 ?a20 ?l20 ?c20 ?k20 ?a21 ?l21 ?c21 ?k21 ?aL ?lL ?cdL ?lC ?vC ?nP ?hC ?z_abs ?z_all ?z_enumerate ?z_int ?z_isinstance ?z_len ?z_list ?z_range ?z_repr ?z_sorted ?z_str ?z_tuple ?z_zip ?gL
    (case aB => k_is)
    (case aC_c => k_is)
    (case xL_c => k_is)
    (case sa_c => k_is)
    (case ga_c => k_is)
    (case gg_c => k_is)
    (case nb_c => k_is)
    (case aI_c => k_is)
    (case tI_c => k_is)
    (case lI_c => k_is)
    (case cI_c => k_is)
    (case kC_c => k_is)
    (case eC_c => k_is)
    (case tC_c => k_is)
    (case hC_c => k_is)
    (case iC_c => show PySem.W.isClsIn _ _ = true; k_is)
    (case sC_c => first | rfl | k_is)
    (case x1_c => k_is)
    (case x4_c => k_is)
    (case aC_r => k_is)
    (case xL_r => k_is)
    (case sa_r => k_is)
    (case ga_r => k_is)
    (case gg_r => k_is)
    (case nb_r => k_is)
    (case aI_r => k_is)
    (case tI_r => k_is)
    (case lI_r => k_is)
    (case cI_r => k_is)
    (case kC_r => k_is)
    (case eC_r => k_is)
    (case tC_r => k_is)
    (case hC_r => k_is)
    (case iC_r => show PySem.W.isClsIn _ _ = true; k_is)
    (case sC_r => first | rfl | k_is)
    (case x1_r => k_is)
    (case x4_r => k_is)
    (case x2 => k_is)
    (case x3 => k_is)
    (case kRC => kit_is)
    (case sRC => k_is)
    (case a0 => k_is)
    (case l0 => k_is)
    (case c0 => k_is)
    (case k0 => k_is)
    (case a1 => k_is)
    (case l1 => k_is)
    (case c1 => k_is)
    (case k1 => k_is)
    (case a2 => k_is)
    (case l2 => k_is)
    (case c2 => k_is)
    (case k2 => k_is)
    (case a3 => k_is)
    (case l3 => k_is)
    (case c3 => k_is)
    (case k3 => k_is)
    (case a4 => k_is)
    (case l4 => k_is)
    (case c4 => k_is)
    (case k4 => k_is)
    (case a5 => k_is)
    (case l5 => k_is)
    (case c5 => k_is)
    (case k5 => k_is)
    (case a6 => k_is)
    (case l6 => k_is)
    (case c6 => k_is)
    (case k6 => k_is)
    (case a7 => k_is)
    (case l7 => k_is)
    (case c7 => k_is)
    (case k7 => k_is)
    (case a8 => k_is)
    (case l8 => k_is)
    (case c8 => k_is)
    (case k8 => k_is)
    (case a9 => k_is)
    (case l9 => k_is)
    (case c9 => k_is)
    (case k9 => k_is)
    (case a10 => k_is)
    (case l10 => k_is)
    (case c10 => k_is)
    (case k10 => k_is)
    (case a11 => k_is)
    (case l11 => k_is)
    (case c11 => k_is)
    (case k11 => k_is)
    (case a12 => k_is)
    (case l12 => k_is)
    (case c12 => k_is)
    (case k12 => k_is)
    (case a13 => k_is)
    (case l13 => k_is)
    (case c13 => k_is)
    (case k13 => k_is)
    (case a14 => k_is)
    (case l14 => k_is)
    (case c14 => k_is)
    (case k14 => k_is)
    (case a15 => k_is)
    (case l15 => k_is)
    (case c15 => k_is)
    (case k15 => k_is)
    (case a16 => k_is)
    (case l16 => k_is)
    (case c16 => k_is)
    (case k16 => k_is)
    (case a17 => k_is)
    (case l17 => k_is)
    (case c17 => k_is)
    (case k17 => k_is)
    (case a18 => k_is)
    (case l18 => k_is)
    (case c18 => k_is)
    (case k18 => k_is)
    (case a19 => k_is)
    (case l19 => k_is)
    (case c19 => k_is)
    (case k19 => k_is)
    (case a20 => k_is)
    (case l20 => k_is)
    (case c20 => k_is)
    (case k20 => k_is)
    (case a21 => k_is)
    (case l21 => k_is)
    (case c21 => k_is)
    (case k21 => k_is)
    (case aL => k_is)
    (case lL => k_is)
    (case cdL => k_is)
    (case lC => k_is)
    (case vC => rfl)
    (case nP => first | rfl | kernel_rfl)
    (case hC => first | rfl | kernel_rfl)
    (case z_abs => k_is)
    (case z_all => k_is)
    (case z_enumerate => k_is)
    (case z_int => k_is)
    (case z_isinstance => k_is)
    (case z_len => k_is)
    (case z_list => k_is)
    (case z_range => k_is)
    (case z_repr => k_is)
    (case z_sorted => k_is)
    (case z_str => k_is)
    (case z_tuple => k_is)
    (case z_zip => k_is)
    (case gL => k_is)
