import PyProof.Rows.All
import Wide.All
import OpenK.AllK
import Wide.FinOn
import HandS.ForMost
import HandS.Wide
import HandS.Defaults
import HandS.ForExc
import HandS.ExcField
import HandS.ExcIs
import HandS.IsInst
import HandS.StrMore
import HandS.Gcd
import HandS.FStr
import HandS.Evl
import HandS.TupAny
import HandS.Rev
import HandS.Zip
import HandS.More
import KE.KExcInit
import KE.KExcIs
import KE.IntTextLaws
import KE.GoesMore
import KE.GoesEnum
import KE.IntTextText
import PyProof.Rows.StrFirst
import PyProof.ReprRoads
import PyProof.ReprReads
import PyProof.CallFns
import PySem.Challenge.RW_curvebells_k03_curves_reckoned_and_writt
set_option Elab.async false
set_option linter.all false
set_option maxRecDepth 100000
set_option maxHeartbeats 4000000
namespace Hb
open PySem PySem.Spec PyProof.Rows L2
/-! ### heaps -/
theorem same_new {H : Hp} {p : Addr} (h : H p = none) (o : HO) : Same H (upd H p o) := fun b u q => by
  rw [upd_ne (ne_of_none q h)]
  exact q
/-- a new object -/
theorem new_at {H : Hp} {p : Addr} {o : HO} {G : Hp → Prop} (h : H p = none) (k : ∀ H', Same H H' → H' p = some o → G H') : G (upd H p o) := k _ (same_new h o) upd_same
/-- a new tuple, a new list as the value of a display -/
theorem tup_at {H : Hp} {xs : List V} {Q : VK} (hl : xs.length ≤ 1000) (k : ∀ p H', H p = none → Same H H' → H' p = some (.tup xs) → Q (.ref p) H') : xs.length ≤ sizeLine ∧ ∀ p, H p = none → Q (.ref p) (upd H p (.tup xs)) :=
  ⟨Nat.le_trans hl (by decide), fun p hp => k p _ hp (same_new hp _) upd_same⟩
theorem lst_at {H : Hp} {xs : List V} {Q : VK} (hl : xs.length ≤ 1000) (k : ∀ p H', H p = none → Same H H' → H' p = some (.lst xs) → Q (.ref p) H') : xs.length ≤ sizeLine ∧ ∀ p, H p = none → Q (.ref p) (upd H p (.lst xs)) :=
  ⟨Nat.le_trans hl (by decide), fun p hp => k p _ hp (same_new hp _) upd_same⟩
/-- all but the object at p is as it was -/
def Kept (p : Addr) (H H' : Hp) : Prop := ∀ b o, H b = some o → b ≠ p → H' b = some o
theorem Same.kept {H H' : Hp} {p : Addr} (h : Same H H') : Kept p H H' := fun b o e _ => h b o e
theorem Kept.refl (p : Addr) (H : Hp) : Kept p H H := fun _ _ h _ => h
theorem Kept.trans {p : Addr} {H H1 H2 : Hp} (a : Kept p H H1) (b : Kept p H1 H2) : Kept p H H2 := fun c o h n => b c o (a c o h n) n
theorem kept_upd {p : Addr} {H : Hp} {o : HO} : Kept p H (upd H p o) := fun b u e n => by rw [upd_ne n]; exact e
/-- a tuple stays where the list at p changes -/
theorem Kept.tup {p t : Addr} {H H' : Hp} {xs ys : List V} (k : Kept p H H') (hp : H p = some (.lst ys)) (h : H t = some (.tup xs)) : H' t = some (.tup xs) := k t _ h (ne_of h hp (by intro z; cases z))

/-! ### tests -/
theorem iteD {c A B : Prop} [Decidable c] (h1 : c → A) (h2 : ¬ c → B) : if decide c = true then A else B := by
  by_cases h : c
  · rw [decide_eq_true h]
    exact iteT (h1 h)
  · rw [decide_eq_false h]
    exact iteF (h2 h)
theorem iteN {c A B : Prop} [Decidable c] (h1 : ¬ c → A) (h2 : c → B) : if (!decide c) = true then A else B := by
  by_cases h : c
  · rw [decide_eq_true h]
    exact iteF (h2 h)
  · rw [decide_eq_false h]
    exact iteT (h1 h)
theorem divw {i j : Int} (h0 : 0 < j) (h : j < 2 ^ 100) : CDivW i j := wide_div (b := 100) h0 (by omega) (by decide) (by decide)

/-! ### the defs of a text, by their promises -/
structure Cl (P : Program) (w : World) (K : PySem.W.Frag) (mg : Str → Option Value) (base : Heap) (x : Str) (ps : List Str) (dvs : List V) (lv : Nat) (sp : Sp) : Prop where
  ex : ∃ (f : Addr) (fd : FuncData) (ds : List Value), FnOk P w K mg base CX0 lv f fd ps sp ∧ mg x = some (.ref f) ∧ PySem.W.keepIn K (.ref f) = true ∧ Binds K fd ps ds ∧ Vals dvs ds
section
variable {X : Cx} {ps : List Str} {dvs : List V} {lv : Nat} {sp : Sp} {x : Str} {p pos : Pos} {e : Expr} {es : List Expr} {t : TA}
theorem pe_use (C : Cl X.prog X.w X.K X.mg X.base x ps dvs lv sp) (hr : Room lv X.A) (hg : Gl X x) (ha : PA X (e :: es) t) (hdb : (x == ("__debug__" : Str)) = false := by decide)
    (he : starEach (e :: es) X.env = (false, eval e X.env) :: starEach es X.env := by rfl) (hpl : (backTo pos (starEach es X.env)).any (·.1) = false := by rfl) : PE X (.Call (.Name x p) (e :: es) [] pos) (tCall sp dvs E0 t) := by
  obtain ⟨f, fd, ds, F, hm, hk, hb, hd⟩ := C.ex
  exact pe_call F hr hg hm hk hb hd pass0 ha hdb he hpl
theorem pe_use0 (C : Cl X.prog X.w X.K X.mg X.base x ps dvs lv sp) (hr : Room lv X.A) (hg : Gl X x) (hdb : (x == ("__debug__" : Str)) = false := by decide) : PE X (.Call (.Name x p) [] [] pos) (tCall sp dvs E0 tNil) := by
  obtain ⟨f, fd, ds, F, hm, hk, hb, hd⟩ := C.ex
  exact pe_call0 F hr hg hm hk hb hd pass0 hdb
end
/-- f(k = v, ..) without a value by place -/
structure ClK (P : Program) (w : World) (K : PySem.W.Frag) (mg : Str → Option Value) (base : Heap) (x : Str) (ps : List Str) (n : Nat) (ks : List Str) (gV : List V → List V → List V) (lv : Nat) (sp : Sp) : Prop where
  ex : ∃ (f : Addr) (fd : FuncData) (g : List Value → List Value → List Value), FnOk P w K mg base CX0 lv f fd ps sp ∧ mg x = some (.ref f) ∧ PySem.W.keepIn K (.ref f) = true ∧ KBn K fd ps n ks g gV
section
variable {X : Cx} {ps ks : List Str} {n : Nat} {gV : List V → List V → List V} {lv : Nat} {sp : Sp} {x : Str} {p pos : Pos} {e : Expr} {es : List Expr} {t tk : TA} {kws : List Keyword}
theorem pe_useK0 (C : ClK X.prog X.w X.K X.mg X.base x ps 0 ks gV lv sp) (hr : Room lv X.A) (hg : Gl X x) (hkw : PK X kws tk) (hall : (backToKw pos (keywordEach kws X.env)).all (·.1.isSome) = true := by rfl) (hks : (backToKw pos (keywordEach kws X.env)).filterMap (·.1) = ks := by rfl)
    (hdb : (x == ("__debug__" : Str)) = false := by decide) (hpl : ((backTo pos (starEach [] X.env)).any (·.1) || (backToKw pos (keywordEach kws X.env)).any (·.1.isNone)) = false := by rfl) :
    PE X (.Call (.Name x p) [] kws pos) (tCallN 0 ks.length sp gV E0 tNil tk) := by
  obtain ⟨f, fd, g, F, hm, hk, hb⟩ := C.ex
  refine ⟨fun pins s σ H Q I h => ?_⟩
  refine wpAny_Call_Name_kw (ld_glob I hg hm ?_ hdb)
  refine PySem.W.callWith_KW0 (h₀ := X.base) I.ok.mod.kin hk hall ?_ hpl
  refine thn (hkw.run pos pins s σ H _ I h) fun ws s2 ⟨zs, H2, I2, rz, l1, l2, q2⟩ => ⟨I2.kIn, ?_⟩
  rw [hks]
  exact run_fnN (us := []) (vs := []) F hr hb pass0 I2 .nil rz rfl l2 q2
theorem pe_useK (C : ClK X.prog X.w X.K X.mg X.base x ps n ks gV lv sp) (hr : Room lv X.A) (hg : Gl X x) (ha : PA X (e :: es) t) (hkw : PK X kws tk) (hall : (backToKw pos (keywordEach kws X.env)).all (·.1.isSome) = true := by rfl)
    (hks : (backToKw pos (keywordEach kws X.env)).filterMap (·.1) = ks := by rfl)
    (hdb : (x == ("__debug__" : Str)) = false := by decide) (he : starEach (e :: es) X.env = (false, eval e X.env) :: starEach es X.env := by rfl)
    (hpl : ((backTo pos (starEach (e :: es) X.env)).any (·.1) || (backToKw pos (keywordEach kws X.env)).any (·.1.isNone)) = false := by rfl) :
    PE X (.Call (.Name x p) (e :: es) kws pos) (tCallN n ks.length sp gV E0 t tk) := by
  obtain ⟨f, fd, g, F, hm, hk, hb⟩ := C.ex
  exact pe_callN F hr hg hm hk hb pass0 ha hkw hall hks hdb he hpl
end
/-- positional and keyword arguments that fill all parameters of a def with defaults -/
theorem kb_full {K : PySem.W.Frag} {x qual : Str} {params : Arguments} {body : List Stmt} {scope : Scope} {dvs : List V} {f : Addr} {fd : FuncData} {ps : List Str} (F : FunD K x qual params body scope dvs [] f fd) (n : Nat) (ks : List Str) (g : {α : Type} → List α → List α → List α → List α) (hd : dvs ≠ [])
    (hrel : ∀ {vs ds zs : List V} {us its ws : List Value}, Vals vs us → Vals ds its → Vals zs ws → Vals (g vs ds zs) (g us its ws))
    (h : ∀ (T : Addr) (kV doc pm : Value) (an : Option Addr) (cdv ct : Value) (us its ws : List Value), us.length = n → its.length = dvs.length → ws.length = ks.length →
      ∃ k, bindArgs (PySem.W.fnOf x qual params body scope (.ref T) kV doc pm an cdv ct) ⟨us, ks.zip ws⟩ = seqItems? (.ref T) >>= k ∧ k (some its.toArray) = pure (ps.zip (g us its ws))) :
    ∃ its : List Value, KBn K fd ps n ks (fun us ws => g us its ws) (fun vs zs => g vs dvs zs) := by
  obtain ⟨oc, od, dV, kV, doc, pm, an, cdv, ct, osl, rfl, lk, hcd, hD, hK⟩ := F.ex
  rcases hD with ⟨e, _⟩ | ⟨_, T, o, its, m, rfl, lT, oT, rT⟩
  · exact absurd e hd
  · refine ⟨its, ⟨fun s us ws X l1 l2 => ?_, fun r1 r2 => hrel r1 rT r2⟩⟩
    obtain ⟨k, e1, e2⟩ := h T kV doc pm an cdv ct us its ws l1 rT.length.symm l2
    refine BindsTo.of_looks fun M => ?_
    rw [e1]
    exact looks_items X lT oT (.of_pure e2)
end Hb

/-! errors of classes of the program's own, over Exception through other own classes, whose __init__ keeps one thing: self.at = at -/
namespace Xb
open PySem PySem.W PySem.Calls PyProof.Rows PySem.HandSPX
abbrev exB : List Value := [.type "Exception", .type "BaseException", .type "object"]
def iA (p1 p2 : Pos) : Arguments := { posonlyargs := [], args := [{ arg := "self", annotation := none, pos := p1 }, { arg := "at", annotation := none, pos := p2 }], vararg := none, kwonlyargs := [], kw_defaults := [], kwarg := none, defaults := [] }
def iB (q1 q2 q3 q4 : Pos) : List Stmt := [.Assign [.Attribute (.Name "self" q1) "at" q2] (.Name "at" q3) q4]
def iS : Scope := { kind := .function, names := [(PySem.Str.ofString "self", .local), (PySem.Str.ofString "at", .local)], isGenerator := false, isCoroutine := false, more := [] }
/-- what the written part says of the class cn, at C, and of its __init__, at fI -/
structure ErrC (K : Frag) (mg : Str → Option Value) (cn : Str) (C fI : Addr) : Prop where
  gC : mg cn = some (.ref C)
  cls : ∃ nm q N bs bm sn sub ab col dd k0 k1 k2 k3 k5, K.lookup C = some (excClassObj nm q C N bs bm true sn sub ab col dd k0 k1 k2 k3 k5 "Exception.__new__") ∧ excTail exB bm = true
  sa : findIn K (.ref C) "__setattr__" = some (some (.builtin "object.__setattr__"))
  ga : findIn K (.ref C) "__getattribute__" = some (some (.builtin "BaseException.__getattribute__"))
  gg : findIn K (.ref C) "__getattr__" = some none
  noN : findIn K (.ref C) "at" = some none
  iC : findIn K (.ref C) "__init__" = some (some (.ref fI))
  tC : typeIn K (.ref fI) = some (.type "function")
  kC : keepIn K (.ref C) = true
  exC : subIn K (.ref C) (.type "BaseException") = some true
  tyC : typeIn K (.ref C) = some (.type "type")
  hdC : hasDictIn K C = true
  te : exmOne K (.ref C) (.ref C) = some true
  fn : ∃ (oc : Value) (od : Option Addr) (qn : Str) (doc pm : Value) (an : Option Addr) (cdv ct : Value) (osl : Array (Option Value)) (p1 p2 q1 q2 q3 q4 : Pos),
    K.lookup fI = some ⟨oc, od, .func (fnOf "__init__" qn (iA p1 p2) (iB q1 q2 q3 q4) iS .none .none doc pm an cdv ct), osl⟩ ∧ codeIn K cdv qn = true
theorem one_size (v : Value) : [v].length ≤ sizeLine := by
  rw [sizeLine_eq]
  exact (by decide : 1 ≤ 16777216)
theorem at_local {M : Model} {s : Shared} {name : Str} {scope : Scope} {L a : Addr} {cd : Value} {m : Str → Option Value} {x : Str} {pos : Pos} {v : Value} {Q : Value → Shared → Prop} {A : Around} {E : Value → Shared → Prop} (hn : s.heap.Ns L m) (hv : m x = some v) (h : Q v s)
    (hk : scope.kind = .function := by rfl) (hl : (envOfC name scope L a cd).kindOf x = some .local := by rfl) (hd : (x == ("__debug__" : Str)) = false := by decide) :
    wpAny M A (eval (.Name x pos) (envOfC name scope L a cd)) Q E s := wpAny_Name (wpAny_loadName_local hk hl hn hv h) hd
/-- what __init__ leaves of a fresh exception at x -/
structure Ended (h h' : Heap) (x C dx t1 : Addr) (v : Value) : Prop where
  keep : ∀ b o, b ≠ x → h.get? b = some o → h'.get? b = some o
  obj : h'.get? x = some { cls := .ref C, dict := some dx, data := .fields #[.ref t1, .none, .none, .none, .bool false, .none] }
  dbig : h.objs.size ≤ dx
  dne : dx ≠ x
  ns : h'.Ns1 dx (fun y => if y = "at" then some v else none)
structure Made (h h' : Heap) (e C d : Addr) (v : Value) : Prop where
  keep : ∀ b o, h.get? b = some o → h'.get? b = some o
  new : h.objs.size ≤ e
  obj : ∃ oe vs, h'.get? e = some oe ∧ oe.cls = .ref C ∧ oe.dict = some d ∧ oe.data = .fields vs ∧ vs[1]? = some .none
  dbig : h.objs.size ≤ d
  dne : d ≠ e
  ns : h'.Ns1 d (fun y => if y = "at" then some v else none)
section
open Builtin Builtin.ObjectAttr
variable {prog : Program} {w : World} {A : Around} {E : Value → Shared → Prop} {R : Result → Shared → Prop} {K : Frag} {mg : Str → Option Value} {cn : Str} {C fI : Addr}
/-- the first store to such an exception: it gets its dict -/
theorem first_store {hp : Heap} {g : Array GenState} {d : Drawn} {t : Nat} {os : OsState} {name : Str} {tk : Tok} {v : Value} {x : Addr} {fv : Array Value} {cd : ClassData}
    (X : K.In hp) (hx : hp.get? x = some { cls := .ref C, data := .fields fv }) (hcd : clsIn K C = some cd) (ho : excOver K C exB = true) (hh : cd.hasDict = true) (ha : findIn K (.ref C) name = some none)
    (hq : ∀ h' tk' dx, (∀ b o, b ≠ x → hp.get? b = some o → h'.get? b = some o) → hp.objs.size ≤ dx → dx ≠ x → h'.get? x = some { cls := .ref C, dict := some dx, data := .fields fv } →
      h'.Ns1 dx (fun y => if y = name then some v else none) → R (.ok (.ret .none)) ⟨h', g, d, tk', os⟩) :
    codeAny (model prog w) A (.call (.builtin "object.__setattr__") ⟨[.ref x, .str name tk, v], []⟩) R ⟨hp, g, d, t, os⟩ := by
  have I : InstAt hp x { cls := .ref C, data := .fields fv } C none := ⟨hx, rfl, rfl, trivial⟩
  have nx : x ≠ hp.objs.size := Nat.ne_of_lt (Heap.lt_size hx)
  refine osa_openX (r := none) F.store_Exception X I ho (by unfold takerIn; rw [ha]; rfl) fun b => ?_
  show wpAny _ _ (storeInOwnDict (.ref x) (.ref C) (.str name tk) name v b) _ _ _
  have hC : Looks (model prog w) hp (classData C) cd := looks_clsIn X hcd
  obtain ⟨_, _, _, _, _, hd, _, _, _, _, _⟩ := cd
  dsimp only at hh
  subst hh
  unfold storeInOwnDict ownDictForStores
  repeat (first | with_reducible refine wpAny_loadPart_at hx ?_ | with_reducible refine hC.at ?_ | with_reducible refine HandSPX.store_in_new ?_ ?_ | wp_step)
  · exact ⟨_, #[], _, (Heap.get?_update_ne _ _ _ _ nx.symm).trans (Heap.get?_push_at rfl rfl), rfl, fun e he => absurd he (by simp), fun _ => rfl⟩
  · intro h' tk' hn' hs
    have old : (hp.push { cls := .type "dict", data := .dict #[] }).get? x = some { cls := .ref C, data := .fields fv } := Heap.get?_push_of_some _ hx
    refine hq h' tk' hp.objs.size (fun b o hb ho => ?_) (Nat.le_refl _) nx.symm ?_ hn'
    · exact (hs.2 b (Nat.ne_of_lt (Heap.lt_size ho))).trans ((Heap.get?_update_ne _ _ _ _ hb).trans (Heap.get?_push_of_some _ ho))
    · exact (hs.2 x nx).trans (Heap.get?_update_self _ old rfl)
theorem err_init (T : ErrC K mg cn C fI) {s : Shared} {x t0 : Addr} {v : Value} (X : K.In s.heap) (hlim : s.heap.NoLimit) (hx : s.heap.get? x = some (excO C t0)) (hroom : A.depth < recursionLimit)
    (hq : ∀ h' tk dx, Ended s.heap h' x C dx t0 v → R (.ok (.ret .none)) { s with heap := h', toks := tk }) :
    codeAny (model prog w) A (.call (.ref fI) ⟨[.ref x, v], []⟩) R s := by
  obtain ⟨oc, od, qn, doc, pm, an, cdv, ct, osl, p1, p2, q1, q2, q3, q4, ho, hcd⟩ := T.fn
  obtain ⟨nm, q, N, bs, bm, sn, sub, ab, col, dd, k0, k1, k2, k3, k5, hC, hbm⟩ := T.cls
  have hcl : clsIn K C = some { name := nm, bases := bs, mro := .ref C :: bm, ns := N, qualname := q, hasDict := true, slotNames := sn, subclasses := sub, abstract := ab, collection := col, hasDel := false } := by unfold clsIn; rw [hC] <;> rfl
  have over : excOver K C exB = true := by
    unfold excOver
    rw [hcl]
    show ((C == C) && excTail exB bm) = true
    rw [hbm, beq_self_eq_true]
    rfl
  refine Att.call_fn (binds := [("self", .ref x), ("at", v)]) X hlim ho hcd hroom (BindsTo.of_eq (by first | rfl | with_unfolding_all rfl)) (by first | rfl | decide | with_unfolding_all rfl) (fun s₁ IC => ?_) rfl rfl rfl
  obtain ⟨h₁, tk₁, rfl⟩ := IC.toInCall.same
  have k : ∀ b o, s.heap.get? b = some o → h₁.get? b = some o := IC.toInCall.keep
  have hn := IC.toInCall.ns
  have X₁ : K.In h₁ := X.keeps k
  have hx₁ := k _ _ hx
  show wpAny _ _ (execs _ _) _ _ _
  refine wpAny_execs_cons (plainObj_wpAny_Assign_Attribute ?_)
  refine at_local (v := v) hn (by first | rfl | with_unfolding_all rfl | kernel_rfl) (at_local (v := .ref x) hn (by first | rfl | with_unfolding_all rfl | kernel_rfl) ?_)
  refine set_plain X₁ (ox := excO C t0) (od := none) ⟨hx₁, rfl, rfl, trivial⟩ T.sa ?_
  refine first_store X₁ hx₁ hcl over rfl T.noN (fun h₃ tk₃ dx k₃ dn dne hx₃ hn₃ => ?_)
  show wpAny _ _ (execs _ _) _ _ _
  have z : s.heap.objs.size < h₁.objs.size := hn.lt
  exact wpAny_execs_nil (hq h₃ tk₃ dx ⟨fun b o hb e => k₃ b o hb (k b o e), hx₃, Nat.le_of_lt (Nat.lt_of_lt_of_le z dn), dne, hn₃⟩)
theorem err_made (T : ErrC K mg cn C fI) {s : Shared} {v : Value} (X : K.In s.heap) (hlim : s.heap.NoLimit) (hroom : A.depth + 1 < recursionLimit)
    (hq : ∀ h' tk e d, Made s.heap h' e C d v → R (.ok (.ret (.ref e))) { s with heap := h', toks := tk }) :
    codeAny (model prog w) A (.call (.ref C) ⟨[v], []⟩) R s := by
  obtain ⟨nm, q, N, bs, bm, sn, sub, ab, col, dd, k0, k1, k2, k3, k5, hC, hbm⟩ := T.cls
  obtain ⟨hp, g, dr, tk, os⟩ := s
  have k : ∀ b o, hp.get? b = some o → ((hp.push (kdv_tup [v])).push (excO C hp.objs.size)).get? b = some o := fun b o e => Heap.get?_push_of_some _ (Heap.get?_push_of_some _ e)
  have hget : ((hp.push (kdv_tup [v])).push (excO C hp.objs.size)).get? (hp.objs.size + 1) = some (excO C hp.objs.size) := by heap_get
  refine call_own F.excBase_Exception (fun X => excTail_contains X bm hbm) (X _ _ hC) (looks_findIn X T.iC) (fun self => bind_fn X self T.tC) (one_size v) ?_
  refine err_init (s := ⟨(hp.push (kdv_tup [v])).push (excO C hp.objs.size), g, dr, tk, os⟩) T (X.keeps k) (hlim.keeps k) hget ?_ fun h' tk' dx ⟨k', hx, dn, dne, hns⟩ => ?_
  · show A.depth + 1 < recursionLimit
    exact hroom
  · have old : ∀ b o, hp.get? b = some o → h'.get? b = some o := fun b o e => k' b o (Nat.ne_of_lt (Nat.lt_succ_of_lt (Heap.lt_size e))) (k b o e)
    have z : hp.objs.size + 1 + 1 ≤ dx := by
      first
        | (simpa only [Heap.size_push] using dn)
        | exact dn
        | (have q := dn; rw [Heap.size_push, Heap.size_push] at q; exact q)
    exact ⟨rfl, hq h' tk' (hp.objs.size + 1) dx ⟨old, Nat.le_succ _, ⟨_, _, hx, rfl, rfl, rfl, rfl⟩, Nat.le_trans (Nat.le_trans (Nat.le_succ _) (Nat.le_succ _)) z, dne, hns⟩⟩
end
end Xb
namespace Xb
open PySem PySem.Spec PyProof.Rows L2
theorem relO_at {v : V} {v' : Value} (r : RelV v v') (f : Str) : RelO (List.lookup f [(("at" : Str), v)]) (if f = "at" then some v' else none) := by
  by_cases hw : f = "at"
  · subst hw
    rw [if_pos rfl]
    have q : List.lookup ("at" : Str) [(("at" : Str), v)] = some v := by simp [List.lookup]
    rw [q]
    exact r
  · rw [if_neg hw]
    have qw : (f == ("at" : Str)) = false := by simpa using hw
    have q2 : List.lookup f [(("at" : Str), v)] = none := by simp [List.lookup, qw]
    rw [q2]
    trivial
section
variable {X : Cx} {cn : Str} {C fI : Addr}
/-- cn(e) -/
def tMk (C : Addr) (ta : TA) : L2.St → Hp → XK → Prop := fun σ H Q => ta σ H fun vs H1 => ∃ v, vs = [v] ∧ ∀ d, H1 d = none → Q (.ref C) (some d) (upd H1 d (.xd [(("at" : Str), v)]))
theorem pmk_at {a : Expr} {ta : TA} {p pos : Pos} {k : Nat} (T : ErrC X.K X.mg cn C fI) (hr : Room k X.A) (ha : PA X [a] ta) (hg : Gl X cn) (hdb : (cn == ("__debug__" : Str)) = false := by decide)
    (he : starEach (a :: []) X.env = (false, eval a X.env) :: starEach [] X.env := by rfl) (hpl : (backTo pos (starEach [] X.env)).any (·.1) = false := by rfl) :
    PMk X (.Call (.Name cn p) [a] [] pos) (tMk C ta) := by
  intro pins s σ H Q I h
  refine wpAny_Call_Name_kw (ld_glob I hg T.gC ?_ hdb)
  refine PySem.W.callWith_K (h₀ := X.base) I.ok.mod.kin T.kC (thn (ha.run pos pins s σ H _ I h) fun us s1 hh => ?_) he hpl
  obtain ⟨vs, H1, I1, r1, v, ev, q1⟩ := hh
  subst ev
  refine ⟨I1.kIn, ?_⟩
  cases r1 with
  | cons rv rn =>
    rename_i v' us'
    cases rn
    show wpAny _ _ (call (.ref C) [v']) _ _ _
    have hlim := I1.nolimit
    obtain ⟨hp, g, dr, tk, os⟩ := s1
    refine wpAny_call (err_made T I1.kIn hlim (by have := hr.dp; omega) fun h' tk' e d M => ?_)
    show MkP X pins σ Q (.ref e) ⟨h', g, dr, tk', os⟩
    obtain ⟨oe, fv, hoe, hc, hd, hdat, h1⟩ := M.obj
    have hns := M.ns
    obtain ⟨G', g1, g2⟩ := restrict h' fun b => decide (b ≠ e)
    have gk : ∀ b, b ≠ e → G'.get? b = h'.get? b := fun b hb => g1 b (decide_eq_true hb)
    have ge : G'.get? e = none := g2 e (by simp)
    have old : ∀ b o, hp.get? b = some o → G'.get? b = some o := fun b o q => (gk b (Nat.ne_of_lt (Nat.lt_of_lt_of_le (Heap.lt_size q) M.new))).trans (M.keep b o q)
    have ob : ObjOk X.prog X.w (upd H1 d (.xd [(("at" : Str), v)])) G' d (.xd [(("at" : Str), v)]) :=
      ⟨_, hns.at (fun o q => (gk d M.dne).trans q), fun f => relO_at rv f⟩
    have J : Inv X pins σ (upd H1 d (.xd [(("at" : Str), v)])) ⟨G', g, dr, tk', os⟩ := I1.laid (t' := tk') old M.dbig ob
    refine ⟨e, oe, fv, ⟨G', g, dr, tk', os⟩, _, .ref C, some d, rfl, J, fun b o q => ?_, ge, hoe, ⟨hc, hd⟩, hdat, h1, ?_, rfl, I1.bare, raises_own T.exC T.tyC, q1 d (I1.hok.fresh M.dbig)⟩
    · by_cases hb : b = e
      · have q' : G'.get? b = some o := q
        rw [hb, ge] at q'; cases q'
      · exact (gk b hb).symm.trans q
    · rw [upd_ne (Ne.symm M.dne)]
      exact I1.hok.fresh M.new
/-- raise cn(e) -/
def tRaise (C : Addr) (W : WX) (ta : TA) : TS := fun _ σ H => tMk C ta σ H fun cls d H' => W cls d σ H'
theorem ps_raiseAt {a : Expr} {ta : TA} {W : WX} {p pos pos2 : Pos} {k : Nat} (hc : X.calm = true) (T : ErrC X.K X.mg cn C fI) (hr : Room k X.A) (tk : Takes X W) (ha : PA X [a] ta) (hg : Gl X cn) (hdb : (cn == ("__debug__" : Str)) = false := by decide)
    (he : starEach (a :: []) X.env = (false, eval a X.env) :: starEach [] X.env := by rfl) (hpl : (backTo pos (starEach [] X.env)).any (·.1) = false := by rfl) :
    PS X (.Raise (some (.Call (.Name cn p) [a] [] pos)) none pos2) (tRaise C W ta) := ps_raise hc tk (pmk_at T hr ha hg hdb he hpl)
theorem ErrC.xf (T : ErrC X.K X.mg cn C fI) : XfC X.K C := ⟨T.ga, T.gg, T.exC, T.hdC⟩
end
end Xb

namespace Tx
open PySem PySem.Spec PyProof.Rows L2
open PySem.StrLaws (At)
abbrev tl (x : Str) : List Nat := x.cps.toList
abbrev c1 (c : Nat) : Str := ⟨#[c]⟩
theorem pre1 (c : Nat) (l : List Nat) : TL.pre [c] l = true ↔ ∃ r, l = c :: r := by
  unfold TL.pre
  cases l with
  | nil => simp
  | cons a r => simp
theorem at1 (x : Str) (c i : Nat) : At x (c1 c) x.length i ↔ ∃ r, (tl x).drop i = c :: r := by
  rw [TL.at_iff (y := c1 c) (by simp [TL.tl]) i]
  exact pre1 c _
theorem starts1 (x : Str) (c : Nat) : Txt.startswith x (c1 c) = true ↔ ∃ r, tl x = c :: r := by
  have h := at1 x c 0
  rw [List.drop_zero] at h
  rw [← h]
  unfold Txt.startswith At
  rw [Bool.and_eq_true, decide_eq_true_eq]
theorem find1_none {x : Str} {c : Nat} (h : c ∉ tl x) : Txt.find x (c1 c) = -1 := by
  rcases find_whole x (c1 c) with ⟨e, _⟩ | ⟨i, e, ha, _⟩
  · exact e
  · obtain ⟨r, hr⟩ := (at1 x c i).mp ha
    exact absurd (List.mem_of_mem_drop (by rw [hr]; exact List.mem_cons_self)) h
theorem find1_some {x : Str} {c : Nat} {p r : List Nat} (h : tl x = p ++ c :: r) (hp : c ∉ p) : Txt.find x (c1 c) = (p.length : Int) := by
  have hat : At x (c1 c) x.length p.length := (at1 x c _).mpr ⟨r, by rw [h, List.drop_left]⟩
  rcases find_whole x (c1 c) with ⟨_, no⟩ | ⟨i, e, ha, hm⟩
  · exact absurd hat (no _)
  · rcases Nat.lt_trichotomy i p.length with z | z | z
    · obtain ⟨r2, hr⟩ := (at1 x c i).mp ha
      rw [h, List.drop_append_of_le_length (by omega)] at hr
      cases hd : p.drop i with
      | nil =>
        have := congrArg List.length hd
        rw [List.length_drop, List.length_nil] at this
        omega
      | cons a q =>
        rw [hd] at hr
        have : a = c := (List.cons.inj hr).1
        exact absurd (List.mem_of_mem_drop (i := i) (by rw [hd, this]; exact List.mem_cons_self)) hp
    · rw [e, z]
    · exact absurd hat (hm _ z)
theorem split1 (x : Str) {c : Nat} (hc : c < 256) : (Txt.split x (c1 c)).map tl = TL.spl [c] 0 [] (tl x) :=
  TL.split_spl x (c1 c) (by simp [TL.tl]) (TL.kind_ok (by simpa using hc))
theorem spl_no {c : Nat} {l : List Nat} (h : c ∉ l) : TL.spl [c] 0 [] l = [l] := by
  have := TL.spl_last1 (S := []) (acc := []) h
  simpa using this
theorem spl_yes {c : Nat} {p r : List Nat} (h : c ∉ p) : TL.spl [c] 0 [] (p ++ c :: r) = p :: TL.spl [c] 0 [] r := by
  have := TL.spl_part1 (S := []) (acc := []) (rest := r) h
  simpa using this
theorem cut_at {c : Nat} {l : List Nat} (h : c ∈ l) : ∃ p r, l = p ++ c :: r ∧ c ∉ p := by
  induction l with
  | nil => cases h
  | cons a l ih =>
    by_cases e : a = c
    · exact ⟨[], l, by rw [e]; rfl, by simp⟩
    · obtain ⟨p, r, e2, hp⟩ := ih (by rcases List.mem_cons.mp h with z | z; exact absurd z.symm e; exact z)
      exact ⟨a :: p, r, by rw [e2]; rfl, by simp [hp, Ne.symm e]⟩
/-! ### words of integers -/
def figs (l : List Nat) : List Nat := match l with
  | 45 :: r => r
  | l => l
def isD (c : Nat) : Bool := decide (48 ≤ c) && decide (c ≤ 57)
def okW (l : List Nat) : Bool := decide (1 ≤ (figs l).length) && (decide ((figs l).length ≤ 9) && ((figs l).all isD && !(decide ((figs l).head? = some 48) && !decide (l = [48]))))
def valW (l : List Nat) : Int := match l with
  | 45 :: r => -((NumText.digitsVal r : Nat) : Int)
  | l => ((NumText.digitsVal l : Nat) : Int)
def wpart (l : List Nat) : Option Int := if okW l = true then some (valW l) else none
theorem all_digits {l : List Nat} (h : l.all isD = true) : NumText.AllDigits l := fun c hc => by
  have := List.all_eq_true.mp h c hc
  unfold isD at this
  rw [Bool.and_eq_true, decide_eq_true_eq, decide_eq_true_eq] at this
  exact this
theorem figs_len (l : List Nat) : (figs l).length ≤ l.length ∧ l.length ≤ (figs l).length + 1 := by
  unfold figs
  split
  · simp
  · simp
theorem okW_ok {l : List Nat} (h : okW l = true) : 1 ≤ (figs l).length ∧ (figs l).length ≤ 9 ∧ (figs l).all isD = true := by
  unfold okW at h
  rw [Bool.and_eq_true, Bool.and_eq_true, Bool.and_eq_true, decide_eq_true_eq, decide_eq_true_eq] at h
  exact ⟨h.1, h.2.1, h.2.2.1⟩
theorem int_word {x : Str} (h : okW (tl x) = true) : PySem.intText? x = some (valW (tl x)) ∧ x.length ≤ 640 := by
  obtain ⟨h1, h2, h3⟩ := okW_ok h
  have fl := figs_len (tl x)
  have hx : x.length = (tl x).length := by show x.cps.size = x.cps.toList.length; rw [Array.length_toList]
  refine ⟨?_, by omega⟩
  unfold valW
  unfold figs at h1 h3
  split
  · next r e =>
    rw [e] at h1 h3
    refine PySem.intText_neg e (all_digits h3) (fun z => ?_) (by omega)
    rw [z] at h1
    exact absurd h1 (by decide)
  · next l e =>
    have hf : (match tl x with | 45 :: r => r | l => l) = tl x := by
      split
      · next r e2 => exact absurd e2 (e r)
      · rfl
    rw [hf] at h1 h3
    refine PySem.intText_digits (all_digits h3) (fun z => ?_) (by omega)
    have h1' : 1 ≤ x.cps.toList.length := h1
    rw [z] at h1'
    exact absurd h1' (by decide)
/-- isascii and isdigit -/
theorem asc_dig (x : Str) : (Txt.isascii x && Txt.isdigit x) = (decide (1 ≤ (tl x).length) && (tl x).all isD) := by
  unfold Txt.isascii Txt.isdigit
  have e : ∀ f : Nat → Bool, x.cps.all f = (tl x).all f := fun f => by rw [← Array.all_toList]
  rw [e, e]
  have hx : x.length = (tl x).length := by show x.cps.size = x.cps.toList.length; rw [Array.length_toList]
  rw [hx]
  have key : ∀ l : List Nat, (l.all (· < 128) && l.all Unicode.isDigit) = l.all isD := by
    intro l
    induction l with
    | nil => rfl
    | cons c r ih =>
      have one : (decide (c < 128) && Unicode.isDigit c) = isD c := by
        by_cases hc : c < 128
        · have k : ∀ n : _root_.Fin 128, Unicode.isDigit n.val = isD n.val := by decide +kernel
          rw [decide_eq_true hc, Bool.true_and]
          exact k ⟨c, hc⟩
        · rw [decide_eq_false hc, Bool.false_and]
          unfold isD
          rw [decide_eq_false (show ¬ c ≤ 57 by omega), Bool.and_false]
      rw [List.all_cons, List.all_cons, List.all_cons, ← ih, ← one]
      cases decide (c < 128) <;> cases Unicode.isDigit c <;> cases r.all (· < 128) <;> cases r.all Unicode.isDigit <;> rfl
  rw [← key]
  rw [show decide ((tl x).length > 0) = decide (1 ≤ (tl x).length) from rfl]
  cases (tl x).all (· < 128) <;> cases (tl x).all Unicode.isDigit <;> cases decide (1 ≤ (tl x).length) <;> rfl
/-! ### slices -/
theorem cut_from (z : Str) (k : Nat) : tl (cutS z (some (k : Int)) none) = (tl z).drop k := by
  show (((z.cps.toList.drop (HT.sIx z.length 0 (some (k : Int)))).take (HT.sIx z.length z.length none - HT.sIx z.length 0 (some (k : Int)))).toArray).toList = _
  have hx : z.length = z.cps.toList.length := by show z.cps.size = z.cps.toList.length; rw [Array.length_toList]
  rw [List.toList_toArray, HT.sIx_nat, HT.sIx_none, hx]
  by_cases h : k ≤ z.cps.toList.length
  · rw [Nat.min_eq_left h, List.take_of_length_le (by rw [List.length_drop]; omega)]
  · rw [Nat.min_eq_right (by omega), List.drop_of_length_le (Nat.le_refl _), List.drop_of_length_le (show z.cps.toList.length ≤ k by omega), List.take_nil]
theorem cut_to (z : Str) (k : Nat) : tl (cutS z none (some (k : Int))) = (tl z).take k := by
  show (((z.cps.toList.drop (HT.sIx z.length 0 none)).take (HT.sIx z.length z.length (some (k : Int)) - HT.sIx z.length 0 none)).toArray).toList = _
  have hx : z.length = z.cps.toList.length := by show z.cps.size = z.cps.toList.length; rw [Array.length_toList]
  rw [List.toList_toArray, HT.sIx_nat, HT.sIx_none, hx, List.drop_zero, Nat.sub_zero]
  by_cases h : k ≤ z.cps.toList.length
  · rw [Nat.min_eq_left h]
  · rw [Nat.min_eq_right (by omega), List.take_of_length_le (Nat.le_refl _), List.take_of_length_le (show z.cps.toList.length ≤ k by omega)]
theorem ext {x y : Str} (h : tl x = tl y) : x = y := TL.ext_tl h
end Tx

/-! promises of defs that are called while no repr is under way: the same calculus, one thing more known of what runs around -/
namespace Gu
open PySem PySem.Spec PyProof.Rows L2
abbrev Free (A : Around) : Prop := A.guards = some []
/-- the def at f keeps its promise wherever nothing is being shown -/
structure FnG (P : Program) (w : World) (K : PySem.W.Frag) (mg : Str → Option Value) (base : Heap) (CX : CXT) (k : Nat) (f : Addr) (fd : FuncData) (ps : List Str) (sp : Sp) : Prop where
  many : ∀ vs H Q E, sp vs H Q E → vs.length = ps.length
  go : ∀ (A : Around) (outer : List Env) (s : Shared) (H : Hp) (args : Args) (us : List Value) (vs : List V) (Q : VK) (E : XK), Room k A → Free A → Env0 P w K mg base A outer s H → BindsTo s fd args (ps.zip us) → Vals vs us → sp vs H Q E →
    codeAny (model P w) A (.call (.ref f) args) (CR CX outer P w H s Q E) s
section
variable {P : Program} {w : World} {K : PySem.W.Frag} {mg : Str → Option Value} {base : Heap} {CX : CXT}
/-- a promise that is kept anywhere -/
theorem FnG.of {k : Nat} {f : Addr} {fd : FuncData} {ps : List Str} {sp : Sp} (F : FnOk P w K mg base CX k f fd ps sp) : FnG P w K mg base CX k f fd ps sp := ⟨F.len, fun A o s H a us vs Q E r _ => F.run A o s H a us vs Q E r⟩
theorem deeper_free {A : Around} {env : Env} (h : Free A) : Free (A.deeper env) := h
theorem mk_go {k : Nat} {f : Addr} {name qual : Str} {params : Arguments} {body : List Stmt} {scope : Scope} {dV kV doc pm cdv ct oc : Value} {an od : Option Addr} {osl : Array (Option Value)} {N ps : List Str} {sp : Sp}
    (at_f : K.lookup f = some ⟨oc, od, .func (PySem.W.fnOf name qual params body scope dV kV doc pm an cdv ct), osl⟩) (code : PySem.W.codeIn K cdv qual = true) (S : FnScope N ps scope) (many : ∀ vs H Q E, sp vs H Q E → vs.length = ps.length)
    (inside : ∀ (A : Around) (outer : List Env) (s : Shared) (H : Hp) (vs : List V) (Q : VK) (E : XK), Room k (A.deeper (envOfC qual scope s.heap.objs.size f cdv)) → Free A → sp vs H Q E →
      ∃ t, PSs (cxOf CX P w K mg base N qual scope f cdv A outer s H E) body t ∧ t { nx := fun _ H' => Q .non H', rt := Q } (start N vs) H) :
    FnG P w K mg base CX (k + 1) f (PySem.W.fnOf name qual params body scope dV kV doc pm an cdv ct) ps sp where
  many := many
  go A outer s H args us vs Q E room free e0 binds rel hs := by
    have count := many _ _ _ _ hs
    have stays : ∀ b o, base.get? b = some o → s.heap.get? b = some o := fun b o e => (e0.bs b o e).1
    have inK : K.In s.heap := e0.mod.kin.keeps stays
    refine codeAny_call_function room.depth (inK _ _ at_f) rfl S.co S.gen rfl (PySem.W.codeRec_of inK code) (binds _ _ _ _ ?_)
    refine wpAny_newFunctionEnv_cells S.kind (fun y hy => (S.par y.1 (List.of_mem_zip hy).1).elim Or.inl fun c => .inr ⟨c, PySem.W.cellsFrom_some _ _ _ (.inl c)⟩) fun env made s1 x => ?_
    subst made
    refine ⟨(e0.mod.nolimit.keeps stays).keeps x.toInCall.keep, codeAny_func ?_⟩
    obtain ⟨t, run, rd⟩ := inside A outer s H vs Q E (room.deeper _) free hs
    have I0 := inv_start (CX := CX) (E := E) S room.hd e0 count rel x
    refine wpAny_mono (run.run [] s1 (start N vs) H _ I0 rd) (fun fl s' out => ?_) fun _ _ z => z
    rcases fl with _ | _ | _ | u
    · obtain ⟨_, H', J, q⟩ := out
      exact ⟨V.non, H', J.os, J.bare, J.base, J.hok, rfl, q⟩
    · exact out.elim fun _ z => z.elim fun _ y => False.elim y.2
    · exact out.elim fun _ z => z.elim fun _ y => False.elim y.2
    · obtain ⟨v, _, H', J, rv, q⟩ := out
      exact ⟨v, H', J.os, J.bare, J.base, J.hok, rv, q⟩
end
/-! ### calls -/
section
variable {X : Cx} {CX : CXT} {k : Nat} {f C : Addr} {fd : FuncData} {ps : List Str} {sp : Sp} {dvs : List V} {ds : List Value} {E : XK}
theorem go_call {pins : List (Addr × Obj)} {σ : L2.St} {H : Hp} {s : Shared} {Q : VK} {args : Args} {us : List Value} {vs : List V} (F : FnG X.prog X.w X.K X.mg X.base CX k f fd ps sp) (room : Room k X.A) (free : Free X.A) (hx : Passes CX X E)
    (I : Inv X pins σ H s) (b : BindsTo s fd args (ps.zip us)) (r : Vals vs us) (h : sp vs H Q E) : codeAny (model X.prog X.w) X.A (.call (.ref f) args) (fun r s' => match r with
      | .error e => X.xe e s'
      | .ok (.ret u) => EP X pins σ Q u s'
      | .ok _ => False) s := codeAny_mono (F.go X.A X.stack s H args us vs Q E room free I.env0 b r h) fun r s' out => by
  rcases r with e | fl
  · exact hx pins σ H s e s' I out
  · rcases fl with _ | _ | _ | u <;> first | exact I.after out | exact False.elim out
end
/-- a def of the text, by its promise -/
structure Cg (P : Program) (w : World) (K : PySem.W.Frag) (mg : Str → Option Value) (base : Heap) (CX : CXT) (x : Str) (ps : List Str) (dvs : List V) (lv : Nat) (sp : Sp) : Prop where
  ex : ∃ (f : Addr) (fd : FuncData) (ds : List Value), FnG P w K mg base CX lv f fd ps sp ∧ mg x = some (.ref f) ∧ PySem.W.keepIn K (.ref f) = true ∧ Binds K fd ps ds ∧ Vals dvs ds
section
variable {X : Cx} {CX : CXT} {ps : List Str} {dvs : List V} {lv : Nat} {sp : Sp} {x : Str} {p pos : Pos} {e : Expr} {es : List Expr} {t : TA} {E : XK}
theorem pe_gox (C : Cg X.prog X.w X.K X.mg X.base CX x ps dvs lv sp) (hr : Room lv X.A) (fr : Free X.A) (hx : Passes CX X E) (hg : Gl X x) (ha : PA X (e :: es) t) (hdb : (x == ("__debug__" : Str)) = false := by decide)
    (he : starEach (e :: es) X.env = (false, eval e X.env) :: starEach es X.env := by rfl) (hpl : (backTo pos (starEach es X.env)).any (·.1) = false := by rfl) : PE X (.Call (.Name x p) (e :: es) [] pos) (tCall sp dvs E t) := by
  obtain ⟨f, fd, ds, F, hm, hk, hb, hd⟩ := C.ex
  refine ⟨fun pins s σ H Q I h => wpAny_Call_Name_kw (ld_glob I hg hm ?_ hdb)⟩
  refine PySem.W.callWith_K (h₀ := X.base) I.ok.mod.kin hk (thn (ha.run pos pins s σ H _ I h) fun us s1 ⟨vs, H1, I1, r, q⟩ => ⟨I1.kIn, ?_⟩) he hpl
  have r2 := r.append hd
  refine wpAny_call (codeAny_mono (go_call F hr fr hx I1 (hb s1 us I1.kIn (by rw [← r2.length]; exact F.many _ _ _ _ q)) r2 q) fun r s' z => ?_)
  rcases r with _ | (_ | _ | _ | _) <;> first | exact z | exact z.elim
theorem pe_go (C : Cg X.prog X.w X.K X.mg X.base CX0 x ps dvs lv sp) (hr : Room lv X.A) (fr : Free X.A) (hg : Gl X x) (ha : PA X (e :: es) t) (hdb : (x == ("__debug__" : Str)) = false := by decide)
    (he : starEach (e :: es) X.env = (false, eval e X.env) :: starEach es X.env := by rfl) (hpl : (backTo pos (starEach es X.env)).any (·.1) = false := by rfl) : PE X (.Call (.Name x p) (e :: es) [] pos) (tCall sp dvs E0 t) :=
  pe_gox C hr fr pass0 hg ha hdb he hpl
end
/-! ### repr of data -/
def rRepr (K : PySem.W.Frag) : List V → Hp → VK → Prop := fun xs H Q => ∃ v d, xs = [v] ∧ Dp K H v d ∧ PyData.showable d = true ∧ PyData.hasDict d = false ∧ PyData.depth d < 40 ∧ (PyData.shown d).length ≤ sizeLine ∧ Q (.str (PyData.shown d)) H
theorem cr_repr {X : Cx} (fr : Free X.A) (hu : X.A.units + 64 < cLine) : CallR X (.builtin "repr") (rRepr X.K) := by
  intro pins s σ H xs us Q I r h
  obtain ⟨v, d, rfl, hd, hs, hn, hdp, hz, q⟩ := h
  obtain ⟨u, rfl, ru⟩ := vals1 r
  obtain ⟨as, rd⟩ := Dp.reads I d v u hd ru
  cases hd with
  | non =>
    cases (show u = Value.none from ru)
    exact P.repr_of_none ⟨.str _, H, I.tok _, ⟨_, rfl⟩, q⟩
  | bl b =>
    cases (show u = Value.bool b from ru)
    refine P.repr_of_bool ⟨.str _, H, I.tok _, ⟨_, rfl⟩, ?_⟩
    cases b <;> exact q
  | int i =>
    obtain ⟨t, rfl⟩ := (show ∃ t, u = Value.int i t from ru)
    exact P.repr_of_int (of_decide_eq_true hs) ⟨.str _, H, I.tok _, ⟨_, rfl⟩, q⟩
  | str x =>
    obtain ⟨t, rfl⟩ := (show ∃ t, u = Value.str x t from ru)
    exact P.repr_of_str ⟨.str _, H, I.tok _, ⟨_, rfl⟩, q⟩ hz
  | lst _ _ =>
    cases (show u = Value.ref _ from ru)
    exact repr_of_reads' rd hs (PyData.noDict_hsm hn) fr (by omega) (fun _ _ e => e) (fun h' t tk k => ⟨.str _, H, I.kept k, ⟨_, rfl⟩, q⟩) hz
  | tup _ _ =>
    cases (show u = Value.ref _ from ru)
    exact repr_of_reads' rd hs (PyData.noDict_hsm hn) fr (by omega) (fun _ _ e => e) (fun h' t tk k => ⟨.str _, H, I.kept k, ⟨_, rfl⟩, q⟩) hz
/-! ### the law's own call -/
section
variable {P : Program} {w : World} {K : PySem.W.Frag} {mg : Str → Option Value} {CX : CXT}
/-- from a heap H in which nothing but the script at a may be tracked -/
theorem law_from {mb : Str → Option Value} {k : Nat} {fa a : Addr} {fd : FuncData} {x : Str} {sp : Sp} {s : Shared} {vs : List Value} {H : Hp}
    (inK : K.In s.heap) (globs : s.heap.Ns mainGlobals mg) (blt : s.heap.Ns builtinsNs mb) (same : ∀ x : Str, x ≠ "__name__" → mb x = bootBuiltins x) (lim : s.heap.NoLimit) (bare : s.gens = #[])
    (obj : s.heap.get? a = some { cls := .type "list", data := .seq vs.toArray }) (room : Room k callerA) (F : ∀ base : Heap, K.In base → base.Ns mainGlobals mg → FnG P w K mg base CX k fa fd [x] sp) (bind : ∀ (s : Shared) (u : Value), BindsTo s fd ⟨[u], []⟩ [(x, u)])
    (none_else : ∀ b u, H b = some u → b = a ∧ (∃ o xs, u = .frz o (.lst xs)) ∧ K.lookup a = none) (ok : HOk P w H s.heap) (hsp : sp [.ref a] H (fun v _ => v = .bl true) fun _ _ _ => False)
    (hCX : ∀ e s', CX [] H s (fun _ _ _ => False) e s' → False) :
    codeAny (model P w) callerA (.call (.ref fa) ⟨[.ref a], []⟩) (fun r s' => r = .ok (.ret (.bool true)) ∧ OldK s.heap s'.heap ∧ s'.os = s.os ∧ AllBare s'.gens) s := by
  have free_of : ∀ b, b ≠ a → H b = none := fun b n => by
    rcases e : H b with _ | u
    · rfl
    · exact absurd (none_else b u e).1 n
  have low : ∀ {b o}, s.heap.get? b = some o → H b = none → (hidT s.heap H).get? b = some o := fun e n => hidT_get e n
  have dicts : ∀ {b : Addr} {m : Str → Option Value}, s.heap.Ns b m → (hidT s.heap H).Ns b m := fun {b m} ⟨o, es, ep, e, d, r⟩ => by
    refine ⟨o, es, ep, low e (free_of b fun z => ?_), d, r⟩
    rw [z, obj] at e
    cases e
    exact nomatch (show Data.seq vs.toArray _ = Data.dict es ep from d)
  have kin : K.In (hidT s.heap H) := fun b o e => low (inK b o e) (by
    rcases q : H b with _ | u
    · rfl
    · obtain ⟨rfl, _, z⟩ := none_else b u q
      rw [z] at e
      cases e)
  have modl : Mod K mg (hidT s.heap H) := ⟨kin, dicts globs, ⟨mb, dicts blt, same⟩, let ⟨mc, h1, h2⟩ := lim; ⟨mc, dicts h1, h2⟩⟩
  have env : Env0 P w K mg (hidT s.heap H) callerA [] s H := ⟨rfl, modl, fun b o e => of_hidT e, Nat.le_of_eq (hidT_size _ _), trivial, fun b hb => (nomatch hb), ok, .of_eq bare⟩
  refine codeAny_mono ((F _ kin (dicts globs)).go callerA [] s H ⟨[.ref a], []⟩ [.ref a] [.ref a] _ _ room rfl env (bind s (.ref a)) (.cons rfl .nil) hsp) fun r s' out => ?_
  rcases r with e | fl
  · exact (hCX e s' out).elim
  · rcases fl with _ | _ | _ | u <;> try exact False.elim out
    obtain ⟨v, H', os, b', un, ok', rv, hv⟩ := out
    obtain rfl : v = .bl true := hv
    obtain rfl : u = Value.bool true := rv
    refine ⟨rfl, OldK.of_keep fun b o e => ?_, os, b'⟩
    rcases q : H b with _ | z
    · exact un.keep b o e q (fun m => nomatch m) (by simp)
    · obtain ⟨_, ⟨o1, xs, rfl⟩, _⟩ := none_else b z q
      have z2 := un.frzs b o1 _ q
      have old := (ok b _ q).1
      rw [e] at old
      cases old
      exact (ok' b _ z2).1
theorem law_go {mb : Str → Option Value} {k : Nat} {fa a : Addr} {fd : FuncData} {x : Str} {sp : Sp} {s : Shared} {vs : List Value} {ns : List Int}
    (inK : K.In s.heap) (globs : s.heap.Ns mainGlobals mg) (blt : s.heap.Ns builtinsNs mb) (same : ∀ x : Str, x ≠ "__name__" → mb x = bootBuiltins x) (lim : s.heap.NoLimit) (bare : s.gens = #[])
    (obj : s.heap.get? a = some { cls := .type "list", data := .seq vs.toArray }) (ivs : IntsAre vs ns) (size : ns.length ≤ sizeLine) (room : Room k callerA) (F : ∀ base : Heap, K.In base → base.Ns mainGlobals mg → FnG P w K mg base CX k fa fd [x] sp) (bind : ∀ (s : Shared) (u : Value), BindsTo s fd ⟨[u], []⟩ [(x, u)])
    (hsp : ∀ H : Hp, SqL K H a (ns.map V.int) → sp [.ref a] H (fun v _ => v = .bl true) fun _ _ _ => False) (hCX : ∀ H e s', CX [] H s (fun _ _ _ => False) e s' → False) :
    codeAny (model P w) callerA (.call (.ref fa) ⟨[.ref a], []⟩) (fun r s' => r = .ok (.ret (.bool true)) ∧ OldK s.heap s'.heap ∧ s'.os = s.os ∧ AllBare s'.gens) s := by
  have rv := vals_ints ivs
  have cnt := ivs.length
  rcases own : K.lookup a with _ | o
  · refine law_from (H := fun b => if b = a then some (.frz { cls := .type "list", data := .seq vs.toArray } (.lst (ns.map V.int))) else none) inK globs blt same lim bare obj room F bind (fun b u e => ?_) (fun b u e => ?_)
      (hsp _ (.inl (.inr ⟨_, if_pos rfl⟩))) (fun e s' => hCX _ e s')
    · by_cases hb : b = a
      · rw [if_pos hb] at e
        exact ⟨hb, ⟨_, _, (Option.some.inj e).symm⟩, own⟩
      · rw [if_neg hb] at e
        cases e
    · by_cases hb : b = a
      · subst hb
        have e' := (if_pos rfl).symm.trans e
        cases e'
        exact ⟨obj, by rw [List.length_map]; exact size, vs, _, rv, obj⟩
      · have e' := (if_neg hb).symm.trans e
        cases e'
  · have w0 := inK a o own
    rw [obj] at w0
    cases w0
    exact law_from (H := fun _ => none) inK globs blt same lim bare obj room F bind (fun b u e => (nomatch e)) (fun b u e => (nomatch e))
      (hsp _ (.inr ⟨_, vs.toArray, _, own, rfl, rfl, rfl, by rw [List.size_toArray, cnt]; exact size, by simpa using rv⟩)) (fun e s' => hCX _ e s')
end
theorem walk_go {l : PySem.W.OpenLaw} {n k : Nat} {q : Program} {loose : List Str} {XP : (Str → Option Value) → Heap → Prop} {YP : World → Heap → Prop} {d : DefRec} {K : Params → PySem.W.Frag} {sp : World → Sp} {x : Str}
    (most : l.most = some n) (small : n ≤ sizeLine) (nodf : d.params.defaults = []) (room : Room k callerA) (hY : ∀ (w : World) (h : Heap), YP w h → (K w.params).In h)
    (F : ∀ (w : World) (mg : Str → Option Value) (fa : Addr) (h : Heap), (K w.params).In h → h.Ns mainGlobals mg → mg d.name = some (.ref fa) →
      ∃ fd : FuncData, (∀ (s : Shared) (u : Value), BindsTo s fd ⟨[u], []⟩ [(x, u)]) ∧ ∀ base : Heap, (K w.params).In base → base.Ns mainGlobals mg → FnG l.prog w (K w.params) mg base CX0 k fa fd [x] (sp w))
    (hsp : ∀ (w : World) (H : Hp) (a : Addr) (ns : List Int), ns.length ≤ n → SqL (K w.params) H a (ns.map V.int) → sp w [.ref a] H (fun v _ => v = .bl true) fun _ _ _ => False) :
    PySem.W.WalkO q loose XP YP l.row.toRowW d [] (fun f vs => PySem.call f vs) := by
  refine Att.attach_call most nodf fun w s₀ s₁ mg mb fa o pm cd doc a vs ns G Y _ _ _ named obj ivs len bare => ?_
  obtain ⟨fd, bind, FF⟩ := F w mg fa _ (hY w _ Y) G.T.g named
  exact law_go (hY w _ Y) G.T.g G.T.b G.T.builtins G.T.nolimit bare obj ivs (Nat.le_trans len small) room FF bind (fun H S => hsp w H a ns len S) fun H e s' z => z
end Gu

namespace Gu
open PySem PySem.Spec PyProof.Rows L2
section
variable {P : Program} {w : World} {K : PySem.W.Frag} {mg : Str → Option Value} {base : Heap}
theorem go_ok {x qual : Str} {st : Stmt} {f : Addr} {fd : FuncData} {N ps : List Str} {k : Nat} {sp : Sp} (F : Fun K x qual st f fd) (S : FnScope N ps (defScope st)) (many : ∀ vs H Q E, sp vs H Q E → vs.length = ps.length)
    (inside : ∀ (cdv : Value) (A : Around) (outer : List Env) (s : Shared) (H : Hp) (vs : List V) (Q : VK) (E : XK), Room k (A.deeper (envOfC qual (defScope st) s.heap.objs.size f cdv)) → Free (A.deeper (envOfC qual (defScope st) s.heap.objs.size f cdv)) → sp vs H Q E →
      ∃ t, PSs (cxOf CX0 P w K mg base N qual (defScope st) f cdv A outer s H E).nox (defBody st) t ∧ t { nx := fun _ H' => Q .non H', rt := Q } (start N vs) H) : FnG P w K mg base CX0 (k + 1) f fd ps sp := by
  obtain ⟨oc, od, kV, doc, pm, an, cdv, ct, osl, rfl, lk, hcd⟩ := F.ex
  refine mk_go lk hcd S many fun A outer s H vs Q E hr fr hs => ?_
  obtain ⟨t, h, q⟩ := inside cdv A outer s H vs Q E hr fr hs
  exact ⟨t, h.nox, q⟩
theorem go_okX {x qual : Str} {st : Stmt} {f : Addr} {fd : FuncData} {N ps : List Str} {k : Nat} {sp : Sp} (F : Fun K x qual st f fd) (S : FnScope N ps (defScope st)) (many : ∀ vs H Q E, sp vs H Q E → vs.length = ps.length)
    (inside : ∀ (cdv : Value) (A : Around) (outer : List Env) (s : Shared) (H : Hp) (vs : List V) (Q : VK) (E : XK), Room k (A.deeper (envOfC qual (defScope st) s.heap.objs.size f cdv)) → Free (A.deeper (envOfC qual (defScope st) s.heap.objs.size f cdv)) → sp vs H Q E →
      ∃ t, PSs (cxOf (L2.CX P w) P w K mg base N qual (defScope st) f cdv A outer s H E) (defBody st) t ∧ t { nx := fun _ H' => Q .non H', rt := Q } (start N vs) H) : FnG P w K mg base (L2.CX P w) (k + 1) f fd ps sp := by
  obtain ⟨oc, od, kV, doc, pm, an, cdv, ct, osl, rfl, lk, hcd⟩ := F.ex
  exact mk_go lk hcd S many fun A outer s H vs Q E hr fr hs => inside cdv A outer s H vs Q E hr fr hs
/-- a def with defaults -/
theorem go_okD {x qual : Str} {params : Arguments} {body : List Stmt} {scope : Scope} {dvs : List V} {kws : List (Str × V)} {f : Addr} {fd : FuncData} {N ps : List Str} {k : Nat} {sp : Sp} (F : FunD K x qual params body scope dvs kws f fd) (S : FnScope N ps scope) (many : ∀ vs H Q E, sp vs H Q E → vs.length = ps.length)
    (inside : ∀ (cdv : Value) (A : Around) (outer : List Env) (s : Shared) (H : Hp) (vs : List V) (Q : VK) (E : XK), Room k (A.deeper (envOfC qual scope s.heap.objs.size f cdv)) → Free (A.deeper (envOfC qual scope s.heap.objs.size f cdv)) → sp vs H Q E →
      ∃ t, PSs (cxOf CX0 P w K mg base N qual scope f cdv A outer s H E).nox body t ∧ t { nx := fun _ H' => Q .non H', rt := Q } (start N vs) H) : FnG P w K mg base CX0 (k + 1) f fd ps sp := by
  obtain ⟨oc, od, dV, kV, doc, pm, an, cdv, ct, osl, rfl, lk, hcd, _, _⟩ := F.ex
  refine mk_go lk hcd S many fun A outer s H vs Q E hr fr hs => ?_
  obtain ⟨t, h, q⟩ := inside cdv A outer s H vs Q E hr fr hs
  exact ⟨t, h.nox, q⟩
end
section
variable {X : Cx} {CX : CXT} {ps : List Str} {lv : Nat} {sp : Sp} {x : Str} {p pos : Pos} {e : Expr} {es : List Expr} {t : TA} {E : L2.St → XK}
/-- a call within a try's body: what is raised is wished for at the slots -/
theorem pe_goS (C : Cg X.prog X.w X.K X.mg X.base CX x ps [] lv sp) (hr : Room lv X.A) (fr : Free X.A) (hx : ∀ σ, PassesAt CX X σ (E σ)) (hg : Gl X x) (ha : PA X (e :: es) t) (hdb : (x == ("__debug__" : Str)) = false := by decide)
    (he : starEach (e :: es) X.env = (false, eval e X.env) :: starEach es X.env := by rfl) (hpl : (backTo pos (starEach es X.env)).any (·.1) = false := by rfl) : PE X (.Call (.Name x p) (e :: es) [] pos) (tCallS sp E t) := by
  obtain ⟨f, fd, ds, F, hm, hk, hb, hd⟩ := C.ex
  cases hd
  refine ⟨fun pins s σ H Q I h => wpAny_Call_Name_kw (ld_glob I hg hm ?_ hdb)⟩
  refine PySem.W.callWith_K (h₀ := X.base) I.ok.mod.kin hk (thn (ha.run pos pins s σ H _ I h) fun us s1 ⟨vs, H1, I1, r, q⟩ => ⟨I1.kIn, ?_⟩) he hpl
  have hl : us.length = ps.length := by rw [← r.length]; exact F.many _ _ _ _ q
  have b := hb s1 us I1.kIn (by rw [List.append_nil]; exact hl)
  rw [List.append_nil] at b
  refine wpAny_call (codeAny_mono (F.go X.A X.stack s1 H1 ⟨us, []⟩ us vs Q (E σ) hr fr I1.env0 b r q) fun r s' z => ?_)
  rcases r with u | (_ | _ | _ | v)
  · exact hx σ pins H1 s1 u s' I1 z
  · exact False.elim z
  · exact False.elim z
  · exact False.elim z
  · exact I1.after z
end
end Gu
namespace Hb
open PySem PySem.Spec PyProof.Rows L2
/-! ### // by any divisor but 0 -/
def CDivZ (_ j : Int) : Prop := j ≠ 0 ∧ j.natAbs.log2 < 9000
theorem op_fdivZ {X : Cx} : OpR X (binaryOp .FloorDiv) (rI CDivZ fun i j => .int (i.fdiv j)) := opI fun _ _ _ _ _ _ _ hc q => floordiv_int hc.1 q (.inl (PyProof.noPylong_of_log2 hc.2))
theorem divz {i j : Int} (h0 : j ≠ 0) (h : j.natAbs < 2 ^ 200) : CDivZ i j := ⟨h0, Nat.lt_of_lt_of_le (PySem.Flt.log2_lt_of (by decide : 0 < 200) h) (by decide)⟩
/-! ### the type of data -/
def tyName : PyData → String
  | .none => "NoneType"
  | .bool _ => "bool"
  | .int _ => "int"
  | .str _ => "str"
  | .list _ => "list"
  | .tuple _ => "tuple"
  | .dict _ => "dict"
theorem ty_data {K : PySem.W.Frag} {H : Hp} {v : V} {d : PyData} (h : Dp K H v d) : TyX K H v (.type (tyName d)) := by
  cases h with
  | non => exact .base .non
  | bl b => exact .base (.bl b)
  | int i => exact .base (.int i)
  | str x => exact .base (.str x)
  | @lst a xs ds hs _ =>
    rcases hs with (e | ⟨o, e⟩) | ⟨o, its, n, e, c, _⟩
    · exact .base (.lst e)
    · exact .base (.frz e)
    · exact .kList e c
  | @tup a xs ds hs _ =>
    rcases hs with (e | ⟨o, e⟩) | ⟨o, its, n, e, c, _⟩
    · exact .base (.tup e)
    · exact .fTuple e
    · exact .kTuple e c
/-- isinstance of data against one built-in class -/
theorem isi_data {K : PySem.W.Frag} {H : Hp} {v : V} {d : PyData} {n : String} {b : Bool} {Q : VK} (h : Dp K H v d) (k : kitB (tyName d) n = some b) (q : Q (.bl b) H) : rIsi K [v, .ty n] H Q :=
  ⟨v, .ty n, _, _, b, rfl, .ty n, ty_data h, kit_ty k, q⟩
end Hb

namespace Gu
open PySem PySem.Spec PyProof.Rows L2
/-- f(k = v, ..) by a promise -/
structure Ck (P : Program) (w : World) (K : PySem.W.Frag) (mg : Str → Option Value) (base : Heap) (x : Str) (ps : List Str) (ks : List Str) (gV : List V → List V) (lv : Nat) (sp : Sp) : Prop where
  ex : ∃ (f : Addr) (fd : FuncData) (g : List Value → List Value), FnG P w K mg base CX0 lv f fd ps sp ∧ mg x = some (.ref f) ∧ PySem.W.keepIn K (.ref f) = true ∧
    (∀ (s : Shared) (ws : List Value), K.In s.heap → ws.length = ks.length → BindsTo s fd ⟨[], ks.zip ws⟩ (ps.zip (g ws))) ∧ ∀ {zs : List V} {ws : List Value}, Vals zs ws → Vals (gV zs) (g ws)
def tKw (m : Nat) (sp : Sp) (gV : List V → List V) (tk : TA) : TE := fun σ H Q => tk σ H fun zs H2 => zs.length = m ∧ sp (gV zs) H2 Q E0
theorem pe_goK {X : Cx} {ps ks : List Str} {gV : List V → List V} {lv : Nat} {sp : Sp} {x : Str} {p pos : Pos} {tk : TA} {kws : List Keyword} (C : Ck X.prog X.w X.K X.mg X.base x ps ks gV lv sp) (hr : Room lv X.A) (fr : Free X.A) (hg : Gl X x) (hkw : PK X kws tk)
    (hall : (backToKw pos (keywordEach kws X.env)).all (·.1.isSome) = true := by rfl) (hks : (backToKw pos (keywordEach kws X.env)).filterMap (·.1) = ks := by rfl) (hdb : (x == ("__debug__" : Str)) = false := by decide)
    (hpl : ((backTo pos (starEach [] X.env)).any (·.1) || (backToKw pos (keywordEach kws X.env)).any (·.1.isNone)) = false := by rfl) : PE X (.Call (.Name x p) [] kws pos) (tKw ks.length sp gV tk) := by
  obtain ⟨f, fd, g, F, hm, hk, hb, hrel⟩ := C.ex
  refine ⟨fun pins s σ H Q I h => wpAny_Call_Name_kw (ld_glob I hg hm ?_ hdb)⟩
  refine PySem.W.callWith_KW0 (h₀ := X.base) I.ok.mod.kin hk hall (thn (hkw.run pos pins s σ H _ I h) fun ws s2 ⟨zs, H2, I2, rz, l1, q⟩ => ⟨I2.kIn, ?_⟩) hpl
  rw [hks]
  have bb := hb s2 ws I2.kIn (rz.length.symm.trans l1)
  refine wpAny_call (codeAny_mono (F.go X.A X.stack s2 H2 ⟨[], ks.zip ws⟩ (g ws) (gV zs) Q E0 hr fr I2.env0 bb (hrel rz) q) fun r s' z => ?_)
  rcases r with e | (_ | _ | _ | u)
  · exact pass0 pins σ H2 s2 e s' I2 z
  · exact False.elim z
  · exact False.elim z
  · exact False.elim z
  · exact I2.after z
def sw2 {α : Type} : List α → List α
  | [a, b] => [b, a]
  | l => l
/-- a def of two parameters, both by name, the second one first -/
theorem ck_swap {P : Program} {w : World} {K : PySem.W.Frag} {mg : Str → Option Value} {base : Heap} {x qual a b : Str} {st : Stmt} {f : Addr} {fd : FuncData} {lv : Nat} {sp : Sp} (F : Fun K x qual st f fd) (G : FnG P w K mg base CX0 lv f fd [a, b] sp) (hm : mg x = some (.ref f))
    (h : ∀ (kV doc pm : Value) (an : Option Addr) (cdv ct u v : Value), bindArgs (PySem.W.fnOf x qual (defArgs st) (defBody st) (defScope st) .none kV doc pm an cdv ct) ⟨[], [(b, u), (a, v)]⟩ = pure [(a, v), (b, u)]) : Ck P w K mg base x [a, b] [b, a] sw2 lv sp := by
  obtain ⟨oc, od, kV, doc, pm, an, cdv, ct, osl, rfl, lk, hcd⟩ := F.ex
  refine ⟨_, _, sw2, G, hm, F.kp, fun s ws _ hl => ?_, fun {zs ws} r => ?_⟩
  · match ws, hl with
    | [u, v], _ => exact .of_eq (h kV doc pm an cdv ct u v)
  · cases r with
    | nil => exact .nil
    | cons x y =>
      cases y with
      | nil => exact .cons x .nil
      | cons y z =>
        cases z with
        | nil => exact .cons y (.cons x .nil)
        | cons z t => exact .cons x (.cons y (.cons z t))
end Gu

namespace M3
/-! ### rows of integers as curves: their worths at integers -/
def ev : List Int → Int → Int
  | [], _ => 0
  | a :: l, x => a + x * ev l x
def trim : List Int → List Int
  | [] => []
  | a :: l => if trim l = [] ∧ a = 0 then [] else a :: trim l
theorem trim_cons (a : Int) (l : List Int) : trim (a :: l) = if trim l = [] ∧ a = 0 then [] else a :: trim l := rfl
theorem ev_trim (l : List Int) (x : Int) : ev (trim l) x = ev l x := by
  induction l with
  | nil => rfl
  | cons a l ih =>
    unfold trim
    by_cases h : trim l = [] ∧ a = 0
    · rw [if_pos h]
      rw [h.1] at ih
      show 0 = a + x * ev l x
      rw [← ih, h.2]
      show 0 = 0 + x * 0
      omega
    · rw [if_neg h]
      show a + x * ev (trim l) x = _
      rw [ih]
      rfl
theorem trim_trim (l : List Int) : trim (trim l) = trim l := by
  induction l with
  | nil => rfl
  | cons a l ih =>
    rw [trim_cons]
    by_cases h : trim l = [] ∧ a = 0
    · rw [if_pos h]; rfl
    · rw [if_neg h, trim_cons, ih, if_neg h]
theorem zero_of {a e : Int} {f : Int → Int} (h : ∀ x, 1 ≤ x → a = x * f x) : a = 0 := by
  have h1 := h (a.natAbs + 1) (by omega)
  have d : (((a.natAbs + 1 : Nat) : Int)) ∣ a := ⟨f (a.natAbs + 1), by
    rw [Int.natCast_add]; exact h1⟩
  by_cases z : a = 0
  · exact z
  · have := Nat.le_of_dvd (by omega) (Int.natAbs_dvd_natAbs.mpr d)
    omega
theorem cons_ev {a b : Int} {f g : Int → Int} (h : ∀ x, 1 ≤ x → a + x * f x = b + x * g x) : a = b ∧ ∀ x, 1 ≤ x → f x = g x := by
  have e : a - b = 0 := zero_of (e := 0) (f := fun x => g x - f x) fun x hx => by
    have := h x hx
    rw [Int.mul_sub]
    omega
  have e' : a = b := by omega
  refine ⟨e', fun x hx => ?_⟩
  have := h x hx
  have hm : x * f x = x * g x := by omega
  exact Int.eq_of_mul_eq_mul_left (by omega) hm
theorem ext : ∀ {a b : List Int}, (∀ x, 1 ≤ x → ev a x = ev b x) → trim a = trim b
  | [], [], _ => rfl
  | [], b :: l, h => by
    obtain ⟨e, h2⟩ := cons_ev (a := 0) (b := b) (f := ev []) (g := ev l) fun x hx => by
      have := h x hx
      show 0 + x * 0 = b + x * ev l x
      have z : (0 : Int) = b + x * ev l x := this
      omega
    have ih := ext (a := []) (b := l) h2
    show [] = if trim l = [] ∧ b = 0 then [] else b :: trim l
    rw [if_pos ⟨ih.symm, e.symm⟩]
  | a :: l, [], h => by
    obtain ⟨e, h2⟩ := cons_ev (a := a) (b := 0) (f := ev l) (g := ev []) fun x hx => by
      have := h x hx
      show a + x * ev l x = 0 + x * 0
      have z : a + x * ev l x = 0 := this
      omega
    have ih := ext (a := l) (b := []) h2
    show (if trim l = [] ∧ a = 0 then [] else a :: trim l) = []
    rw [if_pos ⟨ih, e⟩]
  | a :: l, b :: m, h => by
    obtain ⟨e, h2⟩ := cons_ev (a := a) (b := b) (f := ev l) (g := ev m) h
    have ih := ext h2
    show (if trim l = [] ∧ a = 0 then [] else a :: trim l) = if trim m = [] ∧ b = 0 then [] else b :: trim m
    rw [ih, e]
/-- a row without a nought at its end -/
def Cn (l : List Int) : Prop := trim l = l
theorem Cn.trim (l : List Int) : Cn (M3.trim l) := trim_trim l
theorem Cn.ext {a b : List Int} (ha : Cn a) (hb : Cn b) (h : ∀ x, ev a x = ev b x) : a = b := by
  have := M3.ext (a := a) (b := b) fun x _ => h x
  rw [ha, hb] at this
  exact this
theorem Cn.nil : Cn [] := rfl
theorem cn_iff : ∀ l : List Int, Cn l ↔ l = [] ∨ l.getLast? ≠ some 0
  | [] => ⟨fun _ => .inl rfl, fun _ => rfl⟩
  | [a] => by
    constructor
    · intro h
      right
      intro z
      have : a = 0 := by simpa using z
      subst this
      exact absurd (show ([] : List Int) = [0] from h) (by decide)
    · rintro (z | z)
      · cases z
      · show (if trim [] = [] ∧ a = 0 then [] else a :: trim []) = [a]
        rw [if_neg (fun t => z (by rw [t.2]; rfl))]
        rfl
  | a :: b :: l => by
    have ih := cn_iff (b :: l)
    have e : (a :: b :: l).getLast? = (b :: l).getLast? := by simp [List.getLast?_cons]
    rw [e]
    constructor
    · intro h
      right
      rcases ih.mp (show Cn (b :: l) from by
        have h' : (if trim (b :: l) = [] ∧ a = 0 then [] else a :: trim (b :: l)) = a :: b :: l := h
        by_cases c : trim (b :: l) = [] ∧ a = 0
        · rw [if_pos c] at h'; cases h'
        · rw [if_neg c] at h'; exact (List.cons.inj h').2) with z | z
      · cases z
      · exact z
    · rintro (z | z)
      · cases z
      · have t := ih.mpr (.inr z)
        show (if trim (b :: l) = [] ∧ a = 0 then [] else a :: trim (b :: l)) = _
        rw [show trim (b :: l) = b :: l from t, if_neg (fun u => by cases u.1)]
theorem trim_sub {l : List Int} {c : Int} (h : c ∈ trim l) : c ∈ l := by
  induction l with
  | nil => exact h
  | cons a l ih =>
    unfold trim at h
    by_cases k : trim l = [] ∧ a = 0
    · rw [if_pos k] at h; cases h
    · rw [if_neg k] at h
      rcases List.mem_cons.mp h with z | z
      · rw [z]; exact List.mem_cons_self
      · exact List.mem_cons_of_mem _ (ih z)
theorem trim_len (l : List Int) : (trim l).length ≤ l.length := by
  induction l with
  | nil => exact Nat.le_refl _
  | cons a l ih =>
    unfold trim
    by_cases k : trim l = [] ∧ a = 0
    · rw [if_pos k]; exact Nat.zero_le _
    · rw [if_neg k, List.length_cons, List.length_cons]; omega
theorem ev_app (a b : List Int) (x : Int) : ev (a ++ b) x = ev a x + x ^ a.length * ev b x := by
  induction a with
  | nil => show ev b x = 0 + x ^ 0 * ev b x; simp
  | cons c a ih =>
    show c + x * ev (a ++ b) x = c + x * ev a x + x ^ (a.length + 1) * ev b x
    rw [ih, Int.pow_succ]
    grind
theorem trim_zero (l : List Int) : trim (l ++ [0]) = trim l := by
  refine ext fun x _ => ?_
  rw [ev_app]
  show ev l x + x ^ l.length * (0 + x * 0) = _
  simp
theorem trim_last {l : List Int} {a : Int} (h : a ≠ 0) : trim (l ++ [a]) = l ++ [a] := (cn_iff _).mpr (.inr (by rw [List.getLast?_concat]; intro z; exact h (Option.some.inj z)))
theorem ev_set {l : List Int} {k : Nat} (h : k < l.length) (c : Int) (x : Int) : ev (l.set k (l[k] + c)) x = ev l x + c * x ^ k := by
  induction l generalizing k with
  | nil => cases h
  | cons a l ih =>
    cases k with
    | zero =>
      show a + c + x * ev l x = a + x * ev l x + c * x ^ 0
      simp; omega
    | succ k =>
      have hk : k < l.length := by rw [List.length_cons] at h; omega
      show a + x * ev (l.set k (l[k] + c)) x = a + x * ev l x + c * x ^ (k + 1)
      rw [ih hk, Int.pow_succ]
      grind
theorem ev_take {l : List Int} {k : Nat} (h : k < l.length) (x : Int) : ev (l.take (k + 1)) x = ev (l.take k) x + l[k] * x ^ k := by
  rw [List.take_add_one, List.getElem?_eq_getElem h, ev_app, List.length_take, Nat.min_eq_left (by omega)]
  show _ + x ^ k * (l[k] + x * 0) = _
  rw [Int.mul_zero, Int.add_zero, Int.mul_comm]
theorem ev_drop {l : List Int} {k : Nat} (h : k < l.length) (x : Int) : ev (l.drop k) x = l[k] + x * ev (l.drop (k + 1)) x := by
  rw [List.drop_eq_getElem_cons h]
  rfl
theorem ev_zeros (n : Nat) (x : Int) : ev (List.replicate n 0) x = 0 := by
  induction n with
  | zero => rfl
  | succ n ih =>
    rw [List.replicate_succ]
    show 0 + x * ev (List.replicate n 0) x = 0
    rw [ih]; omega
theorem ev_scale (n : Int) (l : List Int) (x : Int) : ev (l.map (n * ·)) x = n * ev l x := by
  induction l with
  | nil => show (0 : Int) = n * 0; omega
  | cons a l ih =>
    show n * a + x * ev (l.map (n * ·)) x = n * (a + x * ev l x)
    rw [ih]; grind
/-- rows of one length, alike at all places, are one -/
theorem len_ext : ∀ {a b : List Int}, a.length = b.length → (∀ x, ev a x = ev b x) → a = b
  | [], [], _, _ => rfl
  | a :: l, b :: m, hl, h => by
    obtain ⟨e, h2⟩ := cons_ev (a := a) (b := b) (f := ev l) (g := ev m) fun x _ => h x
    have hl' : l.length = m.length := by simpa using hl
    have : ∀ x, ev l x = ev m x := fun x => by
      have t := M3.ext h2
      rw [← ev_trim l, ← ev_trim m, t]
    rw [e, len_ext hl' this]
/-! ### products -/
def addL : List Int → List Int → List Int
  | [], b => b
  | a, [] => a
  | a :: l, b :: m => (a + b) :: addL l m
theorem ev_addL : ∀ (a b : List Int) (x : Int), ev (addL a b) x = ev a x + ev b x
  | [], b, x => by show ev b x = 0 + ev b x; omega
  | a :: l, [], x => by show ev (a :: l) x = ev (a :: l) x + 0; omega
  | a :: l, b :: m, x => by
    show a + b + x * ev (addL l m) x = a + x * ev l x + (b + x * ev m x)
    rw [ev_addL l m x]; grind
theorem addL_len : ∀ (a b : List Int), (addL a b).length = max a.length b.length
  | [], b => by show b.length = max 0 b.length; omega
  | a :: l, [] => by show (a :: l).length = max (a :: l).length 0; omega
  | a :: l, b :: m => by
    show (addL l m).length + 1 = max (l.length + 1) (m.length + 1)
    rw [addL_len l m]; omega
def mulL : List Int → List Int → List Int
  | [], _ => []
  | [a], g => g.map (a * ·)
  | a :: b :: f, g => addL (g.map (a * ·)) (0 :: mulL (b :: f) g)
theorem ev_mulL : ∀ (f g : List Int) (x : Int), ev (mulL f g) x = ev f x * ev g x
  | [], g, x => by show (0 : Int) = 0 * _; omega
  | [a], g, x => by
    show ev (g.map (a * ·)) x = (a + x * 0) * ev g x
    rw [ev_scale]; grind
  | a :: b :: f, g, x => by
    show ev (addL (g.map (a * ·)) (0 :: mulL (b :: f) g)) x = (a + x * ev (b :: f) x) * ev g x
    rw [ev_addL, ev_scale]
    show a * ev g x + (0 + x * ev (mulL (b :: f) g) x) = _
    rw [ev_mulL (b :: f) g x]; grind
theorem mulL_len : ∀ (f g : List Int), f ≠ [] → g ≠ [] → (mulL f g).length = f.length + g.length - 1
  | [], _, h, _ => absurd rfl h
  | [a], g, _, _ => by show (g.map (a * ·)).length = _; rw [List.length_map]; simp
  | a :: b :: f, g, _, hg => by
    have ih := mulL_len (b :: f) g (by simp) hg
    have : 1 ≤ g.length := by cases g with | nil => exact absurd rfl hg | cons _ _ => simp
    show (addL (g.map (a * ·)) (0 :: mulL (b :: f) g)).length = _
    rw [addL_len, List.length_map, List.length_cons, ih]
    simp only [List.length_cons]
    omega
theorem addL_last : ∀ {a b : List Int}, a.length < b.length → (addL a b).getLast? = b.getLast?
  | [], b, _ => rfl
  | a :: l, [], h => by cases h
  | a :: l, b :: m, h => by
    have h' : l.length < m.length := by simpa using h
    have ih := addL_last h'
    show ((a + b) :: addL l m).getLast? = _
    cases m with
    | nil => cases h'
    | cons c m =>
      rw [show (b :: c :: m).getLast? = (c :: m).getLast? by simp [List.getLast?_cons], ← ih]
      cases e : addL l (c :: m) with
      | nil =>
        have := addL_len l (c :: m)
        rw [e, List.length_nil, List.length_cons] at this
        exact absurd this (by omega)
      | cons u v => simp [List.getLast?_cons]
theorem mulL_last : ∀ {f g : List Int} {u v : Int}, f.getLast? = some u → g.getLast? = some v → (mulL f g).getLast? = some (u * v)
  | [], _, _, _, h, _ => by cases h
  | [a], g, u, v, h, k => by
    have : a = u := by simpa using h
    subst this
    show (g.map (a * ·)).getLast? = _
    rw [List.getLast?_map, k]; rfl
  | a :: b :: f, g, u, v, h, k => by
    have h' : (b :: f).getLast? = some u := by rw [← h]; simp [List.getLast?_cons]
    have ih := mulL_last h' k
    have hg : g ≠ [] := by rintro rfl; cases k
    have ln := mulL_len (b :: f) g (by simp) hg
    show (addL (g.map (a * ·)) (0 :: mulL (b :: f) g)).getLast? = _
    rw [addL_last, ← ih]
    · cases e : mulL (b :: f) g with
      | nil => rw [e] at ih; cases ih
      | cons x y => simp [List.getLast?_cons]
    · rw [List.length_map, List.length_cons, ln]
      simp only [List.length_cons]
      omega
theorem Cn.mulL {f g : List Int} (hf : Cn f) (hg : Cn g) (f0 : f ≠ []) (g0 : g ≠ []) : Cn (M3.mulL f g) := by
  refine (cn_iff _).mpr (.inr ?_)
  rcases (cn_iff f).mp hf with z | z
  · exact absurd z f0
  rcases (cn_iff g).mp hg with z2 | z2
  · exact absurd z2 g0
  cases e : f.getLast? with
  | none => exact absurd (List.getLast?_eq_none_iff.mp e) f0
  | some u =>
    cases e2 : g.getLast? with
    | none => exact absurd (List.getLast?_eq_none_iff.mp e2) g0
    | some v =>
      rw [mulL_last e e2]
      intro t
      have t := Option.some.inj t
      rcases Int.mul_eq_zero.mp t with y | y
      · exact z (by rw [e, y])
      · exact z2 (by rw [e2, y])
/-- what stands for the product -/
def prodL (f g : List Int) : List Int := if f = [] ∨ g = [] then [] else mulL f g
theorem ev_prodL (f g : List Int) (x : Int) : ev (prodL f g) x = ev f x * ev g x := by
  unfold prodL
  by_cases h : f = [] ∨ g = []
  · rw [if_pos h]
    rcases h with z | z <;> rw [z] <;> show (0 : Int) = _ <;> simp [ev]
  · rw [if_neg h, ev_mulL]
theorem Cn.prodL {f g : List Int} (hf : Cn f) (hg : Cn g) : Cn (M3.prodL f g) := by
  unfold M3.prodL
  by_cases h : f = [] ∨ g = []
  · rw [if_pos h]; rfl
  · rw [if_neg h]
    exact Cn.mulL hf hg (fun z => h (.inl z)) (fun z => h (.inr z))
/-! ### behind one another -/
/-- what f is at what g tells, from the last integer on -/
def aft : List Int → List Int → List Int
  | [], _ => []
  | a :: f, g => trim (addL (prodL (aft f g) g) (trim [a]))
theorem ev_one (a x : Int) : ev (trim [a]) x = a := by rw [ev_trim]; show a + x * 0 = a; omega
theorem ev_aft : ∀ (f g : List Int) (x : Int), ev (aft f g) x = ev f (ev g x)
  | [], _, _ => rfl
  | a :: f, g, x => by
    show ev (trim (addL (prodL (aft f g) g) (trim [a]))) x = a + ev g x * ev f (ev g x)
    rw [ev_trim, ev_addL, ev_prodL, ev_aft f g x, ev_one]; grind
theorem aft_cn (f g : List Int) : Cn (aft f g) := by
  cases f with
  | nil => rfl
  | cons a f => exact Cn.trim _
/-! sizes -/
def Le (B : Nat) (l : List Int) : Prop := ∀ c ∈ l, c.natAbs ≤ B
theorem Le.trim {B : Nat} {l : List Int} (h : Le B l) : Le B (M3.trim l) := fun c hc => h c (trim_sub hc)
theorem Le.mono {B C : Nat} {l : List Int} (h : Le B l) (k : B ≤ C) : Le C l := fun c hc => Nat.le_trans (h c hc) k
theorem Le.addL {B C : Nat} : ∀ {a b : List Int}, Le B a → Le C b → Le (B + C) (M3.addL a b)
  | [], b, _, h => h.mono (Nat.le_add_left _ _)
  | a :: l, [], h, _ => h.mono (Nat.le_add_right _ _)
  | a :: l, b :: m, h, k => fun c hc => by
    rcases List.mem_cons.mp (show c ∈ (a + b) :: M3.addL l m from hc) with z | z
    · have h1 := h a List.mem_cons_self
      have h2 := k b List.mem_cons_self
      rw [z]; omega
    · exact Le.addL (a := l) (b := m) (fun c hc => h c (List.mem_cons_of_mem _ hc)) (fun c hc => k c (List.mem_cons_of_mem _ hc)) c z
theorem Le.scale {B C : Nat} {a : Int} {l : List Int} (ha : a.natAbs ≤ B) (h : Le C l) : Le (B * C) (l.map (a * ·)) := fun c hc => by
  obtain ⟨d, hd, e⟩ := List.mem_map.mp hc
  rw [← e]
  show (a * d).natAbs ≤ _
  rw [Int.natAbs_mul]
  exact Nat.mul_le_mul ha (h d hd)
theorem Le.mulL {B C : Nat} : ∀ {f g : List Int}, Le B f → Le C g → Le (f.length * (B * C)) (M3.mulL f g)
  | [], _, _, _ => fun c hc => by cases hc
  | [a], g, h, k => (Le.scale (h a List.mem_cons_self) k).mono (by simp)
  | a :: b :: f, g, h, k => by
    have h1 := Le.scale (h a List.mem_cons_self) k
    have h2 := Le.mulL (f := b :: f) (g := g) (fun c hc => h c (List.mem_cons_of_mem _ hc)) k
    have h3 : Le ((b :: f).length * (B * C)) (0 :: M3.mulL (b :: f) g) := fun c hc => by
      rcases List.mem_cons.mp hc with z | z
      · rw [z]; exact Nat.zero_le _
      · exact h2 c z
    refine (Le.addL h1 h3).mono ?_
    rw [show (a :: b :: f).length = (b :: f).length + 1 from rfl, Nat.add_mul, Nat.one_mul]
    omega
theorem Le.prodL {B C : Nat} {f g : List Int} (h : Le B f) (k : Le C g) : Le (f.length * (B * C)) (M3.prodL f g) := by
  unfold M3.prodL
  by_cases c : f = [] ∨ g = []
  · rw [if_pos c]; intro c hc; cases hc
  · rw [if_neg c]; exact Le.mulL h k
theorem prodL_len (f g : List Int) : (prodL f g).length ≤ f.length + g.length := by
  unfold prodL
  by_cases c : f = [] ∨ g = []
  · rw [if_pos c]; exact Nat.zero_le _
  · rw [if_neg c, mulL_len f g (fun z => c (.inl z)) (fun z => c (.inr z))]; omega
theorem aft_size {g : List Int} (hg : g.length ≤ 5) (kg : Le (2 ^ 15) g) : ∀ f : List Int, Le (2 ^ 15) f → (aft f g).length ≤ 6 * f.length ∧ Le (2 ^ (30 * f.length)) (aft f g) ∧ f.length ≤ 5 ∨ 5 < f.length
  | [], _ => .inl ⟨Nat.le_refl _, (by intro c hc; cases hc), by decide⟩
  | a :: f, h => by
    rcases aft_size hg kg f (fun c hc => h c (List.mem_cons_of_mem _ hc)) with ⟨h1, h2, h3⟩ | h3
    · by_cases h5 : (a :: f).length ≤ 5
      · refine .inl ⟨?_, ?_, h5⟩
        · show (trim (addL (prodL (aft f g) g) (trim [a]))).length ≤ 6 * (f.length + 1)
          have t1 := trim_len (addL (prodL (aft f g) g) (trim [a]))
          have t2 := addL_len (prodL (aft f g) g) (trim [a])
          have t3 := prodL_len (aft f g) g
          have t4 := trim_len [a]
          simp only [List.length_cons, List.length_nil] at t4
          omega
        · have e1 := Le.prodL h2 kg
          have e2 : Le (2 ^ 15) (trim [a]) := Le.trim fun c hc => by rw [List.mem_singleton.mp hc]; exact h a List.mem_cons_self
          refine (Le.addL e1 e2).trim.mono ?_
          have l1 : (aft f g).length ≤ 24 := by simp only [List.length_cons] at h5; omega
          rw [show (a :: f).length = f.length + 1 from rfl, Nat.mul_add, Nat.pow_add]
          have z1 : 1 ≤ 2 ^ (30 * f.length) := Nat.one_le_two_pow
          generalize 2 ^ (30 * f.length) = Z at *
          have q1 : (aft f g).length * (Z * 2 ^ 15) ≤ 24 * (Z * 2 ^ 15) := Nat.mul_le_mul_right _ l1
          have : (2 : Nat) ^ (30 * 1) = 2 ^ 30 := rfl
          rw [this]
          omega
      · exact .inr (by omega)
    · exact .inr (by simp only [List.length_cons]; omega)
end M3

/-! enumerate of a tuple -/
namespace En
open PySem PySem.Spec PyProof.Rows L2
set_option maxHeartbeats 1000000 in
theorem new_one {v : Value} {it : Obj} {Z : Heap → Prop} (B : Begins v it Z) : Meets (Builtin.«enumerate.__new__» ⟨[.type "enumerate", v], []⟩) (fun _ R z => Z z.heap ∧
    R (.ok (.ret (.ref (z.heap.push it).objs.size))) { z with heap := (z.heap.push it).push { cls := .type "enumerate", data := .fields #[.none, .bool false, .ref z.heap.objs.size, rawInt 0, .none, .none] } }) :=
  .of_wp fun prog w A R z hz => by
    obtain ⟨hp, gs, dr, nt, oss⟩ := z
    obtain ⟨hZ, hR⟩ := hz
    have isub := sub_enumerate
    have begun : ∀ {A' : Around} {E : Value → Shared → Prop} {Q : Value → Shared → Prop}, Q (.ref hp.objs.size) ⟨hp.push it, gs, dr, nt, oss⟩ → wpAny (model prog w) A' (pyIter v) Q E ⟨hp, gs, dr, nt, oss⟩ :=
      fun qq => B.iter prog w _ _ ⟨hp, gs, dr, nt, oss⟩ _ hZ qq
    wp_walk using begun
    refine wpAny_stack_any fun _ => wpAny_pure ?_
    split
    · rename_i cl _ _ _ _ _
      cases (cl == Value.type "enumerate") <;> (wp_walk using begun; exact ⟨_, rfl, hR⟩)
    · wp_walk using begun
      exact ⟨_, rfl, hR⟩
section
variable {prog : Program} {w : World} {A : Around} {E : Value → Shared → Prop} {s : Shared}
theorem call_one {v : Value} {it : Obj} {Z : Heap → Prop} {Q : Value → Shared → Prop} (B : Begins v it Z) (hZ : Z s.heap)
    (fin : ∀ h', IsEnum h' (s.heap.objs.size + 1) s.heap.objs.size 0 .none → h'.get? s.heap.objs.size = some it → (∀ b o, s.heap.get? b = some o → h'.get? b = some o) → Q (.ref (s.heap.objs.size + 1)) { s with heap := h' }) :
    wpAny (model prog w) A (call (.type "enumerate") [v]) Q E s := by
  refine callType_new F.called_enumerate (by decide) (F.typeCall_enumerate_1 v) (F.newCall_enumerate_1 v) (fun self => F.args_object_init_2 self v) F.entry_enumerate_new (new_one B) ⟨hZ, ?_⟩
  have size1 : (s.heap.push it).objs.size = s.heap.objs.size + 1 := Heap.size_push ..
  show _ ∧ _
  rw [size1]
  have at1 : IsEnum ((s.heap.push it).push { cls := .type "enumerate", data := .fields #[.none, .bool false, .ref s.heap.objs.size, rawInt 0, .none, .none] }) (s.heap.objs.size + 1) s.heap.objs.size 0 .none := by
    have z := Heap.get?_push_size (s.heap.push it) (o := { cls := .type "enumerate", data := .fields #[.none, .bool false, .ref s.heap.objs.size, rawInt 0, .none, .none] }) rfl
    rw [size1] at z
    exact z
  exact ⟨⟨_, at1, rfl⟩, fin _ at1 (Heap.get?_push_of_some _ (Heap.get?_push_size _ B.free)) fun b o y => Heap.get?_push_of_some _ (Heap.get?_push_of_some _ y)⟩
end
def IteT (K : PySem.W.Frag) (a : Addr) : It where
  go i H := ∃ (xs : List V) (x : V), SqT K H a xs ∧ xs[i]? = some x
  yld i H v H' := ∃ T x, v = .ref T ∧ H T = none ∧ H' = upd H T (.tup [.int (i : Nat), x]) ∧ ∀ xs, SqT K H a xs → xs[i]? = some x
  stop i H := ∃ xs : List V, SqT K H a xs ∧ xs.length ≤ i
theorem tup_ne {h : Heap} {a it : Addr} {k : Nat} {items : Array Value} (h1 : h.IsTuple a items) (h2 : h.IsTupleIter it a k) : a ≠ it := by
  intro e
  obtain ⟨o, ho, hc, _⟩ := h1
  obtain ⟨o2, ho2, hc2, _⟩ := h2
  rw [← e, ho] at ho2
  cases ho2
  exact absurd (Value.type.inj (hc.symm.trans hc2)) (by decide)
theorem turn_enumT {P : Program} {w : World} {K : PySem.W.Frag} {elts : List Expr} {kk : Nat} {tpos : Pos} (a e it : Addr) :
    Turn P w K (.Tuple elts kk tpos) (IteT K a) [e, it] e (fun i h => (∃ old, IsEnum h e it ((i : Nat) : Int) old) ∧ h.IsTupleIter it a i ∧ e ≠ it) where
  mem := by simp
  obj i h st b hb := by
    obtain ⟨⟨old, hen⟩, ⟨o, ho, _, hd⟩, _⟩ := st
    rcases (show b = e ∨ b = it by simpa using hb) with z | z
    · exact ⟨_, by rw [z]; exact hen, fun v q => by cases (show Data.fields _ = Data.cell v from q)⟩
    · exact ⟨o, by rw [z]; exact ho, fun v q => by rw [hd] at q; cases q⟩
  keep i h h' st k := by
    obtain ⟨⟨old, hen⟩, hti, ne⟩ := st
    exact ⟨⟨old, k e (by simp) _ hen⟩, hti.at fun o q => k it (by simp) o q, ne⟩
  item := by
    intro X hP hw hK hc i pins s σ H E I hf st hg
    subst hP hw hK
    obtain ⟨⟨old, hen⟩, hti, ne⟩ := st
    obtain ⟨xs, x, hq, hx⟩ := hg
    obtain ⟨its, rel, pt, _⟩ := I.tuple hq
    obtain ⟨u, hu, ru⟩ := rel.get hx
    have lt1 : e < s.heap.objs.size := Heap.lt_size hen
    have lt2 : it < s.heap.objs.size := by obtain ⟨_, y, _⟩ := hti; exact Heap.lt_size y
    have ane := tup_ne pt hti
    have elt : ∀ b ∈ [e, it], b < s.heap.objs.size := fun b hb => by
      rcases (show b = e ∨ b = it by simpa using hb) with z | z <;> rw [z] <;> assumption
    have ena : e ≠ a := fun z => by
      obtain ⟨o, ho, hcl, _⟩ := pt
      have q : s.heap.get? e = _ := hen
      rw [z, ho] at q
      cases q
      exact absurd (Value.type.inj hcl) (by decide)
    have hh : X.A.in1.handled = none := I.ok.hd hc
    refine wpAny_pyNext_enum_itemD (Draws.tuple hh it a ane its.toArray) hen ⟨hti, pt⟩ (show i < its.toArray.size by rw [List.size_toArray]; exact (List.getElem?_eq_some_iff.mp hu).1) ne (by simp [ne, ena]) fun y h' tk hy out st' hT hsz hk => ?_
    have hyu : y = u := by
      have : its[i]? = some y := by simpa using hy
      rw [hu] at this
      exact (Option.some.inj this).symm
    subst hyu
    refine ⟨_, rfl, wpAny_letOwnedTupleGo_enum (s := { s with heap := h', toks := tk + 1 }) out fun h2 hen2 sb => ?_⟩
    have t2 : h2.get? s.heap.objs.size = some { cls := .type "tuple", data := .seq #[.int i tk, y] } := (sb.2 _ (Nat.ne_of_gt lt1)).trans hT
    have newT : ObjOk X.prog X.w (upd H s.heap.objs.size (.tup [.int (i : Nat), x])) h2 s.heap.objs.size (.tup [.int (i : Nat), x]) :=
      ⟨by show 2 ≤ sizeLine; decide, [.int i tk, y], .cons ⟨_, rfl⟩ (.cons ru .nil), ⟨_, t2, rfl, _, rfl⟩⟩
    have J : Inv X pins σ (upd H s.heap.objs.size (.tup [.int (i : Nat), x])) { s with heap := h2, toks := tk + 1 } :=
      I.turnedNew (t' := tk + 1) (ch := [e, it]) (fun b ob hb q => (sb.2 b (fun z => hb (by simp [z]))).trans (hk b ob (fun z => hb (by simp [z])) (fun z => hb (by simp [z])) q)) hf (Nat.le_refl _) newT
    refine ⟨.ref s.heap.objs.size, _, J, rfl, ⟨_, x, rfl, I.hok.fresh (Nat.le_refl _), rfl, fun ys hys => by rw [I.tuple_inj hys hq]; exact hx⟩, ⟨⟨y, ?_⟩, st'.1.at fun o q => (sb.2 it (Ne.symm ne)).trans q, ne⟩, fun b hb => ?_⟩
    · rw [show ((i + 1 : Nat) : Int) = (i : Int) + 1 by omega]
      exact hen2
    · rw [upd_ne (Nat.ne_of_lt (elt b hb))]
      exact (hf b hb).1
  done := by
    intro X hP hw hK hc i pins s σ H E I hf st hg
    subst hP hw hK
    obtain ⟨⟨old, hen⟩, hti, ne⟩ := st
    obtain ⟨xs, hq, hx⟩ := hg
    obtain ⟨its, rel, pt, _⟩ := I.tuple hq
    obtain ⟨g0, g1, g2, g3, g4, g5⟩ := hf it (by simp)
    have hl := rel.length
    have hh : X.A.in1.handled = none := I.ok.hd hc
    have T : Draws X.prog X.w X.A.in1 it [it, a] i (fun i v => its.toArray[i]? = some v) (fun k h => k = i ∧ h.IsTupleIter it a i ∧ h.IsTuple a its.toArray) := {
      live := fun _ _ sj => let ⟨o, ho, _⟩ := sj.2.1; ⟨o, ho⟩
      frame := fun _ _ _ sj k => ⟨sj.1, sj.2.1.at fun o q => k it (by simp) o q, sj.2.2.at fun o q => k a (by simp) o q⟩
      item := fun j z Q' E' hj sj hQ => absurd sj.1 (Nat.ne_of_lt hj)
      done := fun z Q' E' sj hE => wpAny_nextOf_tuple_end hh sj.2.1 sj.2.2 (by simp; omega) hE }
    exact wpAny_pyNext_enum_endD T hen ⟨rfl, hti, pt⟩ fun h' eb => ⟨rfl, I.turned (t' := s.toks) (fun b o hb q => eb b o hb q) g0 g1 g3 g4 g5⟩
  self A i s Q E st h := by
    obtain ⟨⟨_, hen⟩, _⟩ := st
    exact wpAny_pyIter_enum hen h
def iEnumT (K : PySem.W.Frag) (ta : TA) : TI := fun σ H R => ta σ H fun vs H1 => ∃ a, vs = [.ref a] ∧ (∃ xs, SqT K H1 a xs) ∧ R (IteT K a) H1
theorem pi_enumT {X : Cx} {e : Expr} {ta : TA} {p pos tpos : Pos} {elts : List Expr} {kk : Nat} (hg : Gl X "enumerate") (hm : X.mg "enumerate" = none) (ha : PA X [e] ta) (hs : starEach [e] X.env = [(false, eval e X.env)] := by rfl) :
    PI X (.Tuple elts kk tpos) (.Call (.Name "enumerate" p) [e] [] pos) (iEnumT X.K ta) := by
  refine ⟨fun pins s σ H R I h => Call_ (ld_blt I hg hm boot_enumerate (PyProof.Rows.callWith_type1 (thn (ha.run pos pins s σ H _ I h) fun us s1 gone => ?_) hs rfl))⟩
  obtain ⟨vs, H1, I1, rel, a, rfl, ⟨xs, hq⟩, qq⟩ := gone
  match us, rel with
  | [_], .cons r .nil =>
    cases r
    obtain ⟨its, _, pt, _⟩ := I1.tuple hq
    refine call_one (begins_tuple a its.toArray) pt fun h' hen hit hk => wpAny_pyIter_enum hen ?_
    have J : Inv X pins σ H1 { s1 with heap := h' } := I1.kept (t' := s1.toks) hk
    refine ⟨s1.heap.objs.size + 1, [s1.heap.objs.size + 1, s1.heap.objs.size], _, _, H1, rfl, J, turn_enumT a (s1.heap.objs.size + 1) s1.heap.objs.size, ⟨⟨.none, hen⟩, ⟨_, hit, rfl, rfl⟩, Nat.succ_ne_self _⟩, fun b hb => ?_, qq⟩
    have le : s1.heap.objs.size ≤ b := by
      rcases (show b = s1.heap.objs.size + 1 ∨ b = s1.heap.objs.size by simpa using hb) with z | z
      · rw [z]; exact Nat.le_succ _
      · rw [z]; exact Nat.le_refl _
    exact I1.fpOk le (I1.hok.fresh le)
/-- for i, x in enumerate(t) -/
theorem for_enumT {K : PySem.W.Frag} {a : Addr} {xs : List V} {g : TG} {tb : TS} {D : Ends} {σ : L2.St} {H : Hp} (Pv : Nat → L2.St → Hp → Prop) (h0 : Pv 0 σ H) (hl : ∀ i σ H, Pv i σ H → SqT K H a xs)
    (hs : ∀ (i : Nat) (x : V) (T : Addr) (σ : L2.St) (H : Hp), xs[i]? = some x → Pv i σ H → H T = none → g (.ref T) σ (upd H T (.tup [.int (i : Nat), x])) fun σ2 H2 => tb { D with nx := Pv (i + 1), ct := Pv (i + 1), bk := D.nx } σ2 H2)
    (hd : ∀ σ H, Pv xs.length σ H → D.nx σ H) :
    ∃ W : Nat → Nat → L2.St → Hp → Prop, (∃ m, W 0 m σ H) ∧ ∀ i m σ H, W i m σ H →
      ((IteT K a).stop i H ∧ D.nx σ H) ∨ ((IteT K a).go i H ∧ ∃ N : L2.St → Hp → Prop, (∀ σ' H', N σ' H' → ∃ m', m' < m ∧ W (i + 1) m' σ' H') ∧ ∀ v H', (IteT K a).yld i H v H' → g v σ H' fun σ2 H2 => tb { D with nx := N, ct := N, bk := D.nx } σ2 H2) := by
  refine ⟨fun i m σ H => m + i = xs.length ∧ Pv i σ H, ⟨xs.length, rfl, h0⟩, fun i m σ H ⟨e, p⟩ => ?_⟩
  have q := hl i σ H p
  cases m with
  | zero => exact .inl ⟨⟨xs, q, by omega⟩, hd σ H (by rw [show xs.length = i by omega]; exact p)⟩
  | succ m =>
    have hlt : i < xs.length := by omega
    refine .inr ⟨⟨xs, xs[i], q, List.getElem?_eq_getElem hlt⟩, Pv (i + 1), fun σ' H' p' => ⟨m, Nat.lt_succ_self m, by omega, p'⟩, fun v H' y => ?_⟩
    obtain ⟨T, x, rfl, hT, rfl, hx⟩ := y
    exact hs i x T σ H (hx xs q) p hT
end En

namespace Xb
open PySem PySem.Spec PyProof.Rows L2
/-- isinstance of the caught error, whose own dict is known -/
structure IsC (K : PySem.W.Frag) (C : Addr) : Prop where
  cl : (PySem.W.clsIn K C).isSome = true
  ga : PySem.W.findIn K (.ref C) "__getattribute__" = some (some (.builtin "BaseException.__getattribute__"))
  gg : PySem.W.findIn K (.ref C) "__getattr__" = some none
  ex : PySem.W.subIn K (.ref C) (.type "BaseException") = some true
  c1 : PySem.W.findIn K (.ref C) "__class__" = some (some (.builtin "object.__class__"))
  c2 : PySem.W.specialIn K (.builtin "object.__class__") "__get__" = some (some (.builtin "getset_descriptor.__get__"))
  c3 : PySem.W.takesIn K (.builtin "object.__class__") = some true
  c4 : PySem.W.mroIn K C (.type "object") = some true
def rIsAt (K : PySem.W.Frag) (a : Addr) (cls : Value) (d : Option Addr) (C : Addr) : List V → Hp → VK → Prop := fun xs H Q => cls = .ref C ∧ ∃ (c : V) (cv : Value) (b : Bool) (dd : Addr) (fs : List (Str × V)), xs = [.ref a, c] ∧ d = some dd ∧ H dd = some (.xd fs) ∧ (∀ u, RelV c u → u = cv) ∧ PySem.W.kitOne K (.ref C) cv = some b ∧ Q (.bl b) H
theorem call_isAt {X : Cx} {a C : Addr} {cls : Value} {d : Option Addr} {oe : Obj} {pn : List (Addr × Obj)} (T : IsC X.K C) (hz : Zc cls d oe) (hf : ∃ vs, oe.data = .fields vs) : CallR (X.suite a ((a, oe) :: pn)) (.builtin "isinstance") (rIsAt X.K a cls d C) := by
  intro pins s σ H xs us Q I r h
  obtain ⟨rfl, c, cv, b, dd, fs, rfl, rfl, ea, hcv, e, q⟩ := h
  match us, r with
  | [_, _], .cons r1 (.cons r2 .nil) =>
    cases r1
    have ec := hcv _ r2
    subst ec
    have pin := (I.pin (a, oe) (List.mem_append.mpr (.inl List.mem_cons_self))).1
    obtain ⟨vs, hv⟩ := hf
    obtain ⟨mA, hns, _⟩ := (I.hok dd _ ea : ObjOk X.prog X.w H s.heap dd (.xd fs))
    obtain ⟨od, ho, _⟩ := lookIn_ns hns
    have J : PySem.W.InstAt s.heap a oe C (some od) := ⟨pin, hz.1, by unfold PySem.W.notCls; rw [hv] <;> rfl, by rw [hz.2]; exact ho⟩
    exact PySem.W.kia_one (PySem.W.kitx_exc T.cl T.ga T.gg T.ex T.c1 T.c2 T.c3 T.c4) I.kIn J e (by intro z; cases z) fun tk => ⟨.bl b, H, I.kept (t' := tk) fun _ _ z => z, rfl, q⟩
end Xb
namespace Kc
open PySem PySem.Spec PyProof.Rows L2 Hb Gu Tx Xb
def top (i : Nat) : Stmt := PySem.Challenge.pw_curvebells_k03_curves_reckoned_and_writt.main.body.getD i (.Pass ⟨0, 0, 0, 0⟩)
local macro_rules | `(tactic| walk_at "sd") => `(tactic| (first
  | decide
  | exact ⟨by decide, by decide⟩
  | exact ⟨by decide, by decide, by decide⟩
  | exact Or.inl ⟨by decide, by decide⟩
  | exact Or.inr ⟨by decide, by decide⟩
  | exact divw (by decide) (by decide)
  | exact divw (by omega) (by omega)
  | exact Or.inl ⟨by omega, by omega⟩
  | exact Or.inr ⟨by omega, by omega⟩
  | (show (0 : Int) < _; omega)))
local macro_rules | `(tactic| walk_at "sq") => `(tactic| (first | exact SqT.of (by assumption) | exact SqL.of (by assumption) | exact SqL.of upd_same | assumption))
local macro_rules | `(tactic| walk_at "rd") => `(tactic| repeat (first
  | refine ⟨_, rfl, ?_⟩
  | refine ⟨_, _, rfl, rfl, (by walk_at "sd"), ?_⟩
  | refine ⟨_, _, rfl, rfl, ?_⟩
  | refine ⟨_, _, _, _, rfl, rfl, (by walk_at "sq"), rfl, ?_⟩
  | refine ⟨_, _, _, _, rfl, rfl, (by first | assumption | exact upd_same), rfl, ?_⟩
  | refine ⟨_, _, rfl, Or.inl (by walk_at "sq"), ?_⟩
  | refine ⟨_, _, rfl, ?_⟩
  | refine Or.inl ⟨_, rfl, ?_⟩
  | refine ⟨rfl, ?_⟩))
theorem lc_str {x : Str} {g : TG} {tt : TT} {te : TE} {vs : List Nat} {σ : L2.St} {H1 : Hp} {D : Addr} {Qd : Hp → Prop} (Pv : Nat → Hp → Prop) (h0 : Pv 0 (upd H1 D (.lst [])))
    (hs : ∀ i c H, (tl x)[i]? = some c → Pv i H → g (.str (c1 c)) (wipe σ vs) H fun σ2 H2 => wipe σ2 vs = wipe σ vs ∧ tt σ2 H2 fun b H3 =>
      if b = true then te σ2 H3 fun y H4 => ∃ acc, H4 D = some (.lst acc) ∧ acc.length < sizeLine ∧ Pv (i + 1) (upd H4 D (.lst (acc ++ [y]))) else Pv (i + 1) H3) (hd : ∀ H, Pv (tl x).length H → Qd H) :
    ∃ W : Nat → Nat → Hp → Prop, (∃ m, W 0 m (upd H1 D (.lst []))) ∧ ∀ i m H, W i m H →
      ((Its x).stop i H ∧ Qd H) ∨ ((Its x).go i H ∧ ∃ Nx : Hp → Prop, (∀ H', Nx H' → ∃ m', m' < m ∧ W (i + 1) m' H') ∧ ∀ v H', (Its x).yld i H v H' → g v (wipe σ vs) H' fun σ2 H2 => wipe σ2 vs = wipe σ vs ∧ tt σ2 H2 fun b H3 =>
        if b = true then te σ2 H3 fun y H4 => ∃ acc, H4 D = some (.lst acc) ∧ acc.length < sizeLine ∧ Nx (upd H4 D (.lst (acc ++ [y]))) else Nx H3) := by
  have hx : x.cps.size = (tl x).length := by show x.cps.size = x.cps.toList.length; rw [Array.length_toList]
  refine ⟨fun i m H => m + i = (tl x).length ∧ Pv i H, ⟨(tl x).length, rfl, h0⟩, fun i m H ⟨e, p⟩ => ?_⟩
  cases m with
  | zero =>
    have e' : i = (tl x).length := by omega
    subst e'
    exact .inl ⟨by show x.cps.size ≤ _; omega, hd H p⟩
  | succ m =>
    refine .inr ⟨by show i < x.cps.size; omega, Pv (i + 1), fun H' p' => ⟨m, Nat.lt_succ_self m, by omega, p'⟩, fun v H' y => ?_⟩
    obtain ⟨rfl, c, hc, rfl⟩ := y
    exact hs i c _ (by show x.cps.toList[i]? = _; rw [Array.getElem?_toList]; exact hc) p
section
variable {P : Program} {w : World} {K : PySem.W.Frag} {mg : Str → Option Value} {base : Heap}
/-! ### is_integer -/
abbrev s_is_integer : Stmt := top 7
theorem sc_is_integer : FnScope ["value"] ["value"] (defScope s_is_integer) := ⟨rfl, rfl, rfl, by decide +kernel, rfl, by decide +kernel, by decide +kernel⟩
def isI : PyData → Bool
  | .int _ => true
  | _ => false
def spIsI (K : PySem.W.Frag) : Sp := fun vs H Q _ => ∃ (v : V) (d : PyData), vs = [v] ∧ Dp K H v d ∧ Q (.bl (isI d)) H
theorem no_dict {K : PySem.W.Frag} {H : Hp} {v : V} {kvs : List (PyData × PyData)} (h : Dp K H v (.dict kvs)) : False := by cases h
theorem ok_isI {f : Addr} {fd : FuncData} (F : Fun K "is_integer" "is_integer" s_is_integer f fd) (n_isinstance : mg "isinstance" = none) (n_int : mg "int" = none) (n_bool : mg "bool" = none) : FnG P w K mg base CX0 1 f fd ["value"] (spIsI K) := by
  refine go_ok F sc_is_integer (fun vs H Q E h => ?_) (fun cdv A outer s H vs Q E hr fr h => ?_)
  · obtain ⟨_, _, rfl, _⟩ := h
    rfl
  · obtain ⟨v, d, rfl, hd, q⟩ := h
    refine ⟨_, (pss_one (ps_ret (pe_and (pe_callB call_isi (by rfl) n_isinstance (by decide +kernel) (pa_cons (pv 0) (pa_cons (pe_bltn (v := .ty "int") (by rfl) n_int (by decide +kernel) rfl) pa_nil))) (pe_one (pe_not (pe_callB call_isi (by rfl) n_isinstance (by decide +kernel) (pa_cons (pv 0) (pa_cons (pe_bltn (v := .ty "bool") (by rfl) n_bool (by decide +kernel) rfl) pa_nil)))))))), ?_⟩
    refine ⟨v, rfl, ?_⟩
    cases d with
    | dict kvs => exact (no_dict hd).elim
    | int i =>
      refine ⟨v, .ty "int", _, _, true, rfl, .ty _, ty_data hd, kit_ty (show kitB "int" "int" = some true by decide +kernel), ?_⟩
      refine ⟨true, rfl, iteT ⟨v, rfl, ?_⟩⟩
      refine ⟨v, .ty "bool", _, _, false, rfl, .ty _, ty_data hd, kit_ty (show kitB "int" "bool" = some false by decide +kernel), ?_⟩
      exact ⟨_, rfl, q⟩
    | bool b =>
      refine ⟨v, .ty "int", _, _, true, rfl, .ty _, ty_data hd, kit_ty (show kitB "bool" "int" = some true by decide +kernel), ?_⟩
      refine ⟨true, rfl, iteT ⟨v, rfl, ?_⟩⟩
      refine ⟨v, .ty "bool", _, _, true, rfl, .ty _, ty_data hd, kit_ty (show kitB "bool" "bool" = some true by decide +kernel), ?_⟩
      exact ⟨_, rfl, q⟩
    | none =>
      refine ⟨v, .ty "int", _, _, false, rfl, .ty _, ty_data hd, kit_ty (show kitB "NoneType" "int" = some false by decide +kernel), ?_⟩
      exact ⟨false, rfl, iteF q⟩
    | str x =>
      refine ⟨v, .ty "int", _, _, false, rfl, .ty _, ty_data hd, kit_ty (show kitB "str" "int" = some false by decide +kernel), ?_⟩
      exact ⟨false, rfl, iteF q⟩
    | list x =>
      refine ⟨v, .ty "int", _, _, false, rfl, .ty _, ty_data hd, kit_ty (show kitB "list" "int" = some false by decide +kernel), ?_⟩
      exact ⟨false, rfl, iteF q⟩
    | tuple x =>
      refine ⟨v, .ty "int", _, _, false, rfl, .ty _, ty_data hd, kit_ty (show kitB "tuple" "int" = some false by decide +kernel), ?_⟩
      exact ⟨false, rfl, iteF q⟩
/-! ### read_integer -/
abbrev s_read_integer : Stmt := top 10
theorem sc_read_integer : FnScope ["word", "figures"] ["word"] (defScope s_read_integer) := ⟨rfl, rfl, rfl, by decide +kernel, rfl, by decide +kernel, by decide +kernel⟩
def vI : Option Int → V
  | none => .non
  | some i => .int i
def spWord : Sp := fun vs H Q _ => ∃ x : Str, vs = [.str x] ∧ x.length ≤ 10000 ∧ Q (vI (wpart (tl x))) H
theorem figs_of (x : Str) : tl (if Txt.startswith x (c1 45) = true then cutS x (some 1) none else x) = figs (tl x) := by
  by_cases h : Txt.startswith x (c1 45) = true
  · rw [if_pos h]
    obtain ⟨r, e⟩ := (starts1 x 45).mp h
    have z := cut_from x 1
    show tl (cutS x (some ((1 : Nat) : Int)) none) = _
    rw [z, e]
    rfl
  · rw [if_neg h]
    unfold figs
    split
    · next r e => exact absurd ((starts1 x 45).mpr ⟨r, e⟩) h
    · rfl
theorem str_eq (x : Str) (c : Nat) : decide (V.str x = V.str (c1 c)) = decide (tl x = [c]) := by
  by_cases h : tl x = [c]
  · rw [decide_eq_true h, decide_eq_true (show V.str x = V.str (c1 c) from congrArg V.str (ext h))]
  · rw [decide_eq_false h, decide_eq_false (fun z => h (by rw [V.str.inj z]))]
theorem starts_head (x : Str) (c : Nat) : Txt.startswith x (c1 c) = decide ((tl x).head? = some c) := by
  by_cases h : Txt.startswith x (c1 c) = true
  · obtain ⟨r, e⟩ := (starts1 x c).mp h
    rw [h, e]
    exact (decide_eq_true rfl).symm
  · rw [Bool.eq_false_iff.mpr h]
    refine (decide_eq_false fun z => h ((starts1 x c).mpr ?_)).symm
    cases e : tl x with
    | nil => rw [e] at z; cases z
    | cons a r =>
      rw [e] at z
      have : a = c := Option.some.inj z
      exact ⟨r, by rw [this]⟩
theorem ok_word {f : Addr} {fd : FuncData} (F : Fun K "read_integer" "read_integer" s_read_integer f fd) (n_len : mg "len" = none) (n_int : mg "int" = none) {tk : Tok} (g_FIGURES : mg "FIGURES" = some (.int 9 tk)) : FnG P w K mg base CX0 1 f fd ["word"] spWord := by
  refine go_ok F sc_read_integer (fun vs H Q E h => ?_) (fun cdv A outer s H vs Q E hr fr h => ?_)
  · obtain ⟨_, rfl, _⟩ := h
    rfl
  · obtain ⟨x, rfl, hx, q⟩ := h
    refine ⟨_, (Evl.pss_cut (ps_set (i := 1) sc_read_integer.nd rfl (Or.inl rfl) (pe_ifExp (pt_val (pe_bm PySem.F.plainAttrs_str PySem.F.slot_str_startswith PySem.F.type_str_startswith mt_startswith (pv 0) (pa_cons (pe_str) pa_nil))) (pe_slice sl_str (pv 0) (po_some (pe_int)) po_none) (pv 0)))
    (Evl.pss_cut (ps_if (PW.pt (pw_or (pt_cmpR op_gt (pe_callB call_len_str (by rfl) n_len PySem.boot_len (pa_cons (pv 1) pa_nil)) (pe_glob (v := .int 9) rfl g_FIGURES ⟨_, rfl⟩) (nomark _)) (pw_or (pt_not (pt_val (pe_bm0 PySem.F.plainAttrs_str PySem.F.slot_str_isascii PySem.F.type_str_isascii mt_isascii (pv 1)))) (pw_or1 (pt_not (pt_val (pe_bm0 PySem.F.plainAttrs_str PySem.F.slot_str_isdigit PySem.F.type_str_isdigit mt_isdigit (pv 1)))))))) (pss_one (ps_ret (pe_non))) pss_nil)
    (pss_cons (ps_if (PW.pt (pw_and (pt_val (pe_bm PySem.F.plainAttrs_str PySem.F.slot_str_startswith PySem.F.type_str_startswith mt_startswith (pv 1) (pa_cons (pe_str) pa_nil))) (pw_and1 (pt_cmpR op_ne (pv 0) (pe_str) (nomark _))))) (pss_one (ps_ret (pe_non))) pss_nil)
    (pss_one (ps_ret (pe_callTy call_int_str (by rfl) n_int (by decide +kernel) (pa_cons (pv 0) pa_nil))))))), ?_⟩
    have hxl : x.length = (tl x).length := by show x.cps.size = x.cps.toList.length; rw [Array.length_toList]
    have ef := figs_of x
    have s45 : Str.ofString "-" = c1 45 := by rfl
    have s48 : Str.ofString "0" = c1 48 := by rfl
    refine ⟨fun σ H' => ∃ y : Str, σ = [some (.str x), some (.str y)] ∧ H' = H ∧ tl y = figs (tl x) ∧ y.length ≤ 10000, ?_, ?_⟩
    · refine ⟨_, rfl, rfl, x, Str.ofString "-", rfl, rfl, _, rfl, ?_⟩
      rw [s45]
      cases e : Txt.startswith x (c1 45) with
      | true =>
        rw [e, if_pos rfl] at ef
        refine iteT ⟨_, rfl, 1, rfl, x, rfl, Nat.le_trans hx (by decide), cutS x (some 1) none, rfl, rfl, ef, Nat.le_trans (cutS_length x (some 1) none) hx⟩
      | false =>
        rw [e, if_neg Bool.false_ne_true] at ef
        exact iteF ⟨_, rfl, x, rfl, rfl, ef, hx⟩
    · rintro σ H' ⟨y, rfl, rfl, ey, hy⟩
      have hyl : y.length = (figs (tl x)).length := by rw [← ey]; show y.cps.size = y.cps.toList.length; rw [Array.length_toList]
      have ad := asc_dig y
      rw [ey] at ad
      -- what is not ok hands back None
      have no : okW (tl x) = false → Q .non H' := fun z => by
        have e : wpart (tl x) = none := by unfold wpart; rw [z]; rfl
        rw [e] at q
        exact q
      have bad : (decide (1 ≤ (figs (tl x)).length) && (figs (tl x)).all isD) = false → okW (tl x) = false := fun z => by
        unfold okW
        cases h1 : decide (1 ≤ (figs (tl x)).length) with
        | false => rfl
        | true =>
          rw [h1, Bool.true_and] at z
          rw [z, Bool.false_and, Bool.and_false, Bool.and_false]
      refine ⟨fun σ H2 => σ = [some (.str x), some (.str y)] ∧ H2 = H' ∧ (figs (tl x)).length ≤ 9 ∧ (decide (1 ≤ (figs (tl x)).length) && (figs (tl x)).all isD) = true, ?_, ?_⟩
      · refine ⟨_, rfl, y, rfl, Nat.le_trans hy (by decide), _, _, rfl, rfl, _, rfl, ?_⟩
        refine iteD (fun c => ?_) (fun c => ?_)
        · refine iteT (no ?_)
          unfold okW
          rw [decide_eq_false (show ¬ (figs (tl x)).length ≤ 9 by omega)]
          cases decide (1 ≤ (figs (tl x)).length) <;> rfl
        · refine ⟨_, rfl, rfl, y, rfl, rfl, trivial, _, rfl, ?_⟩
          cases e1 : Txt.isascii y with
          | false =>
            rw [e1, Bool.false_and] at ad
            exact iteT (iteT (no (bad ad.symm)))
          | true =>
            refine iteF ⟨_, rfl, rfl, y, rfl, rfl, trivial, _, rfl, ?_⟩
            cases e2 : Txt.isdigit y with
            | false =>
              rw [e1, e2] at ad
              exact iteT (no (bad ad.symm))
            | true =>
              rw [e1, e2] at ad
              exact iteF ⟨rfl, rfl, by omega, ad.symm⟩
      · rintro σ H2 ⟨rfl, rfl, h9, hd⟩
        rw [Bool.and_eq_true, decide_eq_true_eq] at hd
        have hs : Txt.startswith y (c1 48) = decide ((figs (tl x)).head? = some 48) := by rw [starts_head, ey]
        have okx : okW (tl x) = !(decide ((figs (tl x)).head? = some 48) && !decide (tl x = [48])) := by
          unfold okW
          rw [decide_eq_true hd.1, decide_eq_true h9, hd.2]
          rfl
        have yes : okW (tl x) = true → tRet (tCB (fun xs H Q => ∃ a n, xs = [V.str a] ∧ intText? a = some n ∧ a.length ≤ 640 ∧ Q (V.int n) H) (tCons (tVar 0) tNil)) { nx := fun _ H' => Q .non H', rt := Q } [some (.str x), some (.str y)] H2 := fun z => by
          obtain ⟨i1, i2⟩ := int_word z
          refine ⟨_, rfl, x, _, rfl, i1, i2, ?_⟩
          have e : wpart (tl x) = some (valW (tl x)) := by unfold wpart; rw [if_pos z]
          rw [e] at q
          exact q
        refine ⟨_, rfl, rfl, y, Str.ofString "0", rfl, rfl, _, rfl, ?_⟩
        rw [s48, hs]
        cases e1 : decide ((figs (tl x)).head? = some 48) with
        | false =>
          rw [e1] at okx
          exact iteF (iteF (yes okx))
        | true =>
          refine iteT ⟨_, rfl, rfl, _, rfl, ?_⟩
          show if (!decide (V.str x = V.str (Str.ofString "0"))) = true then _ else _
          rw [s48, str_eq]
          rw [e1] at okx
          cases e2 : decide (tl x = [48]) with
          | true =>
            rw [e2] at okx
            exact iteF (yes okx)
          | false =>
            rw [e2] at okx
            exact iteT (no okx)

/-! ### ratios of the heap -/
def IsR (H : Hp) (v : V) (a b : Int) : Prop := ∃ t, v = .ref t ∧ H t = some (.tup [.int a, .int b])
theorem IsR.mono {H H' : Hp} {v : V} {a b : Int} (s : Same H H') (h : IsR H v a b) : IsR H' v a b := let ⟨t, e, g⟩ := h; ⟨t, e, s _ _ g⟩
def sg (a b : Int) : Int := if b < 0 then -((Nat.gcd a.natAbs b.natAbs : Nat) : Int) else ((Nat.gcd a.natAbs b.natAbs : Nat) : Int)
def lT (a b : Int) : Int := a.fdiv (sg a b)
def lB (a b : Int) : Int := b.fdiv (sg a b)
theorem sg_ok {a b : Int} (hb : b ≠ 0) (hs : b.natAbs < 2 ^ 190) : sg a b ≠ 0 ∧ (sg a b).natAbs < 2 ^ 200 := by
  have g0 : 0 < Nat.gcd a.natAbs b.natAbs := Nat.gcd_pos_of_pos_right _ (by omega)
  have g1 : Nat.gcd a.natAbs b.natAbs ≤ b.natAbs := Nat.gcd_le_right _ (by omega)
  have h2 : (2 : Nat) ^ 190 < 2 ^ 200 := by decide
  unfold sg
  by_cases c : b < 0
  · rw [if_pos c]; omega
  · rw [if_neg c]; omega
abbrev s_sign_of : Stmt := top 9
theorem sc_sign_of : FnScope ["integer"] ["integer"] (defScope s_sign_of) := ⟨rfl, rfl, rfl, by decide +kernel, rfl, by decide +kernel, by decide +kernel⟩
def spSign : Sp := fun vs H Q _ => ∃ i : Int, vs = [.int i] ∧ Q (.int i.sign) H
theorem ok_sign {f : Addr} {fd : FuncData} (F : Fun K "sign_of" "sign_of" s_sign_of f fd) : FnG P w K mg base CX0 1 f fd ["integer"] spSign := by
  refine go_ok F sc_sign_of (fun vs H Q E h => ?_) (fun cdv A outer s H vs Q E hr fr h => ?_)
  · obtain ⟨i, rfl, _⟩ := h
    rfl
  · obtain ⟨i, rfl, q⟩ := h
    refine ⟨_, (pss_cons (ps_if (pt_cmpR op_gt (pv 0) (pe_int) (nomark _)) (pss_one (ps_ret (pe_int))) pss_nil)
    (pss_cons (ps_if (pt_cmpR op_lt (pv 0) (pe_int) (nomark _)) (pss_one (ps_ret (pe_un un_neg (pe_int)))) pss_nil)
    (pss_one (ps_ret (pe_int))))), ?_⟩
    walk_at "rd"
    refine iteD (fun c => ?_) (fun c => ?_)
    · rw [Int.sign_eq_one_of_pos c] at q
      exact q
    · walk_at "rd"
      refine iteD (fun c2 => ?_) (fun c2 => ?_)
      · walk_at "rd"
        rw [Int.sign_eq_neg_one_of_neg c2] at q
        exact q
      · rw [show i = 0 by omega] at q
        exact q
abbrev s_ratio_by : Stmt := top 12
theorem sc_ratio_by : FnScope ["top", "bottom", "shared"] ["top", "bottom"] (defScope s_ratio_by) := ⟨rfl, rfl, rfl, by decide +kernel, rfl, by decide +kernel, by decide +kernel⟩
def spBy : Sp := fun vs H Q _ => ∃ a b : Int, vs = [.int a, .int b] ∧ b ≠ 0 ∧ b.natAbs < 2 ^ 190 ∧ ∀ p H', Same H H' → H' p = some (.tup [.int (lT a b), .int (lB a b)]) → Q (.ref p) H'
theorem ok_by {f : Addr} {fd : FuncData} (F : FunD K "ratio_by" "ratio_by" (defArgs s_ratio_by) (defBody s_ratio_by) (defScope s_ratio_by) [.int 1] [] f fd) (g_gcd : mg "gcd" = some (.builtin "math.gcd")) : FnG P w K mg base CX0 1 f fd ["top", "bottom"] spBy := by
  refine go_okD F sc_ratio_by (fun vs H Q E h => ?_) (fun cdv A outer s H vs Q E hr fr h => ?_)
  · obtain ⟨_, _, rfl, _⟩ := h
    rfl
  · obtain ⟨a, b, rfl, hb, hs, q⟩ := h
    refine ⟨_, (pss_cons (ps_set (i := 2) sc_ratio_by.nd rfl (Or.inl rfl) (pe_callBfun cr_gcd rfl g_gcd (pa_cons (pv 0) (pa_cons (pv 1) pa_nil))))
    (Evl.pss_cut (ps_if (pt_cmpR op_lt (pv 1) (pe_int) (nomark _)) (pss_one (ps_set (i := 2) sc_ratio_by.nd rfl (Or.inl rfl) (pe_un un_neg (pv 2)))) pss_nil)
    (pss_one (ps_ret (pe_tup (pa_cons (pe_op op_fdivZ (pv 0) (pv 2)) (pa_cons (pe_op op_fdivZ (pv 1) (pv 2)) pa_nil))))))), ?_⟩
    refine ⟨_, rfl, _, rfl, a, b, rfl, ?_⟩
    refine ⟨fun σ H' => σ = [some (.int a), some (.int b), some (.int (sg a b))] ∧ H' = H, ?_, ?_⟩
    · refine ⟨_, rfl, _, _, rfl, rfl, _, rfl, ?_⟩
      refine iteD (fun c => ?_) (fun c => ?_)
      · refine ⟨_, rfl, _, rfl, ?_, rfl⟩
        unfold sg
        rw [if_pos c]
        rfl
      · refine ⟨?_, rfl⟩
        unfold sg
        rw [if_neg c]
        rfl
    · rintro σ H' ⟨rfl, rfl⟩
      obtain ⟨h1, h2⟩ := sg_ok (a := a) hb hs
      refine ⟨_, rfl, _, rfl, _, _, rfl, rfl, divz h1 h2, _, rfl, _, rfl, _, _, rfl, rfl, divz h1 h2, by show 2 ≤ sizeLine; decide, fun p hp => ?_⟩
      exact q p _ (same_new hp _) upd_same
def isTup : PyData → Bool
  | .tuple _ => true
  | _ => false
theorem isi_tup {H : Hp} {v : V} {d : PyData} (hd : Dp K H v d) : PySem.W.kitOne K (.type (tyName d)) (.type "tuple") = some (isTup d) := by
  cases d with
  | dict kvs => exact (no_dict hd).elim
  | int i => exact kit_ty (show kitB "int" "tuple" = some false by decide +kernel)
  | bool i => exact kit_ty (show kitB "bool" "tuple" = some false by decide +kernel)
  | none => exact kit_ty (show kitB "NoneType" "tuple" = some false by decide +kernel)
  | str i => exact kit_ty (show kitB "str" "tuple" = some false by decide +kernel)
  | list i => exact kit_ty (show kitB "list" "tuple" = some false by decide +kernel)
  | tuple i => exact kit_ty (show kitB "tuple" "tuple" = some true by decide +kernel)
theorem all_len {H : Hp} : ∀ {xs : List V} {ds : List PyData}, DpAll K H xs ds → xs.length = ds.length
  | _, _, .nil => rfl
  | _, _, .cons _ r => congrArg Nat.succ (all_len r)
theorem tlen {a : Int} (h : a.natAbs < 2 ^ 200) : a.natAbs.log2 < 1920 ∧ (Str.ofString (toString a)).length ≤ 201 := by
  have l : a.natAbs.log2 < 200 := PySem.Flt.log2_lt_of (by decide) h
  refine ⟨by omega, ?_⟩
  have e := int_text_length_le (k := 200) (by decide) l
  have : (Str.ofString (toString a)).length = (toString a).length := by
    have h := congrArg List.length (TL.tl_ofString (toString a))
    rw [List.length_map, String.length_toList] at h
    rw [TL.len_tl]
    exact h
  omega
theorem len_app (x y : Str) : (x ++ y).length = x.length + y.length := by
  have h : ∀ z : Str, z.length = (tl z).length := fun z => by show z.cps.size = z.cps.toList.length; rw [Array.length_toList]
  rw [h, h x, h y, ← List.length_append]
  exact congrArg List.length (TL.tl_append x y)
theorem emp_app (x : Str) : Str.empty ++ x = x := ext (by show TL.tl (Str.empty ++ x) = TL.tl x; rw [TL.tl_append]; rfl)
def isStr : PyData → Bool
  | .str _ => true
  | _ => false
theorem isi_str {H : Hp} {v : V} {d : PyData} (hd : Dp K H v d) : PySem.W.kitOne K (.type (tyName d)) (.type "str") = some (isStr d) := by
  cases d with
  | dict kvs => exact (no_dict hd).elim
  | int i => exact kit_ty (show kitB "int" "str" = some false by decide +kernel)
  | bool i => exact kit_ty (show kitB "bool" "str" = some false by decide +kernel)
  | none => exact kit_ty (show kitB "NoneType" "str" = some false by decide +kernel)
  | str i => exact kit_ty (show kitB "str" "str" = some true by decide +kernel)
  | list i => exact kit_ty (show kitB "list" "str" = some false by decide +kernel)
  | tuple i => exact kit_ty (show kitB "tuple" "str" = some false by decide +kernel)
theorem len_tl (x : Str) : x.length = (tl x).length := by show x.cps.size = x.cps.toList.length; rw [Array.length_toList]
theorem flat_vI (o : Option Int) : flatV (vI o) = true := by cases o <;> rfl
theorem in_vI : ∀ l : List (Option Int), inV .non (l.map vI) = l.any (·.isNone)
  | [] => rfl
  | o :: l => by
    show (eqV (vI o) .non || inV .non (l.map vI)) = (o.isNone || l.any (·.isNone))
    rw [in_vI l]
    cases o <;> rfl
theorem spl_len (c : Nat) : ∀ (n : Nat) (l : List Nat), l.length ≤ n → ∀ p ∈ TL.spl [c] 0 [] l, p.length ≤ n := by
  intro n
  induction n with
  | zero =>
    intro l hl p hp
    have e : l = [] := List.length_eq_zero_iff.mp (by omega)
    subst e
    rw [spl_no (by simp)] at hp
    rw [List.mem_singleton.mp hp]
    exact Nat.le_refl _
  | succ n ih =>
    intro l hl p hp
    by_cases h : c ∈ l
    · obtain ⟨a, r, e, ha⟩ := cut_at h
      subst e
      rw [List.length_append, List.length_cons] at hl
      rw [spl_yes ha] at hp
      rcases List.mem_cons.mp hp with z | z
      · rw [z]; omega
      · have := ih r (by omega) p z
        omega
    · rw [spl_no h] at hp
      rw [List.mem_singleton.mp hp]
      exact hl
def BoxAt (H : Hp) (p : Addr) : Prop := ∃ g s n : Int, H p = some (.lst [.int g, .int s, .int n]) ∧ 0 ≤ g ∧ (0 ≤ s ∧ s < 2 ^ 40) ∧ 0 ≤ n
/-! ### _law_take -/
abbrev s__law_take : Stmt := top 33
theorem sc__law_take : FnScope ["box", "many", "digit", "raw"] ["box", "many"] (defScope s__law_take) := ⟨rfl, rfl, rfl, by decide +kernel, rfl, by decide +kernel, by decide +kernel⟩
def spTake : Sp := fun vs H Q _ => ∃ (p : Addr) (many : Int), vs = [.ref p, .int many] ∧ (1 ≤ many ∧ many < 2 ^ 30) ∧ BoxAt H p ∧ ∀ d H', 0 ≤ d → d < many → Kept p H H' → BoxAt H' p → Q (.int d) H'
theorem ok_take {f : Addr} {fd : FuncData} (F : Fun K "_law_take" "_law_take" s__law_take f fd) (n_int : mg "int" = none) : FnG P w K mg base CX0 1 f fd ["box", "many"] spTake := by
  refine FnG.of (F.ok sc__law_take (fun vs H Q E h => ?_) (fun cdv A outer s H vs Q E hr h => ?_))
  · obtain ⟨_, _, rfl, _⟩ := h
    rfl
  · obtain ⟨p, many, rfl, hm, ⟨g, s, n, hp, g0, s0, n0⟩, q⟩ := h
    refine ⟨_, (pss_cons (ps_if (pt_cmpR op_gt (pe_ix ix_list (pv 0) (pe_int) (fun _ _ => rfl)) (pe_int) (nomark _)) (pss_cons (ps_set (i := 2) sc__law_take.nd rfl (Or.inl rfl) (pe_op op_mod (pe_callTy call_int1 (by rfl) n_int (by decide +kernel) (pa_cons (pe_ix ix_list (pv 0) (pe_int) (fun _ _ => rfl)) pa_nil)) (pv 1)))
    (pss_cons (ps_asg (pe_op op_fdivW (pe_ix ix_list (pv 0) (pe_int) (fun _ _ => rfl)) (pv 1)) (pg_sub (pv 0) (pe_int) set_list))
    (pss_one (ps_ret (pv 2))))) pss_nil)
    (pss_cons (ps_asg (pe_op op_add (pe_ix ix_list (pv 0) (pe_int) (fun _ _ => rfl)) (pe_int)) (pg_sub (pv 0) (pe_int) set_list))
    (pss_cons (ps_set (i := 3) sc__law_take.nd rfl (Or.inl rfl) (pe_op op_mod (pe_callTy call_int1 (by rfl) n_int (by decide +kernel) (pa_cons (pe_op op_add (pe_op op_mul (pe_op op_add (pe_ix ix_list (pv 0) (pe_int) (fun _ _ => rfl)) (pe_op op_mul (pe_int) (pe_ix ix_list (pv 0) (pe_int) (fun _ _ => rfl)))) (pe_int)) (pe_int)) pa_nil)) (pe_int)))
    (pss_cons (ps_asg (pe_op op_add (pe_op op_mod (pe_callTy call_int1 (by rfl) n_int (by decide +kernel) (pa_cons (pe_op op_add (pe_op op_mul (pv 3) (pe_int)) (pe_int)) pa_nil)) (pe_int)) (pe_int)) (pg_sub (pv 0) (pe_int) set_list))
    (pss_one (ps_ret (pe_op op_mod (pe_callTy call_int1 (by rfl) n_int (by decide +kernel) (pa_cons (pe_op op_fdivW (pe_op op_add (pe_op op_mul (pv 3) (pe_int)) (pe_ix ix_list (pv 0) (pe_int) (fun _ _ => rfl))) (pe_int)) pa_nil)) (pv 1)))))))), ?_⟩
    walk_at "rd"
    refine iteD (fun c => ?_) (fun c => ?_)
    · walk_at "rd"
      exact q _ _ (Int.emod_nonneg _ (by omega)) (Int.emod_lt_of_pos _ (by omega)) kept_upd ⟨_, _, _, upd_same, Int.ediv_nonneg g0 (by omega), s0, n0⟩
    · walk_at "rd"
      refine q _ _ (Int.emod_nonneg _ (by omega)) (Int.emod_lt_of_pos _ (by omega)) (kept_upd.trans kept_upd) ⟨_, _, _, upd_same, g0, ⟨?_, ?_⟩, by omega⟩ <;> omega
/-! ### _law_box -/
abbrev s__law_box : Stmt := top 32
theorem sc__law_box : FnScope ["script", "k", "cell"] ["script", "k"] (defScope s__law_box) := ⟨rfl, rfl, rfl, by decide +kernel, rfl, by decide +kernel, by decide +kernel⟩
def spBox (K : PySem.W.Frag) : Sp := fun vs H Q _ => ∃ (a : Addr) (ns : List Int) (k : Int), vs = [.ref a, .int k] ∧ (0 ≤ k ∧ k ≤ 100) ∧ SqL K H a (ns.map V.int) ∧ ns.length ≤ 63 ∧ ∀ p H', H p = none → Same H H' → BoxAt H' p → Q (.ref p) H'
theorem at_map {ns : List Int} {k : Int} (h0 : 0 ≤ k) (h : k < (ns.length : Int)) : ∃ v : Int, atI (ns.map V.int) k = some (.int v) := by
  have hk : k.toNat < ns.length := by omega
  have ek : k = ((k.toNat : Nat) : Int) := by omega
  have q : atI (ns.map V.int) ((k.toNat : Nat) : Int) = some (.int ns[k.toNat]) := atI_nat (by rw [List.getElem?_map, List.getElem?_eq_getElem hk] <;> rfl)
  rw [← ek] at q
  exact ⟨_, q⟩
theorem abs_nn (i : Int) : 0 ≤ (if i < 0 then -i else i) := by
  by_cases h : i < 0
  · rw [if_pos h]; omega
  · rw [if_neg h]; omega
theorem ok_box {f : Addr} {fd : FuncData} (F : Fun K "_law_box" "_law_box" s__law_box f fd) (n_int : mg "int" = none) (n_len : mg "len" = none) (n_abs : mg "abs" = none) : FnG P w K mg base CX0 1 f fd ["script", "k"] (spBox K) := by
  refine FnG.of (F.ok sc__law_box (fun vs H Q E h => ?_) (fun cdv A outer s H vs Q E hr h => ?_))
  · obtain ⟨_, _, _, rfl, _⟩ := h
    rfl
  · obtain ⟨a, ns, k, rfl, hk, hS, hl, q⟩ := h
    refine ⟨_, (pss_cons (ps_set (i := 2) sc__law_box.nd rfl (Or.inl rfl) (pe_op op_add (pe_op op_mul (pe_int) (pv 1)) (pe_int)))
    (Evl.pss_cut (ps_if (pt_cmpR op_lt (pv 1) (pe_callB call_len_seq (by rfl) n_len PySem.boot_len (pa_cons (pv 0) pa_nil)) (nomark _)) (pss_one (ps_set (i := 2) sc__law_box.nd rfl (Or.inl rfl) (pe_callB call_abs (by rfl) n_abs (by decide +kernel) (pa_cons (pe_ix ix_list (pv 0) (pv 1) (fun _ _ => rfl)) pa_nil)))) (pss_one (ps_if (pt_cmpR op_gt (pe_callB call_len_seq (by rfl) n_len PySem.boot_len (pa_cons (pv 0) pa_nil)) (pe_int) (nomark _)) (pss_one (ps_set (i := 2) sc__law_box.nd rfl (Or.inl rfl) (pe_op op_add (pv 2) (pe_op op_mul (pe_op op_mod (pe_callTy call_int1 (by rfl) n_int (by decide +kernel) (pa_cons (pe_callB call_abs (by rfl) n_abs (by decide +kernel) (pa_cons (pe_ix ix_list (pv 0) (pe_op op_mod (pe_callTy call_int1 (by rfl) n_int (by decide +kernel) (pa_cons (pv 1) pa_nil)) (pe_callB call_len_seq (by rfl) n_len PySem.boot_len (pa_cons (pv 0) pa_nil))) (fun _ _ => rfl)) pa_nil)) pa_nil)) (pe_int)) (pe_int))))) pss_nil)))
    (pss_one (ps_ret (pe_lst (pa_cons (pe_ix ix_list (pe_lst (pa_cons (pe_int) (pa_cons (pv 2) pa_nil))) (pe_callTy call_int1 (by rfl) n_int (by decide +kernel) (pa_cons (pe_cmpR op_ge (pv 2) (pe_op op_pow (pe_int) (pe_int)) (nomark _)) pa_nil)) (fun _ _ => rfl)) (pa_cons (pe_op op_add (pe_op op_mod (pe_callTy call_int1 (by rfl) n_int (by decide +kernel) (pa_cons (pe_op op_add (pe_op op_mul (pe_op op_mod (pe_callTy call_int1 (by rfl) n_int (by decide +kernel) (pa_cons (pv 2) pa_nil)) (pe_int)) (pe_int)) (pe_op op_mul (pe_int) (pv 1))) pa_nil)) (pe_int)) (pe_int)) (pa_cons (pe_int) pa_nil)))))))), ?_⟩
    walk_at "rd"
    refine ⟨fun σ H' => ∃ c : Int, σ = [some (.ref a), some (.int k), some (.int c)] ∧ H' = H ∧ 0 ≤ c, ?_, ?_⟩
    · walk_at "rd"
      rw [List.length_map]
      refine iteD (fun c => ?_) (fun c => ?_)
      · obtain ⟨v, hv⟩ := at_map hk.1 c
        refine ⟨_, rfl, _, rfl, _, _, _, _, rfl, rfl, hS, hv, _, rfl, _, rfl, rfl, abs_nn v⟩
      · walk_at "rd"
        refine iteD (fun c2 => ?_) (fun c2 => ?_)
        · rw [List.length_map] at c2
          obtain ⟨v, hv⟩ := at_map (ns := ns) (k := k % (ns.length : Int)) (Int.emod_nonneg _ (by omega)) (Int.emod_lt_of_pos _ (by omega))
          refine ⟨_, rfl, _, rfl, _, rfl, .inl ⟨_, rfl, _, rfl, _, _, rfl, .inl hS, _, _, rfl, rfl, ?_, _, _, _, V.int v, rfl, rfl, hS, ?_, ?_⟩⟩
          · rw [List.length_map]; exact c2
          · rw [List.length_map]; exact hv
          · walk_at "rd"
            have := Int.emod_nonneg (if v < 0 then -v else v) (show (2147483629 : Int) ≠ 0 by decide)
            omega
        · exact ⟨_, rfl, rfl, by omega⟩
    · rintro σ H' ⟨c, rfl, rfl, hc⟩
      walk_at "rd"
      refine ⟨by show 2 ≤ sizeLine; decide, fun l hl => ?_⟩
      have sl := same_new hl (.lst [.int 0, .int c])
      have el : (upd H' l (.lst [.int 0, .int c])) l = some (.lst [.int 0, .int c]) := upd_same
      generalize upd H' l (.lst [.int 0, .int c]) = H2 at sl el ⊢
      refine ⟨_, rfl, _, _, rfl, rfl, ⟨by decide, by decide, by decide⟩, _, _, rfl, rfl, .inr ⟨_, rfl, ?_⟩⟩
      have fin : ∀ g : Int, 0 ≤ g → ∀ p, H2 p = none → Q (.ref p) (upd H2 p (.lst [.int g, .int ((c % 2147483629 * 48271 + 39191 * k) % 2147483629 + 1), .int 0])) := fun g g0 p hp =>
        q p _ (Evl.fresh_back sl hp) (sl.trans (same_new hp _)) ⟨g, _, _, upd_same, g0, ⟨by omega, by omega⟩, by decide⟩
      cases e : decide ((10 : Int) ^ (18 : Int).toNat ≤ c) with
      | true =>
        refine ⟨l, _, _, _, rfl, rfl, SqL.of el, rfl, ?_⟩
        walk_at "rd"
        exact ⟨by show 3 ≤ sizeLine; decide, fun p hp => fin c hc p hp⟩
      | false =>
        refine ⟨l, _, _, _, rfl, rfl, SqL.of el, rfl, ?_⟩
        walk_at "rd"
        exact ⟨by show 3 ≤ sizeLine; decide, fun p hp => fin 0 (by decide) p hp⟩

/-! ### _law_divisor, _law_low, _law_ratio -/
abbrev s__law_divisor : Stmt := top 36
theorem sc__law_divisor : FnScope ["one", "other"] ["one", "other"] (defScope s__law_divisor) := ⟨rfl, rfl, rfl, by decide +kernel, rfl, by decide +kernel, by decide +kernel⟩
def spDiv : Sp := fun vs H Q _ => ∃ a b : Int, vs = [.int a, .int b] ∧ Q (.int (Int.gcd a b : Nat)) H
theorem abs_eq (i : Int) : (if i < 0 then -i else i) = (i.natAbs : Int) := by
  by_cases h : i < 0
  · rw [if_pos h]; omega
  · rw [if_neg h]; omega
theorem ok_div {f : Addr} {fd : FuncData} (F : Fun K "_law_divisor" "_law_divisor" s__law_divisor f fd) (n_int : mg "int" = none) (n_abs : mg "abs" = none) : FnG P w K mg base CX0 1 f fd ["one", "other"] spDiv := by
  refine FnG.of (F.ok sc__law_divisor (fun vs H Q E h => ?_) (fun cdv A outer s H vs Q E hr h => ?_))
  · obtain ⟨_, _, rfl, _⟩ := h
    rfl
  · obtain ⟨a, b, rfl, q⟩ := h
    refine ⟨_, (pss_cons (ps_par (i := 0) (j := 1) (by rfl) sc__law_divisor.nd rfl rfl (by decide) rfl rfl (pa_cons (pe_callB call_abs (by rfl) n_abs (by decide +kernel) (pa_cons (pv 0) pa_nil)) (pa_cons (pe_callB call_abs (by rfl) n_abs (by decide +kernel) (pa_cons (pv 1) pa_nil)) pa_nil)) (by rfl))
    (pss_cons (ps_while PassesOwn.never (pt_cmpR op_gt (pv 1) (pe_int) (nomark _))
      (pss_one (ps_par (i := 0) (j := 1) (by rfl) sc__law_divisor.nd rfl rfl (by decide) rfl rfl (pa_cons (pv 1) (pa_cons (pe_op op_mod (pe_callTy call_int1 (by rfl) n_int (by decide +kernel) (pa_cons (pv 0) pa_nil)) (pv 1)) pa_nil)) (by rfl))))
    (pss_one (ps_ret (pv 0))))), ?_⟩
    refine ⟨_, rfl, _, rfl, _, rfl, _, rfl, _, _, rfl, ?_⟩
    rw [abs_eq, abs_eq]
    refine ⟨fun m σ H' => ∃ x y : Nat, σ = [some (.int (x : Int)), some (.int (y : Int))] ∧ H' = H ∧ m = y ∧ Nat.gcd x y = Int.gcd a b, ⟨_, a.natAbs, b.natAbs, rfl, rfl, rfl, rfl⟩, ?_⟩
    rintro m σ H' ⟨x, y, rfl, rfl, rfl, e⟩
    walk_at "rd"
    refine iteD (fun c => ?_) (fun c => ?_)
    · refine ⟨_, fun _ _ h => h, ?_⟩
      refine ⟨_, rfl, _, rfl, .inl ⟨_, rfl, _, rfl, _, _, rfl, rfl, c, _, _, rfl, x % m, Nat.mod_lt _ (by omega), m, x % m, ?_, rfl, rfl, ?_⟩⟩
      · show [some (V.int (m : Int)), some (V.int ((x : Int) % (m : Int)))] = _
        rw [← Int.natCast_emod]
      · rw [← e, Nat.gcd_comm x m, Nat.gcd_rec m x, Nat.gcd_comm]
    · have m0 : m = 0 := by omega
      subst m0
      rw [Nat.gcd_zero_right] at e
      walk_at "rd"
      rw [e]
      exact q
/-! ### _law_pick -/
abbrev s__law_pick : Stmt := top 34
theorem sc__law_pick : FnScope ["box", "some"] ["box", "some"] (defScope s__law_pick) := ⟨rfl, rfl, rfl, by decide +kernel, rfl, by decide +kernel, by decide +kernel⟩
def spPick : Sp := fun vs H Q _ => ∃ (p l : Addr) (xs : List V), vs = [.ref p, .ref l] ∧ BoxAt H p ∧ H l = some (.lst xs) ∧ l ≠ p ∧ (1 ≤ xs.length ∧ xs.length ≤ 1000) ∧ ∀ x H', x ∈ xs → Kept p H H' → BoxAt H' p → Q x H'
theorem ok_pick {f : Addr} {fd : FuncData} (F : Fun K "_law_pick" "_law_pick" s__law_pick f fd) (C__law_take : Cg P w K mg base CX0 "_law_take" ["box", "many"] [] 1 spTake) (n_len : mg "len" = none) : FnG P w K mg base CX0 2 f fd ["box", "some"] spPick := by
  refine go_ok F sc__law_pick (fun vs H Q E h => ?_) (fun cdv A outer s H vs Q E hr fr h => ?_)
  · obtain ⟨_, _, _, rfl, _⟩ := h
    rfl
  · obtain ⟨p, l, xs, rfl, hb, hl, ne, ⟨l1, l2⟩, q⟩ := h
    refine ⟨_, (pss_one (ps_ret (pe_ix ix_list (pv 1) (pe_go C__law_take (hr.mono (by decide)) fr rfl (pa_cons (pv 0) (pa_cons (pe_callB call_len_seq (by rfl) n_len PySem.boot_len (pa_cons (pv 1) pa_nil)) pa_nil))) (fun _ _ => rfl)))), ?_⟩
    refine ⟨_, rfl, _, rfl, _, rfl, l, xs, rfl, .inl (SqL.of hl), p, _, rfl, ⟨by omega, by omega⟩, hb, fun d H' d0 d1 k b => ?_⟩
    have hk : d.toNat < xs.length := by omega
    have e : ∃ x, x ∈ xs ∧ atI xs d = some x := ⟨xs[d.toNat], List.getElem_mem hk, by
      have := atI_nat (xs := xs) (j := d.toNat) (v := xs[d.toNat]) (by rw [List.getElem?_eq_getElem hk])
      have ed : ((d.toNat : Nat) : Int) = d := by omega
      rw [ed] at this
      exact this⟩
    obtain ⟨x, hx, e⟩ := e
    exact ⟨l, xs, d, x, rfl, rfl, SqL.of (k l _ hl ne), e, q x H' hx k b⟩
/-! ### _law_sign -/
abbrev s__law_sign : Stmt := top 35
theorem sc__law_sign : FnScope ["number"] ["number"] (defScope s__law_sign) := ⟨rfl, rfl, rfl, by decide +kernel, rfl, by decide +kernel, by decide +kernel⟩
theorem ok_lsign {f : Addr} {fd : FuncData} (F : Fun K "_law_sign" "_law_sign" s__law_sign f fd) (n_int : mg "int" = none) : FnG P w K mg base CX0 1 f fd ["number"] spSign := by
  refine go_ok F sc__law_sign (fun vs H Q E h => ?_) (fun cdv A outer s H vs Q E hr fr h => ?_)
  · obtain ⟨_, rfl, _⟩ := h
    rfl
  · obtain ⟨i, rfl, q⟩ := h
    refine ⟨_, (pss_one (ps_ret (pe_op op_sub (pe_callTy call_int1 (by rfl) n_int (by decide +kernel) (pa_cons (pe_cmpR op_gt (pv 0) (pe_int) (nomark _)) pa_nil)) (pe_callTy call_int1 (by rfl) n_int (by decide +kernel) (pa_cons (pe_cmpR op_lt (pv 0) (pe_int) (nomark _)) pa_nil))))), ?_⟩
    refine ⟨_, rfl, _, _, rfl, rfl, .inr ⟨_, rfl, _, rfl, _, _, rfl, rfl, .inr ⟨_, rfl, _, _, rfl, rfl, ?_⟩⟩⟩
    have e : (if decide (0 < i) = true then (1 : Int) else 0) - (if decide (i < 0) = true then (1 : Int) else 0) = i.sign := by
      rcases Int.lt_trichotomy i 0 with c | c | c
      · rw [Int.sign_eq_neg_one_of_neg c, decide_eq_true c, decide_eq_false (show ¬ 0 < i by omega)]; rfl
      · subst c; rfl
      · rw [Int.sign_eq_one_of_pos c, decide_eq_true c, decide_eq_false (show ¬ i < 0 by omega)]; rfl
    rw [← e] at q
    exact q
/-! ### _law_low -/
abbrev s__law_low : Stmt := top 37
theorem sc__law_low : FnScope ["top", "bottom", "shared"] ["top", "bottom"] (defScope s__law_low) := ⟨rfl, rfl, rfl, by decide +kernel, rfl, by decide +kernel, by decide +kernel⟩
theorem ok_low {f : Addr} {fd : FuncData} (F : Fun K "_law_low" "_law_low" s__law_low f fd) (C__law_divisor : Cg P w K mg base CX0 "_law_divisor" ["one", "other"] [] 1 spDiv) : FnG P w K mg base CX0 2 f fd ["top", "bottom"] spBy := by
  refine go_ok F sc__law_low (fun vs H Q E h => ?_) (fun cdv A outer s H vs Q E hr fr h => ?_)
  · obtain ⟨_, _, rfl, _⟩ := h
    rfl
  · obtain ⟨a, b, rfl, hb, hs, q⟩ := h
    refine ⟨_, (pss_cons (ps_set (i := 2) sc__law_low.nd rfl (Or.inl rfl) (pe_go C__law_divisor (hr.mono (by decide)) fr rfl (pa_cons (pv 0) (pa_cons (pv 1) pa_nil))))
    (Evl.pss_cut (ps_if (pt_cmpR op_lt (pv 1) (pe_int) (nomark _)) (pss_one (ps_set (i := 2) sc__law_low.nd rfl (Or.inl rfl) (pe_op op_sub (pe_int) (pv 2)))) pss_nil)
    (pss_one (ps_ret (pe_tup (pa_cons (pe_op op_fdivZ (pv 0) (pv 2)) (pa_cons (pe_op op_fdivZ (pv 1) (pv 2)) pa_nil))))))), ?_⟩
    refine ⟨_, rfl, _, rfl, a, b, rfl, ?_⟩
    refine ⟨fun σ H' => σ = [some (.int a), some (.int b), some (.int (sg a b))] ∧ H' = H, ?_, ?_⟩
    · refine ⟨_, rfl, _, _, rfl, rfl, _, rfl, ?_⟩
      refine iteD (fun c => ?_) (fun c => ?_)
      · refine ⟨_, rfl, _, _, rfl, rfl, ?_, rfl⟩
        unfold sg
        rw [if_pos c, ← Int.zero_sub]
        rfl
      · refine ⟨?_, rfl⟩
        unfold sg
        rw [if_neg c]
        rfl
    · rintro σ H' ⟨rfl, rfl⟩
      obtain ⟨h1, h2⟩ := sg_ok (a := a) hb hs
      refine ⟨_, rfl, _, rfl, _, _, rfl, rfl, divz h1 h2, _, rfl, _, rfl, _, _, rfl, rfl, divz h1 h2, by show 2 ≤ sizeLine; decide, fun p hp => ?_⟩
      exact q p _ (same_new hp _) upd_same
theorem BoxAt.mono {H H' : Hp} {p : Addr} (h : BoxAt H p) (s : Same H H') : BoxAt H' p := by
  obtain ⟨g, s', n, e, r⟩ := h
  exact ⟨g, s', n, s _ _ e, r⟩
def sgs (l : List Nat) : List V := l.map fun c => V.str (c1 c)
def sgD (l : List Nat) : List PyData := l.map fun c => PyData.str (c1 c)
def okC (l : List Nat) : Prop := ∀ c ∈ l, c < 1114112
def okS (x : Str) : Prop := okC (tl x)
theorem sgs_dp {H : Hp} : ∀ l : List Nat, DpAll K H (sgs l) (sgD l)
  | [] => .nil
  | c :: l => .cons (.str _) (sgs_dp l)
theorem sgs_lay : ∀ l : List Nat, okC l → PyData.canLayAll0 (sgD l) = true ∧ PyData.depthAll (sgD l) = 0
  | [], _ => ⟨rfl, rfl⟩
  | c :: l, h => by
    obtain ⟨h1, h2⟩ := sgs_lay l fun a ha => h a (List.mem_cons_of_mem _ ha)
    have hc := h c List.mem_cons_self
    constructor
    · show (PyData.strOk (c1 c) && PyData.canLayAll0 (sgD l)) = true
      have : PyData.strOk (c1 c) = true := by
        unfold PyData.strOk
        show (#[c] : Array Nat).all (fun n => decide (n < 1114112)) = true
        rw [← Array.all_toList]
        show (decide (c < 1114112) && true) = true
        rw [decide_eq_true hc]; rfl
      rw [h1, this]; rfl
    · show max 0 (PyData.depthAll (sgD l)) = 0
      rw [h2]; rfl
theorem sgs_shaped (l : List Nat) (h : okC l) : SeqAt.shaped (.list (sgD l)) = true := by
  obtain ⟨h1, h2⟩ := sgs_lay l h
  unfold SeqAt.shaped
  rw [Bool.and_eq_true]
  refine ⟨h1, decide_eq_true ?_⟩
  show PyData.depthAll _ + 1 ≤ 64
  rw [h2]
  decide
theorem sgs_eqv (l : List Nat) : PyData.eqv (.list (sgD l)) (.list []) = l.isEmpty := by
  cases l <;> simp [PyData.eqv, PyData.eqvAll, sgD]
theorem isD_mem (c : Nat) : decide (c ∈ (Str.ofString "0123456789").cps.toList) = isD c := by
  have e : (Str.ofString "0123456789").cps.toList = [48, 49, 50, 51, 52, 53, 54, 55, 56, 57] := by decide +kernel
  rw [e]
  unfold isD
  rw [← Bool.decide_and]
  refine decide_eq_decide.mpr ?_
  simp only [List.mem_cons, List.not_mem_nil, or_false]
  omega
theorem okS_of (x : String) : okS (Str.ofString x) := fun c hc => by
  have e : tl (Str.ofString x) = x.toList.map Char.toNat := TL.tl_ofString x
  rw [e] at hc
  obtain ⟨a, _, rfl⟩ := List.mem_map.mp hc
  have h := a.valid
  have e : a.toNat = a.val.toNat := rfl
  rcases h with h | ⟨_, h⟩
  · rw [e]; exact Nat.lt_trans h (by decide)
  · rw [e]; exact h
theorem okS_app {x y : Str} (h : okS x) (k : okS y) : okS (x ++ y) := fun c hc => by
  have e : tl (x ++ y) = tl x ++ tl y := TL.tl_append x y
  rw [e] at hc
  rcases List.mem_append.mp hc with z | z
  · exact h c z
  · exact k c z
theorem okS_c1 {c : Nat} (h : c < 1114112) : okS (c1 c) := fun a ha => by
  have := List.mem_singleton.mp (show a ∈ [c] from ha)
  omega
theorem int_pos (a : Int) : 1 ≤ (Str.ofString (toString a)).length := by
  have e : (Str.ofString (toString a)).length = (toString a).length := by
    have h := congrArg List.length (TL.tl_ofString (toString a))
    rw [List.length_map, String.length_toList] at h
    rw [TL.len_tl]
    exact h
  rw [e]
  cases a with
  | ofNat n => exact Nat.length_repr_pos
  | negSucc n =>
    show 1 ≤ ("-" ++ (n + 1).repr).length
    rw [String.length_append]
    exact Nat.le_add_right_of_le (by decide)
theorem okS_cut {x : Str} (h : okS x) (lo hi : Option Int) : okS (cutS x lo hi) := fun c hc => by
  have hc' : c ∈ (((x.cps.toList.drop (HT.sIx x.length 0 lo)).take (HT.sIx x.length x.length hi - HT.sIx x.length 0 lo)).toArray).toList := hc
  rw [List.toList_toArray] at hc'
  exact h c (List.mem_of_mem_drop (List.mem_of_mem_take hc'))
theorem box_ne {H : Hp} {p l : Addr} (b : BoxAt H p) (hl : H l = none) : l ≠ p := fun z => by
  obtain ⟨_, _, _, e, _⟩ := b
  rw [← z, hl] at e
  cases e
def lits (l : List String) : List V := l.map fun s => V.str (Str.ofString s)
theorem of_lits {l : List String} {n : Nat} {v : V} (h : v ∈ lits l) (k : (l.all fun s => decide ((Str.ofString s).length ≤ n)) = true) : ∃ z : Str, v = .str z ∧ z.length ≤ n ∧ okS z := by
  obtain ⟨s, hs, rfl⟩ := List.mem_map.mp h
  exact ⟨_, rfl, of_decide_eq_true (List.all_eq_true.mp k s hs), okS_of s⟩
theorem SqL.same {H H' : Hp} {a : Addr} {xs : List V} (s : Same H H') (h : SqL K H a xs) : SqL K H' a xs := by
  rcases h with (e | ⟨o, e⟩) | ⟨o, its, n, e, r⟩
  · exact .inl (.inl (s _ _ e))
  · exact .inl (.inr ⟨o, s _ _ e⟩)
  · exact .inr ⟨o, its, n, e, r⟩
theorem SqT.same {H H' : Hp} {a : Addr} {xs : List V} (s : Same H H') (h : SqT K H a xs) : SqT K H' a xs := by
  rcases h with (e | ⟨o, e⟩) | ⟨o, its, n, e, r⟩
  · exact .inl (.inl (s _ _ e))
  · exact .inl (.inr ⟨o, s _ _ e⟩)
  · exact .inr ⟨o, its, n, e, r⟩
mutual
theorem dp_same {H H' : Hp} (s : Same H H') : ∀ (d : PyData) (v : V), Dp K H v d → Dp K H' v d
  | .none, _, h => by cases h; exact .non
  | .bool b, _, h => by cases h; exact .bl b
  | .int i, _, h => by cases h; exact .int i
  | .str x, _, h => by cases h; exact .str x
  | .list ds, _, h => by
    cases h with
    | lst h1 h2 => exact .lst (SqL.same s h1) (dps_same s ds _ h2)
  | .tuple ds, _, h => by
    cases h with
    | tup h1 h2 => exact .tup (SqT.same s h1) (dps_same s ds _ h2)
  | .dict _, _, h => by cases h
theorem dps_same {H H' : Hp} (s : Same H H') : ∀ (ds : List PyData) (xs : List V), DpAll K H xs ds → DpAll K H' xs ds
  | [], _, h => by cases h; exact .nil
  | d :: ds, _, h => by
    cases h with
    | cons h1 h2 => exact .cons (dp_same s d _ h1) (dps_same s ds _ h2)
end
theorem eqv_nil (l : List PyData) : PyData.eqv (.list l) (.list []) = l.isEmpty := by
  cases l <;> simp [PyData.eqv, PyData.eqvAll]
theorem low_size {a b : Int} (hb : b ≠ 0) : (lT a b).natAbs ≤ a.natAbs ∧ 0 < lB a b ∧ lB a b ≤ b.natAbs := by
  have g0 : 0 < Nat.gcd a.natAbs b.natAbs := Nat.gcd_pos_of_pos_right _ (by omega)
  have d1 : ((Nat.gcd a.natAbs b.natAbs : Nat) : Int) ∣ a := Int.gcd_dvd_left a b
  have d2 : ((Nat.gcd a.natAbs b.natAbs : Nat) : Int) ∣ b := Int.gcd_dvd_right a b
  unfold lT lB sg
  generalize Nat.gcd a.natAbs b.natAbs = g at *
  obtain ⟨x, ex⟩ := d1
  obtain ⟨y, ey⟩ := d2
  have mono : ∀ z : Int, z.natAbs ≤ ((g : Int) * z).natAbs := fun z => by
    rw [Int.natAbs_mul, Int.natAbs_natCast]
    exact Nat.le_mul_of_pos_left _ g0
  have mx := mono x
  have my := mono y
  rw [← ex] at mx
  rw [← ey] at my
  by_cases c : b < 0
  · rw [if_pos c]
    have e1 : a.fdiv (-(g : Int)) = -x := by
      rw [ex, show (g : Int) * x = -(g : Int) * (-x) by rw [Int.neg_mul_neg]]
      exact Int.mul_fdiv_cancel_left _ (by omega)
    have e2 : b.fdiv (-(g : Int)) = -y := by
      rw [ey, show (g : Int) * y = -(g : Int) * (-y) by rw [Int.neg_mul_neg]]
      exact Int.mul_fdiv_cancel_left _ (by omega)
    rw [e1, e2]
    have y0 : y < 0 := by
      rcases Int.lt_or_le y 0 with z | z
      · exact z
      · have := Int.mul_nonneg (show (0 : Int) ≤ (g : Int) by omega) z
        omega
    omega
  · rw [if_neg c]
    have e1 : a.fdiv (g : Int) = x := by
      rw [ex]
      exact Int.mul_fdiv_cancel_left _ (by omega)
    have e2 : b.fdiv (g : Int) = y := by
      rw [ey]
      exact Int.mul_fdiv_cancel_left _ (by omega)
    rw [e1, e2]
    have y0 : 0 < y := by
      rcases Int.lt_or_le 0 y with z | z
      · exact z
      · have := Int.mul_nonpos_of_nonneg_of_nonpos (show (0 : Int) ≤ (g : Int) by omega) z
        omega
    omega
theorem low_one (a : Int) : lT a 1 = a ∧ lB a 1 = 1 := by
  have e : sg a 1 = 1 := by
    unfold sg
    rw [if_neg (by decide), show (1 : Int).natAbs = 1 from rfl, Nat.gcd_one_right]; rfl
  unfold lT lB
  rw [e]
  exact ⟨by rw [Int.fdiv_one], by decide⟩
theorem sh_int {a : Int} (ha : a.natAbs < 2 ^ 200) : PyData.showable (.int a) = true := decide_eq_true (tlen ha).1
theorem len_int {a : Int} (ha : a.natAbs < 2 ^ 200) : (PyData.shown (.int a)).length ≤ sizeLine := Nat.le_trans (show (Str.ofString (toString a)).length ≤ 201 from (tlen ha).2) (by decide)
theorem len_bl (b : Bool) : (PyData.shown (.bool b)).length ≤ sizeLine := by cases b <;> exact Nat.le_trans (show _ ≤ 5 by decide) (by decide)
theorem dep0 : (0 : Nat) < 40 := by decide
theorem str_same {x : Str} {A B : Prop} (k : B) : if (!decide (V.str x = V.str x)) = true then A else B := by
  rw [decide_eq_true rfl]
  exact iteF k
theorem strOk_of {x : Str} (h : okS x) : PyData.strOk x = true := by
  unfold PyData.strOk
  rw [← Array.all_toList]
  exact List.all_eq_true.mpr fun c hc => decide_eq_true (h c hc)
theorem sh_str {x : Str} (h : okS x) : SeqAt.shaped (.str x) = true := by
  unfold SeqAt.shaped
  show (PyData.strOk x && decide (0 ≤ 64)) = true
  rw [strOk_of h]; rfl
theorem dps_get {H : Hp} : ∀ {xs : List V} {ds : List PyData} {i : Nat} {y : V}, DpAll K H xs ds → xs[i]? = some y → ∃ d, d ∈ ds ∧ Dp K H y d
  | _, _, _, _, .nil, h => by cases h
  | _, _, 0, _, .cons h _, e => by cases e; exact ⟨_, List.mem_cons_self, h⟩
  | _, _, i + 1, _, .cons _ r, e => by
    obtain ⟨d, h1, h2⟩ := dps_get r e
    exact ⟨d, List.mem_cons_of_mem _ h1, h2⟩
end
end Kc

namespace Kc
open PySem PySem.Spec PyProof.Rows L2 Hb Gu Tx Xb En M3
/-! ### rows of integers in the heap -/
abbrev iv (l : List Int) : List V := l.map V.int
/-- a list or a tuple of these integers -/
def SqI (K : PySem.W.Frag) (H : Hp) (v : V) (l : List Int) : Prop := ∃ a, v = .ref a ∧ (SqL K H a (iv l) ∨ SqT K H a (iv l))
def IsCv (K : PySem.W.Frag) (H : Hp) (v : V) (l : List Int) : Prop := ∃ a, v = .ref a ∧ SqT K H a (iv l)
variable {K : PySem.W.Frag}
theorem IsCv.same {H H' : Hp} {v : V} {l : List Int} (s : Same H H') (h : IsCv K H v l) : IsCv K H' v l := let ⟨a, e, q⟩ := h; ⟨a, e, SqT.same s q⟩
theorem SqI.same {H H' : Hp} {v : V} {l : List Int} (s : Same H H') (h : SqI K H v l) : SqI K H' v l := by
  obtain ⟨a, e, q | q⟩ := h
  · exact ⟨a, e, .inl (SqL.same s q)⟩
  · exact ⟨a, e, .inr (SqT.same s q)⟩
theorem IsCv.sq {H : Hp} {v : V} {l : List Int} (h : IsCv K H v l) : SqI K H v l := let ⟨a, e, q⟩ := h; ⟨a, e, .inr q⟩
theorem sqT_kept {H H' : Hp} {p a : Addr} {xs : List V} (k : Kept p H H') (b : BoxAt H p) (h : SqT K H a xs) : SqT K H' a xs := by
  obtain ⟨_, _, _, e, _⟩ := b
  have ne : ∀ {o}, H a = some o → (∀ l, o ≠ .lst l) → a ≠ p := fun e1 n z => by rw [z, e] at e1; cases e1; exact n _ rfl
  rcases h with (e1 | ⟨o, e1⟩) | ⟨o, its, n, e1, r⟩
  · exact .inl (.inl (k _ _ e1 (ne e1 (by intro l z; cases z))))
  · exact .inl (.inr ⟨o, k _ _ e1 (ne e1 (by intro l z; cases z))⟩)
  · exact .inr ⟨o, its, n, e1, r⟩
theorem IsCv.kept {H H' : Hp} {p : Addr} {v : V} {l : List Int} (k : Kept p H H') (b : BoxAt H p) (h : IsCv K H v l) : IsCv K H' v l := let ⟨a, e, q⟩ := h; ⟨a, e, sqT_kept k b q⟩
theorem IsCv.new {H : Hp} {p : Addr} {l : List Int} (h : H p = some (.tup (iv l))) : IsCv K H (.ref p) l := ⟨p, rfl, SqT.of h⟩
/-! readings of these -/
@[irreducible] def rLenI (K : PySem.W.Frag) : List V → Hp → VK → Prop := fun xs H Q => ∃ a ys, xs = [V.ref a] ∧ (SqL K H a ys ∨ SqT K H a ys) ∧ Q (.int (ys.length : Int)) H
@[irreducible] def rTupOf (K : PySem.W.Frag) : List V → Hp → VK → Prop := fun xs H Q => ∃ p ys, xs = [V.ref p] ∧ ((SqL K H p ys ∧ ∀ l, H l = none → Q (.ref l) (upd H l (.tup ys))) ∨ (SqT K H p ys ∧ Q (.ref p) H))
@[irreducible] def rListOf (K : PySem.W.Frag) : List V → Hp → VK → Prop := fun xs H Q => ∃ p ys, xs = [V.ref p] ∧ (SqL K H p ys ∨ SqT K H p ys) ∧ ∀ l, H l = none → Q (.ref l) (upd H l (.lst ys))
@[irreducible] def rIxI (K : PySem.W.Frag) : R2 := fun x y H Q => rIxL K x y H Q ∨ rIxT K x y H Q
@[irreducible] def rSlI (K : PySem.W.Frag) : V → Option Int → Option Int → Hp → VK → Prop := fun x lo hi H Q => rSlL K x lo hi H Q ∨ rSlA K x lo hi H Q
theorem call_lenI {X : Cx} : CallR X (.builtin "len") (rLenI X.K) := by
  unfold rLenI
  exact call_len_seq
theorem call_tupO {X : Cx} : CallR X (.type "tuple") (rTupOf X.K) := by
  unfold rTupOf
  exact call_tuple_of
theorem call_listO {X : Cx} : CallR X (.type "list") (rListOf X.K) := by
  unfold rListOf
  exact call_list_of
theorem ix_I {X : Cx} : IxR X (rIxI X.K) := by
  unfold rIxI
  exact ix_list.or ix_tup
theorem sl_I {X : Cx} : SlR X (rSlI X.K) := by
  unfold rSlI
  exact sl_list.or sl_tupA
theorem rd_len {H : Hp} {v : V} {l : List Int} {Q : VK} (h : SqI K H v l) (q : Q (.int (l.length : Int)) H) : rLenI K [v] H Q := by
  obtain ⟨a, rfl, h⟩ := h
  unfold rLenI
  exact ⟨a, iv l, rfl, h, by rw [List.length_map]; exact q⟩
theorem rd_list {H : Hp} {v : V} {l : List Int} {Q : VK} (h : SqI K H v l) (q : ∀ p H', H p = none → Same H H' → H' p = some (.lst (iv l)) → Q (.ref p) H') : rListOf K [v] H Q := by
  obtain ⟨a, rfl, h⟩ := h
  unfold rListOf
  exact ⟨a, iv l, rfl, h, fun p hp => q p _ hp (same_new hp _) upd_same⟩
theorem rd_ix {H : Hp} {v : V} {l : List Int} {i : Int} {k : Nat} {Q : VK} (h : SqI K H v l) (ei : i = (k : Int)) (hk : k < l.length) (q : Q (.int l[k]) H) : rIxI K v (.int i) H Q := by
  subst ei
  unfold rIxI
  obtain ⟨a, rfl, h⟩ := h
  have e : atI (iv l) ((k : Nat) : Int) = some (.int l[k]) := atI_nat (by rw [List.getElem?_map, List.getElem?_eq_getElem hk]; rfl)
  rcases h with h | h
  · exact .inl ⟨a, _, _, _, rfl, rfl, h, e, q⟩
  · exact .inr ⟨a, _, _, _, rfl, rfl, h, e, q⟩
theorem cut_to' {xs : List V} {k : Nat} (h : k ≤ xs.length) : cutV xs none (some (k : Int)) = xs.take k := by
  unfold cutV
  rw [HT.sIx_none, HT.sIx_nat, List.drop_zero, Nat.sub_zero, Nat.min_eq_left h]
theorem cut_from' {xs : List V} {k : Nat} (h : k ≤ xs.length) : cutV xs (some (k : Int)) none = xs.drop k := by
  unfold cutV
  rw [HT.sIx_none, HT.sIx_nat, Nat.min_eq_left h, List.take_of_length_le (by rw [List.length_drop]; omega)]
theorem rd_to {H : Hp} {v : V} {l : List Int} {k : Nat} {Q : VK} (h : SqI K H v l) (hk : k ≤ l.length) (q : ∀ u H', Same H H' → SqI K H' u (l.take k) → Q u H') : rSlI K v none (some (k : Int)) H Q := by
  unfold rSlI
  obtain ⟨a, rfl, h⟩ := h
  have hk' : k ≤ (iv l).length := by rw [List.length_map]; exact hk
  rcases h with h | h
  · refine .inl ⟨a, _, rfl, h, fun p hp => ?_⟩
    rw [cut_to' hk', ← List.map_take]
    exact q _ _ (same_new hp _) ⟨p, rfl, .inl (SqL.of upd_same)⟩
  · refine .inr ⟨a, _, rfl, h, fun c => ?_, fun _ p hp => ?_⟩
    · have hl : k = l.length := by
        have := c.2
        rw [HT.sIx_nat, List.length_map, Nat.min_eq_left hk] at this
        exact this
      refine q _ _ (Evl.Ex.refl _) ⟨a, rfl, .inr ?_⟩
      rw [hl, List.take_length]
      exact h
    · rw [cut_to' hk', ← List.map_take]
      exact q _ _ (same_new hp _) ⟨p, rfl, .inr (SqT.of upd_same)⟩
theorem rd_from {H : Hp} {v : V} {l : List Int} {k : Nat} {Q : VK} (h : SqI K H v l) (hk : k ≤ l.length) (q : ∀ u H', Same H H' → SqI K H' u (l.drop k) → Q u H') : rSlI K v (some (k : Int)) none H Q := by
  unfold rSlI
  obtain ⟨a, rfl, h⟩ := h
  have hk' : k ≤ (iv l).length := by rw [List.length_map]; exact hk
  rcases h with h | h
  · refine .inl ⟨a, _, rfl, h, fun p hp => ?_⟩
    rw [cut_from' hk', ← List.map_drop]
    exact q _ _ (same_new hp _) ⟨p, rfl, .inl (SqL.of upd_same)⟩
  · refine .inr ⟨a, _, rfl, h, fun c => ?_, fun _ p hp => ?_⟩
    · have hl : k = 0 := by
        have := c.1
        rw [HT.sIx_nat, List.length_map, Nat.min_eq_left hk] at this
        exact this
      refine q _ _ (Evl.Ex.refl _) ⟨a, rfl, .inr ?_⟩
      rw [hl, List.drop_zero]
      exact h
    · rw [cut_from' hk', ← List.map_drop]
      exact q _ _ (same_new hp _) ⟨p, rfl, .inr (SqT.of upd_same)⟩
theorem rd_tup {H : Hp} {v : V} {l : List Int} {Q : VK} (h : SqI K H v l) (q : ∀ u H', Same H H' → IsCv K H' u l → Q u H') : rTupOf K [v] H Q := by
  unfold rTupOf
  obtain ⟨a, rfl, h⟩ := h
  rcases h with h | h
  · exact ⟨a, _, rfl, .inl ⟨h, fun p hp => q _ _ (same_new hp _) (IsCv.new upd_same)⟩⟩
  · exact ⟨a, _, rfl, .inr ⟨h, q _ _ (Evl.Ex.refl _) ⟨a, rfl, h⟩⟩⟩
theorem dp_ints {H : Hp} : ∀ l : List Int, DpAll K H (iv l) (l.map PyData.int)
  | [] => .nil
  | i :: l => .cons (.int i) (dp_ints l)
theorem ints_lay : ∀ l : List Int, PyData.canLayAll0 (l.map PyData.int) = true ∧ PyData.depthAll (l.map PyData.int) = 0
  | [] => ⟨rfl, rfl⟩
  | i :: l => by
    obtain ⟨h1, h2⟩ := ints_lay l
    constructor
    · show (true && PyData.canLayAll0 (l.map PyData.int)) = true
      rw [h1]; rfl
    · show max 0 (PyData.depthAll (l.map PyData.int)) = 0
      rw [h2]; rfl
def dC (l : List Int) : PyData := .tuple (l.map PyData.int)
def dL (l : List Int) : PyData := .list (l.map PyData.int)
theorem sh_dC (l : List Int) : SeqAt.shaped (dC l) = true := by
  obtain ⟨h1, h2⟩ := ints_lay l
  unfold SeqAt.shaped
  rw [Bool.and_eq_true]
  refine ⟨h1, decide_eq_true ?_⟩
  show PyData.depthAll _ + 1 ≤ 64
  rw [h2]
  decide
theorem sh_dL (l : List Int) : SeqAt.shaped (dL l) = true := by
  obtain ⟨h1, h2⟩ := ints_lay l
  unfold SeqAt.shaped
  rw [Bool.and_eq_true]
  refine ⟨h1, decide_eq_true ?_⟩
  show PyData.depthAll _ + 1 ≤ 64
  rw [h2]
  decide
theorem IsCv.dp {H : Hp} {v : V} {l : List Int} (h : IsCv K H v l) : Dp K H v (dC l) := by
  obtain ⟨a, rfl, h⟩ := h
  exact .tup h (dp_ints l)
/-- two equal curves -/
theorem ne_cv {H : Hp} {u v : V} {l m : List Int} {Q : VK} (h1 : IsCv K H u l) (h2 : IsCv K H v m) (e : l = m) (q : Q (.bl false) H) : rNeD K u v H Q := by
  subst e
  refine ⟨dC l, dC l, h1.dp, h2.dp, sh_dC l, sh_dC l, ?_⟩
  rw [SeqAt.eqv_refl _ (SeqAt.canLay_of_shaped (sh_dC l))]
  exact q
/-! walks -/
theorem pi_or {X : Cx} {tg it : Expr} {w1 w2 : TI} (h1 : PI X tg it w1) (h2 : PI X tg it w2) : PI X tg it (fun σ H R => w1 σ H R ∨ w2 σ H R) := ⟨fun pins s σ H R I h => by
  rcases h with h | h
  · exact h1.run pins s σ H R I h
  · exact h2.run pins s σ H R I h⟩
theorem for_any {J : It} {n : Nat} {g : TG} {tb : TS} {D : Ends} {σ : L2.St} {H : Hp} (Pv : Nat → L2.St → Hp → Prop) (h0 : Pv 0 σ H) (hgo : ∀ i σ H, i < n → Pv i σ H → J.go i H) (hst : ∀ σ H, Pv n σ H → J.stop n H)
    (hs : ∀ i σ H v H', i < n → Pv i σ H → J.yld i H v H' → g v σ H' fun σ2 H2 => tb { D with nx := Pv (i + 1), ct := Pv (i + 1), bk := D.nx } σ2 H2) (hd : ∀ σ H, Pv n σ H → D.nx σ H) :
    ∃ W : Nat → Nat → L2.St → Hp → Prop, (∃ m, W 0 m σ H) ∧ ∀ i m σ H, W i m σ H →
      (J.stop i H ∧ D.nx σ H) ∨ (J.go i H ∧ ∃ N : L2.St → Hp → Prop, (∀ σ' H', N σ' H' → ∃ m', m' < m ∧ W (i + 1) m' σ' H') ∧ ∀ v H', J.yld i H v H' → g v σ H' fun σ2 H2 => tb { D with nx := N, ct := N, bk := D.nx } σ2 H2) := by
  refine ⟨fun i m σ H => m + i = n ∧ Pv i σ H, ⟨n, rfl, h0⟩, fun i m σ H ⟨e, p⟩ => ?_⟩
  cases m with
  | zero =>
    have e' : i = n := by omega
    subst e'
    exact .inl ⟨hst σ H p, hd σ H p⟩
  | succ m => exact .inr ⟨hgo i σ H (by omega) p, Pv (i + 1), fun σ' H' p' => ⟨m, Nat.lt_succ_self m, by omega, p'⟩, fun v H' y => hs i σ H v H' (by omega) p y⟩
theorem lc_any {J : It} {n : Nat} {g : TG} {tt : TT} {te : TE} {vs : List Nat} {σ : L2.St} {H1 : Hp} {D : Addr} {Qd : Hp → Prop} (Pv : Nat → Hp → Prop) (h0 : Pv 0 (upd H1 D (.lst []))) (hgo : ∀ i H, i < n → Pv i H → J.go i H) (hst : ∀ H, Pv n H → J.stop n H)
    (hs : ∀ i H v H', i < n → Pv i H → J.yld i H v H' → g v (wipe σ vs) H' fun σ2 H2 => wipe σ2 vs = wipe σ vs ∧ tt σ2 H2 fun b H3 =>
      if b = true then te σ2 H3 fun y H4 => ∃ acc, H4 D = some (.lst acc) ∧ acc.length < sizeLine ∧ Pv (i + 1) (upd H4 D (.lst (acc ++ [y]))) else Pv (i + 1) H3) (hd : ∀ H, Pv n H → Qd H) :
    ∃ W : Nat → Nat → Hp → Prop, (∃ m, W 0 m (upd H1 D (.lst []))) ∧ ∀ i m H, W i m H →
      (J.stop i H ∧ Qd H) ∨ (J.go i H ∧ ∃ Nx : Hp → Prop, (∀ H', Nx H' → ∃ m', m' < m ∧ W (i + 1) m' H') ∧ ∀ v H', J.yld i H v H' → g v (wipe σ vs) H' fun σ2 H2 => wipe σ2 vs = wipe σ vs ∧ tt σ2 H2 fun b H3 =>
        if b = true then te σ2 H3 fun y H4 => ∃ acc, H4 D = some (.lst acc) ∧ acc.length < sizeLine ∧ Nx (upd H4 D (.lst (acc ++ [y]))) else Nx H3) := by
  refine ⟨fun i m H => m + i = n ∧ Pv i H, ⟨n, rfl, h0⟩, fun i m H ⟨e, p⟩ => ?_⟩
  cases m with
  | zero =>
    have e' : i = n := by omega
    subst e'
    exact .inl ⟨hst H p, hd H p⟩
  | succ m => exact .inr ⟨hgo i H (by omega) p, Pv (i + 1), fun H' p' => ⟨m, Nat.lt_succ_self m, by omega, p'⟩, fun v H' y => hs i H v H' (by omega) p y⟩
section
variable {P : Program} {w : World} {mg : Str → Option Value} {base : Heap}
/-! ### without_end -/
abbrev s_without_end : Stmt := top 15
theorem sc_without_end : FnScope ["integers", "length"] ["integers"] (defScope s_without_end) := ⟨rfl, rfl, rfl, by decide +kernel, rfl, by decide +kernel, by decide +kernel⟩
def spTrim (K : PySem.W.Frag) : Sp := fun vs H Q _ => ∃ (v : V) (l : List Int), vs = [v] ∧ SqI K H v l ∧ ∀ u H', Same H H' → IsCv K H' u (trim l) → Q u H'
theorem ok_trim {f : Addr} {fd : FuncData} (F : Fun K "without_end" "without_end" s_without_end f fd) (n_len : mg "len" = none) (n_tuple : mg "tuple" = none) : FnG P w K mg base CX0 1 f fd ["integers"] (spTrim K) := by
  refine go_ok F sc_without_end (fun vs H Q E h => ?_) (fun cdv A outer s H vs Q E hr fr h => ?_)
  · obtain ⟨_, _, rfl, _⟩ := h
    rfl
  · obtain ⟨v, l, rfl, hv, q⟩ := h
    refine ⟨_, (pss_cons (ps_set (i := 1) sc_without_end.nd rfl (Or.inl rfl) (pe_callB call_lenI (by rfl) n_len PySem.boot_len (pa_cons (pv 0) pa_nil)))
    (pss_cons (ps_while PassesOwn.never (PW.pt (pw_and (pt_cmpR op_gt (pv 1) (pe_int) (nomark _)) (pw_and1 (pt_cmpR op_eq (pe_ix ix_I (pv 0) (pe_op op_sub (pv 1) (pe_int)) (fun _ _ => rfl)) (pe_int) (nomark _)))))
      (pss_one (ps_aug (i := 1) sc_without_end.nd rfl (Or.inl rfl) (pe_int) ip_sub)))
    (pss_one (ps_ret (pe_callTy call_tupO (by rfl) n_tuple (by decide +kernel) (pa_cons (pe_slice sl_I (pv 0) po_none (po_some (pv 1))) pa_nil)))))), ?_⟩
    refine ⟨_, rfl, rd_len hv ?_⟩
    refine ⟨fun m σ H' => σ = [some v, some (.int (m : Int))] ∧ H' = H ∧ m ≤ l.length ∧ trim (l.take m) = trim l, ⟨l.length, rfl, rfl, Nat.le_refl _, by rw [List.take_length]⟩, ?_⟩
    rintro m σ H' ⟨rfl, rfl, hm, e⟩
    have fin : trim (l.take m) = l.take m → tRet (tCB (rTupOf K) (tCons (tSl (rSlI K) (tVar 0) tNoPart (tPart (tVar 1))) tNil)) { nx := fun _ H' => Q .non H', rt := Q } [some v, some (.int (m : Int))] H' := fun c => by
      refine ⟨_, rfl, _, rfl, _, rfl, rd_to hv hm fun u H1 s1 h1 => rd_tup h1 fun u2 H2 s2 h2 => ?_⟩
      rw [← c, e] at h2
      exact q u2 H2 (s1.trans s2) h2
    refine ⟨_, rfl, _, _, rfl, rfl, _, rfl, ?_⟩
    refine iteD (fun c => ?_) (fun c => ?_)
    · have m1 : m - 1 < l.length := by omega
      have em : l.take m = l.take (m - 1) ++ [l[m - 1]] := by
        have := List.take_add_one (l := l) (i := m - 1)
        rw [show m - 1 + 1 = m by omega, List.getElem?_eq_getElem m1] at this
        exact this
      refine ⟨_, rfl, _, rfl, _, _, rfl, rfl, ?_⟩
      refine rd_ix (k := m - 1) hv (by omega) m1 ⟨rfl, _, rfl, ?_⟩
      refine iteD (fun c2 => ?_) (fun c2 => ?_)
      · refine ⟨_, fun _ _ h => h, ?_⟩
        refine ⟨_, rfl, _, _, rfl, rfl, m - 1, by omega, ?_, rfl, by omega, ?_⟩
        · show [some v, some (V.int ((m : Int) - 1))] = _
          rw [show (m : Int) - 1 = ((m - 1 : Nat) : Int) by omega]
        · rw [← e, em, V.int.inj c2, trim_zero]
      · refine fin ?_
        rw [em]
        exact trim_last fun z => c2 (congrArg V.int z)
    · refine fin ?_
      have : m = 0 := by omega
      subst this
      rfl
end
end Kc

namespace Kc
open PySem PySem.Spec PyProof.Rows L2 Hb Gu Tx Xb En M3 RZ
variable {K : PySem.W.Frag}
/-! ### xs[k] op= e, x *= e -/
def rGetL : V → V → Hp → VK → Prop := fun o i H Q => ∃ (p : Addr) (xs : List V) (k : Int) (v : V), o = .ref p ∧ i = .int k ∧ H p = some (.lst xs) ∧ 0 ≤ k ∧ k < 2 ^ 60 ∧ xs[k.toNat]? = some v ∧ Q v H
theorem get_list {X : Cx} : PGet X rGetL := by
  intro pins s σ H o i ov w Q I ro ri h
  obtain ⟨p, xs, k, v, rfl, rfl, hp, k0, k1, hv, q⟩ := h
  cases ro
  obtain ⟨t, rfl⟩ := ri
  obtain ⟨its, r, pl, _⟩ := I.list (SqL.of hp)
  obtain ⟨u, hu, ru⟩ := r.get hv
  exact wpAny_getItem_list pl.isList k0 (by omega) (by simpa using hu) ⟨v, H, I, ru, q⟩
theorem ip_mulW {X : Cx} : PIp X .Mult (fun x y H Q => ∃ i j, x = .int i ∧ y = .int j ∧ CMulW i j ∧ Q (.int (i * j)) H) := by
  intro pins s σ H x y v u Q I r1 r2 h
  obtain ⟨i, j, rfl, rfl, hc, q⟩ := h
  obtain ⟨t, rfl⟩ := r1
  obtain ⟨t', rfl⟩ := r2
  exact PyProof.Rows.imul_int ⟨.int _, H, I.tok _, ⟨_, rfl⟩, q⟩ hc.ok
theorem iv_app (a b : List Int) : iv (a ++ b) = iv a ++ iv b := List.map_append
theorem gt_tup {H : Hp} {T : Addr} {xs : List V} (h : H T = none) : SqT K (upd H T (.tup xs)) T xs := SqT.of upd_same
def Sm (l : List Int) : Prop := ∀ c ∈ l, -(2 ^ 64) < c ∧ c < 2 ^ 64
theorem ixN_of {n k : Nat} (h : k < n) : ixN n (k : Int) = some k := by
  unfold ixN
  rw [if_pos (by omega), if_pos (by omega)]
  rfl
section
variable {P : Program} {w : World} {mg : Str → Option Value} {base : Heap}
/-! ### curve_scaled -/
abbrev s_curve_scaled : Stmt := top 18
theorem sc_curve_scaled : FnScope ["f", "n", "a"] ["f", "n"] (defScope s_curve_scaled) := ⟨rfl, rfl, rfl, by decide +kernel, rfl, by decide +kernel, by decide +kernel⟩
def spScaled (K : PySem.W.Frag) : Sp := fun vs H Q _ => ∃ (v : V) (l : List Int) (n : Int), vs = [v, .int n] ∧ IsCv K H v l ∧ l.length ≤ 1000 ∧ (-(2 ^ 64) < n ∧ n < 2 ^ 64) ∧ ∀ u H', Same H H' → IsCv K H' u (trim (l.map (n * ·))) → Q u H'
theorem acc_ok {l : List Int} (h : l.length ≤ 1000) (i : Nat) (f : Int → Int) : (iv ((l.take i).map f)).length < sizeLine := by
  rw [List.length_map, List.length_map, List.length_take]
  exact Nat.lt_of_le_of_lt (m := 1000) (by omega) (by decide)
theorem ok_scaled {f : Addr} {fd : FuncData} (F : Fun K "curve_scaled" "curve_scaled" s_curve_scaled f fd) (C_without_end : Cg P w K mg base CX0 "without_end" ["integers"] [] 1 (spTrim K)) : FnG P w K mg base CX0 2 f fd ["f", "n"] (spScaled K) := by
  refine go_ok F sc_curve_scaled (fun vs H Q E h => ?_) (fun cdv A outer s H vs Q E hr fr h => ?_)
  · obtain ⟨_, _, _, rfl, _⟩ := h
    rfl
  · obtain ⟨v, l, n, rfl, ⟨a, rfl, hS⟩, hl, hn, q⟩ := h
    refine ⟨_, (pss_one (ps_ret (pe_go C_without_end (hr.mono (by decide)) fr rfl (pa_cons (pe_lc (own := [("a", 2)]) (g := gName 2) rfl sc_curve_scaled.nd (pi_tup (pv 0)) (blkOk_by (N := ["f", "n", "a"]) (sc := defScope s_curve_scaled) (by decide +kernel)) (fun _ _ _ _ _ => pg_name (i := 2) sc_curve_scaled.nd rfl (Or.inl rfl)) (fun _ _ _ _ _ => pts_nil) (fun _ _ _ _ _ => pe_op op_mul (pv 1) (pv 2))) pa_nil)))), ?_⟩
    refine ⟨_, rfl, a, rfl, ⟨_, hS⟩, fun D hD => ?_⟩
    refine lc_tup (xs := iv l) (fun i H' => Same H H' ∧ H' D = some (.lst (iv ((l.take i).map (n * ·))))) ?_ (fun i H' _ h => SqT.same h.1 hS) ?_ ?_
    · exact ⟨same_new hD _, upd_same⟩
    · rintro i x H' hi ⟨h1, h2⟩
      rw [List.getElem?_map] at hi
      obtain ⟨c, hc, rfl⟩ := Option.map_eq_some_iff.mp hi
      refine ⟨rfl, _, rfl, _, rfl, _, _, rfl, rfl, .inl hn, _, h2, acc_ok hl i _, Evl.Ex.mut h1 hD, ?_⟩
      rw [upd_same, List.take_add_one, hc, List.map_append, iv_app]
      rfl
    · rintro H' ⟨h1, h2⟩
      rw [List.length_map, List.take_length] at h2
      exact ⟨_, _, rfl, ⟨D, rfl, .inl (SqL.of h2)⟩, fun u H2 s2 h => q u H2 (h1.trans s2) h⟩
/-! ### curve_plus -/
abbrev s_curve_plus : Stmt := top 17
theorem sc_curve_plus : FnScope ["f", "g", "a", "b"] ["f", "g"] (defScope s_curve_plus) := ⟨rfl, rfl, rfl, by decide +kernel, rfl, by decide +kernel, by decide +kernel⟩
def spPlus (K : PySem.W.Frag) : Sp := fun vs H Q _ => ∃ (v u : V) (l m : List Int), vs = [v, u] ∧ IsCv K H v l ∧ IsCv K H u m ∧ l.length ≤ 1000 ∧ m.length ≤ 1000 ∧ ∀ z H', Same H H' → IsCv K H' z (trim (addL l m)) → Q z H'
theorem zip_add : ∀ {l m : List Int}, m.length ≤ l.length → addL l m = List.zipWith (· + ·) l m ++ l.drop m.length
  | l, [], _ => by
    have e : addL l [] = l := by cases l <;> rfl
    rw [e]
    show l = List.zipWith (· + ·) l [] ++ l.drop 0
    rw [List.drop_zero]; simp
  | [], b :: m, h => by cases h
  | a :: l, b :: m, h => by
    show (a + b) :: addL l m = _
    rw [zip_add (l := l) (m := m) (by simpa using h)]
    rfl
theorem addL_comm : ∀ l m : List Int, addL l m = addL m l
  | [], [] => rfl
  | [], b :: m => rfl
  | a :: l, [] => rfl
  | a :: l, b :: m => by
    show (a + b) :: addL l m = (b + a) :: addL m l
    rw [addL_comm l m, Int.add_comm]
theorem ok_plus {f : Addr} {fd : FuncData} (F : Fun K "curve_plus" "curve_plus" s_curve_plus f fd) (C_without_end : Cg P w K mg base CX0 "without_end" ["integers"] [] 1 (spTrim K)) (n_len : mg "len" = none) (n_zip : mg "zip" = none) (n_list : mg "list" = none) : FnG P w K mg base CX0 2 f fd ["f", "g"] (spPlus K) := by
  refine go_ok F sc_curve_plus (fun vs H Q E h => ?_) (fun cdv A outer s H vs Q E hr fr h => ?_)
  · obtain ⟨_, _, _, _, rfl, _⟩ := h
    rfl
  · obtain ⟨v, u, l0, m0, rfl, hv, hu, l1, m1, q⟩ := h
    refine ⟨_, (Evl.pss_cut (ps_if (pt_cmpR op_lt (pe_callB call_lenI (by rfl) n_len PySem.boot_len (pa_cons (pv 0) pa_nil)) (pe_callB call_lenI (by rfl) n_len PySem.boot_len (pa_cons (pv 1) pa_nil)) (nomark _)) (pss_one (ps_par (i := 0) (j := 1) (by rfl) sc_curve_plus.nd rfl rfl (by decide) rfl rfl (pa_cons (pv 1) (pa_cons (pv 0) pa_nil)) (by rfl))) pss_nil)
    (pss_one (ps_ret (pe_go C_without_end (hr.mono (by decide)) fr rfl (pa_cons (pe_op op_cat (pe_lc (own := [("a", 2), ("b", 3)]) (g := gTup K 2 (gCons (gName 2) (gCons (gName 3) gNil))) rfl sc_curve_plus.nd (pi_zipA (by rfl) n_zip (pa_cons (pv 0) (pa_cons (pv 1) pa_nil))) (blkOk_by (N := ["f", "g", "a", "b"]) (sc := defScope s_curve_plus) (by decide +kernel)) (fun _ _ _ _ _ => pg_tup rfl (pgs_cons (pg_name (i := 2) sc_curve_plus.nd rfl (Or.inl rfl)) (pgs_cons (pg_name (i := 3) sc_curve_plus.nd rfl (Or.inl rfl)) pgs_nil))) (fun _ _ _ _ _ => pts_nil) (fun _ _ _ _ _ => pe_op op_add (pv 2) (pv 3))) (pe_callTy call_listO (by rfl) n_list (by decide +kernel) (pa_cons (pe_slice sl_I (pv 0) (po_some (pe_callB call_lenI (by rfl) n_len PySem.boot_len (pa_cons (pv 1) pa_nil))) po_none) pa_nil))) pa_nil))))), ?_⟩
    refine ⟨fun σ H' => H' = H ∧ ∃ (a b : Addr) (l m : List Int), σ = [some (.ref a), some (.ref b), none, none] ∧ SqT K H a (iv l) ∧ SqT K H b (iv m) ∧ m.length ≤ l.length ∧ l.length ≤ 1000 ∧ addL l m = addL l0 m0, ?_, ?_⟩
    · refine ⟨_, rfl, rd_len hv.sq ⟨_, rfl, rd_len hu.sq ⟨_, _, rfl, rfl, _, rfl, ?_⟩⟩⟩
      obtain ⟨a, rfl, ha⟩ := hv
      obtain ⟨b, rfl, hb⟩ := hu
      refine iteD (fun c => ?_) (fun c => ?_)
      · exact ⟨_, rfl, _, rfl, _, _, rfl, rfl, b, a, m0, l0, rfl, hb, ha, by omega, m1, addL_comm _ _⟩
      · exact ⟨rfl, a, b, l0, m0, rfl, ha, hb, by omega, l1, rfl⟩
    · rintro σ H' ⟨rfl, a, b, l, m, rfl, ha, hb, hml, hl, ea⟩
      refine ⟨_, rfl, _, rfl, a, b, _, _, rfl, .inr ⟨ha, hb, fun D hD => ?_⟩⟩
      refine lc_any (n := m.length) (fun i H2 => Same H' H2 ∧ H2 D = some (.lst (iv ((List.zipWith (· + ·) l m).take i)))) ?_ ?_ ?_ ?_ ?_
      · exact ⟨same_new hD _, upd_same⟩
      · intro i H2 hi h
        exact ⟨_, _, _, _, SqT.same h.1 ha, SqT.same h.1 hb, by rw [List.getElem?_map, List.getElem?_eq_getElem (show i < l.length by omega)]; rfl, by rw [List.getElem?_map, List.getElem?_eq_getElem hi]; rfl⟩
      · intro H2 h
        exact ⟨_, _, SqT.same h.1 ha, SqT.same h.1 hb, .inr (by rw [List.length_map]; exact Nat.le_refl _)⟩
      · rintro i H2 x H3 hi ⟨h1, h2⟩ ⟨T, y, z, rfl, hT, rfl, fy, fz⟩
        have ey := fy _ (SqT.same h1 ha)
        have ez := fz _ (SqT.same h1 hb)
        rw [List.getElem?_map, List.getElem?_eq_getElem (show i < l.length by omega)] at ey
        rw [List.getElem?_map, List.getElem?_eq_getElem hi] at ez
        cases ey
        cases ez
        have s3 := same_new hT (.tup [.int l[i], .int m[i]])
        refine ⟨T, _, rfl, SqT.of upd_same, rfl, _, _, rfl, _, _, rfl, rfl, rfl, _, rfl, _, rfl, _, _, rfl, rfl, _, s3 _ _ h2, ?_, Evl.Ex.mut (h1.trans s3) hD, ?_⟩
        · rw [List.length_map, List.length_take, List.length_zipWith]
          exact Nat.lt_of_le_of_lt (m := 1000) (by omega) (by decide)
        · have hz : (List.zipWith (· + ·) l m)[i]? = some (l[i] + m[i]) := by
            rw [List.getElem?_eq_getElem (by rw [List.length_zipWith]; omega), List.getElem_zipWith]
          rw [upd_same, List.take_add_one, hz, iv_app]
          rfl
      · rintro H2 ⟨h1, h2⟩
        rw [List.take_of_length_le (by rw [List.length_zipWith]; omega)] at h2
        refine ⟨_, rfl, _, rfl, rd_len ⟨b, rfl, .inr (SqT.same h1 hb)⟩ ⟨_, rfl, ?_⟩⟩
        refine rd_from ⟨a, rfl, .inr (SqT.same h1 ha)⟩ hml fun z H3 s3 hz => ?_
        refine rd_list hz fun p H4 hp s4 e4 => ?_
        have h24 := (s3.trans s4) _ _ h2
        refine ⟨D, p, _, _, rfl, rfl, h24, e4, ?_, fun r hr => ?_⟩
        · rw [List.length_map, List.length_map, List.length_zipWith, List.length_drop]
          exact Nat.le_trans (m := 2000) (by omega) (by decide)
        · refine ⟨_, List.zipWith (· + ·) l m ++ l.drop m.length, rfl, ⟨r, rfl, .inl (SqL.of ?_)⟩, fun z H5 s5 h => ?_⟩
          · rw [upd_same, iv_app]
          · rw [← zip_add hml, ea] at h
            exact q z H5 (h1.trans (s3.trans (s4.trans ((same_new hr _).trans s5)))) h
/-! ### curve_minus -/
abbrev s_curve_minus : Stmt := top 19
theorem sc_curve_minus : FnScope ["f", "g"] ["f", "g"] (defScope s_curve_minus) := ⟨rfl, rfl, rfl, by decide +kernel, rfl, by decide +kernel, by decide +kernel⟩
def spMinus (K : PySem.W.Frag) : Sp := fun vs H Q _ => ∃ (v u : V) (l m : List Int), vs = [v, u] ∧ IsCv K H v l ∧ IsCv K H u m ∧ l.length ≤ 1000 ∧ m.length ≤ 1000 ∧ ∀ z H', Same H H' → IsCv K H' z (trim (addL l (trim (m.map (-1 * ·))))) → Q z H'
theorem ok_minus {f : Addr} {fd : FuncData} (F : Fun K "curve_minus" "curve_minus" s_curve_minus f fd) (C_curve_plus : Cg P w K mg base CX0 "curve_plus" ["f", "g"] [] 2 (spPlus K)) (C_curve_scaled : Cg P w K mg base CX0 "curve_scaled" ["f", "n"] [] 2 (spScaled K)) : FnG P w K mg base CX0 3 f fd ["f", "g"] (spMinus K) := by
  refine go_ok F sc_curve_minus (fun vs H Q E h => ?_) (fun cdv A outer s H vs Q E hr fr h => ?_)
  · obtain ⟨_, _, _, _, rfl, _⟩ := h
    rfl
  · obtain ⟨v, u, l, m, rfl, hv, hu, l1, m1, q⟩ := h
    refine ⟨_, (pss_one (ps_ret (pe_go C_curve_plus (hr.mono (by decide)) fr rfl (pa_cons (pv 0) (pa_cons (pe_go C_curve_scaled (hr.mono (by decide)) fr rfl (pa_cons (pv 1) (pa_cons (pe_un un_neg (pe_int)) pa_nil))) pa_nil))))), ?_⟩
    refine ⟨_, rfl, _, rfl, _, rfl, _, m, _, rfl, hu, m1, ⟨by decide, by decide⟩, fun z H1 s1 hz => ?_⟩
    exact ⟨_, _, l, _, rfl, hv.same s1, hz, l1, Nat.le_trans (trim_len _) (by rw [List.length_map]; exact m1), fun y H2 s2 hy => q y H2 (s1.trans s2) hy⟩
end
end Kc

namespace Kc
open PySem PySem.Spec PyProof.Rows L2 Hb Gu Tx Xb En M3 RZ RT
variable {K : PySem.W.Frag}
theorem iv_get {l : List Int} {k : Nat} (h : k < l.length) : (iv l)[k]? = some (.int l[k]) := by rw [List.getElem?_map, List.getElem?_eq_getElem h]; rfl
theorem iv_set (l : List Int) (k : Nat) (c : Int) : (iv l).set k (.int c) = iv (l.set k c) := List.map_set.symm
theorem iv_get' {l : List Int} {k : Nat} {x : V} (h : (iv l)[k]? = some x) : ∃ hk : k < l.length, x = .int l[k] := by
  have hk : k < (iv l).length := (List.getElem?_eq_some_iff.mp h).1
  rw [List.length_map] at hk
  rw [iv_get hk] at h
  exact ⟨hk, (Option.some.inj h).symm⟩
section
variable {P : Program} {w : World} {mg : Str → Option Value} {base : Heap}
/-! ### curve_times -/
abbrev s_curve_times : Stmt := top 20
theorem sc_curve_times : FnScope ["f", "g", "product", "i", "a", "j", "b"] ["f", "g"] (defScope s_curve_times) := ⟨rfl, rfl, rfl, by decide +kernel, rfl, by decide +kernel, by decide +kernel⟩
def spTimes (K : PySem.W.Frag) : Sp := fun vs H Q _ => ∃ (v u : V) (l m : List Int), vs = [v, u] ∧ IsCv K H v l ∧ IsCv K H u m ∧ l.length ≤ 500 ∧ m.length ≤ 500 ∧ (Sm l ∨ Sm m) ∧ ∀ z H', Same H H' → IsCv K H' z (prodL l m) → Q z H'
theorem ok_times {f : Addr} {fd : FuncData} (F : Fun K "curve_times" "curve_times" s_curve_times f fd) (n_len : mg "len" = none) (n_enumerate : mg "enumerate" = none) (n_tuple : mg "tuple" = none) : FnG P w K mg base CX0 1 f fd ["f", "g"] (spTimes K) := by
  refine go_ok F sc_curve_times (fun vs H Q E h => ?_) (fun cdv A outer s H vs Q E hr fr h => ?_)
  · obtain ⟨_, _, _, _, rfl, _⟩ := h
    rfl
  · obtain ⟨v, u, l, m, rfl, hv, hu, l1, m1, hsm, q⟩ := h
    refine ⟨_, (Evl.pss_cut (ps_if (PW.pt (pw_or (pt_cmpR op_eq (pe_callB call_lenI (by rfl) n_len PySem.boot_len (pa_cons (pv 0) pa_nil)) (pe_int) (nomark _)) (pw_or1 (pt_cmpR op_eq (pe_callB call_lenI (by rfl) n_len PySem.boot_len (pa_cons (pv 1) pa_nil)) (pe_int) (nomark _))))) (pss_one (ps_ret (pe_tup pa_nil))) pss_nil)
    (pss_cons (ps_set (i := 2) sc_curve_times.nd rfl (Or.inl rfl) (pe_op op_rep (pe_lst (pa_cons (pe_int) pa_nil)) (pe_op op_sub (pe_op op_add (pe_callB call_lenI (by rfl) n_len PySem.boot_len (pa_cons (pv 0) pa_nil)) (pe_callB call_lenI (by rfl) n_len PySem.boot_len (pa_cons (pv 1) pa_nil))) (pe_int))))
    (pss_cons (ps_for PassesOwn.never rfl (pi_enumT (by rfl) n_enumerate (pa_cons (pv 0) pa_nil)) (pg_tup rfl (pgs_cons (pg_name (i := 3) sc_curve_times.nd rfl (Or.inl rfl)) (pgs_cons (pg_name (i := 4) sc_curve_times.nd rfl (Or.inl rfl)) pgs_nil)))
      (pss_one (ps_for PassesOwn.never rfl (pi_enumT (by rfl) n_enumerate (pa_cons (pv 1) pa_nil)) (pg_tup rfl (pgs_cons (pg_name (i := 5) sc_curve_times.nd rfl (Or.inl rfl)) (pgs_cons (pg_name (i := 6) sc_curve_times.nd rfl (Or.inl rfl)) pgs_nil)))
      (pss_one (ps_augS (pv 2) (pe_op op_add (pv 3) (pv 5)) get_list (pe_op op_mul (pv 4) (pv 6)) ip_add set_list)))))
    (pss_one (ps_ret (pe_callTy call_tupO (by rfl) n_tuple (by decide +kernel) (pa_cons (pv 2) pa_nil))))))), ?_⟩
    refine ⟨fun σ H' => σ = [some v, some u, none, none, none, none, none] ∧ H' = H ∧ l ≠ [] ∧ m ≠ [], ?_, ?_⟩
    · have nil : (l = [] ∨ m = []) → ∀ p, H p = none → Q (.ref p) (upd H p (.tup [])) := fun c p hp => q _ _ (same_new hp _) ⟨p, rfl, by
        have e : prodL l m = [] := by unfold prodL; rw [if_pos c]
        rw [e]
        exact SqT.of upd_same⟩
      refine ⟨_, rfl, rd_len hv.sq ⟨rfl, _, rfl, ?_⟩⟩
      refine iteD (fun c => ?_) (fun c => ?_)
      · exact iteT ⟨by show 0 ≤ sizeLine; exact Nat.zero_le _, nil (.inl (List.length_eq_zero_iff.mp (by have := V.int.inj c; omega)))⟩
      · refine ⟨_, rfl, rd_len hu.sq ⟨rfl, _, rfl, ?_⟩⟩
        refine iteD (fun c2 => ?_) (fun c2 => ?_)
        · exact ⟨by show 0 ≤ sizeLine; exact Nat.zero_le _, nil (.inr (List.length_eq_zero_iff.mp (by have := V.int.inj c2; omega)))⟩
        · exact ⟨rfl, rfl, fun z => c (by rw [z]; rfl), fun z => c2 (by rw [z]; rfl)⟩
    · rintro σ H' ⟨rfl, rfl, l0, m0⟩
      have lp : 1 ≤ l.length := by cases l with | nil => exact absurd rfl l0 | cons _ _ => simp
      have mp : 1 ≤ m.length := by cases m with | nil => exact absurd rfl m0 | cons _ _ => simp
      have sm : ∀ (i j : Nat) (hi : i < l.length) (hj : j < m.length), CMul l[i] m[j] := fun i j hi hj => by
        rcases hsm with z | z
        · exact .inl (z _ (List.getElem_mem hi))
        · exact .inr (z _ (List.getElem_mem hj))
      refine ⟨by show 1 ≤ sizeLine; decide, fun z hz => ?_⟩
      have s1 := same_new hz (.lst [.int 0])
      have e1 : (upd H' z (.lst [.int 0])) z = some (.lst [.int 0]) := upd_same
      generalize upd H' z (.lst [.int 0]) = H1 at s1 e1 ⊢
      refine ⟨_, rfl, rd_len (hv.sq.same s1) ⟨_, rfl, rd_len (hu.sq.same s1) ⟨_, _, rfl, rfl, _, _, rfl, rfl, ?_⟩⟩⟩
      refine ⟨z, _, _, rfl, rfl, e1, by omega, by omega, ?_, fun D hD => ?_⟩
      · refine Nat.le_trans (m := 1000) ?_ (by decide)
        show 1 * _ ≤ 1000
        omega
      obtain ⟨n, hn⟩ : ∃ n : Nat, n = l.length + m.length - 1 := ⟨_, rfl⟩
      have en : ((l.length : Int) + (m.length : Int) - 1).toNat = n := by omega
      rw [en]
      have er : (List.replicate n [V.int 0]).flatten = iv (List.replicate n 0) := by
        show _ = (List.replicate n 0).map V.int
        rw [List.map_replicate]
        generalize n = k
        induction k with
        | zero => rfl
        | succ k ih => rw [List.replicate_succ, List.flatten_cons, ih]; rfl
      rw [er]
      have s2 := same_new hD (.lst (iv (List.replicate n 0)))
      have e2 : (upd H1 D (.lst (iv (List.replicate n 0)))) D = some (.lst (iv (List.replicate n 0))) := upd_same
      have hD0 : H' D = none := Evl.fresh_back s1 hD
      generalize upd H1 D (.lst (iv (List.replicate n 0))) = H2 at s2 e2 ⊢
      obtain ⟨av, rfl, hS⟩ := hv
      obtain ⟨au, rfl, hT⟩ := hu
      refine ⟨_, rfl, av, rfl, ⟨_, SqT.same (s1.trans s2) hS⟩, ?_⟩
      refine for_enumT (xs := iv l) (fun i σ H3 => ∃ o3 o4 o5 o6, σ = [some (.ref av), some (.ref au), some (.ref D), o3, o4, o5, o6] ∧ Same H' H3 ∧ ∃ pr : List Int, H3 D = some (.lst (iv pr)) ∧ pr.length = n ∧ ∀ x, ev pr x = ev (l.take i) x * ev m x) ?_ ?_ ?_ ?_
      · refine ⟨none, none, none, none, rfl, s1.trans s2, _, e2, by rw [List.length_replicate], fun x => ?_⟩
        rw [ev_zeros]
        show (0 : Int) = 0 * _
        omega
      · rintro i σ H3 ⟨_, _, _, _, _, s3, _⟩
        exact SqT.same s3 hS
      · rintro i x T σ H3 hx ⟨o3, o4, o5, o6, rfl, s3, pr, e3, ln, hev⟩ hTn
        obtain ⟨hi, rfl⟩ := iv_get' hx
        refine ⟨T, _, rfl, SqT.of upd_same, rfl, _, _, rfl, _, _, rfl, rfl, ?_⟩
        have s4 := same_new hTn (.tup [.int (i : Nat), .int l[i]])
        have e4 := s4 _ _ e3
        generalize upd H3 T (.tup [.int (i : Nat), .int l[i]]) = H4 at s4 e4 ⊢
        refine ⟨_, rfl, au, rfl, ⟨_, SqT.same (s3.trans s4) hT⟩, ?_⟩
        refine for_enumT (xs := iv m) (fun j σ H5 => ∃ o5 o6, σ = [some (.ref av), some (.ref au), some (.ref D), some (.int (i : Nat)), some (.int l[i]), o5, o6] ∧ Same H' H5 ∧ ∃ pr : List Int, H5 D = some (.lst (iv pr)) ∧ pr.length = n ∧ ∀ x, ev pr x = ev (l.take i) x * ev m x + l[i] * x ^ i * ev (m.take j) x) ?_ ?_ ?_ ?_
        · refine ⟨o5, o6, rfl, s3.trans s4, pr, e4, ln, fun x => ?_⟩
          rw [hev x]
          show _ = _ + l[i] * x ^ i * 0
          omega
        · rintro j σ H5 ⟨_, _, _, s5, _⟩
          exact SqT.same s5 hT
        · rintro j y T2 σ H5 hy ⟨p5, p6, rfl, s5, pr5, e5, ln5, hev5⟩ hT2
          obtain ⟨hj, rfl⟩ := iv_get' hy
          refine ⟨T2, _, rfl, SqT.of upd_same, rfl, _, _, rfl, _, _, rfl, rfl, ?_⟩
          have s6 := same_new hT2 (.tup [.int (j : Nat), .int m[j]])
          have e6 := s6 _ _ e5
          generalize upd H5 T2 (.tup [.int (j : Nat), .int m[j]]) = H6 at s6 e6 ⊢
          have hk : i + j < pr5.length := by omega
          refine ⟨_, rfl, _, rfl, _, rfl, _, _, rfl, rfl, D, _, _, .int pr5[i + j], rfl, rfl, e6, by omega, by omega, ?_, ?_⟩
          · rw [show ((i : Int) + (j : Int)).toNat = i + j by omega]
            exact iv_get hk
          refine ⟨_, rfl, _, rfl, _, _, rfl, rfl, sm i j hi hj, _, _, rfl, rfl, D, _, _, i + j, rfl, rfl, e6, ?_, ?_⟩
          · rw [List.length_map, show (i : Int) + (j : Int) = ((i + j : Nat) : Int) by omega]
            exact ixN_of hk
          refine ⟨_, _, rfl, Evl.Ex.mut (s5.trans s6) hD0, pr5.set (i + j) (pr5[i + j] + l[i] * m[j]), ?_, by rw [List.length_set]; exact ln5, fun x => ?_⟩
          · rw [upd_same, iv_set]
          · rw [ev_set hk, hev5 x, ev_take hj, Int.pow_add]
            grind
        · rintro σ H5 ⟨p5, p6, rfl, s5, pr5, e5, ln5, hev5⟩
          refine ⟨_, _, _, _, rfl, s5, pr5, e5, ln5, fun x => ?_⟩
          rw [hev5 x, List.length_map, List.take_length, ev_take hi]
          grind
      · rintro σ H3 ⟨o3, o4, o5, o6, rfl, s3, pr, e3, ln, hev⟩
        rw [List.length_map, List.take_length] at hev
        have epr : pr = prodL l m := by
          unfold prodL
          rw [if_neg (fun c => c.elim l0 m0)]
          refine len_ext ?_ fun x => by rw [hev x, ev_mulL]
          rw [ln, mulL_len l m l0 m0, hn]
        refine ⟨_, rfl, rd_tup ⟨D, rfl, .inl (SqL.of e3)⟩ fun z H4 s4 hz => ?_⟩
        rw [epr] at hz
        exact q z H4 (s3.trans s4) hz
/-! ### curve_after -/
abbrev s_curve_after : Stmt := top 23
theorem sc_curve_after : FnScope ["f", "g", "behind", "a"] ["f", "g"] (defScope s_curve_after) := ⟨rfl, rfl, rfl, by decide +kernel, rfl, by decide +kernel, by decide +kernel⟩
def spAfter (K : PySem.W.Frag) : Sp := fun vs H Q _ => ∃ (v u : V) (l m : List Int), vs = [v, u] ∧ IsCv K H v l ∧ IsCv K H u m ∧ l.length ≤ 5 ∧ m.length ≤ 5 ∧ M3.Le (2 ^ 15) l ∧ M3.Le (2 ^ 15) m ∧ ∀ z H', Same H H' → IsCv K H' z (aft l m) → Q z H'
theorem Sm.of {l : List Int} (h : M3.Le (2 ^ 15) l) : Sm l := fun c hc => by
  have := h c hc
  omega
theorem ok_after {f : Addr} {fd : FuncData} (F : Fun K "curve_after" "curve_after" s_curve_after f fd) (C_without_end : Cg P w K mg base CX0 "without_end" ["integers"] [] 1 (spTrim K)) (C_curve_plus : Cg P w K mg base CX0 "curve_plus" ["f", "g"] [] 2 (spPlus K)) (C_curve_times : Cg P w K mg base CX0 "curve_times" ["f", "g"] [] 1 (spTimes K)) (n_reversed : mg "reversed" = none) : FnG P w K mg base CX0 3 f fd ["f", "g"] (spAfter K) := by
  refine go_ok F sc_curve_after (fun vs H Q E h => ?_) (fun cdv A outer s H vs Q E hr fr h => ?_)
  · obtain ⟨_, _, _, _, rfl, _⟩ := h
    rfl
  · obtain ⟨v, u, l, m, rfl, ⟨av, rfl, hS⟩, hu, l1, m1, hl, hm, q⟩ := h
    refine ⟨_, (pss_cons (ps_set (i := 2) sc_curve_after.nd rfl (Or.inl rfl) (pe_tup pa_nil))
    (pss_cons (ps_for PassesOwn.never rfl (pi_revA (by rfl) n_reversed (pv 0)) (pg_name (i := 3) sc_curve_after.nd rfl (Or.inl rfl))
      (pss_one (ps_set (i := 2) sc_curve_after.nd rfl (Or.inl rfl) (pe_go C_curve_plus (hr.mono (by decide)) fr rfl (pa_cons (pe_go C_curve_times (hr.mono (by decide)) fr rfl (pa_cons (pv 2) (pa_cons (pv 1) pa_nil))) (pa_cons (pe_go C_without_end (hr.mono (by decide)) fr rfl (pa_cons (pe_lst (pa_cons (pv 3) pa_nil)) pa_nil)) pa_nil))))))
    (pss_one (ps_ret (pv 2))))), ?_⟩
    refine ⟨by show 0 ≤ sizeLine; exact Nat.zero_le _, fun t0 ht0 => ?_⟩
    have s0 := same_new ht0 (.tup [])
    have e0 : (upd H t0 (.tup [])) t0 = some (.tup []) := upd_same
    generalize upd H t0 (.tup []) = H0 at s0 e0 ⊢
    refine ⟨_, rfl, av, iv l, rfl, .inr ⟨SqT.same s0 hS, ?_⟩⟩
    rw [List.length_map]
    refine for_any (n := l.length) (fun i σ H1 => Same H H1 ∧ ∃ b o3, σ = [some (.ref av), some u, some b, o3] ∧ IsCv K H1 b (aft (l.drop (l.length - i)) m)) ?_ ?_ ?_ ?_ ?_
    · refine ⟨s0, .ref t0, none, rfl, t0, rfl, ?_⟩
      rw [Nat.sub_zero, List.drop_length]
      exact SqT.of e0
    · rintro i σ H1 hi ⟨s1, _⟩
      exact ⟨hi, _, _, SqT.same s1 hS, iv_get (show l.length - 1 - i < l.length by omega)⟩
    · rintro σ H1 _
      exact Nat.le_refl _
    · rintro i σ H1 x H1' hi ⟨s1, b, o3, rfl, hb⟩ ⟨rfl, hx⟩
      have ex := hx _ (SqT.same s1 hS)
      have hlt : l.length - 1 - i < l.length := by omega
      rw [iv_get hlt] at ex
      cases ex
      have sub : M3.Le (2 ^ 15) (l.drop (l.length - i)) := fun c hc => hl c (List.mem_of_mem_drop hc)
      have sz := aft_size m1 hm (l.drop (l.length - i)) sub
      rw [List.length_drop] at sz
      have sz1 : (aft (l.drop (l.length - i)) m).length ≤ 30 := by
        rcases sz with ⟨z, _⟩ | z <;> omega
      have ed : l.drop (l.length - (i + 1)) = l[l.length - 1 - i] :: l.drop (l.length - i) := by
        have := List.drop_eq_getElem_cons hlt
        rw [show l.length - (i + 1) = l.length - 1 - i by omega, this, show l.length - 1 - i + 1 = l.length - i by omega]
      refine ⟨_, rfl, _, rfl, b, u, _, m, rfl, hb, hu.same s1, by omega, by omega, .inr (Sm.of hm), fun z1 H2 s2 h2 => ?_⟩
      refine ⟨_, rfl, by show 1 ≤ sizeLine; decide, fun y hy => ?_⟩
      have s3 := same_new hy (.lst [.int l[l.length - 1 - i]])
      have e3 : (upd H2 y (.lst [.int l[l.length - 1 - i]])) y = some (.lst [.int l[l.length - 1 - i]]) := upd_same
      generalize upd H2 y (.lst [.int l[l.length - 1 - i]]) = H3 at s3 e3 ⊢
      refine ⟨_, [l[l.length - 1 - i]], rfl, ⟨y, rfl, .inl (SqL.of e3)⟩, fun z2 H4 s4 h4 => ?_⟩
      refine ⟨_, _, _, _, rfl, h2.same (s3.trans s4), h4, ?_, ?_, fun z3 H5 s5 h5 => ?_⟩
      · have := prodL_len (aft (l.drop (l.length - i)) m) m
        omega
      · exact Nat.le_trans (trim_len _) (by show 1 ≤ 1000; decide)
      · refine ⟨s1.trans (s2.trans (s3.trans (s4.trans s5))), z3, _, rfl, ?_⟩
        rw [ed]
        exact h5
    · rintro σ H1 ⟨s1, b, o3, rfl, hb⟩
      rw [Nat.sub_self, List.drop_zero] at hb
      exact ⟨_, rfl, q b H1 s1 hb⟩
end
end Kc

namespace Kc
open PySem PySem.Spec PyProof.Rows L2 Hb Gu Tx Xb En M3 RZ RT
variable {K : PySem.W.Frag}
section
variable {P : Program} {w : World} {mg : Str → Option Value} {base : Heap}
/-! ### curve_slope -/
def slp (l : List Int) : List Int := (List.zipWith (fun (k : Nat) a => (k : Int) * a) (List.range l.length) l).drop 1
theorem slp_get {l : List Int} {i : Nat} (h : i < l.length) : (List.zipWith (fun (k : Nat) a => (k : Int) * a) (List.range l.length) l)[i]? = some ((i : Int) * l[i]) := by
  rw [List.getElem?_eq_getElem (by rw [List.length_zipWith, List.length_range]; omega), List.getElem_zipWith, List.getElem_range]
abbrev s_curve_slope : Stmt := top 21
theorem sc_curve_slope : FnScope ["f", "power", "a"] ["f"] (defScope s_curve_slope) := ⟨rfl, rfl, rfl, by decide +kernel, rfl, by decide +kernel, by decide +kernel⟩
def spSlope (K : PySem.W.Frag) : Sp := fun vs H Q _ => ∃ (v : V) (l : List Int), vs = [v] ∧ IsCv K H v l ∧ l.length ≤ 500 ∧ ∀ z H', Same H H' → IsCv K H' z (slp l) → Q z H'
theorem ok_slope {f : Addr} {fd : FuncData} (F : Fun K "curve_slope" "curve_slope" s_curve_slope f fd) (n_enumerate : mg "enumerate" = none) (n_tuple : mg "tuple" = none) : FnG P w K mg base CX0 1 f fd ["f"] (spSlope K) := by
  refine go_ok F sc_curve_slope (fun vs H Q E h => ?_) (fun cdv A outer s H vs Q E hr fr h => ?_)
  · obtain ⟨_, _, rfl, _⟩ := h
    rfl
  · obtain ⟨v, l, rfl, ⟨av, rfl, hS⟩, l1, q⟩ := h
    refine ⟨_, (pss_one (ps_ret (pe_callTy call_tupO (by rfl) n_tuple (by decide +kernel) (pa_cons (pe_slice sl_I (pe_lc (own := [("power", 1), ("a", 2)]) (g := gTup K 2 (gCons (gName 1) (gCons (gName 2) gNil))) rfl sc_curve_slope.nd (pi_enumT (by rfl) n_enumerate (pa_cons (pv 0) pa_nil)) (blkOk_by (N := ["f", "power", "a"]) (sc := defScope s_curve_slope) (by decide +kernel)) (fun _ _ _ _ _ => pg_tup rfl (pgs_cons (pg_name (i := 1) sc_curve_slope.nd rfl (Or.inl rfl)) (pgs_cons (pg_name (i := 2) sc_curve_slope.nd rfl (Or.inl rfl)) pgs_nil))) (fun _ _ _ _ _ => pts_nil) (fun _ _ _ _ _ => pe_op op_mul (pv 1) (pv 2))) (po_some (pe_int)) po_none) pa_nil)))), ?_⟩
    refine ⟨_, rfl, av, rfl, ⟨_, hS⟩, fun D hD => ?_⟩
    refine lc_any (n := l.length) (fun i H' => Same H H' ∧ H' D = some (.lst (iv ((List.zipWith (fun (k : Nat) a => (k : Int) * a) (List.range l.length) l).take i)))) ?_ ?_ ?_ ?_ ?_
    · exact ⟨same_new hD _, upd_same⟩
    · rintro i H' hi ⟨h1, _⟩
      exact ⟨_, _, SqT.same h1 hS, iv_get hi⟩
    · rintro H' ⟨h1, _⟩
      exact ⟨_, SqT.same h1 hS, by rw [List.length_map]; exact Nat.le_refl _⟩
    · rintro i H' x H2 hi ⟨h1, h2⟩ ⟨T, y, rfl, hT, rfl, fy⟩
      have ey := fy _ (SqT.same h1 hS)
      rw [iv_get hi] at ey
      cases ey
      have s3 := same_new hT (.tup [.int (i : Nat), .int l[i]])
      refine ⟨T, _, rfl, SqT.of upd_same, rfl, _, _, rfl, _, _, rfl, rfl, rfl, _, rfl, _, rfl, _, _, rfl, rfl, .inl ⟨by omega, by omega⟩, _, s3 _ _ h2, ?_, Evl.Ex.mut (h1.trans s3) hD, ?_⟩
      · rw [List.length_map, List.length_take]
        exact Nat.lt_of_le_of_lt (m := 1000) (by omega) (by decide)
      · rw [upd_same, List.take_add_one, slp_get hi, iv_app]
        rfl
    · rintro H' ⟨h1, h2⟩
      have ll : (List.zipWith (fun (k : Nat) a => (k : Int) * a) (List.range l.length) l).length = l.length := by rw [List.length_zipWith, List.length_range]; omega
      rw [List.take_of_length_le (by omega)] at h2
      by_cases c : l = []
      · refine ⟨1, rfl, ?_⟩
        have e1 : slp l = [] := by rw [c]; rfl
        refine (show rSlI K (.ref D) (some 1) none H' _ from ?_)
        unfold rSlI
        refine .inl ⟨D, [], rfl, SqL.of (by rw [h2, c]; rfl), fun p hp => ?_⟩
        have e2 : (upd H' p (.lst (cutV ([] : List V) (some 1) none))) p = some (.lst (iv [])) := upd_same
        refine rd_tup (l := []) ⟨p, rfl, .inl (SqL.of e2)⟩ fun z H3 s3 hz => ?_
        exact q z H3 (h1.trans ((same_new hp _).trans s3)) (by rw [e1]; exact hz)
      · have lp : 1 ≤ l.length := by cases l with | nil => exact absurd rfl c | cons _ _ => simp
        refine ⟨1, rfl, rd_from (k := 1) ⟨D, rfl, .inl (SqL.of h2)⟩ (by omega) fun z H3 s3 hz => rd_tup hz fun y H4 s4 hy => ?_⟩
        exact q y H4 (h1.trans (s3.trans s4)) hy
/-! ### first_sign, last_sign -/
abbrev s_first_sign : Stmt := top 27
theorem sc_first_sign : FnScope ["f", "a"] ["f"] (defScope s_first_sign) := ⟨rfl, rfl, rfl, by decide +kernel, rfl, by decide +kernel, by decide +kernel⟩
def fsg : List Int → Int
  | [] => 0
  | a :: l => if a ≠ 0 then a.sign else fsg l
def spFirst (K : PySem.W.Frag) : Sp := fun vs H Q _ => ∃ (v : V) (l : List Int), vs = [v] ∧ IsCv K H v l ∧ Q (.int (fsg l)) H
theorem ok_first {f : Addr} {fd : FuncData} (F : Fun K "first_sign" "first_sign" s_first_sign f fd) (C_sign_of : Cg P w K mg base CX0 "sign_of" ["integer"] [] 1 spSign) : FnG P w K mg base CX0 2 f fd ["f"] (spFirst K) := by
  refine go_ok F sc_first_sign (fun vs H Q E h => ?_) (fun cdv A outer s H vs Q E hr fr h => ?_)
  · obtain ⟨_, _, rfl, _⟩ := h
    rfl
  · obtain ⟨v, l, rfl, ⟨av, rfl, hS⟩, q⟩ := h
    refine ⟨_, (pss_cons (ps_for PassesOwn.never rfl (pi_tup (pv 0)) (pg_name (i := 1) sc_first_sign.nd rfl (Or.inl rfl))
      (pss_one (ps_if (pt_cmpR op_ne (pv 1) (pe_int) (nomark _)) (pss_one (ps_ret (pe_go C_sign_of (hr.mono (by decide)) fr rfl (pa_cons (pv 1) pa_nil)))) pss_nil)))
    (pss_one (ps_ret (pe_int)))), ?_⟩
    refine ⟨_, rfl, av, rfl, ⟨_, hS⟩, for_tup (xs := iv l) (fun i σ H' => H' = H ∧ (∃ o, σ = [some (.ref av), o]) ∧ fsg (l.drop i) = fsg l) ?_ ?_ ?_ ?_⟩
    · exact ⟨rfl, ⟨none, rfl⟩, rfl⟩
    · rintro i σ H' _ ⟨rfl, _⟩
      exact hS
    · rintro i x σ H' hx ⟨rfl, ⟨o, rfl⟩, e⟩
      obtain ⟨hi, rfl⟩ := iv_get' hx
      rw [List.drop_eq_getElem_cons hi] at e
      have e' : (if l[i] ≠ 0 then l[i].sign else fsg (l.drop (i + 1))) = fsg l := e
      refine ⟨_, rfl, rfl, _, rfl, ?_⟩
      refine iteN (fun c => ?_) (fun c => ?_)
      · rw [if_pos (fun z => c (congrArg V.int z))] at e'
        refine ⟨_, rfl, _, rfl, ?_⟩
        rw [e']
        exact q
      · rw [if_neg (fun z => z (V.int.inj c))] at e'
        exact ⟨rfl, ⟨_, rfl⟩, e'⟩
    · rintro σ H' ⟨rfl, ⟨o, rfl⟩, e⟩
      rw [List.length_map, List.drop_length] at e
      have e' : 0 = fsg l := e
      rw [← e'] at q
      exact q
abbrev s_last_sign : Stmt := top 28
theorem sc_last_sign : FnScope ["f"] ["f"] (defScope s_last_sign) := ⟨rfl, rfl, rfl, by decide +kernel, rfl, by decide +kernel, by decide +kernel⟩
def lsg (l : List Int) : Int := match l.getLast? with
  | none => 0
  | some a => a.sign
def spLast (K : PySem.W.Frag) : Sp := fun vs H Q _ => ∃ (v : V) (l : List Int), vs = [v] ∧ IsCv K H v l ∧ Q (.int (lsg l)) H
theorem at_last {l : List Int} {a : Int} (h : l.getLast? = some a) : atI (iv l) (-1) = some (.int a) := by
  have hl : l ≠ [] := by rintro rfl; cases h
  have lp : 1 ≤ l.length := by cases l with | nil => exact absurd rfl hl | cons _ _ => simp
  rw [List.getLast?_eq_getElem?] at h
  unfold atI ixN
  rw [if_neg (by decide), List.length_map, if_pos (by omega)]
  show (iv l)[(-1 + (l.length : Int)).toNat]? = _
  rw [show (-1 + (l.length : Int)).toNat = l.length - 1 by omega, List.getElem?_map, h]
  rfl
theorem ok_last {f : Addr} {fd : FuncData} (F : Fun K "last_sign" "last_sign" s_last_sign f fd) (C_sign_of : Cg P w K mg base CX0 "sign_of" ["integer"] [] 1 spSign) (n_len : mg "len" = none) : FnG P w K mg base CX0 2 f fd ["f"] (spLast K) := by
  refine go_ok F sc_last_sign (fun vs H Q E h => ?_) (fun cdv A outer s H vs Q E hr fr h => ?_)
  · obtain ⟨_, _, rfl, _⟩ := h
    rfl
  · obtain ⟨v, l, rfl, hv, q⟩ := h
    refine ⟨_, (pss_cons (ps_if (pt_cmpR op_eq (pe_callB call_lenI (by rfl) n_len PySem.boot_len (pa_cons (pv 0) pa_nil)) (pe_int) (nomark _)) (pss_one (ps_ret (pe_int))) pss_nil)
    (pss_one (ps_ret (pe_go C_sign_of (hr.mono (by decide)) fr rfl (pa_cons (pe_ix ix_tup (pv 0) (pe_un un_neg (pe_int)) (fun _ _ => rfl)) pa_nil))))), ?_⟩
    refine ⟨_, rfl, rd_len hv.sq ⟨rfl, _, rfl, ?_⟩⟩
    obtain ⟨av, rfl, hS⟩ := hv
    refine iteD (fun c => ?_) (fun c => ?_)
    · have : l = [] := List.length_eq_zero_iff.mp (by have := V.int.inj c; omega)
      subst this
      exact q
    · cases e : l.getLast? with
      | none =>
        rw [List.getLast?_eq_none_iff] at e
        exact absurd (by rw [e]; rfl) c
      | some a =>
        refine ⟨_, rfl, _, rfl, av, _, _, _, rfl, rfl, hS, at_last e, _, rfl, ?_⟩
        unfold lsg at q
        rw [e] at q
        exact q
end
end Kc

namespace Kc
open PySem PySem.Spec PyProof.Rows L2 Hb Gu Tx Xb En M3 RZ RT
variable {K : PySem.W.Frag}
/-! places of rows, nought behind the end -/
theorem ev_dropD (l : List Int) (k : Nat) (x : Int) : ev (l.drop k) x = l.getD k 0 + x * ev (l.drop (k + 1)) x := by
  by_cases h : k < l.length
  · rw [ev_drop h, List.getD_eq_getElem?_getD, List.getElem?_eq_getElem h]; rfl
  · rw [List.drop_of_length_le (by omega), List.drop_of_length_le (by omega), List.getD_eq_getElem?_getD, List.getElem?_eq_none (by omega)]
    show (0 : Int) = 0 + x * 0
    omega
theorem ev_takeD {l : List Int} {k : Nat} (h : k < l.length) (x : Int) : ev (l.take (k + 1)) x = ev (l.take k) x + l.getD k 0 * x ^ k := by
  rw [ev_take h, List.getD_eq_getElem?_getD, List.getElem?_eq_getElem h]; rfl
theorem getD_of {l : List Int} {k : Nat} (h : k < l.length) : l.getD k 0 = l[k] := by rw [List.getD_eq_getElem?_getD, List.getElem?_eq_getElem h]; rfl
section
variable {P : Program} {w : World} {mg : Str → Option Value} {base : Heap}
/-! ### curve_moved -/
abbrev s_curve_moved : Stmt := top 22
theorem sc_curve_moved : FnScope ["f", "n", "moved", "begin", "at"] ["f", "n"] (defScope s_curve_moved) := ⟨rfl, rfl, rfl, by decide +kernel, rfl, by decide +kernel, by decide +kernel⟩
def spMoved (K : PySem.W.Frag) : Sp := fun vs H Q _ => ∃ (v : V) (l : List Int) (n : Int), vs = [v, .int n] ∧ IsCv K H v l ∧ l.length ≤ 500 ∧ (-(2 ^ 64) < n ∧ n < 2 ^ 64) ∧ ∀ z H' r, Same H H' → IsCv K H' z r → r.length = l.length → r.getLast? = l.getLast? → (∀ x, ev r x = ev l (x + n)) → Q z H'
theorem ok_moved {f : Addr} {fd : FuncData} (F : Fun K "curve_moved" "curve_moved" s_curve_moved f fd) (n_len : mg "len" = none) (n_list : mg "list" = none) (n_range : mg "range" = none) (n_tuple : mg "tuple" = none) : FnG P w K mg base CX0 1 f fd ["f", "n"] (spMoved K) := by
  refine go_ok F sc_curve_moved (fun vs H Q E h => ?_) (fun cdv A outer s H vs Q E hr fr h => ?_)
  · obtain ⟨_, _, _, rfl, _⟩ := h
    rfl
  · obtain ⟨v, l, n, rfl, hv, hL, hn, q⟩ := h
    refine ⟨_, (pss_cons (ps_set (i := 2) sc_curve_moved.nd rfl (Or.inl rfl) (pe_callTy call_listO (by rfl) n_list (by decide +kernel) (pa_cons (pv 0) pa_nil)))
    (pss_cons (ps_for PassesOwn.never rfl (pi_range1 (by rfl) n_range (pa_cons (pe_op op_sub (pe_callB call_lenI (by rfl) n_len PySem.boot_len (pa_cons (pv 2) pa_nil)) (pe_int)) pa_nil)) (pg_name (i := 3) sc_curve_moved.nd rfl (Or.inl rfl))
      (pss_one (ps_for PassesOwn.never rfl (pi_range3 (by rfl) n_range (pa_cons (pe_op op_sub (pe_callB call_lenI (by rfl) n_len PySem.boot_len (pa_cons (pv 2) pa_nil)) (pe_int)) (pa_cons (pe_op op_sub (pv 3) (pe_int)) (pa_cons (pe_un un_neg (pe_int)) pa_nil)))) (pg_name (i := 4) sc_curve_moved.nd rfl (Or.inl rfl))
      (pss_one (ps_augS (pv 2) (pv 4) get_list (pe_op op_mul (pv 1) (pe_ix ix_list (pv 2) (pe_op op_add (pv 4) (pe_int)) (fun _ _ => rfl))) ip_add set_list)))))
    (pss_one (ps_ret (pe_callTy call_tupO (by rfl) n_tuple (by decide +kernel) (pa_cons (pv 2) pa_nil)))))), ?_⟩
    refine ⟨_, rfl, rd_list hv.sq fun D H1 hD s1 e1 => ?_⟩
    refine ⟨_, rfl, rd_len ⟨D, rfl, .inl (SqL.of e1)⟩ ⟨_, _, rfl, rfl, _, rfl, by omega, by omega, ?_⟩⟩
    obtain ⟨L, eL⟩ : ∃ L, L = l.length := ⟨_, rfl⟩
    rw [← eL] at hL ⊢
    refine for_range (lo := 0) (n := ((L : Int) - 1).toNat) (fun b σ H' => Same H H' ∧ ∃ o3 o4 r, σ = [some v, some (.int n), some (.ref D), o3, o4] ∧ H' D = some (.lst (iv r)) ∧ r.length = L ∧ r.getD (L - 1) 0 = l.getD (L - 1) 0 ∧ ∀ x, ev l (x + n) = ev (r.take b) x + x ^ b * ev (r.drop b) (x + n)) ?_ ?_ ?_
    · refine ⟨s1, none, none, l, rfl, e1, eL.symm, rfl, fun x => ?_⟩
      show _ = 0 + x ^ 0 * ev l (x + n)
      simp
    · rintro b σ H' hb ⟨s2, o3, o4, r, rfl, e2, lr, last, inv⟩
      have hb' : b < L - 1 := by omega
      refine ⟨_, rfl, rd_len ⟨D, rfl, .inl (SqL.of e2)⟩ ⟨_, _, rfl, rfl, _, rfl, _, _, rfl, rfl, _, rfl, ?_⟩⟩
      rw [lr]
      refine ⟨_, _, _, _, rfl, RgC.neg (by omega) (by omega) (by omega) (by omega), ?_⟩
      obtain ⟨N, eN⟩ : ∃ N : Nat, N = L - 1 - b := ⟨_, rfl⟩
      rw [show ((L : Int) - 2 - (0 + (b : Int) - 1)).toNat = N by omega]
      refine for_rangeC (n := N) (fun i σ H'' => Same H H'' ∧ ∃ o4 r2, σ = [some v, some (.int n), some (.ref D), some (.int (0 + (b : Int))), o4] ∧ H'' D = some (.lst (iv r2)) ∧ r2.length = L ∧ r2.getD (L - 1) 0 = l.getD (L - 1) 0 ∧ r2.take (L - 1 - i) = r.take (L - 1 - i) ∧ ∀ y, ev (r.drop (L - 1 - i)) y = r2.getD (L - 1 - i) 0 + (y - n) * ev (r2.drop (L - 1 - i + 1)) y) ?_ ?_ ?_
      · refine ⟨s2, o4, r, rfl, e2, lr, last, rfl, fun y => ?_⟩
        rw [ev_dropD, Nat.sub_zero, List.drop_of_length_le (show r.length ≤ L - 1 + 1 by omega)]
        show _ + y * 0 = _ + (y - n) * 0
        rw [Int.mul_zero, Int.mul_zero]
      · rintro i σ H'' hi ⟨s3, p4, r2, rfl, e3, l2, last2, tk, iv2⟩
        have hk1 : L - 1 - i < r2.length := by omega
        have hk0 : L - 1 - i - 1 < r2.length := by omega
        obtain ⟨k, ek⟩ : ∃ k, k = L - 1 - i - 1 := ⟨_, rfl⟩
        have ek1 : L - 1 - i = k + 1 := by omega
        rw [ek1] at hk1 iv2 tk
        rw [← ek] at hk0
        have eat : (L : Int) - 2 + (i : Nat) * (-1) = (k : Int) := by omega
        refine ⟨_, rfl, _, rfl, D, _, _, .int r2[k], rfl, rfl, e3, ?_, ?_, ?_, ?_⟩
        · show 0 ≤ (L : Int) - 2 + (i : Nat) * (-1)
          rw [eat]; omega
        · show (L : Int) - 2 + (i : Nat) * (-1) < 2 ^ 60
          rw [eat]; omega
        · show (iv r2)[((L : Int) - 2 + (i : Nat) * (-1)).toNat]? = _
          rw [eat, Int.toNat_natCast]
          exact iv_get hk0
        refine ⟨_, rfl, _, rfl, _, rfl, _, _, rfl, rfl, D, _, _, .int r2[k + 1], rfl, rfl, SqL.of e3, ?_, _, _, rfl, rfl, .inl hn, _, _, rfl, rfl, D, _, _, k, rfl, rfl, e3, ?_, ?_⟩
        · show atI (iv r2) ((L : Int) - 2 + (i : Nat) * (-1) + 1) = _
          rw [eat, show (k : Int) + 1 = ((k + 1 : Nat) : Int) by omega]
          exact atI_nat (iv_get hk1)
        · show ixN (iv r2).length ((L : Int) - 2 + (i : Nat) * (-1)) = _
          rw [eat, List.length_map]
          exact ixN_of hk0
        refine ⟨Evl.Ex.mut s3 (Evl.fresh_back (Evl.Ex.refl _) hD), some (.int ((L : Int) - 2 + (i : Nat) * (-1))), r2.set k (r2[k] + n * r2[k + 1]), rfl, ?_, by rw [List.length_set]; exact l2, ?_, ?_, fun y => ?_⟩
        · rw [upd_same, iv_set]
        · rw [← last2, List.getD_eq_getElem?_getD, List.getD_eq_getElem?_getD, List.getElem?_set_ne (show k ≠ L - 1 by omega)]
        · rw [show L - 1 - (i + 1) = k by omega, List.take_set_of_le (Nat.le_refl _)]
          have := congrArg (List.take k) tk
          rw [List.take_take, List.take_take, Nat.min_eq_left (by omega)] at this
          exact this
        · rw [show L - 1 - (i + 1) = k by omega, ev_dropD, iv2 y]
          have c1 : r.getD k 0 = r2.getD k 0 := by
            have := congrArg (fun t : List Int => t.getD k 0) tk
            have f : ∀ t : List Int, (t.take (k + 1)).getD k 0 = t.getD k 0 := fun t => by
              rw [List.getD_eq_getElem?_getD, List.getD_eq_getElem?_getD, List.getElem?_take_of_lt (Nat.lt_succ_self k)]
            simp only [f] at this
            exact this.symm
          have c2 : (r2.set k (r2[k] + n * r2[k + 1])).getD k 0 = r2[k] + n * r2[k + 1] := by
            rw [List.getD_eq_getElem?_getD, List.getElem?_set_self hk0]; rfl
          have c3 : (r2.set k (r2[k] + n * r2[k + 1])).drop (k + 1) = r2.drop (k + 1) := by
            rw [List.drop_set_of_lt (Nat.lt_succ_self k)]
          rw [c1, c2, c3, ev_dropD r2 (k + 1), getD_of hk0, getD_of hk1]
          grind
      · rintro σ H'' ⟨s3, p4, r2, rfl, e3, l2, last2, tk, iv2⟩
        rw [show L - 1 - N = b by omega] at tk iv2
        refine ⟨s3, _, _, r2, rfl, e3, l2, last2, fun x => ?_⟩
        rw [inv x, iv2 (x + n), ← tk, ev_takeD (by omega), Int.pow_succ]
        grind
    · rintro σ H' ⟨s2, o3, o4, r, rfl, e2, lr, last, inv⟩
      refine ⟨_, rfl, rd_tup ⟨D, rfl, .inl (SqL.of e2)⟩ fun z H2 s3 hz => ?_⟩
      refine q z H2 r (s2.trans s3) hz (by rw [lr, eL]) ?_ fun x => ?_
      · by_cases c : L = 0
        · rw [List.length_eq_zero_iff.mp (show r.length = 0 by omega), List.length_eq_zero_iff.mp (show l.length = 0 by omega)]
        · rw [List.getLast?_eq_getElem?, List.getLast?_eq_getElem?, lr, ← eL, List.getElem?_eq_getElem (show L - 1 < r.length by omega), List.getElem?_eq_getElem (show L - 1 < l.length by omega)]
          rw [getD_of (show L - 1 < r.length by omega), getD_of (show L - 1 < l.length by omega)] at last
          rw [last]
      · by_cases c : L = 0
        · have := inv x
          rw [List.length_eq_zero_iff.mp (show r.length = 0 by omega)] at this ⊢
          rw [this]
          show (0 : Int) = ev (List.take _ []) x + _ * ev (List.drop _ []) _
          simp [ev]
        · have := inv x
          rw [show ((L : Int) - 1).toNat = L - 1 by omega, ev_dropD, List.drop_of_length_le (show r.length ≤ L - 1 + 1 by omega)] at this
          have t := ev_takeD (l := r) (k := L - 1) (by omega) x
          rw [show L - 1 + 1 = L by omega, List.take_of_length_le (by omega)] at t
          rw [t, this]
          show _ = _ + x ^ (L - 1) * (_ + (x + n) * 0)
          grind
end
end Kc

namespace Kc
open PySem PySem.Spec PyProof.Rows L2 Hb Gu Tx Xb En M3 RZ RT
variable {K : PySem.W.Frag}
/-! ### a row at a ratio -/
/-- times the bottom's power -/
def hw (a b : Int) : List Int → Int
  | [] => 0
  | c :: l => c * b ^ l.length + a * hw a b l
theorem pow_small {b : Int} {k n : Nat} (h : b.natAbs < 2 ^ n) : (b ^ k).natAbs < 2 ^ (n * k + 1) := by
  rw [Int.natAbs_pow]
  refine Nat.lt_of_le_of_lt (Nat.pow_le_pow_left (Nat.le_of_lt h) k) ?_
  rw [← Nat.pow_mul]
  exact Nat.pow_lt_pow_right (by decide) (by omega)
theorem drop_step {l : List Int} {i : Nat} (h : i < l.length) : l.drop (l.length - (i + 1)) = l[l.length - 1 - i] :: l.drop (l.length - i) := by
  have := List.drop_eq_getElem_cons (show l.length - 1 - i < l.length by omega)
  rw [show l.length - (i + 1) = l.length - 1 - i by omega, this, show l.length - 1 - i + 1 = l.length - i by omega]
section
variable {P : Program} {w : World} {mg : Str → Option Value} {base : Heap}
abbrev s_worth_parts : Stmt := top 24
theorem sc_worth_parts : FnScope ["f", "one", "top", "bottom", "worth", "power", "at"] ["f", "one"] (defScope s_worth_parts) := ⟨rfl, rfl, rfl, by decide +kernel, rfl, by decide +kernel, by decide +kernel⟩
def spParts (K : PySem.W.Frag) : Sp := fun vs H Q _ => ∃ (v o : V) (l : List Int) (a b : Int), vs = [v, o] ∧ IsCv K H v l ∧ IsR H o a b ∧ l.length ≤ 10 ∧ M3.Le (2 ^ 15) l ∧ a.natAbs < 2 ^ 15 ∧ b.natAbs < 2 ^ 15 ∧ ∀ p H', Same H H' → H' p = some (.tup [.int (hw a b l), .int (b ^ (l.length - 1))]) → Q (.ref p) H'
theorem ok_parts {f : Addr} {fd : FuncData} (F : Fun K "worth_parts" "worth_parts" s_worth_parts f fd) (n_len : mg "len" = none) (n_range : mg "range" = none) : FnG P w K mg base CX0 1 f fd ["f", "one"] (spParts K) := by
  refine go_ok F sc_worth_parts (fun vs H Q E h => ?_) (fun cdv A outer s H vs Q E hr fr h => ?_)
  · obtain ⟨_, _, _, _, _, rfl, _⟩ := h
    rfl
  · obtain ⟨v, _, l, a, b, rfl, hv, ⟨t, rfl, ht⟩, hL, hl, ha, hb, q⟩ := h
    refine ⟨_, (pss_cons (ps_asg (pv 1) (pg_tup rfl (pgs_cons (pg_name (i := 2) sc_worth_parts.nd rfl (Or.inl rfl)) (pgs_cons (pg_name (i := 3) sc_worth_parts.nd rfl (Or.inl rfl)) pgs_nil))))
    (pss_cons (ps_set (i := 4) sc_worth_parts.nd rfl (Or.inl rfl) (pe_int))
    (pss_cons (ps_set (i := 5) sc_worth_parts.nd rfl (Or.inl rfl) (pe_int))
    (pss_cons (ps_for PassesOwn.never rfl (pi_range3 (by rfl) n_range (pa_cons (pe_op op_sub (pe_callB call_lenI (by rfl) n_len PySem.boot_len (pa_cons (pv 0) pa_nil)) (pe_int)) (pa_cons (pe_un un_neg (pe_int)) (pa_cons (pe_un un_neg (pe_int)) pa_nil)))) (pg_name (i := 6) sc_worth_parts.nd rfl (Or.inl rfl))
      (pss_cons (ps_set (i := 4) sc_worth_parts.nd rfl (Or.inl rfl) (pe_op op_add (pe_op op_mul (pv 4) (pv 2)) (pe_op op_mul (pe_ix ix_tup (pv 0) (pv 6) (fun _ _ => rfl)) (pv 5))))
    (pss_one (ps_if (pt_cmpR op_gt (pv 6) (pe_int) (nomark _)) (pss_one (ps_aug (i := 5) sc_worth_parts.nd rfl (Or.inl rfl) (pv 3) ip_mulW)) pss_nil))))
    (pss_one (ps_ret (pe_tup (pa_cons (pv 4) (pa_cons (pv 5) pa_nil))))))))), ?_⟩
    refine ⟨_, rfl, t, _, rfl, SqT.of ht, rfl, _, _, rfl, _, _, rfl, rfl, ?_⟩
    refine ⟨_, rfl, rd_len hv.sq ⟨_, _, rfl, rfl, _, rfl, _, rfl, ?_⟩⟩
    obtain ⟨av, rfl, hS⟩ := hv
    obtain ⟨L, eL⟩ : ∃ L, L = l.length := ⟨_, rfl⟩
    rw [← eL] at hL ⊢
    refine ⟨_, _, _, _, rfl, RgC.neg (by omega) (by omega) (by decide) (by decide), ?_⟩
    rw [show ((L : Int) - 1 - -1).toNat = L by omega]
    refine for_rangeC (n := L) (fun i σ H' => H' = H ∧ ∃ o6, σ = [some (.ref av), some (.ref t), some (.int a), some (.int b), some (.int (hw a b (l.drop (L - i)))), some (.int (b ^ (min i (L - 1)))), o6]) ?_ ?_ ?_
    · refine ⟨rfl, none, ?_⟩
      rw [Nat.sub_zero, eL, List.drop_length, Nat.zero_min, Int.pow_zero]
      rfl
    · rintro i σ H' hi ⟨rfl, o6, rfl⟩
      have hlt : L - 1 - i < l.length := by omega
      have eat : (L : Int) - 1 + (i : Nat) * (-1) = ((L - 1 - i : Nat) : Int) := by omega
      have hc := hl _ (List.getElem_mem hlt)
      refine ⟨_, rfl, _, rfl, _, _, rfl, rfl, .inr ⟨by omega, by omega⟩, _, rfl, _, rfl, av, _, _, .int l[L - 1 - i], rfl, rfl, hS, ?_, _, rfl, _, _, rfl, rfl, .inl ⟨by omega, by omega⟩, _, _, rfl, rfl, ?_⟩
      · show atI (iv l) ((L : Int) - 1 + (i : Nat) * (-1)) = _
        rw [eat]
        exact atI_nat (iv_get hlt)
      have eh : hw a b (l.drop (L - i)) * a + l[L - 1 - i] * b ^ (min i (L - 1)) = hw a b (l.drop (L - (i + 1))) := by
        have d' : l.drop (L - (i + 1)) = l[L - 1 - i] :: l.drop (L - i) := by
          have := List.drop_eq_getElem_cons hlt
          rw [show L - 1 - i + 1 = L - i by omega] at this
          rw [show L - (i + 1) = L - 1 - i by omega]
          exact this
        rw [d']
        show _ = l[L - 1 - i] * b ^ (l.drop (L - i)).length + a * hw a b (l.drop (L - i))
        rw [List.length_drop, ← eL, show L - (L - i) = i by omega, Nat.min_eq_left (by omega)]
        grind
      refine ⟨_, rfl, _, _, rfl, rfl, _, rfl, ?_⟩
      refine iteD (fun c => ?_) (fun c => ?_)
      · have c' : 0 < L - 1 - i := by rw [eat] at c; omega
        refine ⟨_, rfl, _, rfl, _, _, rfl, rfl, wide_mul (a := 200) (b := 200) ?_ ?_ (by decide) (by decide) (by decide), rfl, some (.int ((L : Int) - 1 + (i : Nat) * (-1))), ?_⟩
        · refine Nat.lt_of_lt_of_le (pow_small hb) (Nat.pow_le_pow_right (by decide) ?_)
          omega
        · exact Nat.lt_of_lt_of_le hb (Nat.pow_le_pow_right (by decide) (by decide))
        · show ([some (V.ref av), some (V.ref t), some (V.int a), some (V.int b), some (V.int _), some (V.int _), some (V.int _)] : L2.St) = _
          rw [eh, ← Int.pow_succ, show (min i (L - 1)).succ = min (i + 1) (L - 1) by omega]
      · have c' : i = L - 1 := by rw [eat] at c; omega
        refine ⟨rfl, some (.int ((L : Int) - 1 + (i : Nat) * (-1))), ?_⟩
        show ([some (V.ref av), some (V.ref t), some (V.int a), some (V.int b), some (V.int _), some (V.int _), some (V.int _)] : L2.St) = _
        rw [eh, show min i (L - 1) = min (i + 1) (L - 1) by omega]
    · rintro σ H' ⟨rfl, o6, rfl⟩
      rw [Nat.sub_self, List.drop_zero, show min L (L - 1) = L - 1 by omega]
      refine ⟨_, rfl, _, rfl, by show 2 ≤ sizeLine; decide, fun p hp => q p _ (same_new hp _) ?_⟩
      rw [← eL]
      exact upd_same
abbrev s_curve_worth : Stmt := top 25
theorem sc_curve_worth : FnScope ["f", "one", "worth", "power"] ["f", "one"] (defScope s_curve_worth) := ⟨rfl, rfl, rfl, by decide +kernel, rfl, by decide +kernel, by decide +kernel⟩
def spWorth (K : PySem.W.Frag) : Sp := fun vs H Q _ => ∃ (v o : V) (l : List Int) (a b : Int), vs = [v, o] ∧ IsCv K H v l ∧ IsR H o a b ∧ l.length ≤ 5 ∧ M3.Le (2 ^ 15) l ∧ a.natAbs < 2 ^ 15 ∧ b.natAbs < 2 ^ 15 ∧ 0 < b ∧
  ∀ p H', Same H H' → H' p = some (.tup [.int (lT (hw a b l) (b ^ (l.length - 1))), .int (lB (hw a b l) (b ^ (l.length - 1)))]) → Q (.ref p) H'
theorem pow_ok {b : Int} {k : Nat} (hk : k ≤ 10) (hb : b.natAbs < 2 ^ 15) (h0 : 0 < b) : 0 < b ^ k ∧ (b ^ k).natAbs < 2 ^ 190 := by
  refine ⟨Int.pow_pos h0, Nat.lt_of_lt_of_le (pow_small hb) (Nat.pow_le_pow_right (by decide) ?_)⟩
  omega
theorem ok_worth {f : Addr} {fd : FuncData} (F : Fun K "curve_worth" "curve_worth" s_curve_worth f fd) (C_worth_parts : Cg P w K mg base CX0 "worth_parts" ["f", "one"] [] 1 (spParts K)) (C_ratio_by : Cg P w K mg base CX0 "ratio_by" ["top", "bottom"] [] 1 spBy) : FnG P w K mg base CX0 2 f fd ["f", "one"] (spWorth K) := by
  refine go_ok F sc_curve_worth (fun vs H Q E h => ?_) (fun cdv A outer s H vs Q E hr fr h => ?_)
  · obtain ⟨_, _, _, _, _, rfl, _⟩ := h
    rfl
  · obtain ⟨v, o, l, a, b, rfl, hv, ho, hL, hl, ha, hb, b0, q⟩ := h
    refine ⟨_, (pss_cons (ps_asg (pe_go C_worth_parts (hr.mono (by decide)) fr rfl (pa_cons (pv 0) (pa_cons (pv 1) pa_nil))) (pg_tup rfl (pgs_cons (pg_name (i := 2) sc_curve_worth.nd rfl (Or.inl rfl)) (pgs_cons (pg_name (i := 3) sc_curve_worth.nd rfl (Or.inl rfl)) pgs_nil))))
    (pss_one (ps_ret (pe_go C_ratio_by (hr.mono (by decide)) fr rfl (pa_cons (pv 2) (pa_cons (pv 3) pa_nil)))))), ?_⟩
    obtain ⟨p0, p1⟩ := pow_ok (k := l.length - 1) (by omega) hb b0
    refine ⟨_, rfl, _, rfl, v, o, l, a, b, rfl, hv, ho, by omega, hl, ha, hb, fun p H1 s1 e1 => ?_⟩
    refine ⟨p, _, rfl, SqT.of e1, rfl, _, _, rfl, _, _, rfl, rfl, _, rfl, _, rfl, _, _, rfl, by omega, p1, fun p2 H2 s2 e2 => q p2 H2 (s1.trans s2) e2⟩
abbrev s_curve_sign : Stmt := top 26
theorem sc_curve_sign : FnScope ["f", "one", "worth", "_"] ["f", "one"] (defScope s_curve_sign) := ⟨rfl, rfl, rfl, by decide +kernel, rfl, by decide +kernel, by decide +kernel⟩
def spCSign (K : PySem.W.Frag) : Sp := fun vs H Q _ => ∃ (v o : V) (l : List Int) (a b : Int), vs = [v, o] ∧ IsCv K H v l ∧ IsR H o a b ∧ l.length ≤ 5 ∧ M3.Le (2 ^ 15) l ∧ a.natAbs < 2 ^ 15 ∧ b.natAbs < 2 ^ 15 ∧ ∀ H', Same H H' → Q (.int (hw a b l).sign) H'
theorem ok_csign {f : Addr} {fd : FuncData} (F : Fun K "curve_sign" "curve_sign" s_curve_sign f fd) (C_worth_parts : Cg P w K mg base CX0 "worth_parts" ["f", "one"] [] 1 (spParts K)) (C_sign_of : Cg P w K mg base CX0 "sign_of" ["integer"] [] 1 spSign) : FnG P w K mg base CX0 2 f fd ["f", "one"] (spCSign K) := by
  refine go_ok F sc_curve_sign (fun vs H Q E h => ?_) (fun cdv A outer s H vs Q E hr fr h => ?_)
  · obtain ⟨_, _, _, _, _, rfl, _⟩ := h
    rfl
  · obtain ⟨v, o, l, a, b, rfl, hv, ho, hL, hl, ha, hb, q⟩ := h
    refine ⟨_, (pss_cons (ps_asg (pe_go C_worth_parts (hr.mono (by decide)) fr rfl (pa_cons (pv 0) (pa_cons (pv 1) pa_nil))) (pg_tup rfl (pgs_cons (pg_name (i := 2) sc_curve_sign.nd rfl (Or.inl rfl)) (pgs_cons (pg_name (i := 3) sc_curve_sign.nd rfl (Or.inl rfl)) pgs_nil))))
    (pss_one (ps_ret (pe_go C_sign_of (hr.mono (by decide)) fr rfl (pa_cons (pv 2) pa_nil))))), ?_⟩
    refine ⟨_, rfl, _, rfl, v, o, l, a, b, rfl, hv, ho, by omega, hl, ha, hb, fun p H1 s1 e1 => ?_⟩
    exact ⟨p, _, rfl, SqT.of e1, rfl, _, _, rfl, _, _, rfl, rfl, _, rfl, _, rfl, q H1 s1⟩
end
end Kc

namespace Kc
open PySem PySem.Spec PyProof.Rows L2 Hb Gu Tx Xb En M3 RZ RT
variable {K : PySem.W.Frag}
def isLs : PyData → Bool
  | .list _ => true
  | _ => false
theorem isi_lst {H : Hp} {v : V} {d : PyData} (hd : Dp K H v d) : PySem.W.kitOne K (.type (tyName d)) (.type "list") = some (isLs d) := by
  cases d with
  | dict kvs => exact (no_dict hd).elim
  | int i => exact kit_ty (show kitB "int" "list" = some false by decide +kernel)
  | bool i => exact kit_ty (show kitB "bool" "list" = some false by decide +kernel)
  | none => exact kit_ty (show kitB "NoneType" "list" = some false by decide +kernel)
  | str i => exact kit_ty (show kitB "str" "list" = some false by decide +kernel)
  | list i => exact kit_ty (show kitB "list" "list" = some true by decide +kernel)
  | tuple i => exact kit_ty (show kitB "tuple" "list" = some false by decide +kernel)
def seqOf : PyData → Option (List PyData)
  | .list ds => some ds
  | .tuple ds => some ds
  | _ => none
def firstBad : List PyData → Option Nat
  | [] => none
  | d :: ds => if isI d = true then (firstBad ds).map (· + 1) else some 0
def asInt : PyData → Int
  | .int i => i
  | _ => 0
def cof (d : PyData) : Int ⊕ List Int :=
  match seqOf d with
  | none => .inl (-1)
  | some ds => match firstBad ds with
    | some k => .inl (k : Nat)
    | none => .inr (trim (ds.map asInt))
theorem dps_at {H : Hp} : ∀ {xs : List V} {ds : List PyData} {i : Nat} {y : V}, DpAll K H xs ds → xs[i]? = some y → ∃ d, ds[i]? = some d ∧ Dp K H y d
  | _, _, _, _, .nil, h => by cases h
  | _, _, 0, _, .cons h _, e => by cases e; exact ⟨_, rfl, h⟩
  | _, _, i + 1, _, .cons _ r, e => by
    obtain ⟨d, h1, h2⟩ := dps_at (i := i) r e
    exact ⟨d, h1, h2⟩
theorem all_ints {H : Hp} : ∀ {xs : List V} {ds : List PyData}, DpAll K H xs ds → firstBad ds = none → xs = iv (ds.map asInt)
  | _, _, .nil, _ => rfl
  | _, _, @DpAll.cons _ _ v vs d ds h r, e => by
    have e' : (if isI d = true then (firstBad ds).map (· + 1) else some 0) = none := e
    cases c : isI d with
    | false => rw [c, if_neg Bool.false_ne_true] at e'; cases e'
    | true =>
      rw [c, if_pos rfl] at e'
      have e2 : firstBad ds = none := by cases z : firstBad ds with
        | none => rfl
        | some k => rw [z] at e'; cases e'
      rw [all_ints r e2]
      cases d with
      | int i => cases h; rfl
      | _ => cases c
section
variable {P : Program} {w : World} {mg : Str → Option Value} {base : Heap}
/-! ### is_sequence -/
abbrev s_is_sequence : Stmt := top 8
theorem sc_is_sequence : FnScope ["value"] ["value"] (defScope s_is_sequence) := ⟨rfl, rfl, rfl, by decide +kernel, rfl, by decide +kernel, by decide +kernel⟩
def spIsSeq (K : PySem.W.Frag) : Sp := fun vs H Q _ => ∃ (v : V) (d : PyData), vs = [v] ∧ Dp K H v d ∧ ∀ H', Same H H' → Q (.bl (seqOf d).isSome) H'
theorem ok_isSeq {f : Addr} {fd : FuncData} (F : Fun K "is_sequence" "is_sequence" s_is_sequence f fd) (n_isinstance : mg "isinstance" = none) (n_list : mg "list" = none) (n_tuple : mg "tuple" = none) : FnG P w K mg base CX0 1 f fd ["value"] (spIsSeq K) := by
  refine go_ok F sc_is_sequence (fun vs H Q E h => ?_) (fun cdv A outer s H vs Q E hr fr h => ?_)
  · obtain ⟨_, _, rfl, _⟩ := h
    rfl
  · obtain ⟨v, d, rfl, hd, q⟩ := h
    refine ⟨_, (pss_one (ps_ret (pe_callB call_isiT (by rfl) n_isinstance (by decide +kernel) (pa_cons (pv 0) (pa_cons (pe_tup (pa_cons (pe_bltn (v := .ty "list") (by rfl) n_list (by decide +kernel) rfl) (pa_cons (pe_bltn (v := .ty "tuple") (by rfl) n_tuple (by decide +kernel) rfl) pa_nil))) pa_nil))))), ?_⟩
    have hk : PySem.W.kitAny K (.type (tyName d)) [.type "list", .type "tuple"] = some (seqOf d).isSome := by
      have h1 := isi_lst hd
      have h2 := isi_tup hd
      unfold PySem.W.kitAny PySem.W.kitAny PySem.W.kitAny
      rw [h1, h2]
      cases d with
      | dict kvs => exact (no_dict hd).elim
      | _ => rfl
    refine ⟨_, rfl, by show 2 ≤ sizeLine; decide, fun t ht => ?_⟩
    have s1 := same_new ht (.tup [.ty "list", .ty "tuple"])
    refine ⟨v, t, [.ty "list", .ty "tuple"], .type (tyName d), [.type "list", .type "tuple"], (seqOf d).isSome, rfl, upd_same, .cons (.ty _) (.cons (.ty _) .nil), ty_data (dp_same s1 _ _ hd), hk, q _ s1⟩
/-! ### curve_of -/
abbrev s_curve_of : Stmt := top 14
theorem sc_curve_of : FnScope ["values", "at", "value"] ["values"] (defScope s_curve_of) := ⟨rfl, rfl, rfl, by decide +kernel, rfl, by decide +kernel, by decide +kernel⟩
def spCof (K : PySem.W.Frag) (C : Addr) : Sp := fun vs H Q E => ∃ (v : V) (d : PyData), vs = [v] ∧ Dp K H v d ∧ (∀ l, cof d = .inr l → ∀ u H', Same H H' → IsCv K H' u l → Q u H') ∧
  (∀ k, cof d = .inl k → ∀ dd H', Same H H' → H' dd = some (.xd [(("at" : Str), .int k)]) → E (.ref C) (some dd) H')
theorem ok_cof {f C fI : Addr} {fd : FuncData} (F : Fun K "curve_of" "curve_of" s_curve_of f fd) (T : ErrC K mg "InvalidCurve" C fI) (C_is_sequence : Cg P w K mg base CX0 "is_sequence" ["value"] [] 1 (spIsSeq K)) (C_is_integer : Cg P w K mg base CX0 "is_integer" ["value"] [] 1 (spIsI K)) (C_without_end : Cg P w K mg base CX0 "without_end" ["integers"] [] 1 (spTrim K)) (n_enumerate : mg "enumerate" = none) :
    FnG P w K mg base (L2.CX P w) 2 f fd ["values"] (spCof K C) := by
  refine go_okX F sc_curve_of (fun vs H Q E h => ?_) (fun cdv A outer s H vs Q E hr fr h => ?_)
  · obtain ⟨_, _, rfl, _⟩ := h
    rfl
  · obtain ⟨v, d, rfl, hd, q1, q2⟩ := h
    refine ⟨_, (pss_cons (ps_if (pt_not (pt_val (pe_go C_is_sequence (hr.mono (by decide)) fr rfl (pa_cons (pv 0) pa_nil)))) (pss_one (ps_raiseAt rfl T hr (takes_of rfl rfl rfl rfl) (pa_cons (pe_un un_neg pe_int) pa_nil) rfl)) pss_nil)
    (pss_cons (ps_for (passes_of rfl) rfl (pi_or (pi_enum (by rfl) n_enumerate (pa_cons (pv 0) pa_nil)) (pi_enumT (by rfl) n_enumerate (pa_cons (pv 0) pa_nil))) (pg_tup rfl (pgs_cons (pg_name (i := 1) sc_curve_of.nd rfl (Or.inl rfl)) (pgs_cons (pg_name (i := 2) sc_curve_of.nd rfl (Or.inl rfl)) pgs_nil)))
      (pss_one (ps_if (pt_not (pt_val (pe_go C_is_integer (hr.mono (by decide)) fr rfl (pa_cons (pv 2) pa_nil)))) (pss_one (ps_raiseAt rfl T hr (takes_of rfl rfl rfl rfl) (pa_cons (pv 1) pa_nil) rfl)) pss_nil)))
    (pss_one (ps_ret (pe_go C_without_end (hr.mono (by decide)) fr rfl (pa_cons (pv 0) pa_nil)))))), ?_⟩
    refine ⟨_, rfl, v, d, rfl, hd, fun H1 s1 => ⟨_, rfl, ?_⟩⟩
    have bad : seqOf d = none → ∀ dd, H1 dd = none → E (.ref C) (some dd) (upd H1 dd (.xd [(("at" : Str), .int (-1))])) := fun e dd hn => q2 (-1) (by unfold cof; rw [e]) dd _ (s1.trans (same_new hn _)) upd_same
    have main : ∀ (ds : List PyData) (a : Addr) (xs : List V), True := fun _ _ _ => trivial
    cases d with
    | none => exact iteT ⟨_, rfl, _, rfl, bad rfl⟩
    | bool _ => exact iteT ⟨_, rfl, _, rfl, bad rfl⟩
    | int _ => exact iteT ⟨_, rfl, _, rfl, bad rfl⟩
    | str _ => exact iteT ⟨_, rfl, _, rfl, bad rfl⟩
    | dict kvs => exact (no_dict hd).elim
    | list ds =>
      obtain ⟨a, xs, rfl, hS, hA⟩ : ∃ a xs, v = .ref a ∧ SqL K H a xs ∧ DpAll K H xs ds := by
        cases hd with
        | lst h1 h2 => exact ⟨_, _, rfl, h1, h2⟩
      have hl := all_len hA
      have ec : cof (.list ds) = (match firstBad ds with | some k => .inl (k : Nat) | none => .inr (trim (ds.map asInt))) := rfl
      refine iteF (.inl ⟨_, rfl, a, xs, rfl, SqL.same s1 hS, ?_⟩)
      refine for_any (n := ds.length) (fun i σ H' => Same H1 H' ∧ (∃ o1 o2, σ = [some (.ref a), o1, o2]) ∧ firstBad ds = (firstBad (ds.drop i)).map (· + i)) ?_ ?_ ?_ ?_ ?_
      · exact ⟨Evl.Ex.refl _, ⟨none, none, rfl⟩, by rw [List.drop_zero]; cases firstBad ds <;> rfl⟩
      · rintro i σ H' hi ⟨s2, _⟩
        exact ⟨xs, xs[i], SqL.same (s1.trans s2) hS, List.getElem?_eq_getElem (by omega)⟩
      · rintro σ H' ⟨s2, _⟩
        exact ⟨xs, SqL.same (s1.trans s2) hS, by omega⟩
      · rintro i σ H' x H2 hi ⟨s2, ⟨o1, o2, rfl⟩, e⟩ ⟨T, y, rfl, hT, rfl, fy⟩
        have ey := fy _ (SqL.same (s1.trans s2) hS)
        obtain ⟨d, hdi, hdy⟩ := dps_at hA ey
        have s3 := same_new hT (.tup [.int (i : Nat), y])
        have hdy2 := dp_same ((s1.trans s2).trans s3) _ _ hdy
        refine ⟨T, _, rfl, SqT.of upd_same, rfl, _, _, rfl, _, _, rfl, rfl, ?_⟩
        generalize upd H' T (.tup [.int (i : Nat), y]) = H3 at s3 hdy2 ⊢
        have ed : ds.drop i = d :: ds.drop (i + 1) := by
          have hlt : i < ds.length := hi
          have := List.drop_eq_getElem_cons hlt
          rw [List.getElem?_eq_getElem hlt] at hdi
          rw [this, Option.some.inj hdi]
        refine ⟨_, rfl, y, d, rfl, hdy2, _, rfl, ?_⟩
        rw [ed] at e
        cases c : isI d with
        | true =>
          refine iteF ⟨s2.trans s3, ⟨_, _, rfl⟩, ?_⟩
          rw [e]
          show (if isI d = true then (firstBad (ds.drop (i + 1))).map (· + 1) else some 0).map (· + i) = _
          rw [if_pos c, Option.map_map]
          congr 1
          funext k
          show k + 1 + i = k + (i + 1)
          omega
        | false =>
          have e2 : firstBad ds = some i := by
            rw [e]
            show (if isI d = true then (firstBad (ds.drop (i + 1))).map (· + 1) else some 0).map (· + i) = _
            rw [c, if_neg Bool.false_ne_true]
            show some (0 + i) = some i
            rw [Nat.zero_add]
          exact iteT ⟨_, rfl, _, rfl, fun dd hn => q2 (i : Nat) (by rw [ec, e2]) dd _ ((s1.trans (s2.trans s3)).trans (same_new hn _)) upd_same⟩
      · rintro σ H' ⟨s2, ⟨o1, o2, rfl⟩, e⟩
        rw [List.drop_length] at e
        have e2 : firstBad ds = none := e
        refine ⟨_, rfl, _, ds.map asInt, rfl, ⟨a, rfl, .inl (SqL.same (s1.trans s2) (by rw [← all_ints hA e2]; exact hS))⟩, fun u H3 s3 h3 => ?_⟩
        exact q1 _ (by rw [ec, e2]) u H3 (s1.trans (s2.trans s3)) h3
    | tuple ds =>
      obtain ⟨a, xs, rfl, hS, hA⟩ : ∃ a xs, v = .ref a ∧ SqT K H a xs ∧ DpAll K H xs ds := by
        cases hd with
        | tup h1 h2 => exact ⟨_, _, rfl, h1, h2⟩
      have hl := all_len hA
      have ec : cof (.tuple ds) = (match firstBad ds with | some k => .inl (k : Nat) | none => .inr (trim (ds.map asInt))) := rfl
      refine iteF (.inr ⟨_, rfl, a, rfl, ⟨xs, SqT.same s1 hS⟩, ?_⟩)
      refine for_any (n := ds.length) (fun i σ H' => Same H1 H' ∧ (∃ o1 o2, σ = [some (.ref a), o1, o2]) ∧ firstBad ds = (firstBad (ds.drop i)).map (· + i)) ?_ ?_ ?_ ?_ ?_
      · exact ⟨Evl.Ex.refl _, ⟨none, none, rfl⟩, by rw [List.drop_zero]; cases firstBad ds <;> rfl⟩
      · rintro i σ H' hi ⟨s2, _⟩
        exact ⟨xs, xs[i], SqT.same (s1.trans s2) hS, List.getElem?_eq_getElem (by omega)⟩
      · rintro σ H' ⟨s2, _⟩
        exact ⟨xs, SqT.same (s1.trans s2) hS, by omega⟩
      · rintro i σ H' x H2 hi ⟨s2, ⟨o1, o2, rfl⟩, e⟩ ⟨T, y, rfl, hT, rfl, fy⟩
        have ey := fy _ (SqT.same (s1.trans s2) hS)
        obtain ⟨d, hdi, hdy⟩ := dps_at hA ey
        have s3 := same_new hT (.tup [.int (i : Nat), y])
        have hdy2 := dp_same ((s1.trans s2).trans s3) _ _ hdy
        refine ⟨T, _, rfl, SqT.of upd_same, rfl, _, _, rfl, _, _, rfl, rfl, ?_⟩
        generalize upd H' T (.tup [.int (i : Nat), y]) = H3 at s3 hdy2 ⊢
        have ed : ds.drop i = d :: ds.drop (i + 1) := by
          have hlt : i < ds.length := hi
          have := List.drop_eq_getElem_cons hlt
          rw [List.getElem?_eq_getElem hlt] at hdi
          rw [this, Option.some.inj hdi]
        refine ⟨_, rfl, y, d, rfl, hdy2, _, rfl, ?_⟩
        rw [ed] at e
        cases c : isI d with
        | true =>
          refine iteF ⟨s2.trans s3, ⟨_, _, rfl⟩, ?_⟩
          rw [e]
          show (if isI d = true then (firstBad (ds.drop (i + 1))).map (· + 1) else some 0).map (· + i) = _
          rw [if_pos c, Option.map_map]
          congr 1
          funext k
          show k + 1 + i = k + (i + 1)
          omega
        | false =>
          have e2 : firstBad ds = some i := by
            rw [e]
            show (if isI d = true then (firstBad (ds.drop (i + 1))).map (· + 1) else some 0).map (· + i) = _
            rw [c, if_neg Bool.false_ne_true]
            show some (0 + i) = some i
            rw [Nat.zero_add]
          exact iteT ⟨_, rfl, _, rfl, fun dd hn => q2 (i : Nat) (by rw [ec, e2]) dd _ ((s1.trans (s2.trans s3)).trans (same_new hn _)) upd_same⟩
      · rintro σ H' ⟨s2, ⟨o1, o2, rfl⟩, e⟩
        rw [List.drop_length] at e
        have e2 : firstBad ds = none := e
        refine ⟨_, rfl, _, ds.map asInt, rfl, ⟨a, rfl, .inr (SqT.same (s1.trans s2) (by rw [← all_ints hA e2]; exact hS))⟩, fun u H3 s3 h3 => ?_⟩
        exact q1 _ (by rw [ec, e2]) u H3 (s1.trans (s2.trans s3)) h3
end
end Kc

namespace Kc
open PySem PySem.Spec PyProof.Rows L2 Hb Gu Tx Xb En M3 RZ RT
variable {K : PySem.W.Frag}
theorem firstBad_all : ∀ {ds : List PyData}, ds.all isI = true → firstBad ds = none
  | [], _ => rfl
  | d :: ds, h => by
    rw [List.all_cons, Bool.and_eq_true] at h
    show (if isI d = true then (firstBad ds).map (· + 1) else some 0) = none
    rw [if_pos h.1, firstBad_all h.2]
    rfl
instance (l : List Int) : Decidable (Cn l) := inferInstanceAs (Decidable (trim l = l))
def isCrv : PyData → Bool
  | .tuple ds => ds.all isI && decide (Cn (ds.map asInt))
  | _ => false
theorem getLast_pos {l : List Int} (h : 0 < l.length) : ∃ a, l.getLast? = some a := by
  cases e : l.getLast? with
  | none => rw [List.getLast?_eq_none_iff] at e; rw [e] at h; cases h
  | some a => exact ⟨a, rfl⟩
section
variable {P : Program} {w : World} {mg : Str → Option Value} {base : Heap}
/-! ### is_curve -/
abbrev s_is_curve : Stmt := top 16
theorem sc_is_curve : FnScope ["value", "integer"] ["value"] (defScope s_is_curve) := ⟨rfl, rfl, rfl, by decide +kernel, rfl, by decide +kernel, by decide +kernel⟩
def spIsCrv (K : PySem.W.Frag) : Sp := fun vs H Q _ => ∃ (v : V) (d : PyData), vs = [v] ∧ Dp K H v d ∧ (∀ ds, d = .tuple ds → ds.length ≤ 1000) ∧ ∀ H', Same H H' → Q (.bl (isCrv d)) H'
theorem ok_isCrv {f : Addr} {fd : FuncData} (F : Fun K "is_curve" "is_curve" s_is_curve f fd) (C_is_integer : Cg P w K mg base CX0 "is_integer" ["value"] [] 1 (spIsI K)) (n_isinstance : mg "isinstance" = none) (n_tuple : mg "tuple" = none) (n_all : mg "all" = none) (n_len : mg "len" = none) : FnG P w K mg base CX0 2 f fd ["value"] (spIsCrv K) := by
  refine go_ok F sc_is_curve (fun vs H Q E h => ?_) (fun cdv A outer s H vs Q E hr fr h => ?_)
  · obtain ⟨_, _, rfl, _⟩ := h
    rfl
  · obtain ⟨v, d, rfl, hd, hlen, q⟩ := h
    refine ⟨_, (pss_cons (ps_if (PW.pt (pw_or (pt_not (pt_val (pe_callB call_isi (by rfl) n_isinstance (by decide +kernel) (pa_cons (pv 0) (pa_cons (pe_bltn (v := .ty "tuple") (by rfl) n_tuple (by decide +kernel) rfl) pa_nil))))) (pw_or1 (pt_not (pt_val (pe_callB (cr_all rfl) (by rfl) n_all (by decide +kernel) (pa_cons (pe_lc (own := [("integer", 1)]) (g := gName 1) rfl sc_is_curve.nd (pi_tup (pv 0)) (blkOk_by (N := ["value", "integer"]) (sc := defScope s_is_curve) (by decide +kernel)) (fun _ _ _ _ _ => pg_name (i := 1) sc_is_curve.nd rfl (Or.inl rfl)) (fun _ _ _ _ _ => pts_nil) (fun _ _ _ _ _ => pe_go C_is_integer (hr.mono (by decide)) fr rfl (pa_cons (pv 1) pa_nil))) pa_nil))))))) (pss_one (ps_ret (pe_bl))) pss_nil)
    (pss_one (ps_ret (pe_or (pe_cmpR op_eq (pe_callB call_len_seq (by rfl) n_len PySem.boot_len (pa_cons (pv 0) pa_nil)) (pe_int) (nomark _)) (pe_one (pe_cmpR op_ne (pe_ix ix_tup (pv 0) (pe_un un_neg (pe_int)) (fun _ _ => rfl)) (pe_int) (nomark _))))))), ?_⟩
    refine ⟨v, rfl, v, .ty "tuple", _, _, isTup d, rfl, .ty _, ty_data hd, isi_tup hd, _, rfl, ?_⟩
    have q0 := fun e : isCrv d = false => by
      have := q H (Evl.Ex.refl _)
      rw [e] at this
      exact this
    cases d with
    | none => exact iteT (iteT (q0 rfl))
    | bool _ => exact iteT (iteT (q0 rfl))
    | int _ => exact iteT (iteT (q0 rfl))
    | str _ => exact iteT (iteT (q0 rfl))
    | list _ => exact iteT (iteT (q0 rfl))
    | dict kvs => exact (no_dict hd).elim
    | tuple ds =>
      obtain ⟨a, xs, rfl, hS, hA⟩ : ∃ a xs, v = .ref a ∧ SqT K H a xs ∧ DpAll K H xs ds := by
        cases hd with
        | tup h1 h2 => exact ⟨_, _, rfl, h1, h2⟩
      have hl := all_len hA
      have h1000 := hlen ds rfl
      refine iteF ⟨_, rfl, a, rfl, ⟨_, hS⟩, fun D hD => ?_⟩
      refine lc_tup (xs := xs) (fun i H' => Same H H' ∧ H' D = some (.lst (((ds.take i).map isI).map V.bl))) ?_ (fun i H' _ h => SqT.same h.1 hS) ?_ ?_
      · exact ⟨same_new hD _, upd_same⟩
      · rintro i x H' hi ⟨h1, h2⟩
        obtain ⟨d, hdi, hdx⟩ := dps_at hA hi
        refine ⟨rfl, _, rfl, x, d, rfl, dp_same h1 _ _ hdx, _, h2, ?_, Evl.Ex.mut h1 hD, ?_⟩
        · rw [List.length_map, List.length_map, List.length_take]
          exact Nat.lt_of_le_of_lt (m := 1000) (by omega) (by decide)
        · rw [upd_same, List.take_add_one, hdi, List.map_append, List.map_append]
          rfl
      · rintro H' ⟨h1, h2⟩
        rw [hl, List.take_length] at h2
        refine ⟨D, _, rfl, SqL.of h2, _, rfl, ?_⟩
        have eall : (ds.map isI).all id = ds.all isI := by rw [List.all_map]; rfl
        rw [eall]
        have qq := q H' h1
        cases c : ds.all isI with
        | false =>
          refine iteT ?_
          have e : isCrv (.tuple ds) = false := by
            show (ds.all isI && _) = false
            rw [c]; rfl
          rw [e] at qq
          exact qq
        | true =>
          have ev' := all_ints hA (firstBad_all c)
          have hS' := SqT.same h1 hS
          rw [ev'] at hS'
          have ecr : isCrv (.tuple ds) = decide (Cn (ds.map asInt)) := by
            show (ds.all isI && _) = _
            rw [c]; rfl
          rw [ecr] at qq
          generalize ds.map asInt = l at *
          refine iteF ⟨_, rfl, a, _, rfl, .inr hS', rfl, _, rfl, ?_⟩
          show if decide (V.int ((iv l).length : Int) = V.int 0) = true then _ else _
          rw [List.length_map]
          refine iteD (fun c2 => ?_) (fun c2 => ?_)
          · have : l = [] := List.length_eq_zero_iff.mp (by have := V.int.inj c2; omega)
            rw [this, decide_eq_true (show Cn [] from rfl)] at qq
            exact qq
          · obtain ⟨b, hb⟩ := getLast_pos (l := l) (Nat.pos_of_ne_zero fun z => c2 (by rw [z]; rfl))
            refine ⟨_, rfl, _, rfl, a, _, _, _, rfl, rfl, hS', at_last hb, rfl, ?_⟩
            have : decide (Cn l) = !decide (V.int b = V.int 0) := by
              have ii := cn_iff l
              have nl : l ≠ [] := by rintro rfl; cases hb
              by_cases z : b = 0
              · subst z
                rw [decide_eq_true (show V.int 0 = V.int 0 from rfl)]
                exact decide_eq_false fun t => (ii.mp t).elim nl fun u => u hb
              · rw [decide_eq_false (fun t => z (V.int.inj t))]
                exact decide_eq_true (ii.mpr (.inr (by rw [hb]; exact fun t => z (Option.some.inj t))))
            rw [this] at qq
            exact qq
/-! ### curve_text -/
def ws (l : List Int) : List Str := if l = [] then [Str.ofString "0"] else l.map fun i => Str.ofString (toString i)
def cText (l : List Int) : Str := Txt.join (Str.ofString " ") (ws l)
theorem join_one (a x : Str) : Txt.join a [x] = x := by
  refine ext ?_
  show TL.tl (Txt.join a [x]) = _
  rw [TL.join_eq, TL.tl_join]
  rfl
theorem ws_sum {l : List Int} (hl : M3.Le (2 ^ 100) l) (h5 : l.length ≤ 100) : ((ws l).map (·.length)).sum + (ws l).length * 1 ≤ 16777216 := by
  have key : ∀ m : List Int, M3.Le (2 ^ 100) m → ((m.map fun i => Str.ofString (toString i)).map (·.length)).sum ≤ 201 * m.length := by
    intro m
    induction m with
    | nil => intro _; exact Nat.zero_le _
    | cons a m ih =>
      intro h
      have h1 := ih fun c hc => h c (List.mem_cons_of_mem _ hc)
      have h2 := (tlen (a := a) (Nat.lt_of_le_of_lt (h a List.mem_cons_self) (by decide))).2
      rw [List.map_cons, List.map_cons, List.sum_cons, List.length_cons]
      omega
  unfold ws
  by_cases c : l = []
  · rw [if_pos c]
    show (1 + 0) + 1 * 1 ≤ _
    decide
  · rw [if_neg c]
    have := key l hl
    rw [List.length_map]
    omega
abbrev s_curve_text : Stmt := top 29
theorem sc_curve_text : FnScope ["f", "a"] ["f"] (defScope s_curve_text) := ⟨rfl, rfl, rfl, by decide +kernel, rfl, by decide +kernel, by decide +kernel⟩
def spCText (K : PySem.W.Frag) : Sp := fun vs H Q _ => ∃ (v : V) (l : List Int), vs = [v] ∧ IsCv K H v l ∧ l.length ≤ 100 ∧ M3.Le (2 ^ 100) l ∧ ∀ H', Same H H' → Q (.str (cText l)) H'
theorem ok_ctext {f : Addr} {fd : FuncData} (F : Fun K "curve_text" "curve_text" s_curve_text f fd) (n_len : mg "len" = none) (n_str : mg "str" = none) : FnG P w K mg base CX0 1 f fd ["f"] (spCText K) := by
  refine go_ok F sc_curve_text (fun vs H Q E h => ?_) (fun cdv A outer s H vs Q E hr fr h => ?_)
  · obtain ⟨_, _, rfl, _⟩ := h
    rfl
  · obtain ⟨v, l, rfl, hv, hL, hl, q⟩ := h
    refine ⟨_, (pss_cons (ps_if (pt_cmpR op_eq (pe_callB call_lenI (by rfl) n_len PySem.boot_len (pa_cons (pv 0) pa_nil)) (pe_int) (nomark _)) (pss_one (ps_ret (pe_str))) pss_nil)
    (pss_one (ps_ret (pe_m1 PySem.F.slot_str_join PySem.F.type_str_join mt_join (pe_str) (pe_lc (own := [("a", 1)]) (g := gName 1) rfl sc_curve_text.nd (pi_tup (pv 0)) (blkOk_by (N := ["f", "a"]) (sc := defScope s_curve_text) (by decide +kernel)) (fun _ _ _ _ _ => pg_name (i := 1) sc_curve_text.nd rfl (Or.inl rfl)) (fun _ _ _ _ _ => pts_nil) (fun _ _ _ _ _ => pe_callTy call_str_int (by rfl) n_str (by decide +kernel) (pa_cons (pv 1) pa_nil))))))), ?_⟩
    refine ⟨_, rfl, rd_len hv.sq ⟨rfl, _, rfl, ?_⟩⟩
    obtain ⟨a, rfl, hS⟩ := hv
    have hs := ws_sum hl hL
    refine iteD (fun c => ?_) (fun c => ?_)
    · have : l = [] := List.length_eq_zero_iff.mp (by have := V.int.inj c; omega)
      have e : cText l = Str.ofString "0" := by
        unfold cText ws
        rw [if_pos this, join_one]
      have := q H (Evl.Ex.refl _)
      rw [e] at this
      exact this
    · have nl : l ≠ [] := fun z => c (by rw [z]; rfl)
      refine ⟨⟨_, rfl⟩, _, rfl, a, rfl, ⟨_, hS⟩, fun D hD => ?_⟩
      refine lc_tup (xs := iv l) (fun i H' => Same H H' ∧ H' D = some (.lst (((l.take i).map fun i => Str.ofString (toString i)).map V.str))) ?_ (fun i H' _ h => SqT.same h.1 hS) ?_ ?_
      · exact ⟨same_new hD _, upd_same⟩
      · rintro i x H' hi ⟨h1, h2⟩
        obtain ⟨hi', rfl⟩ := iv_get' hi
        have := hl _ (List.getElem_mem hi')
        refine ⟨rfl, _, rfl, _, rfl, (tlen (Nat.lt_of_le_of_lt this (by decide))).1, _, h2, ?_, Evl.Ex.mut h1 hD, ?_⟩
        · rw [List.length_map, List.length_map, List.length_take]
          exact Nat.lt_of_le_of_lt (m := 1000) (by omega) (by decide)
        · rw [upd_same, List.take_add_one, List.getElem?_eq_getElem hi', List.map_append, List.map_append]
          rfl
      · rintro H' ⟨h1, h2⟩
        rw [List.length_map, List.take_length] at h2
        have e : ws l = l.map fun i => Str.ofString (toString i) := by unfold ws; rw [if_neg nl]
        refine ⟨_, D, _, rfl, rfl, .inl (SqL.of h2), ?_, ?_⟩
        · rw [← e]
          exact hs
        · rw [← e]
          exact q H' h1
end
end Kc

namespace Kc
open PySem PySem.Spec PyProof.Rows L2 Hb Gu Tx Xb En M3 RZ RT
variable {K : PySem.W.Frag}
def firstNone : List (Option Int) → Option Nat
  | [] => none
  | some _ :: l => (firstNone l).map (· + 1)
  | none :: _ => some 0
def os (x : Str) : List (Option Int) := (TL.spl [32] 0 [] (tl x)).map wpart
def gets (l : List (Option Int)) : List Int := l.map fun o => o.getD 0
def rdo (l : List (Option Int)) : Int ⊕ List Int :=
  match firstNone l with
  | some k => .inl (k : Nat)
  | none => if 1 < l.length ∧ (gets l).getLast? = some 0 then .inl ((l.length : Int) - 1) else .inr (trim (gets l))
def rdT : PyData → Int ⊕ List Int
  | .str x => rdo (os x)
  | _ => .inl 0
theorem none_ints : ∀ {l : List (Option Int)}, firstNone l = none → l.map vI = iv (gets l)
  | [], _ => rfl
  | some i :: l, h => by
    have e : firstNone l = none := by cases z : firstNone l with
      | none => rfl
      | some k =>
        have h' : (firstNone l).map (· + 1) = none := h
        rw [z] at h'; cases h'
    show vI (some i) :: l.map vI = _
    rw [none_ints e]
    rfl
  | none :: l, h => by cases h
section
variable {P : Program} {w : World} {mg : Str → Option Value} {base : Heap}
abbrev s_read_curve : Stmt := top 30
theorem sc_read_curve : FnScope ["text", "integers", "at", "integer", "word"] ["text"] (defScope s_read_curve) := ⟨rfl, rfl, rfl, by decide +kernel, rfl, by decide +kernel, by decide +kernel⟩
def spRdc (K : PySem.W.Frag) (C : Addr) : Sp := fun vs H Q E => ∃ (v : V) (d : PyData), vs = [v] ∧ Dp K H v d ∧ (∀ x, d = .str x → x.length ≤ 10000) ∧ (∀ l, rdT d = .inr l → ∀ u H', Same H H' → IsCv K H' u l → Q u H') ∧
  (∀ k, rdT d = .inl k → ∀ dd H', Same H H' → H' dd = some (.xd [(("at" : Str), .int k)]) → E (.ref C) (some dd) H')
theorem ok_rdc {f C fI : Addr} {fd : FuncData} (F : Fun K "read_curve" "read_curve" s_read_curve f fd) (T : ErrC K mg "InvalidText" C fI) (C_read_integer : Cg P w K mg base CX0 "read_integer" ["word"] [] 1 spWord) (C_without_end : Cg P w K mg base CX0 "without_end" ["integers"] [] 1 (spTrim K)) (n_enumerate : mg "enumerate" = none) (n_isinstance : mg "isinstance" = none) (n_str : mg "str" = none) (n_len : mg "len" = none) :
    FnG P w K mg base (L2.CX P w) 2 f fd ["text"] (spRdc K C) := by
  refine go_okX F sc_read_curve (fun vs H Q E h => ?_) (fun cdv A outer s H vs Q E hr fr h => ?_)
  · obtain ⟨_, _, rfl, _⟩ := h
    rfl
  · obtain ⟨v, d, rfl, hd, hx, q1, q2⟩ := h
    refine ⟨_, (pss_cons (ps_if (pt_not (pt_val (pe_callB call_isi (by rfl) n_isinstance (by decide +kernel) (pa_cons (pv 0) (pa_cons (pe_bltn (v := .ty "str") (by rfl) n_str (by decide +kernel) rfl) pa_nil))))) (pss_one (ps_raiseAt rfl T hr (takes_of rfl rfl rfl rfl) (pa_cons pe_int pa_nil) rfl)) pss_nil)
    (Evl.pss_cut (ps_setLc (i := 1) (own := [("word", 4)]) (g := gName 4) (by rfl) sc_read_curve.nd rfl rfl (sw_true rfl rfl rfl (by decide +kernel)) (pi_list (pe_split (pv 0) pe_str)) (blkOk_by (N := ["text", "integers", "at", "integer", "word"]) (sc := defScope s_read_curve) (by decide +kernel)) (fun _ _ _ _ _ => pg_name (i := 4) sc_read_curve.nd rfl (Or.inl rfl)) (fun _ _ _ _ _ => pts_nil) (fun _ _ _ _ _ => pe_go C_read_integer (hr.mono (by decide)) fr rfl (pa_cons (pv 4) pa_nil)))
    (pss_cons (ps_for (passes_of rfl) rfl (pi_enum (by rfl) n_enumerate (pa_cons (pv 1) pa_nil)) (pg_tup rfl (pgs_cons (pg_name (i := 2) sc_read_curve.nd rfl (Or.inl rfl)) (pgs_cons (pg_name (i := 3) sc_read_curve.nd rfl (Or.inl rfl)) pgs_nil)))
      (pss_one (ps_if (pt_cmpR op_isN (pv 3) (pe_non) (nomark _)) (pss_one (ps_raiseAt rfl T hr (takes_of rfl rfl rfl rfl) (pa_cons (pv 2) pa_nil) rfl)) pss_nil)))
    (pss_cons (ps_if (PW.pt (pw_and (pt_cmpR op_gt (pe_callB call_len_seq (by rfl) n_len PySem.boot_len (pa_cons (pv 1) pa_nil)) (pe_int) (nomark _)) (pw_and1 (pt_cmpR op_eq (pe_ix ix_list (pv 1) (pe_un un_neg (pe_int)) (fun _ _ => rfl)) (pe_int) (nomark _))))) (pss_one (ps_raiseAt rfl T hr (takes_of rfl rfl rfl rfl) (pa_cons (pe_op op_sub (pe_callB call_len_seq (by rfl) n_len PySem.boot_len (pa_cons (pv 1) pa_nil)) pe_int) pa_nil) rfl)) pss_nil)
    (pss_one (ps_ret (pe_go C_without_end (hr.mono (by decide)) fr rfl (pa_cons (pv 1) pa_nil)))))))), ?_⟩
    refine ⟨v, rfl, v, .ty "str", _, _, isStr d, rfl, .ty _, ty_data hd, isi_str hd, _, rfl, ?_⟩
    have bad : rdT d = .inl 0 → ∀ dd, H dd = none → E (.ref C) (some dd) (upd H dd (.xd [(("at" : Str), .int 0)])) := fun e dd hn => q2 0 e dd _ (same_new hn _) upd_same
    cases d with
    | none => exact iteT ⟨_, rfl, bad rfl⟩
    | bool _ => exact iteT ⟨_, rfl, bad rfl⟩
    | int _ => exact iteT ⟨_, rfl, bad rfl⟩
    | list _ => exact iteT ⟨_, rfl, bad rfl⟩
    | tuple _ => exact iteT ⟨_, rfl, bad rfl⟩
    | dict kvs => exact (no_dict hd).elim
    | str x =>
      cases hd
      have hxl := hx x rfl
      clear bad hx
      refine iteF ?_
      have s32 : Str.ofString " " = c1 32 := by rfl
      have es : (Txt.split x (Str.ofString " ")).map tl = TL.spl [32] 0 [] (tl x) := by rw [s32]; exact split1 x (by decide)
      have ep : os x = (Txt.split x (Str.ofString " ")).map fun y => wpart (tl y) := by unfold os; rw [← es, List.map_map]; rfl
      have hlen : (Txt.split x (Str.ofString " ")).length ≤ x.length + 2 := PyProof.Rows.split_le x (Str.ofString " ")
      have hwords : ∀ y ∈ Txt.split x (Str.ofString " "), y.length ≤ 10000 := fun y hy => by
        have hm : tl y ∈ TL.spl [32] 0 [] (tl x) := by rw [← es]; exact List.mem_map_of_mem hy
        have := spl_len 32 _ _ (Nat.le_refl _) _ hm
        rw [len_tl] at hxl ⊢
        omega
      obtain ⟨wl, hws⟩ : ∃ wl, Txt.split x (Str.ofString " ") = wl := ⟨_, rfl⟩
      rw [hws] at es ep hlen hwords
      refine ⟨fun σ H' => ∃ D, σ = [some (.str x), some (.ref D), none, none, none] ∧ Same H H' ∧ H' D = some (.lst ((os x).map vI)), ?_, ?_⟩
      · refine ⟨_, rfl, ⟨_, rfl⟩, _, _, rfl, rfl, rfl, Nat.le_trans (Nat.add_le_add_right hxl 2) (by decide), fun p hp => ?_⟩
        rw [hws]
        refine ⟨p, rfl, ⟨_, SqL.of upd_same⟩, fun D hD => ?_⟩
        have hpD : p ≠ D := ne_of_none upd_same hD
        have hD0 : H D = none := Evl.fresh_back (same_new hp _) hD
        refine lc_list (xs := wl.map V.str) (fun i H' => H' p = some (.lst (wl.map V.str)) ∧ Same H H' ∧ H' D = some (.lst (((os x).take i).map vI))) ?_ (fun i H' _ h => SqL.of h.1) ?_ ?_
        · refine ⟨?_, (same_new hp _).trans (same_new hD _), upd_same⟩
          rw [upd_ne hpD]
          exact upd_same
        · rintro i y H' hi ⟨h1, h2, h3⟩
          rw [List.getElem?_map] at hi
          obtain ⟨z, hz, e⟩ := Option.map_eq_some_iff.mp hi
          subst e
          have hil : i < wl.length := (List.getElem?_eq_some_iff.mp hz).1
          have hpi : (os x)[i]? = some (wpart (tl z)) := by rw [ep, List.getElem?_map, hz]; rfl
          refine ⟨rfl, _, rfl, z, rfl, hwords z (List.mem_of_getElem? hz), _, h3, ?_, ?_, Evl.Ex.mut h2 hD0, ?_⟩
          · rw [List.length_map, List.length_take]
            exact Nat.lt_of_le_of_lt (Nat.min_le_left _ _) (Nat.lt_of_lt_of_le (show i < 10003 by omega) (by decide))
          · rw [upd_ne hpD]
            exact h1
          · rw [upd_same, List.take_add_one, hpi, List.map_append]
            rfl
        · rintro H' ⟨h1, h2, h3⟩
          rw [List.take_of_length_le (by rw [ep, List.length_map, List.length_map]; exact Nat.le_refl _)] at h3
          exact ⟨D, rfl, h2, h3⟩
      · rintro σ H1 ⟨D, rfl, s1, e1⟩
        have ert : rdT (.str x) = rdo (os x) := rfl
        generalize os x = l at *
        refine ⟨_, rfl, D, _, rfl, SqL.of e1, ?_⟩
        refine for_any (n := l.length) (fun i σ H' => Same H1 H' ∧ (∃ o1 o2 o3, σ = [some (.str x), some (.ref D), o1, o2, o3]) ∧ firstNone l = (firstNone (l.drop i)).map (· + i)) ?_ ?_ ?_ ?_ ?_
        · exact ⟨Evl.Ex.refl _, ⟨none, none, none, rfl⟩, by rw [List.drop_zero]; cases firstNone l <;> rfl⟩
        · rintro i σ H' hi ⟨s2, _⟩
          exact ⟨_, _, SqL.of (s2 _ _ e1), by rw [List.getElem?_map, List.getElem?_eq_getElem hi]; rfl⟩
        · rintro σ H' ⟨s2, _⟩
          exact ⟨_, SqL.of (s2 _ _ e1), by rw [List.length_map]; exact Nat.le_refl _⟩
        · rintro i σ H' y H2 hi ⟨s2, ⟨o1, o2, o3, rfl⟩, e⟩ ⟨T, z, rfl, hT, rfl, fz⟩
          have ez := fz _ (SqL.of (s2 _ _ e1))
          rw [List.getElem?_map, List.getElem?_eq_getElem hi] at ez
          cases ez
          have s3 := same_new hT (.tup [.int (i : Nat), vI l[i]])
          refine ⟨T, _, rfl, SqT.of upd_same, rfl, _, _, rfl, _, _, rfl, rfl, ?_⟩
          generalize upd H' T (.tup [.int (i : Nat), vI l[i]]) = H3 at s3 ⊢
          rw [List.drop_eq_getElem_cons hi] at e
          refine ⟨_, rfl, rfl, _, rfl, ?_⟩
          cases c : l[i] with
          | some k =>
            rw [c] at e
            refine iteF ⟨s2.trans s3, ⟨_, _, _, rfl⟩, ?_⟩
            rw [e]
            show ((firstNone (l.drop (i + 1))).map (· + 1)).map (· + i) = _
            rw [Option.map_map]
            congr 1
            funext k
            show k + 1 + i = k + (i + 1)
            omega
          | none =>
            rw [c] at e
            have e2 : firstNone l = some i := by
              rw [e]
              show some (0 + i) = some i
              rw [Nat.zero_add]
            exact iteT ⟨_, rfl, _, rfl, fun dd hn => q2 (i : Nat) (by rw [ert]; unfold rdo; rw [e2]) dd _ ((s1.trans (s2.trans s3)).trans (same_new hn _)) upd_same⟩
        · rintro σ H' ⟨s2, ⟨o1, o2, o3, rfl⟩, e⟩
          rw [List.drop_length] at e
          have e2 : firstNone l = none := e
          have e3 := s2 _ _ e1
          rw [none_ints e2] at e3
          have lg : (gets l).length = l.length := by unfold gets; rw [List.length_map]
          have er : rdT (.str x) = if 1 < l.length ∧ (gets l).getLast? = some 0 then .inl ((l.length : Int) - 1) else .inr (trim (gets l)) := by rw [ert]; unfold rdo; rw [e2]
          have fin : ¬ (1 < l.length ∧ (gets l).getLast? = some 0) → tRet (tCall (spTrim K) [] E0 (tCons (tVar 1) tNil)) { nx := fun _ H' => Q .non H', rt := Q } [some (.str x), some (.ref D), o1, o2, o3] H' := fun c => by
            rw [if_neg c] at er
            exact ⟨_, rfl, _, _, rfl, ⟨D, rfl, .inl (SqL.of e3)⟩, fun u H2 s3 h3 => q1 _ er u H2 (s1.trans (s2.trans s3)) h3⟩
          refine ⟨_, rfl, D, _, rfl, .inl (SqL.of e3), _, _, rfl, rfl, _, rfl, ?_⟩
          rw [List.length_map, lg]
          refine iteD (fun c => ?_) (fun c => ?_)
          · obtain ⟨b, hb⟩ := getLast_pos (l := gets l) (by omega)
            refine ⟨_, rfl, _, rfl, D, _, _, _, rfl, rfl, SqL.of e3, at_last hb, rfl, _, rfl, ?_⟩
            refine iteD (fun c2 => ?_) (fun c2 => ?_)
            · have b0 : b = 0 := V.int.inj c2
              subst b0
              rw [if_pos ⟨by omega, hb⟩] at er
              refine ⟨_, rfl, D, _, rfl, .inl (SqL.of e3), _, _, rfl, rfl, _, rfl, fun dd hn => ?_⟩
              rw [List.length_map, lg]
              exact q2 _ er dd _ ((s1.trans s2).trans (same_new hn _)) upd_same
            · refine fin fun t => ?_
              rw [hb] at t
              exact c2 (congrArg V.int (Option.some.inj t.2))
          · exact fin fun t => c (by omega)
end
end Kc

namespace Kc
open PySem PySem.Spec PyProof.Rows L2 Hb Gu Tx Xb En M3 RZ RT
variable {K : PySem.W.Frag}
section
variable {P : Program} {w : World} {mg : Str → Option Value} {base : Heap}
/-! ### _law_short -/
abbrev s__law_short : Stmt := top 38
theorem sc__law_short : FnScope ["row", "kept"] ["row"] (defScope s__law_short) := ⟨rfl, rfl, rfl, by decide +kernel, rfl, by decide +kernel, by decide +kernel⟩
theorem ok_short {f : Addr} {fd : FuncData} (F : Fun K "_law_short" "_law_short" s__law_short f fd) (n_len : mg "len" = none) (n_list : mg "list" = none) (n_tuple : mg "tuple" = none) : FnG P w K mg base CX0 1 f fd ["row"] (spTrim K) := by
  refine go_ok F sc__law_short (fun vs H Q E h => ?_) (fun cdv A outer s H vs Q E hr fr h => ?_)
  · obtain ⟨_, _, rfl, _⟩ := h
    rfl
  · obtain ⟨v, l, rfl, hv, q⟩ := h
    refine ⟨_, (pss_cons (ps_set (i := 1) sc__law_short.nd rfl (Or.inl rfl) (pe_callTy call_listO (by rfl) n_list (by decide +kernel) (pa_cons (pv 0) pa_nil)))
    (pss_cons (ps_while PassesOwn.never (PW.pt (pw_and (pt_cmpR (op_neD hr.units) (pv 1) (pe_lst pa_nil) (nomark _)) (pw_and1 (pt_cmpR op_eq (pe_ix ix_I (pv 1) (pe_op op_sub (pe_callB call_lenI (by rfl) n_len PySem.boot_len (pa_cons (pv 1) pa_nil)) (pe_int)) (fun _ _ => rfl)) (pe_int) (nomark _)))))
      (pss_one (ps_expr (pe_bm0 PySem.F.plainAttrs_list PySem.F.slot_list_pop PySem.F.type_list_pop mt_pop (pv 1)))))
    (pss_one (ps_ret (pe_callTy call_tupO (by rfl) n_tuple (by decide +kernel) (pa_cons (pv 1) pa_nil)))))), ?_⟩
    refine ⟨_, rfl, rd_list hv fun D H1 hD s1 e1 => ?_⟩
    refine ⟨fun m σ H' => σ = [some v, some (.ref D)] ∧ Same H H' ∧ m ≤ l.length ∧ trim (l.take m) = trim l ∧ H' D = some (.lst (iv (l.take m))), ⟨l.length, rfl, s1, Nat.le_refl _, by rw [List.take_length], by rw [List.take_length]; exact e1⟩, ?_⟩
    rintro m σ H' ⟨rfl, s2, hm, e, e2⟩
    refine ⟨_, rfl, by show 0 ≤ sizeLine; exact Nat.zero_le _, fun p hp => ?_⟩
    have s3 := same_new hp (.lst [])
    have e3 : (upd H' p (.lst [])) p = some (.lst []) := upd_same
    generalize upd H' p (.lst []) = H3 at s3 e3 ⊢
    have eD := s3 _ _ e2
    refine ⟨dL (l.take m), .list [], .lst (SqL.of eD) (dp_ints _), .lst (SqL.of e3) .nil, sh_dL _, rfl, _, rfl, ?_⟩
    have fin : trim (l.take m) = l.take m → tRet (tCB (rTupOf K) (tCons (tVar 1) tNil)) { nx := fun _ H' => Q .non H', rt := Q } [some v, some (.ref D)] H3 := fun c => by
      refine ⟨_, rfl, rd_tup ⟨D, rfl, .inl (SqL.of eD)⟩ fun u H4 s4 h4 => ?_⟩
      rw [← c, e] at h4
      exact q u H4 (s2.trans (s3.trans s4)) h4
    show if (!PyData.eqv (.list ((l.take m).map PyData.int)) (.list [])) = true then _ else _
    rw [eqv_nil]
    by_cases c : m = 0
    · subst c
      exact iteF (fin rfl)
    · have m1 : m - 1 < l.length := by omega
      have em : l.take m = l.take (m - 1) ++ [l[m - 1]] := by
        have := List.take_add_one (l := l) (i := m - 1)
        rw [show m - 1 + 1 = m by omega, List.getElem?_eq_getElem m1] at this
        exact this
      have lt : (l.take m).length = m := by rw [List.length_take]; omega
      have hne : ((l.take m).map PyData.int).isEmpty = false := by
        cases z : l.take m with
        | nil => rw [z] at lt; exact absurd lt.symm c
        | cons _ _ => rfl
      rw [hne]
      refine iteT ⟨_, rfl, _, rfl, rd_len ⟨D, rfl, .inl (SqL.of eD)⟩ ⟨_, _, rfl, rfl, ?_⟩⟩
      refine rd_ix (k := m - 1) ⟨D, rfl, .inl (SqL.of eD)⟩ (by rw [lt]; omega) (by rw [lt]; omega) ⟨rfl, _, rfl, ?_⟩
      rw [List.getElem_take]
      refine iteD (fun c2 => ?_) (fun c2 => ?_)
      · refine ⟨_, fun _ _ h => h, ?_⟩
        refine ⟨_, rfl, .inl ⟨rfl, _, SqL.of eD⟩, D, _, .int l[m - 1], rfl, rfl, eD, ?_, m - 1, by omega, rfl, ?_, by omega, ?_, ?_⟩
        · rw [List.length_map, lt, List.getElem?_map, List.getElem?_take_of_lt (by omega), List.getElem?_eq_getElem m1]; rfl
        · exact Evl.Ex.mut (s2.trans s3) hD
        · rw [← e, em, V.int.inj c2, trim_zero]
        · rw [upd_same, em, iv_app]
          show some (HO.lst ((iv (l.take (m - 1)) ++ [V.int l[m - 1]]).dropLast)) = _
          rw [List.dropLast_concat]
      · refine fin ?_
        rw [em]
        exact trim_last fun z => c2 (congrArg V.int z)
/-! ### _law_sum -/
abbrev s__law_sum : Stmt := top 40
theorem sc__law_sum : FnScope ["one", "other", "row", "at"] ["one", "other"] (defScope s__law_sum) := ⟨rfl, rfl, rfl, by decide +kernel, rfl, by decide +kernel, by decide +kernel⟩
theorem addL_get (l m : List Int) (i : Nat) : (addL l m).getD i 0 = l.getD i 0 + m.getD i 0 := by
  induction l generalizing m i with
  | nil => show m.getD i 0 = 0 + m.getD i 0; omega
  | cons a l ih =>
    cases m with
    | nil => show (a :: l).getD i 0 = (a :: l).getD i 0 + 0; omega
    | cons b m =>
      cases i with
      | zero => rfl
      | succ i => exact ih m i
theorem rd_at {H : Hp} {v : V} {l : List Int} {i : Nat} {Q : VK} (h : SqI K H v l) (hi : i < l.length) (q : Q (.int (l.getD i 0)) H) : rIxI K v (.int (0 + (i : Int))) H Q := rd_ix (k := i) h (by omega) hi (by rw [getD_of hi] at q; exact q)
theorem ok_sum {f : Addr} {fd : FuncData} (F : Fun K "_law_sum" "_law_sum" s__law_sum f fd) (C__law_short : Cg P w K mg base CX0 "_law_short" ["row"] [] 1 (spTrim K)) (n_len : mg "len" = none) (n_max : mg "max" = none) (n_range : mg "range" = none) : FnG P w K mg base CX0 2 f fd ["one", "other"] (spPlus K) := by
  refine go_ok F sc__law_sum (fun vs H Q E h => ?_) (fun cdv A outer s H vs Q E hr fr h => ?_)
  · obtain ⟨_, _, _, _, rfl, _⟩ := h
    rfl
  · obtain ⟨v, u, l, m, rfl, hv, hu, l1, m1, q⟩ := h
    refine ⟨_, (pss_cons (ps_set (i := 2) sc__law_sum.nd rfl (Or.inl rfl) (pe_op op_rep (pe_lst (pa_cons (pe_int) pa_nil)) (pe_callB (call_max2 rfl) (by rfl) n_max (by decide +kernel) (pa_cons (pe_callB call_lenI (by rfl) n_len PySem.boot_len (pa_cons (pv 0) pa_nil)) (pa_cons (pe_callB call_lenI (by rfl) n_len PySem.boot_len (pa_cons (pv 1) pa_nil)) pa_nil)))))
    (pss_cons (ps_for PassesOwn.never rfl (pi_range1 (by rfl) n_range (pa_cons (pe_callB call_lenI (by rfl) n_len PySem.boot_len (pa_cons (pv 2) pa_nil)) pa_nil)) (pg_name (i := 3) sc__law_sum.nd rfl (Or.inl rfl))
      (pss_one (ps_asg (pe_op op_add (pe_ifExp (pt_cmpR op_lt (pv 3) (pe_callB call_lenI (by rfl) n_len PySem.boot_len (pa_cons (pv 0) pa_nil)) (nomark _)) (pe_ix ix_I (pv 0) (pv 3) (fun _ _ => rfl)) (pe_int)) (pe_ifExp (pt_cmpR op_lt (pv 3) (pe_callB call_lenI (by rfl) n_len PySem.boot_len (pa_cons (pv 1) pa_nil)) (nomark _)) (pe_ix ix_I (pv 1) (pv 3) (fun _ _ => rfl)) (pe_int))) (pg_sub (pv 2) (pv 3) set_list))))
    (pss_one (ps_ret (pe_go C__law_short (hr.mono (by decide)) fr rfl (pa_cons (pv 2) pa_nil)))))), ?_⟩
    refine ⟨by show 1 ≤ sizeLine; decide, fun z hz => ?_⟩
    have s1 := same_new hz (.lst [.int 0])
    have e1 : (upd H z (.lst [.int 0])) z = some (.lst [.int 0]) := upd_same
    generalize upd H z (.lst [.int 0]) = H1 at s1 e1 ⊢
    refine ⟨_, rfl, rd_len (hv.sq.same s1) ⟨_, rfl, rd_len (hu.sq.same s1) ⟨_, _, rfl, ?_⟩⟩⟩
    obtain ⟨n, hn⟩ : ∃ n : Nat, n = max l.length m.length := ⟨_, rfl⟩
    have en : (if (m.length : Int) > (l.length : Int) then (m.length : Int) else (l.length : Int)) = (n : Int) := by
      by_cases c : (m.length : Int) > (l.length : Int)
      · rw [if_pos c]; omega
      · rw [if_neg c]; omega
    rw [en]
    refine ⟨z, _, _, rfl, rfl, e1, by omega, by omega, ?_, fun D hD => ?_⟩
    · refine Nat.le_trans (m := 1000) ?_ (by decide)
      show 1 * _ ≤ 1000
      omega
    rw [Int.toNat_natCast]
    have er : (List.replicate n [V.int 0]).flatten = iv (List.replicate n 0) := by
      show _ = (List.replicate n 0).map V.int
      rw [List.map_replicate]
      generalize n = k
      induction k with
      | zero => rfl
      | succ k ih => rw [List.replicate_succ, List.flatten_cons, ih]; rfl
    rw [er]
    have s2 := same_new hD (.lst (iv (List.replicate n 0)))
    have e2 : (upd H1 D (.lst (iv (List.replicate n 0)))) D = some (.lst (iv (List.replicate n 0))) := upd_same
    have hD0 : H D = none := Evl.fresh_back s1 hD
    generalize upd H1 D (.lst (iv (List.replicate n 0))) = H2 at s2 e2 ⊢
    refine ⟨_, rfl, rd_len ⟨D, rfl, .inl (SqL.of e2)⟩ ⟨_, rfl, by omega, by rw [List.length_replicate]; omega, ?_⟩⟩
    rw [List.length_replicate, Int.toNat_natCast]
    refine for_range (lo := 0) (n := n) (fun i σ H' => Same H H' ∧ (∃ o3, σ = [some v, some u, some (.ref D), o3]) ∧ ∃ r, H' D = some (.lst (iv r)) ∧ r.length = n ∧ ∀ k, r.getD k 0 = if k < i then (addL l m).getD k 0 else 0) ?_ ?_ ?_
    · refine ⟨s1.trans s2, ⟨none, rfl⟩, _, e2, List.length_replicate, fun k => ?_⟩
      rw [if_neg (by omega), List.getD_eq_getElem?_getD, List.getElem?_replicate]
      by_cases c : k < n
      · rw [if_pos c]; rfl
      · rw [if_neg c]; rfl
    · rintro i σ H' hi ⟨s3, ⟨o3, rfl⟩, r, e3, lr, hr'⟩
      have go : ∀ c d : Int, c + d = (addL l m).getD i 0 → gSub (tVar 2) (tVar 3) rSetL (.int (c + d)) [some v, some u, some (.ref D), some (.int (0 + (i : Int)))] H' fun σ H'' => Same H H'' ∧ (∃ o3, σ = [some v, some u, some (.ref D), o3]) ∧ ∃ r, H'' D = some (.lst (iv r)) ∧ r.length = n ∧ ∀ k, r.getD k 0 = if k < i + 1 then (addL l m).getD k 0 else 0 := fun c d e => by
        refine ⟨_, rfl, _, rfl, D, _, _, i, rfl, rfl, e3, ?_, Evl.Ex.mut s3 hD0, ⟨_, rfl⟩, r.set i (c + d), ?_, by rw [List.length_set]; exact lr, fun k => ?_⟩
        · rw [List.length_map, lr, show (0 : Int) + (i : Int) = ((i : Nat) : Int) by omega]
          exact ixN_of hi
        · rw [upd_same, iv_set]
        · rw [List.getD_eq_getElem?_getD]
          by_cases ck : k = i
          · subst ck
            rw [List.getElem?_set_self (by omega), if_pos (Nat.lt_succ_self k), ← e]
            rfl
          · rw [List.getElem?_set_ne (Ne.symm ck), ← List.getD_eq_getElem?_getD, hr' k]
            by_cases c1 : k < i
            · rw [if_pos c1, if_pos (by omega)]
            · rw [if_neg c1, if_neg (by omega)]
      have eg := addL_get l m i
      refine ⟨_, rfl, _, rfl, rd_len (hv.sq.same s3) ⟨_, _, rfl, rfl, _, rfl, ?_⟩⟩
      have no : ∀ (t : List Int), ¬ ((0 + (i : Int)) < (t.length : Int)) → t.getD i 0 = 0 := fun t c => by
        rw [List.getD_eq_getElem?_getD, List.getElem?_eq_none (by omega)]
        rfl
      refine iteD (fun c1 => ?_) (fun c1 => ?_)
      · refine ⟨_, rfl, _, rfl, rd_at (hv.sq.same s3) (by omega) ?_⟩
        refine ⟨_, rfl, _, rfl, rd_len (hu.sq.same s3) ⟨_, _, rfl, rfl, _, rfl, ?_⟩⟩
        refine iteD (fun c2 => ?_) (fun c2 => ?_)
        · refine ⟨_, rfl, _, rfl, rd_at (hu.sq.same s3) (by omega) ⟨_, _, rfl, rfl, ?_⟩⟩
          exact go _ _ eg.symm
        · exact ⟨_, _, rfl, rfl, go _ 0 (by rw [eg, no m c2])⟩
      · refine ⟨_, rfl, _, rfl, rd_len (hu.sq.same s3) ⟨_, _, rfl, rfl, _, rfl, ?_⟩⟩
        refine iteD (fun c2 => ?_) (fun c2 => ?_)
        · refine ⟨_, rfl, _, rfl, rd_at (hu.sq.same s3) (by omega) ⟨_, _, rfl, rfl, ?_⟩⟩
          exact go 0 _ (by rw [eg, no l c1])
        · exact ⟨_, _, rfl, rfl, go 0 0 (by rw [eg, no l c1, no m c2])⟩
    · rintro σ H' ⟨s3, ⟨o3, rfl⟩, r, e3, lr, hr'⟩
      have er2 : r = addL l m := by
        refine List.ext_getElem? fun k => ?_
        have hl := addL_len l m
        by_cases c : k < n
        · have h1 := hr' k
          rw [if_pos c, getD_of (show k < r.length by omega), getD_of (show k < (addL l m).length by omega)] at h1
          rw [List.getElem?_eq_getElem (show k < r.length by omega), List.getElem?_eq_getElem (show k < (addL l m).length by omega), h1]
        · rw [List.getElem?_eq_none (by omega), List.getElem?_eq_none (by omega)]
      rw [er2] at e3
      exact ⟨_, rfl, _, _, rfl, ⟨D, rfl, .inl (SqL.of e3)⟩, fun y H4 s4 h4 => q y H4 (s3.trans s4) h4⟩
end
end Kc

namespace M3
/-! ### the product, power by power -/
def gI (m : List Int) (p : Int) : Int := if 0 ≤ p then m.getD p.toNat 0 else 0
def csI : List Int → List Int → Int → Int
  | [], _, _ => 0
  | a :: l, m, p => a * gI m p + csI l m (p - 1)
def cv (l m : List Int) : List Int := (List.range (l.length + m.length)).map fun (p : Nat) => csI l m (p : Int)
theorem csI_neg : ∀ (l m : List Int) (p : Int), p < 0 → csI l m p = 0
  | [], _, _, _ => rfl
  | a :: l, m, p, h => by
    show a * gI m p + csI l m (p - 1) = 0
    rw [csI_neg l m (p - 1) (by omega)]
    unfold gI
    rw [if_neg (by omega)]
    omega
theorem ev_rng_succ (n : Nat) (f : Nat → Int) (x : Int) : ev ((List.range (n + 1)).map f) x = f 0 + x * ev ((List.range n).map fun k => f (k + 1)) x := by
  rw [List.range_succ_eq_map, List.map_cons, List.map_map]
  rfl
theorem ev_lin (a : Int) : ∀ (n : Nat) (f g : Nat → Int) (x : Int), ev ((List.range n).map fun k => a * f k + g k) x = a * ev ((List.range n).map f) x + ev ((List.range n).map g) x
  | 0, f, g, x => by
    show (0 : Int) = a * 0 + 0
    omega
  | n + 1, f, g, x => by
    rw [ev_rng_succ, ev_rng_succ, ev_rng_succ, ev_lin a n (fun k => f (k + 1)) (fun k => g (k + 1)) x]
    grind
theorem ev_zero (n : Nat) (x : Int) : ev ((List.range n).map fun _ => (0 : Int)) x = 0 := by
  induction n with
  | zero => rfl
  | succ n ih => rw [ev_rng_succ, ih]; omega
theorem ev_gI : ∀ (m : List Int) (n : Nat) (x : Int), m.length ≤ n → ev ((List.range n).map fun (k : Nat) => gI m (k : Int)) x = ev m x
  | [], n, x, _ => by
    have e : (fun (k : Nat) => gI [] (k : Int)) = fun _ => (0 : Int) := by
      funext k
      unfold gI
      rw [if_pos (by omega)]
      rfl
    rw [e, ev_zero]
    rfl
  | b :: m, 0, x, h => by cases h
  | b :: m, n + 1, x, h => by
    rw [ev_rng_succ]
    have e : (fun (k : Nat) => gI (b :: m) ((k + 1 : Nat) : Int)) = fun (k : Nat) => gI m (k : Int) := by
      funext k
      unfold gI
      rw [if_pos (by omega), if_pos (by omega), Int.toNat_natCast, Int.toNat_natCast]
      rfl
    rw [e, ev_gI m n x (by simpa using h)]
    rfl
theorem ev_cs : ∀ (l m : List Int) (n : Nat) (x : Int), l.length + m.length ≤ n → ev ((List.range n).map fun (p : Nat) => csI l m (p : Int)) x = ev l x * ev m x
  | [], m, n, x, _ => by
    have e : (fun (p : Nat) => csI [] m (p : Int)) = fun _ => (0 : Int) := rfl
    rw [e, ev_zero]
    show (0 : Int) = 0 * _
    omega
  | a :: l, m, n, x, h => by
    have e : (fun (p : Nat) => csI (a :: l) m (p : Int)) = fun (p : Nat) => a * gI m (p : Int) + csI l m ((p : Int) - 1) := rfl
    rw [e, ev_lin a n (fun p => gI m (p : Int)) (fun p => csI l m ((p : Int) - 1)), ev_gI m n x (by simp only [List.length_cons] at h; omega)]
    cases n with
    | zero => simp only [List.length_cons] at h; omega
    | succ n =>
      rw [ev_rng_succ]
      have e2 : (fun (k : Nat) => csI l m (((k + 1 : Nat) : Int) - 1)) = fun (k : Nat) => csI l m (k : Int) := by
        funext k
        rw [show ((k + 1 : Nat) : Int) - 1 = (k : Int) by omega]
      rw [e2, csI_neg l m (((0 : Nat) : Int) - 1) (by decide), ev_cs l m n x (by simp only [List.length_cons] at h; omega)]
      show _ = (a + x * ev l x) * ev m x
      grind
theorem ev_cv (l m : List Int) (x : Int) : ev (cv l m) x = ev l x * ev m x := ev_cs l m _ x (Nat.le_refl _)
end M3
namespace Kc
open PySem PySem.Spec PyProof.Rows L2 Hb Gu Tx Xb En M3 RZ RT
variable {K : PySem.W.Frag}
section
variable {P : Program} {w : World} {mg : Str → Option Value} {base : Heap}
/-! ### _law_product -/
abbrev s__law_product : Stmt := top 41
theorem sc__law_product : FnScope ["one", "other", "row", "power", "at"] ["one", "other"] (defScope s__law_product) := ⟨rfl, rfl, rfl, by decide +kernel, rfl, by decide +kernel, by decide +kernel⟩
def spProd (K : PySem.W.Frag) : Sp := fun vs H Q _ => ∃ (v u : V) (l m : List Int), vs = [v, u] ∧ IsCv K H v l ∧ IsCv K H u m ∧ l.length ≤ 500 ∧ m.length ≤ 500 ∧ (Sm l ∨ Sm m) ∧ ∀ z H', Same H H' → IsCv K H' z (trim (cv l m)) → Q z H'
theorem drop_cs {l : List Int} {i : Nat} (h : i < l.length) (m : List Int) (p : Int) : csI (l.drop i) m p = l[i] * gI m p + csI (l.drop (i + 1)) m (p - 1) := by
  rw [List.drop_eq_getElem_cons h]
  rfl
theorem ok_prod {f : Addr} {fd : FuncData} (F : Fun K "_law_product" "_law_product" s__law_product f fd) (C__law_short : Cg P w K mg base CX0 "_law_short" ["row"] [] 1 (spTrim K)) (n_len : mg "len" = none) (n_sum : mg "sum" = none) (n_range : mg "range" = none) : FnG P w K mg base CX0 2 f fd ["one", "other"] (spProd K) := by
  refine go_ok F sc__law_product (fun vs H Q E h => ?_) (fun cdv A outer s H vs Q E hr fr h => ?_)
  · obtain ⟨_, _, _, _, rfl, _⟩ := h
    rfl
  · obtain ⟨v, u, l, m, rfl, hv, hu, l1, m1, hsm, q⟩ := h
    refine ⟨_, (pss_cons (ps_set (i := 2) sc__law_product.nd rfl (Or.inl rfl) (pe_lst pa_nil))
    (pss_cons (ps_for PassesOwn.never rfl (pi_range1 (by rfl) n_range (pa_cons (pe_op op_add (pe_callB call_lenI (by rfl) n_len PySem.boot_len (pa_cons (pv 0) pa_nil)) (pe_callB call_lenI (by rfl) n_len PySem.boot_len (pa_cons (pv 1) pa_nil))) pa_nil)) (pg_name (i := 3) sc__law_product.nd rfl (Or.inr rfl))
      (pss_one (ps_expr (pe_bm PySem.F.plainAttrs_list PySem.F.slot_list_append PySem.F.type_list_append mt_append (pv 2) (pa_cons (pe_callB (cr_sum rfl) (by rfl) n_sum (by decide +kernel) (pa_cons (pe_lc (own := [("at", 4)]) (g := gName 4) rfl sc__law_product.nd (pi_range1 (by rfl) n_range (pa_cons (pe_callB (id := "len") (r := rLenI K) call_lenI (by rfl) n_len PySem.boot_len (pa_cons (pv 0) pa_nil)) pa_nil)) (blkOk_by (N := ["one", "other", "row", "power", "at"]) (sc := defScope s__law_product) (by decide +kernel)) (fun _ _ _ _ _ => pg_name (i := 4) sc__law_product.nd rfl (Or.inl rfl)) (fun _ _ _ _ _ => pts_one (pt_chain op_le op_lt (pe_int) (pe_op op_sub (pv 3) (pv 4)) (pe_callB (id := "len") (r := rLenI K) call_lenI (by rfl) n_len PySem.boot_len (pa_cons (pv 1) pa_nil)))) (fun _ _ _ _ _ => pe_op op_mul (pe_ix (r := rIxI K) ix_I (pv 0) (pv 4) (fun _ _ => rfl)) (pe_ix (r := rIxI K) ix_I (pv 1) (pe_op op_sub (pv 3) (pv 4)) (fun _ _ => rfl)))) pa_nil)) pa_nil)))))
    (pss_one (ps_ret (pe_go C__law_short (hr.mono (by decide)) fr rfl (pa_cons (pv 2) pa_nil)))))), ?_⟩
    refine ⟨by show 0 ≤ sizeLine; exact Nat.zero_le _, fun D hD => ?_⟩
    have s1 := same_new hD (.lst [])
    have e1 : (upd H D (.lst [])) D = some (.lst []) := upd_same
    generalize upd H D (.lst []) = H1 at s1 e1 ⊢
    refine ⟨_, rfl, rd_len (hv.sq.same s1) ⟨_, rfl, rd_len (hu.sq.same s1) ⟨_, _, rfl, rfl, _, rfl, by omega, by omega, ?_⟩⟩⟩
    have eN : ((l.length : Int) + (m.length : Int)).toNat = l.length + m.length := by omega
    rw [eN]
    refine for_range (lo := 0) (n := l.length + m.length) (fun i σ H' => Same H H' ∧ (∃ o3, σ = [some v, some u, some (.ref D), o3, none]) ∧ H' D = some (.lst (iv ((List.range i).map fun (p : Nat) => csI l m (p : Int))))) ?_ ?_ ?_
    · exact ⟨s1, ⟨none, rfl⟩, e1⟩
    · rintro p σ H' hp ⟨s2, ⟨o3, rfl⟩, e2⟩
      refine ⟨_, rfl, .inl ⟨rfl, _, SqL.of e2⟩, ?_⟩
      refine ⟨_, rfl, rd_len (hv.sq.same s2) ⟨_, rfl, by omega, by omega, fun D2 hD2 => ?_⟩⟩
      rw [Int.toNat_natCast]
      have nDD : D ≠ D2 := ne_of_none e2 hD2
      refine lc_range (lo := 0) (n := l.length) (fun i H'' => Same H' H'' ∧ ∃ ac : List Int, H'' D2 = some (.lst (iv ac)) ∧ ac.length ≤ i ∧ ac.sum + csI (l.drop i) m ((p : Int) - (i : Int)) = csI l m (p : Int)) ?_ ?_ ?_
      · refine ⟨same_new hD2 _, [], upd_same, Nat.le_refl _, ?_⟩
        show 0 + csI l m ((p : Int) - 0) = _
        rw [Int.sub_zero, Int.zero_add]
      · rintro i H'' hi ⟨s3, ac, e3, la, ea⟩
        have s23 := s2.trans s3
        rw [drop_cs hi] at ea
        refine ⟨rfl, ?_⟩
        refine ⟨_, rfl, _, rfl, _, _, rfl, rfl, _, _, rfl, rfl, _, rfl, ?_⟩
        have skip : gI m ((p : Int) - (i : Int)) = 0 → Same H' H'' ∧ ∃ ac : List Int, H'' D2 = some (.lst (iv ac)) ∧ ac.length ≤ i + 1 ∧ ac.sum + csI (l.drop (i + 1)) m ((p : Int) - ((i + 1 : Nat) : Int)) = csI l m (p : Int) := fun z => by
          refine ⟨s3, ac, e3, by omega, ?_⟩
          rw [z, Int.mul_zero, Int.zero_add, Int.sub_sub] at ea
          exact ea
        refine iteD (fun c => ?_) (fun c => ?_)
        · refine ⟨_, rfl, rd_len (hu.sq.same s23) ⟨_, _, rfl, rfl, _, rfl, ?_⟩⟩
          refine iteD (fun c2 => ?_) (fun c2 => ?_)
          · have hk : p - i < m.length := by omega
            have eg : gI m ((p : Int) - (i : Int)) = m[p - i] := by
              unfold gI
              rw [if_pos (by omega), show ((p : Int) - (i : Int)).toNat = p - i by omega, getD_of hk]
            have sm : CMul l[i] m[p - i] := by
              rcases hsm with z | z
              · exact .inl (z _ (List.getElem_mem hi))
              · exact .inr (z _ (List.getElem_mem hk))
            refine ⟨_, rfl, _, rfl, rd_ix (k := i) (hv.sq.same s23) (by omega) hi ?_⟩
            refine ⟨_, rfl, _, rfl, _, rfl, _, _, rfl, rfl, rd_ix (k := p - i) (hu.sq.same s23) (by omega) hk ?_⟩
            refine ⟨_, _, rfl, rfl, sm, _, e3, ?_, ?_⟩
            · rw [List.length_map]
              exact Nat.lt_of_le_of_lt (m := 1000) (by omega) (by decide)
            · refine ⟨Evl.Ex.mut s3 hD2, ac ++ [l[i] * m[p - i]], ?_, ?_, ?_⟩
              · rw [upd_same, iv_app]; rfl
              · rw [List.length_append]
                show ac.length + 1 ≤ i + 1
                omega
              · rw [List.sum_append]
                rw [eg, Int.sub_sub] at ea
                show ac.sum + (l[i] * m[p - i] + 0) + csI (l.drop (i + 1)) m ((p : Int) - ((i + 1 : Nat) : Int)) = _
                have : (p : Int) - ((i : Int) + 1) = (p : Int) - ((i + 1 : Nat) : Int) := by omega
                rw [this] at ea
                omega
          · refine skip ?_
            unfold gI
            rw [if_pos (by omega), List.getD_eq_getElem?_getD, List.getElem?_eq_none (by omega)]
            rfl
        · refine ⟨_, rfl, iteF (skip ?_)⟩
          unfold gI
          rw [if_neg (by omega)]
      · rintro H'' ⟨s3, ac, e3, la, ea⟩
        rw [List.drop_length] at ea
        have ea' : ac.sum = csI l m (p : Int) := by
          have : csI [] m ((p : Int) - (l.length : Int)) = 0 := rfl
          rw [this] at ea
          omega
        refine ⟨D2, ac, rfl, SqL.of e3, ?_⟩
        rw [ea']
        have eD := s3 _ _ e2
        refine ⟨D, _, _, rfl, rfl, eD, ?_, s2.trans s3 |> fun t => Evl.Ex.mut t hD, ⟨_, rfl⟩, ?_⟩
        · rw [List.length_map, List.length_map, List.length_range]
          exact Nat.lt_of_le_of_lt (m := 1000) (by omega) (by decide)
        · rw [upd_same, List.range_succ, List.map_append, iv_app]
          rfl
    · rintro σ H' ⟨s2, ⟨o3, rfl⟩, e2⟩
      exact ⟨_, rfl, _, cv l m, rfl, ⟨D, rfl, .inl (SqL.of e2)⟩, fun z H2 s3 h3 => q z H2 (s2.trans s3) h3⟩
end
end Kc

namespace Kc
open PySem PySem.Spec PyProof.Rows L2 Hb Gu Tx Xb En M3 RZ RT
variable {K : PySem.W.Frag}
/-! ### equal ratios -/
theorem sg_abs {a b : Int} (hb : 0 < b) : sg a b = ((Nat.gcd a.natAbs b.natAbs : Nat) : Int) := by
  unfold sg
  rw [if_neg (by omega)]
theorem low_facts {a b : Int} (hb : 0 < b) : a = sg a b * lT a b ∧ b = sg a b * lB a b ∧ 0 < sg a b ∧ 0 < lB a b ∧ Nat.gcd (lT a b).natAbs (lB a b).natAbs = 1 := by
  have e := sg_abs (a := a) hb
  have g0 : 0 < Nat.gcd a.natAbs b.natAbs := Nat.gcd_pos_of_pos_right _ (by omega)
  have d1 : ((Nat.gcd a.natAbs b.natAbs : Nat) : Int) ∣ a := Int.gcd_dvd_left a b
  have d2 : ((Nat.gcd a.natAbs b.natAbs : Nat) : Int) ∣ b := Int.gcd_dvd_right a b
  unfold lT lB
  rw [e]
  obtain ⟨g, eg⟩ : ∃ g, g = Nat.gcd a.natAbs b.natAbs := ⟨_, rfl⟩
  rw [← eg] at g0 d1 d2 ⊢
  obtain ⟨x, ex⟩ := d1
  obtain ⟨y, ey⟩ := d2
  have e1 : a.fdiv (g : Int) = x := by rw [ex]; exact Int.mul_fdiv_cancel_left _ (by omega)
  have e2 : b.fdiv (g : Int) = y := by rw [ey]; exact Int.mul_fdiv_cancel_left _ (by omega)
  rw [e1, e2]
  have y0 : 0 < y := by
    rcases Int.lt_or_le 0 y with z | z
    · exact z
    · have := Int.mul_nonpos_of_nonneg_of_nonpos (show (0 : Int) ≤ (g : Int) by omega) z
      omega
  refine ⟨ex, ey, by omega, y0, ?_⟩
  have h := eg
  rw [ex, ey, Int.natAbs_mul, Int.natAbs_mul, Int.natAbs_natCast, Nat.gcd_mul_left] at h
  exact Nat.eq_of_mul_eq_mul_left g0 (by omega)
theorem low_eq {a b c d : Int} (hb : 0 < b) (hd : 0 < d) (h : a * d = c * b) : lT a b = lT c d ∧ lB a b = lB c d := by
  obtain ⟨a1, a2, a3, a4, a5⟩ := low_facts (a := a) hb
  obtain ⟨c1, c2, c3, c4, c5⟩ := low_facts (a := c) hd
  generalize lT a b = x at *
  generalize lB a b = y at *
  generalize lT c d = z at *
  generalize lB c d = w at *
  generalize sg a b = g at *
  generalize sg c d = k at *
  have e : x * w = z * y := by
    have t : (g * k) * (x * w) = (g * k) * (z * y) := by
      rw [a1, a2, c1, c2] at h
      grind
    exact Int.eq_of_mul_eq_mul_left (by have := Int.mul_pos a3 c3; omega) t
  have n : x.natAbs * w.natAbs = z.natAbs * y.natAbs := by rw [← Int.natAbs_mul, ← Int.natAbs_mul, e]
  have d1 : y.natAbs ∣ w.natAbs := by
    have : y.natAbs ∣ x.natAbs * w.natAbs := ⟨z.natAbs, by rw [n, Nat.mul_comm]⟩
    exact Nat.Coprime.dvd_of_dvd_mul_left (by rw [Nat.Coprime, Nat.gcd_comm]; exact a5) this
  have d2 : w.natAbs ∣ y.natAbs := by
    have : w.natAbs ∣ z.natAbs * y.natAbs := ⟨x.natAbs, by rw [← n, Nat.mul_comm]⟩
    exact Nat.Coprime.dvd_of_dvd_mul_left (by rw [Nat.Coprime, Nat.gcd_comm]; exact c5) this
  have yw : y = w := by have := Nat.dvd_antisymm d1 d2; omega
  subst yw
  exact ⟨Int.eq_of_mul_eq_mul_right (by omega) e, rfl⟩
theorem low_sign {a b : Int} (hb : 0 < b) : (lT a b).sign = a.sign := by
  obtain ⟨a1, a2, a3, a4, a5⟩ := low_facts (a := a) hb
  have := congrArg Int.sign a1
  rw [Int.sign_mul, Int.sign_eq_one_of_pos a3, Int.one_mul] at this
  exact this.symm
theorem sign_eq {a b c d : Int} (hb : 0 < b) (hd : 0 < d) (h : a * d = c * b) : a.sign = c.sign := by
  have := congrArg Int.sign h
  rw [Int.sign_mul, Int.sign_mul, Int.sign_eq_one_of_pos hb, Int.sign_eq_one_of_pos hd, Int.mul_one, Int.mul_one] at this
  exact this
/-! ### sums of powers from the first one on -/
def pre (a b : Int) : Int → Nat → List Int → Int
  | G, _, [] => G
  | G, k, c :: l => pre a b (b * (G + c * a ^ k)) (k + 1) l
theorem pre_eq (a b : Int) : ∀ (l : List Int) (G : Int) (k : Nat), pre a b G k l = b ^ l.length * G + a ^ k * (b * hw a b l)
  | [], G, k => by
    show G = b ^ 0 * G + a ^ k * (b * 0)
    simp
  | c :: l, G, k => by
    show pre a b (b * (G + c * a ^ k)) (k + 1) l = b ^ (l.length + 1) * G + a ^ k * (b * (c * b ^ l.length + a * hw a b l))
    rw [pre_eq a b l, Int.pow_succ, Int.pow_succ]
    grind
def tri : Nat → Nat
  | 0 => 0
  | n + 1 => tri n + n
section
variable {P : Program} {w : World} {mg : Str → Option Value} {base : Heap}
/-! ### _law_worth -/
abbrev s__law_worth : Stmt := top 43
theorem sc__law_worth : FnScope ["row", "at", "top", "bottom", "over", "under", "number"] ["row", "at"] (defScope s__law_worth) := ⟨rfl, rfl, rfl, by decide +kernel, rfl, by decide +kernel, by decide +kernel⟩
theorem le_two (i : Nat) (h : i < 5) : tri i ≤ 6 ∧ tri (i + 1) ≤ 10 := by
  match i, h with
  | 0, _ => exact ⟨by decide, by decide⟩
  | 1, _ => exact ⟨by decide, by decide⟩
  | 2, _ => exact ⟨by decide, by decide⟩
  | 3, _ => exact ⟨by decide, by decide⟩
  | 4, _ => exact ⟨by decide, by decide⟩
theorem add_small {x y : Int} {n : Nat} (hx : x.natAbs < 2 ^ n) (hy : y.natAbs < 2 ^ n) : (x + y).natAbs < 2 ^ (n + 1) := by
  have := Int.natAbs_add_le x y
  rw [Nat.pow_succ]
  omega
theorem ok_lworth {f : Addr} {fd : FuncData} (F : Fun K "_law_worth" "_law_worth" s__law_worth f fd) (C__law_low : Cg P w K mg base CX0 "_law_low" ["top", "bottom"] [] 2 spBy) : FnG P w K mg base CX0 3 f fd ["row", "at"] (spWorth K) := by
  refine go_ok F sc__law_worth (fun vs H Q E h => ?_) (fun cdv A outer s H vs Q E hr fr h => ?_)
  · obtain ⟨_, _, _, _, _, rfl, _⟩ := h
    rfl
  · obtain ⟨v, _, l, a, b, rfl, ⟨av, rfl, hS⟩, ⟨t, rfl, ht⟩, hL, hl, ha, hb, b0, q⟩ := h
    refine ⟨_, (pss_cons (ps_asg (pe_tup (pa_cons (pe_int) (pa_cons (pe_int) (pa_cons (pe_int) (pa_cons (pe_int) pa_nil))))) (pg_tup rfl (pgs_cons (pg_name (i := 2) sc__law_worth.nd rfl (Or.inl rfl)) (pgs_cons (pg_name (i := 3) sc__law_worth.nd rfl (Or.inl rfl)) (pgs_cons (pg_name (i := 4) sc__law_worth.nd rfl (Or.inl rfl)) (pgs_cons (pg_name (i := 5) sc__law_worth.nd rfl (Or.inl rfl)) pgs_nil))))))
    (pss_cons (ps_for PassesOwn.never rfl (pi_tup (pv 0)) (pg_name (i := 6) sc__law_worth.nd rfl (Or.inl rfl))
      (pss_cons (ps_par (i := 2) (j := 3) (by rfl) sc__law_worth.nd rfl rfl (by decide) rfl rfl (pa_cons (pe_op op_add (pe_op op_mulW (pv 2) (pv 5)) (pe_op op_mulW (pe_op op_mulW (pv 6) (pv 4)) (pv 3))) (pa_cons (pe_op op_mulW (pv 3) (pv 5)) pa_nil)) (by rfl))
    (pss_one (ps_par (i := 4) (j := 5) (by rfl) sc__law_worth.nd rfl rfl (by decide) rfl rfl (pa_cons (pe_op op_mulW (pv 4) (pe_ix ix_tup (pv 1) (pe_int) (fun _ _ => rfl))) (pa_cons (pe_op op_mulW (pv 5) (pe_ix ix_tup (pv 1) (pe_int) (fun _ _ => rfl))) pa_nil)) (by rfl)))))
    (pss_one (ps_ret (pe_go C__law_low (hr.mono (by decide)) fr rfl (pa_cons (pv 2) (pa_cons (pv 3) pa_nil))))))), ?_⟩
    refine ⟨by show 4 ≤ sizeLine; decide, fun y hy => ?_⟩
    refine ⟨y, _, rfl, SqT.of upd_same, rfl, _, _, rfl, _, _, rfl, _, _, rfl, _, _, rfl, rfl, ?_⟩
    have s1 := same_new hy (.tup [.int 0, .int 1, .int 1, .int 1])
    generalize upd H y (.tup [.int 0, .int 1, .int 1, .int 1]) = H1 at s1 ⊢
    refine ⟨_, rfl, av, rfl, ⟨_, SqT.same s1 hS⟩, ?_⟩
    have ht1 := s1 _ _ ht
    refine for_tup (xs := iv l) (fun i σ H' => H' = H1 ∧ ∃ T G : Int, (∃ o6, σ = [some (.ref av), some (.ref t), some (.int T), some (.int (b ^ tri i)), some (.int (a ^ i)), some (.int (b ^ i)), o6]) ∧ T.natAbs < 2 ^ (200 * i + 1) ∧ T * b ^ i = b ^ tri i * G ∧ pre a b G i (l.drop i) = b * hw a b l) ?_ ?_ ?_ ?_
    · refine ⟨rfl, 0, 0, ⟨none, ?_⟩, by decide, by simp, ?_⟩
      · show _ = [some (V.ref av), some (V.ref t), some (V.int 0), some (V.int (b ^ 0)), some (V.int (a ^ 0)), some (V.int (b ^ 0)), none]
        rw [Int.pow_zero, Int.pow_zero]
        rfl
      · rw [List.drop_zero, pre_eq]
        simp
    · rintro i σ H' _ ⟨rfl, _⟩
      exact SqT.same s1 hS
    · rintro i x σ H' hx ⟨rfl, T, G, ⟨o6, rfl⟩, hT, hG, hp⟩
      obtain ⟨hi, rfl⟩ := iv_get' hx
      have hi5 : i < 5 := by omega
      obtain ⟨t1, t2⟩ := le_two i hi5
      have big : ∀ {c : Int} {k n : Nat}, c.natAbs < 2 ^ 15 → 15 * k + 1 ≤ n → (c ^ k).natAbs < 2 ^ n := fun h hk => Nat.lt_of_lt_of_le (pow_small h) (Nat.pow_le_pow_right (by decide) hk)
      have bU : (b ^ i).natAbs < 2 ^ 76 := big hb (by omega)
      have bO : (a ^ i).natAbs < 2 ^ 76 := big ha (by omega)
      have bB : (b ^ tri i).natAbs < 2 ^ 92 := big hb (by omega)
      have hc : l[i].natAbs < 2 ^ 16 := Nat.lt_of_le_of_lt (hl _ (List.getElem_mem hi)) (by decide)
      have bT : T.natAbs < 2 ^ 1000 := Nat.lt_of_lt_of_le hT (Nat.pow_le_pow_right (by decide) (by omega))
      have m1 := wide_lt hT bU
      have m2 := wide_lt hc bO
      have m3 := wide_lt m2 bB
      refine ⟨_, rfl, _, rfl, _, _, rfl, rfl, wide_mul (a := 1000) (b := 76) bT bU (by decide) (by decide) (by decide), ?_⟩
      refine ⟨_, rfl, _, rfl, _, _, rfl, rfl, wide_mul (a := 16) (b := 76) hc bO (by decide) (by decide) (by decide), ?_⟩
      refine ⟨_, rfl, _, _, rfl, rfl, wide_mul (a := 92) (b := 92) m2 bB (by decide) (by decide) (by decide), _, _, rfl, rfl, ?_⟩
      refine ⟨_, rfl, _, rfl, _, _, rfl, rfl, wide_mul (a := 92) (b := 76) bB bU (by decide) (by decide) (by decide), _, _, rfl, ?_⟩
      refine ⟨_, rfl, _, rfl, t, _, _, _, rfl, rfl, SqT.of ht1, rfl, _, _, rfl, rfl, wide_mul (a := 76) (b := 15) bO ha (by decide) (by decide) (by decide), ?_⟩
      refine ⟨_, rfl, _, rfl, t, _, _, _, rfl, rfl, SqT.of ht1, rfl, _, _, rfl, rfl, wide_mul (a := 76) (b := 15) bU hb (by decide) (by decide) (by decide), _, _, rfl, ?_⟩
      refine ⟨rfl, T * b ^ i + l[i] * a ^ i * b ^ tri i, b * (G + l[i] * a ^ i), ⟨some (.int l[i]), ?_⟩, ?_, ?_, ?_⟩
      · show [some (V.ref av), some (V.ref t), some (V.int (T * b ^ i + l[i] * a ^ i * b ^ tri i)), some (V.int (b ^ tri i * b ^ i)), some (V.int (a ^ i * a)), some (V.int (b ^ i * b)), some (V.int l[i])] = _
        rw [← Int.pow_succ, ← Int.pow_succ, ← Int.pow_add]
        rfl
      · have w1 : (T * b ^ i).natAbs < 2 ^ (200 * i + 199) := Nat.lt_of_lt_of_le m1 (Nat.pow_le_pow_right (by decide) (by omega))
        have w2 : (l[i] * a ^ i * b ^ tri i).natAbs < 2 ^ (200 * i + 199) := Nat.lt_of_lt_of_le m3 (Nat.pow_le_pow_right (by decide) (by omega))
        have := add_small w1 w2
        exact Nat.lt_of_lt_of_le this (Nat.pow_le_pow_right (by decide) (by omega))
      · show (T * b ^ i + l[i] * a ^ i * b ^ tri i) * b ^ (i + 1) = b ^ (tri i + i) * (b * (G + l[i] * a ^ i))
        rw [Int.pow_succ, Int.pow_add]
        grind
      · rw [List.drop_eq_getElem_cons hi] at hp
        exact hp
    · rintro σ H' ⟨rfl, T, G, ⟨o6, rfl⟩, hT, hG, hp⟩
      rw [List.length_map] at hT hG hp
      rw [List.drop_length] at hp
      have hp' : G = b * hw a b l := hp
      rw [List.length_map]
      have t5 : tri l.length ≤ 10 := by
        cases e : l.length with
        | zero => decide
        | succ n => exact (le_two n (by omega)).2
      obtain ⟨p0, p1⟩ := pow_ok (k := tri l.length) t5 hb b0
      obtain ⟨r0, r1⟩ := pow_ok (k := l.length - 1) (by omega) hb b0
      have key : T * b ^ (l.length - 1) = hw a b l * b ^ tri l.length := by
        by_cases c : l = []
        · subst c
          have : T = b ^ 0 * (b * 0) := by
            have h := hG
            rw [hp'] at h
            show T = _
            have h' : T * b ^ 0 = b ^ 0 * (b * 0) := h
            rw [Int.pow_zero, Int.mul_one] at h'
            rw [Int.pow_zero]
            exact h'
          rw [this]
          show b ^ 0 * (b * 0) * b ^ _ = 0 * _
          simp
        · have lp : 1 ≤ l.length := by cases l with | nil => exact absurd rfl c | cons _ _ => simp
          rw [hp', show l.length = (l.length - 1) + 1 by omega, Int.pow_succ, show l.length - 1 + 1 = l.length by omega] at hG
          have : b * (T * b ^ (l.length - 1)) = b * (hw a b l * b ^ tri l.length) := by grind
          exact Int.eq_of_mul_eq_mul_left (by omega) this
      obtain ⟨k1, k2⟩ := low_eq p0 r0 key
      refine ⟨_, rfl, _, rfl, _, _, rfl, by omega, p1, fun p H2 s2 e2 => ?_⟩
      rw [k1, k2] at e2
      exact q p H2 (s1.trans s2) e2
/-! ### _law_behind -/
abbrev s__law_behind : Stmt := top 42
theorem sc__law_behind : FnScope ["one", "other", "found", "power", "number"] ["one", "other"] (defScope s__law_behind) := ⟨rfl, rfl, rfl, by decide +kernel, rfl, by decide +kernel, by decide +kernel⟩
def spBehind (K : PySem.W.Frag) : Sp := fun vs H Q _ => ∃ (v u : V) (l m : List Int), vs = [v, u] ∧ IsCv K H v l ∧ IsCv K H u m ∧ l.length ≤ 5 ∧ m.length ≤ 5 ∧ Sm l ∧ Sm m ∧ ∀ z H' r, Same H H' → IsCv K H' z r → Cn r → (∀ x, ev r x = ev l (ev m x)) → Q z H'
theorem cv_len (l m : List Int) : (cv l m).length = l.length + m.length := by unfold cv; rw [List.length_map, List.length_range]
theorem ok_behind {f : Addr} {fd : FuncData} (F : Fun K "_law_behind" "_law_behind" s__law_behind f fd) (C__law_sum : Cg P w K mg base CX0 "_law_sum" ["one", "other"] [] 2 (spPlus K)) (C__law_product : Cg P w K mg base CX0 "_law_product" ["one", "other"] [] 2 (spProd K)) : FnG P w K mg base CX0 3 f fd ["one", "other"] (spBehind K) := by
  refine go_ok F sc__law_behind (fun vs H Q E h => ?_) (fun cdv A outer s H vs Q E hr fr h => ?_)
  · obtain ⟨_, _, _, _, rfl, _⟩ := h
    rfl
  · obtain ⟨v, u, l, m, rfl, ⟨av, rfl, hS⟩, hu, hL, hM, sl, sm, q⟩ := h
    refine ⟨_, (pss_cons (ps_asg (pe_tup (pa_cons (pe_tup pa_nil) (pa_cons (pe_tup (pa_cons (pe_int) pa_nil)) pa_nil))) (pg_tup rfl (pgs_cons (pg_name (i := 2) sc__law_behind.nd rfl (Or.inl rfl)) (pgs_cons (pg_name (i := 3) sc__law_behind.nd rfl (Or.inl rfl)) pgs_nil))))
    (pss_cons (ps_for PassesOwn.never rfl (pi_tup (pv 0)) (pg_name (i := 4) sc__law_behind.nd rfl (Or.inl rfl))
      (pss_cons (ps_set (i := 2) sc__law_behind.nd rfl (Or.inl rfl) (pe_go C__law_sum (hr.mono (by decide)) fr rfl (pa_cons (pv 2) (pa_cons (pe_go C__law_product (hr.mono (by decide)) fr rfl (pa_cons (pe_ifExp (pt_cmpR op_ne (pv 4) (pe_int) (nomark _)) (pe_tup (pa_cons (pv 4) pa_nil)) (pe_tup pa_nil)) (pa_cons (pv 3) pa_nil))) pa_nil))))
    (pss_one (ps_set (i := 3) sc__law_behind.nd rfl (Or.inl rfl) (pe_go C__law_product (hr.mono (by decide)) fr rfl (pa_cons (pv 3) (pa_cons (pv 1) pa_nil)))))))
    (pss_one (ps_ret (pv 2))))), ?_⟩
    refine ⟨by show 0 ≤ sizeLine; exact Nat.zero_le _, fun y hy => ?_⟩
    have s1 := same_new hy (.tup [])
    have e1 : (upd H y (.tup [])) y = some (.tup []) := upd_same
    generalize upd H y (.tup []) = H1 at s1 e1 ⊢
    refine ⟨by show 1 ≤ sizeLine; decide, fun z hz => ?_⟩
    have s2 := same_new hz (.tup [.int 1])
    have e2 : (upd H1 z (.tup [.int 1])) z = some (.tup [.int 1]) := upd_same
    generalize upd H1 z (.tup [.int 1]) = H2 at s2 e2 ⊢
    refine ⟨by show 2 ≤ sizeLine; decide, fun t ht => ?_⟩
    have s3 := same_new ht (.tup [.ref y, .ref z])
    refine ⟨t, _, rfl, SqT.of upd_same, rfl, _, _, rfl, _, _, rfl, rfl, ?_⟩
    generalize upd H2 t (.tup [.ref y, .ref z]) = H3 at s3 ⊢
    replace e1 := s3 _ _ (s2 _ _ e1)
    replace e2 := s3 _ _ e2
    have s13 := s1.trans (s2.trans s3)
    clear s1 s2 s3
    refine ⟨_, rfl, av, rfl, ⟨_, SqT.same s13 hS⟩, ?_⟩
    refine for_tup (xs := iv l) (fun i σ H' => Same H H' ∧ ∃ (b p : V) (B R : List Int), (∃ o, σ = [some (.ref av), some u, some b, some p, o]) ∧ IsCv K H' b B ∧ IsCv K H' p R ∧ Cn B ∧ B.length ≤ 10 * (i + 1) ∧ R.length ≤ 5 * i + 1 ∧ (∀ x, ev R x = (ev m x) ^ i) ∧ ∀ x, ev B x = ev (l.take i) (ev m x)) ?_ ?_ ?_ ?_
    · refine ⟨s13, .ref y, .ref z, [], [1], ⟨none, rfl⟩, ⟨y, rfl, SqT.of e1⟩, ⟨z, rfl, SqT.of e2⟩, rfl, Nat.zero_le _, Nat.le_refl _, fun x => ?_, fun x => rfl⟩
      show 1 + x * 0 = _
      simp
    · rintro i σ H' _ ⟨s3, _⟩
      exact SqT.same s3 hS
    · rintro i x σ H' hx ⟨s3, b, p, B, R, ⟨o, rfl⟩, hb, hp, cB, lB, lR, eR, eB⟩
      obtain ⟨hi, rfl⟩ := iv_get' hx
      have hi5 : i < 5 := by omega
      refine ⟨_, rfl, _, rfl, rfl, _, rfl, ?_⟩
      refine iteN (fun c => ?_) (fun c => ?_)
      · refine ⟨_, rfl, by show 1 ≤ sizeLine; decide, fun n hn0 => ⟨_, rfl, ?_⟩⟩
        have s4 := same_new hn0 (.tup (iv [l[i]]))
        have hn : IsCv K (upd H' n (.tup (iv [l[i]]))) (.ref n) [l[i]] := ⟨n, rfl, SqT.of upd_same⟩
        have snn : Sm [l[i]] := fun c hc => by rw [List.mem_singleton.mp hc]; exact sl _ (List.getElem_mem hi)
        have en : ∀ x, ev [l[i]] x = l[i] := fun x => by show l[i] + x * 0 = _; omega
        refine ⟨_, _, [l[i]], R, rfl, hn, hp.same s4, by show 1 ≤ 500; omega, by omega, .inl snn, fun z1 H4 s5 h5 => ?_⟩
        have l5 : (trim (cv [l[i]] R)).length ≤ 1 + R.length := Nat.le_trans (trim_len _) (by rw [cv_len]; show 1 + R.length ≤ _; omega)
        refine ⟨b, z1, B, _, rfl, hb.same (s4.trans s5), h5, by omega, by omega, fun z2 H5 s6 h6 => ?_⟩
        refine ⟨_, rfl, _, rfl, p, u, R, m, rfl, hp.same (s4.trans (s5.trans s6)), hu.same (s3.trans (s4.trans (s5.trans s6))), by omega, by omega, .inr sm, fun z3 H6 s7 h7 => ?_⟩
        have l6 := trim_len (addL B (trim (cv [l[i]] R)))
        rw [addL_len] at l6
        have l7 := trim_len (cv R m)
        rw [cv_len] at l7
        refine ⟨s3.trans (s4.trans (s5.trans (s6.trans s7))), z2, z3, _, _, ⟨_, rfl⟩, h6.same s7, h7, Cn.trim _, by omega, by omega, fun x => ?_, fun x => ?_⟩
        · rw [ev_trim, ev_cv, eR, Int.pow_succ]
        · rw [ev_trim, ev_addL, ev_trim, ev_cv, eB, en, eR, ev_take hi]
      · refine ⟨by show 0 ≤ sizeLine; exact Nat.zero_le _, fun n hn0 => ⟨_, rfl, ?_⟩⟩
        have s4 := same_new hn0 (.tup (iv []))
        have hn : IsCv K (upd H' n (.tup (iv []))) (.ref n) [] := ⟨n, rfl, SqT.of upd_same⟩
        have snn : Sm [] := (by intro c hc; cases hc)
        have en : ∀ x, ev [] x = l[i] := fun x => by
          have := V.int.inj c
          rw [this]; rfl
        refine ⟨_, _, [], R, rfl, hn, hp.same s4, by show 0 ≤ 500; omega, by omega, .inl snn, fun z1 H4 s5 h5 => ?_⟩
        have l5 : (trim (cv [] R)).length ≤ 1 + R.length := Nat.le_trans (trim_len _) (by rw [cv_len]; show 0 + R.length ≤ _; omega)
        refine ⟨b, z1, B, _, rfl, hb.same (s4.trans s5), h5, by omega, by omega, fun z2 H5 s6 h6 => ?_⟩
        refine ⟨_, rfl, _, rfl, p, u, R, m, rfl, hp.same (s4.trans (s5.trans s6)), hu.same (s3.trans (s4.trans (s5.trans s6))), by omega, by omega, .inr sm, fun z3 H6 s7 h7 => ?_⟩
        have l6 := trim_len (addL B (trim (cv [] R)))
        rw [addL_len] at l6
        have l7 := trim_len (cv R m)
        rw [cv_len] at l7
        refine ⟨s3.trans (s4.trans (s5.trans (s6.trans s7))), z2, z3, _, _, ⟨_, rfl⟩, h6.same s7, h7, Cn.trim _, by omega, by omega, fun x => ?_, fun x => ?_⟩
        · rw [ev_trim, ev_cv, eR, Int.pow_succ]
        · rw [ev_trim, ev_addL, ev_trim, ev_cv, eB, en, eR, ev_take hi]
    · rintro σ H' ⟨s3, b, p, B, R, ⟨o, rfl⟩, hb, hp, cB, lB, lR, eR, eB⟩
      rw [List.length_map, List.take_length] at eB
      exact ⟨_, rfl, q b H' B s3 hb cB eB⟩
end
end Kc

namespace Kc
open PySem PySem.Spec PyProof.Rows L2 Hb Gu Tx Xb En M3 RZ RT
variable {K : PySem.W.Frag}
section
variable {P : Program} {w : World} {mg : Str → Option Value} {base : Heap}
/-! ### _law_drawn -/
abbrev s__law_drawn : Stmt := top 39
theorem sc__law_drawn : FnScope ["box", "size", "row", "turn"] ["box"] (defScope s__law_drawn) := ⟨rfl, rfl, rfl, by decide +kernel, rfl, by decide +kernel, by decide +kernel⟩
def spDrawn (K : PySem.W.Frag) : Sp := fun vs H Q _ => ∃ p : Addr, vs = [.ref p] ∧ BoxAt H p ∧ ∀ u H' l, Kept p H H' → BoxAt H' p → IsCv K H' u l → Cn l → l.length ≤ 5 → M3.Le (2 ^ 15) l → Q u H'
theorem kept_mut {p D : Addr} {H H1 H2 : Hp} {o : HO} (k : Kept p H H1) (k2 : Kept p H1 H2) (hD : H1 D = none) : Kept p H (upd H2 D o) := fun c u hc ne => by
  have h1 := k c u hc ne
  have : c ≠ D := fun t => by rw [t, hD] at h1; cases h1
  rw [upd_ne this]
  exact k2 c u h1 ne
theorem box_mut {p D : Addr} {H : Hp} {o : HO} (b : BoxAt H p) (ne : D ≠ p) : BoxAt (upd H D o) p := by
  obtain ⟨g, s, n, e, r⟩ := b
  exact ⟨g, s, n, by rw [upd_ne (Ne.symm ne)]; exact e, r⟩
theorem ok_drawn {f : Addr} {fd : FuncData} (F : Fun K "_law_drawn" "_law_drawn" s__law_drawn f fd) (C__law_take : Cg P w K mg base CX0 "_law_take" ["box", "many"] [] 1 spTake) (C__law_pick : Cg P w K mg base CX0 "_law_pick" ["box", "some"] [] 2 spPick) (C__law_short : Cg P w K mg base CX0 "_law_short" ["row"] [] 1 (spTrim K)) (n_len : mg "len" = none) (n_range : mg "range" = none) : FnG P w K mg base CX0 3 f fd ["box"] (spDrawn K) := by
  refine go_ok F sc__law_drawn (fun vs H Q E h => ?_) (fun cdv A outer s H vs Q E hr fr h => ?_)
  · obtain ⟨_, rfl, _⟩ := h
    rfl
  · obtain ⟨p, rfl, hb, q⟩ := h
    refine ⟨_, (pss_cons (ps_set (i := 1) sc__law_drawn.nd rfl (Or.inr rfl) (pe_go C__law_pick (hr.mono (by decide)) fr rfl (pa_cons (pv 0) (pa_cons (pe_lst (pa_cons (pe_int) (pa_cons (pe_int) (pa_cons (pe_int) (pa_cons (pe_int) pa_nil))))) pa_nil))))
    (Evl.pss_cut (ps_setLc (i := 2) (own := [("turn", 3)]) (g := gName 3) (by rfl) sc__law_drawn.nd rfl rfl (sw_true rfl rfl rfl (by decide +kernel)) (pi_range1 (by rfl) n_range (pa_cons (pe_go C__law_take (hr.mono (by decide)) fr rfl (pa_cons (pv 0) (pa_cons (pe_int) pa_nil))) pa_nil)) (blkOk_by (N := ["box", "size", "row", "turn"]) (sc := defScope s__law_drawn) (by decide +kernel)) (fun _ _ _ _ _ => pg_name (i := 3) sc__law_drawn.nd rfl (Or.inl rfl)) (fun _ _ _ _ _ => pts_nil) (fun _ _ _ _ _ => pe_op op_sub (pe_go C__law_take (hr.mono (by decide)) fr rfl (pa_cons (pv 0) (pa_cons (pv 1) pa_nil))) (pe_op op_fdivW (pv 1) (pe_int))))
    (Evl.pss_cut (ps_if (PW.pt (pw_and (pt_cmpR op_eq (pe_go C__law_take (hr.mono (by decide)) fr rfl (pa_cons (pv 0) (pa_cons (pe_int) pa_nil))) (pe_int) (nomark _)) (pw_and1 (pt_cmpR (op_neD hr.units) (pv 2) (pe_lst pa_nil) (nomark _))))) (pss_one (ps_asg (pe_int) (pg_sub (pv 2) (pe_go C__law_take (hr.mono (by decide)) fr rfl (pa_cons (pv 0) (pa_cons (pe_callB call_lenI (by rfl) n_len PySem.boot_len (pa_cons (pv 2) pa_nil)) pa_nil))) set_list))) pss_nil)
    (pss_one (ps_ret (pe_go C__law_short (hr.mono (by decide)) fr rfl (pa_cons (pv 2) pa_nil))))))), ?_⟩
    refine ⟨_, rfl, by show 4 ≤ sizeLine; decide, fun y hy => ?_⟩
    have s0 := same_new hy (.lst [.int 9, .int 9, .int 199, .int 19999])
    have e0 : (upd H y (.lst [.int 9, .int 9, .int 199, .int 19999])) y = some (.lst [.int 9, .int 9, .int 199, .int 19999]) := upd_same
    generalize upd H y (.lst [.int 9, .int 9, .int 199, .int 19999]) = H0 at s0 e0 ⊢
    refine ⟨p, y, _, rfl, hb.mono s0, e0, box_ne hb hy, ⟨by decide, by decide⟩, fun x H1 hx k1 b1 => ?_⟩
    have kH1 : Kept p H H1 := (Hb.Same.kept s0).trans k1
    obtain ⟨size, rfl, z1, z2⟩ : ∃ z : Int, x = .int z ∧ 1 ≤ z ∧ z ≤ 19999 := by
      rcases List.mem_cons.mp hx with rfl | hx
      · exact ⟨9, rfl, by decide, by decide⟩
      rcases List.mem_cons.mp hx with rfl | hx
      · exact ⟨9, rfl, by decide, by decide⟩
      rcases List.mem_cons.mp hx with rfl | hx
      · exact ⟨199, rfl, by decide, by decide⟩
      rcases List.mem_cons.mp hx with rfl | hx
      · exact ⟨19999, rfl, by decide, by decide⟩
      cases hx
    refine ⟨fun σ H2 => ∃ (D : Addr) (r : List Int), σ = [some (.ref p), some (.int size), some (.ref D), none] ∧ H2 D = some (.lst (iv r)) ∧ D ≠ p ∧ H1 D = none ∧ Kept p H1 H2 ∧ BoxAt H2 p ∧ r.length ≤ 5 ∧ M3.Le (2 ^ 15) r, ?_, ?_⟩
    · refine ⟨_, rfl, p, _, rfl, ⟨by decide, by decide⟩, b1, fun d H2 d0 d1 k2 b2 => ⟨d, rfl, by omega, by omega, fun D hD => ?_⟩⟩
      have hDp := box_ne b2 hD
      have hD1 : H1 D = none := by
        cases e : H1 D with
        | none => rfl
        | some o => rw [k2 D o e hDp] at hD; cases hD
      refine lc_range (lo := 0) (n := d.toNat) (fun i H3 => ∃ r : List Int, r.length = i ∧ M3.Le (2 ^ 15) r ∧ H3 D = some (.lst (iv r)) ∧ Kept p H1 H3 ∧ BoxAt H3 p) ?_ ?_ ?_
      · exact ⟨[], rfl, (by intro c hc; cases hc), upd_same, k2.trans (Hb.Same.kept (same_new hD _)), b2.mono (same_new hD _)⟩
      · rintro i H3 hi ⟨r, lr, mr, e3, k3, b3⟩
        refine ⟨rfl, _, rfl, _, rfl, p, size, rfl, ⟨by omega, by omega⟩, b3, fun c H4 c0 c1 k4 b4 => ?_⟩
        have e4 := k4 D _ e3 hDp
        refine ⟨_, rfl, _, _, rfl, rfl, divw (by decide) (by decide), _, _, rfl, rfl, _, e4, ?_, r ++ [c - size / 2], ?_, ?_, ?_, kept_mut (Kept.refl p H1) (k3.trans k4) hD1, box_mut b4 hDp⟩
        · rw [List.length_map, lr]
          exact Nat.lt_of_lt_of_le (show i < 10 by omega) (by decide)
        · rw [List.length_append, lr]; rfl
        · intro t ht
          rcases List.mem_append.mp ht with h | h
          · exact mr t h
          · rw [List.mem_singleton.mp h]
            have h2 := Int.ediv_nonneg (show 0 ≤ size by omega) (show (0 : Int) ≤ 2 by decide)
            have h3 : size / 2 ≤ size := Int.ediv_le_self _ (by omega)
            omega
        · rw [upd_same, iv_app]; rfl
      · rintro H3 ⟨r, lr, mr, e3, k3, b3⟩
        exact ⟨D, r, rfl, e3, hDp, hD1, k3, b3, by omega, mr⟩
    · rintro σ H2 ⟨D, r, rfl, e2, hDp, hD1, k2, b2, lr, mr⟩
      refine ⟨fun σ H3 => ∃ r : List Int, σ = [some (.ref p), some (.int size), some (.ref D), none] ∧ H3 D = some (.lst (iv r)) ∧ Kept p H1 H3 ∧ BoxAt H3 p ∧ r.length ≤ 5 ∧ M3.Le (2 ^ 15) r, ?_, ?_⟩
      · refine ⟨_, rfl, p, _, rfl, ⟨by decide, by decide⟩, b2, fun d H3 d0 d1 k3 b3 => ?_⟩
        have e3 := k3 D _ e2 hDp
        refine ⟨rfl, _, rfl, ?_⟩
        refine iteD (fun c => ?_) (fun c => iteF ⟨r, rfl, e3, k2.trans k3, b3, lr, mr⟩)
        refine ⟨_, rfl, by show 0 ≤ sizeLine; exact Nat.zero_le _, fun y2 hy2 => ?_⟩
        have s4 := same_new hy2 (.lst [])
        have e4 := s4 _ _ e3
        refine ⟨dL r, .list [], .lst (SqL.of e4) (dp_ints _), .lst (SqL.of upd_same) .nil, sh_dL _, rfl, _, rfl, ?_⟩
        generalize upd H3 y2 (.lst []) = H4 at s4 e4 ⊢
        show if (!PyData.eqv (.list (r.map PyData.int)) (.list [])) = true then _ else _
        rw [eqv_nil]
        cases er : (r.map PyData.int).isEmpty with
        | true => exact iteF ⟨r, rfl, e4, k2.trans (k3.trans (Hb.Same.kept s4)), b3.mono s4, lr, mr⟩
        | false =>
          have rp : 1 ≤ r.length := by
            cases r with
            | nil => cases er
            | cons _ _ => simp
          refine iteT ⟨_, rfl, _, rfl, _, rfl, rd_len ⟨D, rfl, .inl (SqL.of e4)⟩ ?_⟩
          refine ⟨p, _, rfl, ⟨by omega, by omega⟩, b3.mono s4, fun k H5 k0 k1' k5 b5 => ?_⟩
          have e5 := k5 D _ e4 hDp
          refine ⟨D, _, k, k.toNat, rfl, rfl, e5, ?_, r.set k.toNat 0, rfl, ?_, ?_, box_mut b5 hDp, by rw [List.length_set]; exact lr, ?_⟩
          · rw [List.length_map]
            have := ixN_of (n := r.length) (k := k.toNat) (by omega)
            rw [show ((k.toNat : Nat) : Int) = k by omega] at this
            exact this
          · rw [upd_same, iv_set]
          · exact kept_mut (Kept.refl p H1) (k2.trans (k3.trans ((Hb.Same.kept s4).trans k5))) hD1
          · intro t ht
            rcases List.mem_or_eq_of_mem_set ht with h | h
            · exact mr t h
            · rw [h]; decide
      · rintro σ H3 ⟨r, rfl, e3, k3, b3, lr, mr⟩
        refine ⟨_, rfl, _, r, rfl, ⟨D, rfl, .inl (SqL.of e3)⟩, fun u H4 s4 h4 => ?_⟩
        exact q u H4 _ (kH1.trans (k3.trans (Hb.Same.kept s4))) (b3.mono s4) h4 (Cn.trim _) (Nat.le_trans (trim_len _) lr) mr.trim
end
end Kc

namespace Kc
open PySem PySem.Spec PyProof.Rows L2 Hb Gu Tx Xb En M3 RZ RT
variable {K : PySem.W.Frag}
/-! ### what a try tells -/
def outD : Int ⊕ List Int → PyData
  | .inl k => .tuple [.str (Str.ofString "refused"), .int k]
  | .inr l => .tuple [.str (Str.ofString "curve"), dC l]
theorem out_sh (o : Int ⊕ List Int) : SeqAt.shaped (outD o) = true := by
  cases o with
  | inl k =>
    show SeqAt.shaped (.tuple [.str (Str.ofString "refused"), .int k]) = true
    unfold SeqAt.shaped
    show ((PyData.strOk (Str.ofString "refused") && (true && true)) && decide (max 0 (max 0 0) + 1 ≤ 64)) = true
    rw [strOk_of (okS_of _)]; rfl
  | inr l =>
    obtain ⟨h1, h2⟩ := ints_lay l
    show SeqAt.shaped (.tuple [.str (Str.ofString "curve"), dC l]) = true
    unfold SeqAt.shaped
    show ((PyData.strOk (Str.ofString "curve") && (PyData.canLayAll0 (l.map PyData.int) && true)) && decide (max 0 (max (PyData.depthAll (l.map PyData.int) + 1) 0) + 1 ≤ 64)) = true
    rw [strOk_of (okS_of _), h1, h2]; rfl
theorem out_eq (o : Int ⊕ List Int) : PyData.eqv (outD o) (outD o) = true := SeqAt.eqv_refl _ (SeqAt.canLay_of_shaped (out_sh o))
theorem ne_out {H : Hp} {u v : V} {o : Int ⊕ List Int} {Q : VK} (h1 : Dp K H u (outD o)) (h2 : Dp K H v (outD o)) (q : Q (.bl false) H) : rNeD K u v H Q := by
  refine ⟨outD o, outD o, h1, h2, out_sh o, out_sh o, ?_⟩
  rw [out_eq]
  exact q
section
variable {P : Program} {w : World} {mg : Str → Option Value} {base : Heap}
abbrev s__law_made : Stmt := top 45
theorem sc__law_made : FnScope ["values", "e"] ["values"] (defScope s__law_made) := ⟨rfl, rfl, rfl, by decide +kernel, rfl, by decide +kernel, by decide +kernel⟩
def spMade (K : PySem.W.Frag) : Sp := fun vs H Q _ => ∃ (v : V) (d : PyData), vs = [v] ∧ Dp K H v d ∧ ∀ u H', Same H H' → Dp K H' u (outD (cof d)) → Q u H'
theorem ok_made {f C fI B C2 : Addr} {fd : FuncData} (F : Fun K "_law_made" "_law_made" s__law_made f fd) (T : ErrC K mg "InvalidCurve" C fI) (TI : IsC K C) (gB : mg "BellError" = some (.ref B)) (g2 : mg "InvalidText" = some (.ref C2)) (kB : PySem.W.kitOne K (.ref C) (.ref B) = some true) (k2 : PySem.W.kitOne K (.ref C) (.ref C2) = some false)
    (C_curve_of : Cg P w K mg base (L2.CX P w) "curve_of" ["values"] [] 2 (spCof K C)) (n_isinstance : mg "isinstance" = none) : FnG P w K mg base CX0 3 f fd ["values"] (spMade K) := by
  refine go_ok F sc__law_made (fun vs H Q E h => ?_) (fun cdv A outer s H vs Q E hr fr h => ?_)
  · obtain ⟨_, _, rfl, _⟩ := h
    rfl
  · obtain ⟨v, d, rfl, hd, q⟩ := h
    refine ⟨_, (pss_one (ps_try_as (i := 1) rfl rfl sc__law_made.nd rfl rfl ⟨rfl, by decide, .inl T.gC⟩ takes0 (fun W pn xe tk _ => pss_one (ps_ret (pe_tup (pa_cons pe_str (pa_cons (pe_goS C_curve_of (hr.mono (by decide)) fr (fun σ => passAt tk σ) rfl (pa_cons (pv 0) pa_nil)) pa_nil)))))
      (fun a oe cls d pn hz hf => pss_one (ps_ret (pe_tup (pa_cons (pe_ifExp (PW.pt (pw_and (pt_val (pe_callB (call_isAt TI hz hf) (by rfl) n_isinstance (by decide +kernel) (pa_cons (pv 1) (pa_cons (pe_glob (v := .ref B) (by rfl) gB rfl) pa_nil)))) (pw_and1 (pt_not (pt_val (pe_callB (call_isAt TI hz hf) (by rfl) n_isinstance (by decide +kernel) (pa_cons (pv 1) (pa_cons (pe_glob (v := .ref C2) (by rfl) g2 rfl) pa_nil)))))))) (pe_str) (pe_str)) (pa_cons (pe_xf T.xf T.noN hz hf (pv 1)) pa_nil))))))), ?_⟩
    refine ⟨_, rfl, v, d, rfl, hd, fun l e u H1 s1 h1 => ?_, fun k e dd H1 s1 e1 => ?_⟩
    · refine ⟨by show 2 ≤ sizeLine; decide, fun t ht => q _ _ (s1.trans (same_new ht _)) ?_⟩
      rw [e]
      exact .tup (SqT.of upd_same) (.cons (.str _) (.cons (h1.same (same_new ht _)).dp .nil))
    · refine ⟨true, T.te, fun _ a ha => ?_, fun z => by cases z⟩
      refine ⟨_, rfl, rfl, .ref B, .ref B, true, dd, _, rfl, rfl, e1, fun u r => r, kB, _, rfl, ?_⟩
      refine iteT ⟨_, rfl, rfl, .ref C2, .ref C2, false, dd, _, rfl, rfl, e1, fun u r => r, k2, _, rfl, ?_⟩
      refine iteT ⟨_, rfl, rfl, rfl, dd, _, .int k, rfl, e1, rfl, by show 2 ≤ sizeLine; decide, fun t ht => ?_⟩
      refine q _ _ (s1.trans (same_new ht _)) ?_
      rw [e]
      exact .tup (SqT.of upd_same) (.cons (.str _) (.cons (.int k) .nil))
abbrev s__law_read : Stmt := top 46
theorem sc__law_read : FnScope ["text", "e"] ["text"] (defScope s__law_read) := ⟨rfl, rfl, rfl, by decide +kernel, rfl, by decide +kernel, by decide +kernel⟩
def spLRead (K : PySem.W.Frag) : Sp := fun vs H Q _ => ∃ (v : V) (d : PyData), vs = [v] ∧ Dp K H v d ∧ (∀ x, d = .str x → x.length ≤ 10000) ∧ ∀ u H', Same H H' → Dp K H' u (outD (rdT d)) → Q u H'
theorem ok_lread {f C fI B C2 : Addr} {fd : FuncData} (F : Fun K "_law_read" "_law_read" s__law_read f fd) (T : ErrC K mg "InvalidText" C fI) (TI : IsC K C) (gB : mg "BellError" = some (.ref B)) (g2 : mg "InvalidCurve" = some (.ref C2)) (kB : PySem.W.kitOne K (.ref C) (.ref B) = some true) (k2 : PySem.W.kitOne K (.ref C) (.ref C2) = some false)
    (C_read_curve : Cg P w K mg base (L2.CX P w) "read_curve" ["text"] [] 2 (spRdc K C)) (n_isinstance : mg "isinstance" = none) : FnG P w K mg base CX0 3 f fd ["text"] (spLRead K) := by
  refine go_ok F sc__law_read (fun vs H Q E h => ?_) (fun cdv A outer s H vs Q E hr fr h => ?_)
  · obtain ⟨_, _, rfl, _⟩ := h
    rfl
  · obtain ⟨v, d, rfl, hd, hx, q⟩ := h
    refine ⟨_, (pss_one (ps_try_as (i := 1) rfl rfl sc__law_read.nd rfl rfl ⟨rfl, by decide, .inl T.gC⟩ takes0 (fun W pn xe tk _ => pss_one (ps_ret (pe_tup (pa_cons pe_str (pa_cons (pe_goS C_read_curve (hr.mono (by decide)) fr (fun σ => passAt tk σ) rfl (pa_cons (pv 0) pa_nil)) pa_nil)))))
      (fun a oe cls d pn hz hf => pss_one (ps_ret (pe_tup (pa_cons (pe_ifExp (PW.pt (pw_and (pt_val (pe_callB (call_isAt TI hz hf) (by rfl) n_isinstance (by decide +kernel) (pa_cons (pv 1) (pa_cons (pe_glob (v := .ref B) (by rfl) gB rfl) pa_nil)))) (pw_and1 (pt_not (pt_val (pe_callB (call_isAt TI hz hf) (by rfl) n_isinstance (by decide +kernel) (pa_cons (pv 1) (pa_cons (pe_glob (v := .ref C2) (by rfl) g2 rfl) pa_nil)))))))) (pe_str) (pe_str)) (pa_cons (pe_xf T.xf T.noN hz hf (pv 1)) pa_nil))))))), ?_⟩
    refine ⟨_, rfl, v, d, rfl, hd, hx, fun l e u H1 s1 h1 => ?_, fun k e dd H1 s1 e1 => ?_⟩
    · refine ⟨by show 2 ≤ sizeLine; decide, fun t ht => q _ _ (s1.trans (same_new ht _)) ?_⟩
      rw [e]
      exact .tup (SqT.of upd_same) (.cons (.str _) (.cons (h1.same (same_new ht _)).dp .nil))
    · refine ⟨true, T.te, fun _ a ha => ?_, fun z => by cases z⟩
      refine ⟨_, rfl, rfl, .ref B, .ref B, true, dd, _, rfl, rfl, e1, fun u r => r, kB, _, rfl, ?_⟩
      refine iteT ⟨_, rfl, rfl, .ref C2, .ref C2, false, dd, _, rfl, rfl, e1, fun u r => r, k2, _, rfl, ?_⟩
      refine iteT ⟨_, rfl, rfl, rfl, dd, _, .int k, rfl, e1, rfl, by show 2 ≤ sizeLine; decide, fun t ht => ?_⟩
      refine q _ _ (s1.trans (same_new ht _)) ?_
      rw [e]
      exact .tup (SqT.of upd_same) (.cons (.str _) (.cons (.int k) .nil))
end
end Kc

namespace Kc
open PySem PySem.Spec PyProof.Rows L2 Hb Gu Tx Xb En M3 RZ RT
variable {K : PySem.W.Frag}
/-! ### words of integers -/
theorem val_zero {l : List Nat} (h : okW l = true) : valW l = 0 ↔ l = [48] := by
  obtain ⟨h1, h2, h3⟩ := okW_ok h
  have hh : (decide ((figs l).head? = some 48) && !decide (l = [48])) = false := by
    unfold okW at h
    rw [Bool.and_eq_true, Bool.and_eq_true, Bool.and_eq_true] at h
    have t := h.2.2.2
    rw [Bool.not_eq_true'] at t
    exact t
  constructor
  · intro e
    by_cases c : l = [48]
    · exact c
    · exfalso
      rw [decide_eq_false c, Bool.not_false, Bool.and_true, decide_eq_false_iff_not] at hh
      have key : ∀ t : List Nat, t = figs l → NumText.digitsVal t ≠ 0 := fun t ht => by
        cases t with
        | nil => rw [← ht] at h1; exact absurd h1 (by decide)
        | cons a r =>
          rw [← ht] at hh h3
          have ha : isD a = true := (List.all_eq_true.mp h3) a List.mem_cons_self
          unfold isD at ha
          rw [Bool.and_eq_true, decide_eq_true_eq, decide_eq_true_eq] at ha
          have : a ≠ 48 := fun z => hh (by rw [z]; rfl)
          have := NumText.digitsVal_pos (c := a) (cs := r) (by omega)
          omega
      unfold valW at e
      split at e
      · next r =>
        have := key r rfl
        omega
      · next t hne =>
        have := key l (by
          unfold figs
          split
          · next r => exact absurd rfl (hne r)
          · rfl)
        omega
  · rintro rfl
    rfl
theorem numL_head (n : Nat) (h : 1 ≤ n) : ∃ c r, TL.numL n = c :: r ∧ 49 ≤ c := by
  induction n using Nat.strongRecOn with
  | _ n ih =>
    by_cases c : n < 10
    · exact ⟨48 + n, [], TL.numL_lt c, by omega⟩
    · obtain ⟨a, r, e, ha⟩ := ih (n / 10) (by omega) (by omega)
      exact ⟨a, r ++ [48 + n % 10], by rw [TL.numL_step (by omega), e]; rfl, ha⟩
theorem numL_all (n : Nat) : (TL.numL n).all isD = true := List.all_eq_true.mpr fun c hc => by
  have := TL.numL_digits n c hc
  unfold isD
  rw [decide_eq_true this.1, decide_eq_true this.2]
  rfl
theorem num45 (n : Nat) : ∀ r, TL.numL n ≠ 45 :: r := fun r e => by
  have := TL.numL_digits n 45 (by rw [e]; exact List.mem_cons_self)
  omega
theorem wpart_num {n : Nat} (h : n < 10 ^ 9) : wpart (TL.numL n) = some (n : Int) := by
  have ef : figs (TL.numL n) = TL.numL n := by
    unfold figs
    split
    · next r e => exact absurd e (num45 n r)
    · rfl
  have ev : valW (TL.numL n) = (n : Int) := by
    unfold valW
    split
    · next r e => exact absurd e (num45 n r)
    · rw [TL.numL_val]
  have l1 : 1 ≤ (TL.numL n).length := by
    have := TL.numL_ne n
    cases e : TL.numL n with
    | nil => exact absurd e this
    | cons _ _ => simp
  have ok : okW (TL.numL n) = true := by
    unfold okW
    rw [ef, decide_eq_true l1, decide_eq_true (TL.numL_len (by decide) h), numL_all]
    by_cases c : n = 0
    · subst c; rfl
    · obtain ⟨a, r, e, ha⟩ := numL_head n (by omega)
      rw [e]
      have : decide ((a :: r).head? = some 48) = false := decide_eq_false fun z => by
        have := Option.some.inj z
        omega
      rw [this]; rfl
  unfold wpart
  rw [if_pos ok, ev]
theorem wpart_neg {n : Nat} (h0 : 1 ≤ n) (h : n < 10 ^ 9) : wpart (45 :: TL.numL n) = some (-(n : Int)) := by
  have l1 : 1 ≤ (TL.numL n).length := by
    have := TL.numL_ne n
    cases e : TL.numL n with
    | nil => exact absurd e this
    | cons _ _ => simp
  obtain ⟨a, r, e, ha⟩ := numL_head n h0
  have ok : okW (45 :: TL.numL n) = true := by
    unfold okW
    show (decide (1 ≤ (TL.numL n).length) && (decide ((TL.numL n).length ≤ 9) && ((TL.numL n).all isD && !(decide ((TL.numL n).head? = some 48) && !decide (45 :: TL.numL n = [48]))))) = true
    rw [decide_eq_true l1, decide_eq_true (TL.numL_len (by decide) h), numL_all, e]
    have : decide ((a :: r).head? = some 48) = false := decide_eq_false fun z => by
      have := Option.some.inj z
      omega
    rw [this]; rfl
  unfold wpart
  rw [if_pos ok]
  show some (-((NumText.digitsVal (TL.numL n) : Nat) : Int)) = _
  rw [TL.numL_val]
theorem tl_int (i : Int) : tl (Str.ofString (toString i)) = if i < 0 then 45 :: TL.numL i.natAbs else TL.numL i.natAbs := by
  cases i with
  | ofNat n =>
    rw [if_neg (by show ¬ ((n : Int) < 0); omega)]
    exact TL.tl_num n
  | negSucc n =>
    rw [if_pos (Int.negSucc_lt_zero n)]
    have e : toString (Int.negSucc n) = "-" ++ (n + 1).repr := rfl
    have h : tl (Str.ofString (toString (Int.negSucc n))) = (toString (Int.negSucc n)).toList.map Char.toNat := TL.tl_ofString _
    rw [h, e, String.toList_append, List.map_append, Nat.toList_repr]
    rfl
theorem wpart_int {i : Int} (h : i.natAbs < 10 ^ 9) : wpart (tl (Str.ofString (toString i))) = some i := by
  rw [tl_int]
  by_cases c : i < 0
  · rw [if_pos c, wpart_neg (by omega) h]
    congr 1
    omega
  · rw [if_neg c, wpart_num h]
    congr 1
    omega
theorem free32 (i : Int) : (32 : Nat) ∉ tl (Str.ofString (toString i)) := by
  rw [tl_int]
  have := TL.numL_free (n := i.natAbs) (s := 32) (.inl (by decide))
  by_cases c : i < 0
  · rw [if_pos c]
    intro h
    rcases List.mem_cons.mp h with z | z
    · cases z
    · exact this z
  · rw [if_neg c]
    exact this
theorem spl_join : ∀ {ps : List (List Nat)}, ps ≠ [] → (∀ p ∈ ps, (32 : Nat) ∉ p) → TL.spl [32] 0 [] (TL.joinL [32] ps) = ps
  | [], h, _ => absurd rfl h
  | [p], _, h => spl_no (h p List.mem_cons_self)
  | p :: q :: r, _, h => by
    show TL.spl [32] 0 [] (p ++ 32 :: TL.joinL [32] (q :: r)) = _
    rw [spl_yes (h p List.mem_cons_self), spl_join (by simp) fun t ht => h t (List.mem_cons_of_mem _ ht)]
theorem os_join {xs : List Str} (h0 : xs ≠ []) (h : ∀ x ∈ xs, (32 : Nat) ∉ tl x) : os (Txt.join (Str.ofString " ") xs) = xs.map fun x => wpart (tl x) := by
  have e : tl (Txt.join (Str.ofString " ") xs) = TL.joinL [32] (xs.map tl) := by
    show TL.tl (Txt.join (Str.ofString " ") xs) = _
    rw [TL.join_eq, TL.tl_join]
    rfl
  unfold os
  rw [e, spl_join (by simpa using h0) (fun p hp => by
    obtain ⟨x, hx, rfl⟩ := List.mem_map.mp hp
    exact h x hx), List.map_map]
  rfl
theorem firstNone_some : ∀ l : List Int, firstNone (l.map some) = none
  | [] => rfl
  | a :: l => by
    show (firstNone (l.map some)).map (· + 1) = none
    rw [firstNone_some l]; rfl
theorem gets_some (l : List Int) : gets (l.map some) = l := by
  unfold gets
  rw [List.map_map]
  exact List.map_id l
theorem ws_free {l : List Int} : ∀ x ∈ ws l, (32 : Nat) ∉ tl x := fun x hx => by
  unfold ws at hx
  by_cases c : l = []
  · rw [if_pos c] at hx
    rw [List.mem_singleton.mp hx]
    decide +kernel
  · rw [if_neg c] at hx
    obtain ⟨i, _, rfl⟩ := List.mem_map.mp hx
    exact free32 i
theorem ws_ne (l : List Int) : ws l ≠ [] := by
  unfold ws
  by_cases c : l = []
  · rw [if_pos c]; simp
  · rw [if_neg c]; simpa using c
theorem read_back {l : List Int} (hc : Cn l) (hl : ∀ i ∈ l, i.natAbs < 10 ^ 9) : rdT (.str (cText l)) = .inr l := by
  show rdo (os (Txt.join (Str.ofString " ") (ws l))) = _
  rw [os_join (ws_ne l) ws_free]
  by_cases c : l = []
  · subst c
    show rdo ([Str.ofString "0"].map fun x => wpart (tl x)) = .inr []
    have : wpart (tl (Str.ofString "0")) = some 0 := by decide +kernel
    show rdo [wpart (tl (Str.ofString "0"))] = _
    rw [this]
    rfl
  · have e : (ws l).map (fun x => wpart (tl x)) = l.map some := by
      unfold ws
      rw [if_neg c, List.map_map]
      exact List.map_congr_left fun i hi => wpart_int (hl i hi)
    rw [e]
    unfold rdo
    rw [firstNone_some, gets_some]
    show (if _ then _ else _) = _
    rw [if_neg, show trim l = l from hc]
    rintro ⟨_, z⟩
    rcases (cn_iff l).mp hc with h | h
    · exact c h
    · exact h z
section
variable {P : Program} {w : World} {mg : Str → Option Value} {base : Heap}
/-! ### _law_is_word -/
abbrev s__law_is_word : Stmt := top 47
theorem sc__law_is_word : FnScope ["word", "figures", "sign"] ["word"] (defScope s__law_is_word) := ⟨rfl, rfl, rfl, by decide +kernel, rfl, by decide +kernel, by decide +kernel⟩
def spIsWord : Sp := fun vs H Q _ => ∃ x : Str, vs = [.str x] ∧ x.length ≤ 10000 ∧ okS x ∧ ∀ H', Same H H' → Q (.bl (okW (tl x))) H'
theorem ok_isWord {f : Addr} {fd : FuncData} (F : Fun K "_law_is_word" "_law_is_word" s__law_is_word f fd) (n_len : mg "len" = none) : FnG P w K mg base CX0 1 f fd ["word"] spIsWord := by
  refine go_ok F sc__law_is_word (fun vs H Q E h => ?_) (fun cdv A outer s H vs Q E hr fr h => ?_)
  · obtain ⟨_, rfl, _⟩ := h
    rfl
  · obtain ⟨x, rfl, hx, okx, q⟩ := h
    refine ⟨_, (Evl.pss_cut (ps_set (i := 1) sc__law_is_word.nd rfl (Or.inl rfl) (pe_ifExp (pt_cmpR op_eq (pe_slice sl_str (pv 0) po_none (po_some (pe_int))) (pe_str) (nomark _)) (pe_slice sl_str (pv 0) (po_some (pe_int)) po_none) (pv 0)))
    (Evl.pss_cut (ps_if (PW.pt (pw_or (pt_cmpR op_lt (pe_callB call_len_str (by rfl) n_len PySem.boot_len (pa_cons (pv 1) pa_nil)) (pe_int) (nomark _)) (pw_or (pt_cmpR op_gt (pe_callB call_len_str (by rfl) n_len PySem.boot_len (pa_cons (pv 1) pa_nil)) (pe_int) (nomark _)) (pw_or1 (pt_cmpR (op_neD hr.units) (pe_lc (own := [("sign", 2)]) (g := gName 2) rfl sc__law_is_word.nd (pi_str (pv 1)) (blkOk_by (N := ["word", "figures", "sign"]) (sc := defScope s__law_is_word) (by decide +kernel)) (fun _ _ _ _ _ => pg_name (i := 2) sc__law_is_word.nd rfl (Or.inl rfl)) (fun _ _ _ _ _ => pts_one (pt_cmpR op_notIn_sign (pv 2) (pe_str) rfl)) (fun _ _ _ _ _ => pv 2)) (pe_lst pa_nil) (nomark _)))))) (pss_one (ps_ret (pe_bl))) pss_nil)
    (pss_one (ps_ret (pe_or (pe_cmpR op_eq (pv 0) (pe_str) (nomark _)) (pe_one (pe_cmpR op_ne (pe_ix ix_str (pv 1) (pe_int) (fun _ _ => rfl)) (pe_str) (nomark _)))))))), ?_⟩
    have hxl := len_tl x
    have hline : ∀ {n : Nat}, n ≤ 10000 → n ≤ sizeLine := fun h => Nat.le_trans h (by decide)
    have s45 : Str.ofString "-" = c1 45 := by rfl
    have s48 : Str.ofString "0" = c1 48 := by rfl
    refine ⟨fun σ H' => ∃ y : Str, σ = [some (.str x), some (.str y), none] ∧ H' = H ∧ tl y = figs (tl x), ?_, ?_⟩
    · refine ⟨_, rfl, 1, rfl, x, rfl, hline hx, rfl, _, rfl, ?_⟩
      rw [s45, str_eq]
      have z1 : tl (cutS x none (some 1)) = (tl x).take 1 := cut_to x 1
      have z2 : tl (cutS x (some 1) none) = (tl x).drop 1 := cut_from x 1
      rw [z1]
      refine iteD (fun c => ?_) (fun c => ?_)
      · refine ⟨_, rfl, 1, rfl, x, rfl, hline hx, cutS x (some 1) none, rfl, rfl, ?_⟩
        rw [z2]
        cases e : tl x with
        | nil => rw [e] at c; cases c
        | cons a r =>
          rw [e] at c
          have : a = 45 := by simpa using c
          subst this
          rfl
      · refine ⟨_, rfl, x, rfl, rfl, ?_⟩
        unfold figs
        split
        · next r e => rw [e] at c; exact absurd rfl c
        · rfl
    · rintro σ H' ⟨y, rfl, rfl, ey⟩
      have hyl := len_tl y
      rw [ey] at hyl
      have fl := figs_len (tl x)
      have no : okW (tl x) = false → ∀ H2, Same H' H2 → Q (.bl false) H2 := fun z H2 h2 => by
        have := q H2 h2
        rw [z] at this
        exact this
      have okf : okC (figs (tl x)) := fun c hc => by
        refine okx c ?_
        unfold figs at hc
        split at hc
        · next r e => rw [e]; exact List.mem_cons_of_mem _ hc
        · exact hc
      refine ⟨fun σ H2 => σ = [some (.str x), some (.str y), none] ∧ Same H' H2 ∧ (1 ≤ (figs (tl x)).length ∧ (figs (tl x)).length ≤ 9) ∧ (figs (tl x)).all isD = true, ?_, ?_⟩
      · refine ⟨_, rfl, y, rfl, hline (by omega), _, _, rfl, rfl, _, rfl, ?_⟩
        refine iteD (fun c => ?_) (fun c => ?_)
        · refine iteT (no ?_ H' (Evl.Ex.refl _))
          unfold okW
          rw [decide_eq_false (show ¬ 1 ≤ (figs (tl x)).length by omega)]
          rfl
        refine ⟨_, rfl, y, rfl, hline (by omega), _, _, rfl, rfl, _, rfl, ?_⟩
        refine iteD (fun c2 => ?_) (fun c2 => ?_)
        · refine iteT (no ?_ H' (Evl.Ex.refl _))
          unfold okW
          rw [decide_eq_false (show ¬ (figs (tl x)).length ≤ 9 by omega)]
          cases decide (1 ≤ (figs (tl x)).length) <;> rfl
        refine ⟨_, rfl, y, rfl, fun D hD => lc_str (fun i H2 => Same H' H2 ∧ H2 D = some (.lst (sgs (((figs (tl x)).take i).filter fun c => !isD c)))) ?_ ?_ ?_⟩
        · exact ⟨same_new hD _, upd_same⟩
        · rintro i c H2 hi ⟨h1, h2⟩
          rw [ey] at hi
          refine ⟨rfl, _, rfl, c, Str.ofString "0123456789", rfl, rfl, _, rfl, ?_⟩
          rw [isD_mem]
          cases z : isD c with
          | true =>
            refine iteF ⟨h1, ?_⟩
            rw [h2, List.take_add_one, hi, List.filter_append]
            simp [z]
          | false =>
            refine iteT ⟨_, rfl, _, h2, ?_, Evl.Ex.mut h1 hD, ?_⟩
            · refine Nat.lt_of_le_of_lt (m := 10) ?_ (by decide)
              unfold sgs
              rw [List.length_map]
              refine Nat.le_trans (List.length_filter_le _ _) ?_
              rw [List.length_take]
              omega
            · rw [upd_same, List.take_add_one, hi, List.filter_append]
              simp [z, sgs]
        · rintro H2 ⟨h1, h2⟩
          rw [ey, List.take_length] at h2
          refine ⟨by show 0 ≤ sizeLine; exact Nat.zero_le _, fun l hl => ?_⟩
          have s3 := same_new hl (.lst [])
          have e3 : (upd H2 l (.lst [])) l = some (.lst []) := upd_same
          generalize upd H2 l (.lst []) = H3 at s3 e3 ⊢
          have sh : okC ((figs (tl x)).filter fun c => !isD c) := fun c hc => okf c (List.mem_filter.mp hc).1
          refine ⟨.list (sgD ((figs (tl x)).filter fun c => !isD c)), .list [], .lst (SqL.of (s3 _ _ h2)) (sgs_dp _), .lst (SqL.of e3) .nil, sgs_shaped _ sh, rfl, _, rfl, ?_⟩
          rw [sgs_eqv]
          cases z : ((figs (tl x)).filter fun c => !isD c).isEmpty with
          | true =>
            refine iteF ⟨rfl, h1.trans s3, ⟨by omega, by omega⟩, ?_⟩
            refine List.all_eq_true.mpr fun c hc => ?_
            have := List.isEmpty_iff.mp z
            rw [List.filter_eq_nil_iff] at this
            simpa using this c hc
          | false =>
            refine iteT (no ?_ H3 (h1.trans s3))
            have ha : (figs (tl x)).all isD = false := by
              rw [Bool.eq_false_iff]
              intro t
              have : ((figs (tl x)).filter fun c => !isD c) = [] := List.filter_eq_nil_iff.mpr fun c hc => by simp [List.all_eq_true.mp t c hc]
              rw [this] at z
              cases z
            unfold okW
            rw [ha]
            cases decide (1 ≤ (figs (tl x)).length) <;> cases decide ((figs (tl x)).length ≤ 9) <;> rfl
      · rintro σ H2 ⟨rfl, h2, ⟨h1, h9⟩, hd⟩
        have okx' : okW (tl x) = !(decide ((figs (tl x)).head? = some 48) && !decide (tl x = [48])) := by
          unfold okW
          rw [decide_eq_true h1, decide_eq_true h9, hd]
          rfl
        obtain ⟨a, r, er⟩ : ∃ a r, figs (tl x) = a :: r := by
          cases e : figs (tl x) with
          | nil => rw [e] at h1; exact absurd h1 (by decide)
          | cons a r => exact ⟨a, r, rfl⟩
        have ey' : tl y = a :: r := by rw [ey, er]
        have at0 : atI y.cps.toList 0 = some a := by
          show atI (tl y) 0 = some a
          rw [ey']
          exact atI_nat (j := 0) rfl
        have qq := q H2 h2
        rw [okx'] at qq
        refine ⟨_, rfl, rfl, _, rfl, ?_⟩
        show if decide (V.str x = V.str (Str.ofString "0")) = true then _ else _
        rw [s48, str_eq]
        cases e2 : decide (tl x = [48]) with
        | true =>
          rw [e2, Bool.not_true, Bool.and_false] at qq
          exact iteT qq
        | false =>
          rw [e2, Bool.not_false, Bool.and_true] at qq
          refine iteF ⟨_, rfl, y, 0, a, rfl, rfl, hline (by omega), at0, rfl, ?_⟩
          have e48 : decide (V.str ⟨#[a]⟩ = V.str (c1 48)) = decide ((figs (tl x)).head? = some 48) := by
            rw [str_eq, er]
            show decide ([a] = [48]) = decide (some a = some 48)
            exact decide_eq_decide.mpr (by simp)
          show Q (V.bl (!decide (V.str ⟨#[a]⟩ = V.str (Str.ofString "0")))) H2
          rw [s48, e48]
          exact qq
end
end Kc

namespace Kc
open PySem PySem.Spec PyProof.Rows L2 Hb Gu Tx Xb En M3 RZ RT
variable {K : PySem.W.Frag}
def wo (wl : List Str) : List (Option Int) := wl.map fun y => wpart (tl y)
theorem wo_some {wl : List Str} (h : firstNone (wo wl) = none) : ∀ y ∈ wl, okW (tl y) = true := by
  induction wl with
  | nil => intro y hy; cases hy
  | cons x wl ih =>
    have h' : firstNone (wpart (tl x) :: wo wl) = none := h
    cases e : wpart (tl x) with
    | none => rw [e] at h'; cases h'
    | some k =>
      rw [e] at h'
      have h2 : firstNone (wo wl) = none := by cases z : firstNone (wo wl) with
        | none => rfl
        | some j =>
          have h3 : (firstNone (wo wl)).map (· + 1) = none := h'
          rw [z] at h3; cases h3
      intro y hy
      rcases List.mem_cons.mp hy with rfl | hy
      · unfold wpart at e
        by_cases c : okW (tl y) = true
        · exact c
        · rw [if_neg c] at e; cases e
      · exact ih h2 y hy
section
variable {P : Program} {w : World} {mg : Str → Option Value} {base : Heap}
abbrev s__law_due : Stmt := top 48
theorem sc__law_due : FnScope ["words", "at", "word"] ["words"] (defScope s__law_due) := ⟨rfl, rfl, rfl, by decide +kernel, rfl, by decide +kernel, by decide +kernel⟩
def spDue (K : PySem.W.Frag) : Sp := fun vs H Q _ => ∃ (a : Addr) (wl : List Str), vs = [.ref a] ∧ H a = some (.lst (wl.map V.str)) ∧ (∀ y ∈ wl, y.length ≤ 10000 ∧ okS y) ∧ wl.length ≤ 1000 ∧ ∀ u H', Same H H' → Dp K H' u (outD (rdo (wo wl))) → Q u H'
theorem ok_due {f : Addr} {fd : FuncData} (F : Fun K "_law_due" "_law_due" s__law_due f fd) (C__law_is_word : Cg P w K mg base CX0 "_law_is_word" ["word"] [] 1 spIsWord) (C__law_short : Cg P w K mg base CX0 "_law_short" ["row"] [] 1 (spTrim K)) (n_enumerate : mg "enumerate" = none) (n_len : mg "len" = none) (n_int : mg "int" = none) : FnG P w K mg base CX0 2 f fd ["words"] (spDue K) := by
  refine go_ok F sc__law_due (fun vs H Q E h => ?_) (fun cdv A outer s H vs Q E hr fr h => ?_)
  · obtain ⟨_, _, rfl, _⟩ := h
    rfl
  · obtain ⟨a, wl, rfl, ha, hwl, hlen, q⟩ := h
    refine ⟨_, (pss_cons (ps_for PassesOwn.never rfl (pi_enum (by rfl) n_enumerate (pa_cons (pv 0) pa_nil)) (pg_tup rfl (pgs_cons (pg_name (i := 1) sc__law_due.nd rfl (Or.inl rfl)) (pgs_cons (pg_name (i := 2) sc__law_due.nd rfl (Or.inl rfl)) pgs_nil)))
      (pss_one (ps_if (pt_not (pt_val (pe_go C__law_is_word (hr.mono (by decide)) fr rfl (pa_cons (pv 2) pa_nil)))) (pss_one (ps_ret (pe_tup (pa_cons (pe_str) (pa_cons (pv 1) pa_nil))))) pss_nil)))
    (Evl.pss_cut (ps_if (PW.pt (pw_and (pt_cmpR op_gt (pe_callB call_len_seq (by rfl) n_len PySem.boot_len (pa_cons (pv 0) pa_nil)) (pe_int) (nomark _)) (pw_and1 (pt_cmpR op_eq (pe_ix ix_list (pv 0) (pe_op op_sub (pe_callB call_len_seq (by rfl) n_len PySem.boot_len (pa_cons (pv 0) pa_nil)) (pe_int)) (fun _ _ => rfl)) (pe_str) (nomark _))))) (pss_one (ps_ret (pe_tup (pa_cons (pe_str) (pa_cons (pe_op op_sub (pe_callB call_len_seq (by rfl) n_len PySem.boot_len (pa_cons (pv 0) pa_nil)) (pe_int)) pa_nil))))) pss_nil)
    (pss_one (ps_ret (pe_tup (pa_cons (pe_str) (pa_cons (pe_go C__law_short (hr.mono (by decide)) fr rfl (pa_cons (pe_lc (own := [("word", 2)]) (g := gName 2) rfl sc__law_due.nd (pi_list (pv 0)) (blkOk_by (N := ["words", "at", "word"]) (sc := defScope s__law_due) (by decide +kernel)) (fun _ _ _ _ _ => pg_name (i := 2) sc__law_due.nd rfl (Or.inl rfl)) (fun _ _ _ _ _ => pts_nil) (fun _ _ _ _ _ => pe_callTy call_int_str (by rfl) n_int (by decide +kernel) (pa_cons (pv 2) pa_nil))) pa_nil)) pa_nil))))))), ?_⟩
    refine ⟨_, rfl, a, _, rfl, SqL.of ha, ?_⟩
    have hwo : (wo wl).length = wl.length := by unfold wo; rw [List.length_map]
    refine for_any (n := wl.length) (fun i σ H' => Same H H' ∧ (∃ o1 o2, σ = [some (.ref a), o1, o2]) ∧ firstNone (wo wl) = (firstNone ((wo wl).drop i)).map (· + i)) ?_ ?_ ?_ ?_ ?_
    · exact ⟨Evl.Ex.refl _, ⟨none, none, rfl⟩, by rw [List.drop_zero]; cases firstNone (wo wl) <;> rfl⟩
    · rintro i σ H' hi ⟨s2, _⟩
      exact ⟨_, _, SqL.of (s2 _ _ ha), by rw [List.getElem?_map, List.getElem?_eq_getElem hi]; rfl⟩
    · rintro σ H' ⟨s2, _⟩
      exact ⟨_, SqL.of (s2 _ _ ha), by rw [List.length_map]; exact Nat.le_refl _⟩
    · rintro i σ H' y H2 hi ⟨s2, ⟨o1, o2, rfl⟩, e⟩ ⟨T, z, rfl, hT, rfl, fz⟩
      have ez := fz _ (SqL.of (s2 _ _ ha))
      rw [List.getElem?_map, List.getElem?_eq_getElem hi] at ez
      cases ez
      have s3 := same_new hT (.tup [.int (i : Nat), .str wl[i]])
      refine ⟨T, _, rfl, SqT.of upd_same, rfl, _, _, rfl, _, _, rfl, rfl, ?_⟩
      generalize upd H' T (.tup [.int (i : Nat), .str wl[i]]) = H3 at s3 ⊢
      have hi' : i < (wo wl).length := by omega
      rw [List.drop_eq_getElem_cons hi'] at e
      have ew : (wo wl)[i] = wpart (tl wl[i]) := by simp [wo]
      rw [ew] at e
      obtain ⟨w1, w2⟩ := hwl _ (List.getElem_mem hi)
      refine ⟨_, rfl, wl[i], rfl, w1, w2, fun H4 s4 => ⟨_, rfl, ?_⟩⟩
      cases c : okW (tl wl[i]) with
      | true =>
        have ep : wpart (tl wl[i]) = some (valW (tl wl[i])) := by unfold wpart; rw [if_pos c]
        rw [ep] at e
        refine iteF ⟨s2.trans (s3.trans s4), ⟨_, _, rfl⟩, ?_⟩
        rw [e]
        show ((firstNone ((wo wl).drop (i + 1))).map (· + 1)).map (· + i) = _
        rw [Option.map_map]
        congr 1
        funext k
        show k + 1 + i = k + (i + 1)
        omega
      | false =>
        have ep : wpart (tl wl[i]) = none := by unfold wpart; rw [c]; rfl
        rw [ep] at e
        have e2 : firstNone (wo wl) = some i := by
          rw [e]
          show some (0 + i) = some i
          rw [Nat.zero_add]
        refine iteT ⟨_, rfl, by show 2 ≤ sizeLine; decide, fun t ht => q _ _ ((s2.trans (s3.trans s4)).trans (same_new ht _)) ?_⟩
        have eo : rdo (wo wl) = .inl (i : Nat) := by unfold rdo; rw [e2]
        rw [eo]
        exact .tup (SqT.of upd_same) (.cons (.str _) (.cons (.int _) .nil))
    · rintro σ H' ⟨s2, ⟨o1, o2, rfl⟩, e⟩
      rw [show wl.length = (wo wl).length from hwo.symm, List.drop_length] at e
      have e2 : firstNone (wo wl) = none := e
      have allok := wo_some e2
      have ha' := s2 _ _ ha
      have lg : (gets (wo wl)).length = wl.length := by unfold gets; rw [List.length_map, hwo]
      have er : rdo (wo wl) = if 1 < (wo wl).length ∧ (gets (wo wl)).getLast? = some 0 then .inl (((wo wl).length : Int) - 1) else .inr (trim (gets (wo wl))) := by unfold rdo; rw [e2]
      rw [hwo] at er
      have gi : ∀ (i : Nat) (hi : i < wl.length), (gets (wo wl))[i]? = some (valW (tl wl[i])) := fun i hi => by
        unfold gets wo
        rw [List.map_map, List.getElem?_map, List.getElem?_eq_getElem hi]
        show some ((wpart (tl wl[i])).getD 0) = _
        unfold wpart
        rw [if_pos (allok _ (List.getElem_mem hi))]
        rfl
      have lastI : ∀ (hp : 0 < wl.length), ((gets (wo wl)).getLast? = some 0 ↔ wl[wl.length - 1] = Str.ofString "0") := fun hp => by
        rw [List.getLast?_eq_getElem?, lg, gi _ (by omega)]
        have vz := val_zero (allok _ (List.getElem_mem (show wl.length - 1 < wl.length by omega)))
        constructor
        · intro t
          exact ext (vz.mp (Option.some.inj t))
        · intro t
          rw [vz.mpr (by rw [t]; rfl)]
      have fin : ¬ (1 < wl.length ∧ (gets (wo wl)).getLast? = some 0) → rdo (wo wl) = .inr (trim (gets (wo wl))) := fun c => by rw [er, if_neg c]
      refine ⟨fun σ H2 => σ = [some (.ref a), o1, o2] ∧ H2 = H' ∧ rdo (wo wl) = .inr (trim (gets (wo wl))), ?_, ?_⟩
      · refine ⟨_, rfl, a, _, rfl, .inl (SqL.of ha'), _, _, rfl, rfl, _, rfl, ?_⟩
        rw [List.length_map]
        refine iteD (fun c => ?_) (fun c => ⟨rfl, rfl, fin fun t => c (by omega)⟩)
        have hl : wl.length - 1 < wl.length := by omega
        refine ⟨_, rfl, _, rfl, a, _, rfl, .inl (SqL.of ha'), _, _, rfl, rfl, a, _, _, .str wl[wl.length - 1], rfl, rfl, SqL.of ha', ?_, rfl, _, rfl, ?_⟩
        · rw [List.length_map, show (wl.length : Int) - 1 = ((wl.length - 1 : Nat) : Int) by omega]
          exact atI_nat (by rw [List.getElem?_map, List.getElem?_eq_getElem hl]; rfl)
        refine iteD (fun c2 => ?_) (fun c2 => ?_)
        · have cz := (lastI (by omega)).mpr (V.str.inj c2)
          rw [if_pos ⟨by omega, cz⟩] at er
          refine ⟨_, rfl, a, _, rfl, .inl (SqL.of ha'), _, _, rfl, rfl, by show 2 ≤ sizeLine; decide, fun t ht => q _ _ (s2.trans (same_new ht _)) ?_⟩
          rw [er, List.length_map]
          exact .tup (SqT.of upd_same) (.cons (.str _) (.cons (.int _) .nil))
        · exact ⟨rfl, rfl, fin fun t => c2 (by rw [(lastI (by omega)).mp t.2])⟩
      · rintro σ H2 ⟨rfl, rfl, eo⟩
        refine ⟨_, rfl, a, rfl, ⟨_, SqL.of ha'⟩, fun D hD => ?_⟩
        refine lc_list (xs := wl.map V.str) (fun i H3 => Same H2 H3 ∧ H3 D = some (.lst (iv ((gets (wo wl)).take i)))) ?_ (fun i H3 _ h => SqL.of (h.1 _ _ ha')) ?_ ?_
        · exact ⟨same_new hD _, upd_same⟩
        · rintro i y H3 hi ⟨h1, h2⟩
          have hi' : i < wl.length := by
            have := (List.getElem?_eq_some_iff.mp hi).1
            rw [List.length_map] at this
            exact this
          rw [List.getElem?_map, List.getElem?_eq_getElem hi'] at hi
          cases hi
          obtain ⟨i1, i2⟩ := int_word (allok _ (List.getElem_mem hi'))
          refine ⟨rfl, _, rfl, wl[i], _, rfl, i1, i2, _, h2, ?_, Evl.Ex.mut h1 hD, ?_⟩
          · rw [List.length_map, List.length_take]
            exact Nat.lt_of_le_of_lt (m := 1000) (by omega) (by decide)
          · rw [upd_same, List.take_add_one, gi i hi', iv_app]
            rfl
        · rintro H3 ⟨h1, h2⟩
          rw [List.length_map, ← lg, List.take_length] at h2
          refine ⟨_, _, rfl, ⟨D, rfl, .inl (SqL.of h2)⟩, fun u H4 s4 h4 => ?_⟩
          refine ⟨by show 2 ≤ sizeLine; decide, fun t ht => q _ _ ((s2.trans (h1.trans s4)).trans (same_new ht _)) ?_⟩
          rw [eo]
          exact .tup (SqT.of upd_same) (.cons (.str _) (.cons (h4.same (same_new ht _)).dp .nil))
end
end Kc

namespace Kc
open PySem PySem.Spec PyProof.Rows L2 Hb Gu Tx Xb En M3 RZ RT
variable {K : PySem.W.Frag}
/-! ### facts of the reckonings -/
theorem slp_zip (l : List Int) : (List.zipWith (fun (k : Nat) a => (k : Int) * a) (List.range l.length) l).length = l.length := by rw [List.length_zipWith, List.length_range]; omega
theorem slp_len (l : List Int) : (slp l).length = l.length - 1 := by unfold slp; rw [List.length_drop, slp_zip]
theorem slp_at {l : List Int} {i : Nat} (h : i + 1 < l.length) : (slp l)[i]? = some (((i + 1 : Nat) : Int) * l[i + 1]) := by
  unfold slp
  rw [List.getElem?_drop, Nat.add_comm 1 i]
  exact slp_get h
theorem slp_cn {l : List Int} (h : Cn l) : Cn (slp l) := by
  refine (cn_iff _).mpr ?_
  by_cases c : l.length ≤ 1
  · left
    exact List.length_eq_zero_iff.mp (by rw [slp_len]; omega)
  · right
    rw [List.getLast?_eq_getElem?, slp_len, show l.length - 1 - 1 = l.length - 2 by omega, slp_at (show l.length - 2 + 1 < l.length by omega)]
    intro z
    have z := Option.some.inj z
    rcases Int.mul_eq_zero.mp z with y | y
    · omega
    · rcases (cn_iff l).mp h with h2 | h2
      · rw [h2] at c; exact c (by decide)
      · refine h2 ?_
        rw [List.getLast?_eq_getElem?, show l.length - 1 = l.length - 2 + 1 by omega, List.getElem?_eq_getElem (by omega), y]
theorem ev_neg (l : List Int) (x : Int) : ev (l.map fun c => 0 - c) x = -ev l x := by
  induction l with
  | nil => rfl
  | cons a l ih =>
    show 0 - a + x * ev (l.map fun c => 0 - c) x = -(a + x * ev l x)
    rw [ih]
    grind
theorem hw_size {a b : Int} (ha : a.natAbs < 2 ^ 15) (hb : b.natAbs < 2 ^ 15) : ∀ l : List Int, l.length ≤ 5 → M3.Le (2 ^ 15) l → (hw a b l).natAbs < 2 ^ (80 + 16 * l.length)
  | [], _, _ => by
    show (0 : Int).natAbs < 2 ^ (80 + 16 * 0)
    decide
  | c :: l, h5, h => by
    have ih := hw_size ha hb l (by simp only [List.length_cons] at h5; omega) fun d hd => h d (List.mem_cons_of_mem _ hd)
    have hc : c.natAbs < 2 ^ 16 := Nat.lt_of_le_of_lt (h c List.mem_cons_self) (by decide)
    have w1 := wide_lt hc (pow_small (k := l.length) hb)
    have w2 := wide_lt ha ih
    simp only [List.length_cons] at h5
    have v1 : (c * b ^ l.length).natAbs < 2 ^ (80 + 16 * l.length + 15) := Nat.lt_of_lt_of_le w1 (Nat.pow_le_pow_right (by decide) (by omega))
    have v2 : (a * hw a b l).natAbs < 2 ^ (80 + 16 * l.length + 15) := Nat.lt_of_lt_of_le w2 (Nat.pow_le_pow_right (by decide) (by omega))
    have := add_small v1 v2
    show (c * b ^ l.length + a * hw a b l).natAbs < 2 ^ (80 + 16 * (l.length + 1))
    exact Nat.lt_of_lt_of_le this (Nat.pow_le_pow_right (by decide) (by omega))
/-! repr of rows -/
theorem show_ints : ∀ {l : List Int}, (∀ i ∈ l, i.natAbs < 2 ^ 200) → PyData.showableAll (l.map PyData.int) = true ∧ PyData.hasDictAll (l.map PyData.int) = false ∧ ((PyData.shownAll (l.map PyData.int)).map (·.length)).sum ≤ 201 * l.length ∧ (PyData.shownAll (l.map PyData.int)).length = l.length
  | [], _ => ⟨rfl, rfl, Nat.le_refl _, rfl⟩
  | i :: l, h => by
    obtain ⟨h1, h2, h3, h4⟩ := show_ints (l := l) fun j hj => h j (List.mem_cons_of_mem _ hj)
    have hi := h i List.mem_cons_self
    refine ⟨?_, ?_, ?_, ?_⟩
    · show (PyData.showable (.int i) && PyData.showableAll (l.map PyData.int)) = true
      rw [sh_int hi, h1]; rfl
    · show (false || PyData.hasDictAll (l.map PyData.int)) = false
      rw [h2]; rfl
    · show (Str.ofString (toString i)).length + ((PyData.shownAll (l.map PyData.int)).map (·.length)).sum ≤ 201 * (l.length + 1)
      have := (tlen hi).2
      omega
    · show (PyData.shownAll (l.map PyData.int)).length + 1 = l.length + 1
      rw [h4]
theorem repr_cv {l : List Int} (h : ∀ i ∈ l, i.natAbs < 2 ^ 200) (h5 : l.length ≤ 100) : PyData.showable (dC l) = true ∧ PyData.hasDict (dC l) = false ∧ PyData.depth (dC l) < 40 ∧ (PyData.shown (dC l)).length ≤ sizeLine := by
  obtain ⟨h1, h2, h3, h4⟩ := show_ints h
  refine ⟨h1, h2, ?_, ?_⟩
  · show PyData.depthAll (l.map PyData.int) + 1 < 40
    rw [(ints_lay l).2]; decide
  · have t := tupleText_len_le (PyData.shownAll (l.map PyData.int))
    rw [h4] at t
    exact Nat.le_trans (show (PyData.shown (dC l)).length ≤ 100000 from Nat.le_trans t (by omega)) (by decide)
/-! signs -/
def sgl (l : List Int) : List Int := (l.filter fun i => decide (i ≠ 0)).map Int.sign
theorem sgl_head : ∀ l : List Int, (sgl l).head?.getD 0 = fsg l
  | [] => rfl
  | a :: l => by
    unfold sgl fsg
    rw [List.filter_cons]
    by_cases c : a ≠ 0
    · rw [if_pos (decide_eq_true c), if_pos c]; rfl
    · rw [if_neg (by simpa using c), if_neg c]
      exact sgl_head l
theorem sgl_last {l : List Int} {a : Int} (h : l.getLast? = some a) (h0 : a ≠ 0) : (sgl l).getLast? = some a.sign := by
  obtain ⟨r, rfl⟩ : ∃ r, l = r ++ [a] := by
    have := List.getLast?_eq_some_iff.mp h
    exact this
  unfold sgl
  rw [List.filter_append, List.map_append]
  have : [a].filter (fun i => decide (i ≠ 0)) = [a] := by
    rw [List.filter_cons, if_pos (decide_eq_true h0)]; rfl
  rw [this]
  exact List.getLast?_concat
theorem sgn_le (i : Int) : i.sign.natAbs ≤ 1 := by
  rcases Int.lt_trichotomy i 0 with c | c | c
  · rw [Int.sign_eq_neg_one_of_neg c]; decide
  · subst c; decide
  · rw [Int.sign_eq_one_of_pos c]; decide
theorem fsg_le : ∀ l : List Int, (fsg l).natAbs ≤ 1
  | [] => by decide
  | a :: l => by
    unfold fsg
    by_cases c : a ≠ 0
    · rw [if_pos c]; exact sgn_le a
    · rw [if_neg c]; exact fsg_le l
theorem lsg_le (l : List Int) : (lsg l).natAbs ≤ 1 := by
  unfold lsg
  split
  · decide
  · exact sgn_le _
theorem due_of {l : List Int} (hc : Cn l) : (sgl l = [] → fsg l = 0 ∧ lsg l = 0) ∧ (sgl l ≠ [] → (sgl l)[0]? = some (fsg l) ∧ (sgl l)[(sgl l).length - 1]? = some (lsg l)) := by
  have hl : l ≠ [] → (sgl l).getLast? = some (lsg l) := fun n => by
    rcases (cn_iff l).mp hc with z | z
    · exact absurd z n
    · cases e : l.getLast? with
      | none => exact absurd (List.getLast?_eq_none_iff.mp e) n
      | some a =>
        have a0 : a ≠ 0 := fun t => z (by rw [e, t])
        have : lsg l = a.sign := by unfold lsg; rw [e]
        rw [this]
        exact sgl_last e a0
  have hh := sgl_head l
  constructor
  · intro e
    rw [e] at hh hl
    refine ⟨hh.symm, ?_⟩
    by_cases c : l = []
    · rw [c]; rfl
    · have := hl c
      cases this
  · intro n
    have c : l ≠ [] := fun z => n (by rw [z]; rfl)
    refine ⟨?_, by rw [← List.getLast?_eq_getElem?]; exact hl c⟩
    cases e : sgl l with
    | nil => exact absurd e n
    | cons a r =>
      rw [e] at hh
      rw [← hh]
      rfl
theorem sgl_len (l : List Int) : (sgl l).length ≤ l.length := by
  unfold sgl
  rw [List.length_map]
  exact List.length_filter_le _ _
section
variable {P : Program} {w : World} {mg : Str → Option Value} {base : Heap}
abbrev s__law_reckoned : Stmt := top 44
theorem sc__law_reckoned : FnScope ["one", "other", "many", "at", "back", "worth", "signs", "due", "number", "power"] ["one", "other", "many", "at"] (defScope s__law_reckoned) := ⟨rfl, rfl, rfl, by decide +kernel, rfl, by decide +kernel, by decide +kernel⟩
def spReck (K : PySem.W.Frag) : Sp := fun vs H Q _ => ∃ (v u o : V) (l m : List Int) (n a b : Int), vs = [v, u, .int n, o] ∧ IsCv K H v l ∧ IsCv K H u m ∧ IsR H o a b ∧ Cn l ∧ Cn m ∧ l.length ≤ 5 ∧ m.length ≤ 5 ∧ M3.Le (2 ^ 15) l ∧ M3.Le (2 ^ 15) m ∧ (-(2 ^ 15) < n ∧ n < 2 ^ 15) ∧ a.natAbs < 2 ^ 15 ∧ b.natAbs < 2 ^ 15 ∧ 0 < b ∧ ∀ H', Same H H' → Q (.bl true) H'
theorem ok_reck {f : Addr} {fd : FuncData} (F : Fun K "_law_reckoned" "_law_reckoned" s__law_reckoned f fd)
    (C_curve_plus : Cg P w K mg base CX0 "curve_plus" ["f", "g"] [] 2 (spPlus K)) (C__law_sum : Cg P w K mg base CX0 "_law_sum" ["one", "other"] [] 2 (spPlus K)) (C_curve_times : Cg P w K mg base CX0 "curve_times" ["f", "g"] [] 1 (spTimes K)) (C__law_product : Cg P w K mg base CX0 "_law_product" ["one", "other"] [] 2 (spProd K))
    (C_curve_minus : Cg P w K mg base CX0 "curve_minus" ["f", "g"] [] 3 (spMinus K)) (C_curve_scaled : Cg P w K mg base CX0 "curve_scaled" ["f", "n"] [] 2 (spScaled K)) (C__law_short : Cg P w K mg base CX0 "_law_short" ["row"] [] 1 (spTrim K)) (C_curve_slope : Cg P w K mg base CX0 "curve_slope" ["f"] [] 1 (spSlope K))
    (C_curve_moved : Cg P w K mg base CX0 "curve_moved" ["f", "n"] [] 1 (spMoved K)) (K_curve_moved : Ck P w K mg base "curve_moved" ["f", "n"] ["n", "f"] sw2 1 (spMoved K)) (C__law_behind : Cg P w K mg base CX0 "_law_behind" ["one", "other"] [] 3 (spBehind K))
    (C_curve_after : Cg P w K mg base CX0 "curve_after" ["f", "g"] [] 3 (spAfter K)) (K_curve_after : Ck P w K mg base "curve_after" ["f", "g"] ["g", "f"] sw2 3 (spAfter K)) (C__law_worth : Cg P w K mg base CX0 "_law_worth" ["row", "at"] [] 3 (spWorth K)) (C_curve_worth : Cg P w K mg base CX0 "curve_worth" ["f", "one"] [] 2 (spWorth K))
    (C_curve_sign : Cg P w K mg base CX0 "curve_sign" ["f", "one"] [] 2 (spCSign K)) (C__law_sign : Cg P w K mg base CX0 "_law_sign" ["number"] [] 1 spSign) (C_first_sign : Cg P w K mg base CX0 "first_sign" ["f"] [] 2 (spFirst K)) (C_last_sign : Cg P w K mg base CX0 "last_sign" ["f"] [] 2 (spLast K))
    (n_tuple : mg "tuple" = none) (n_range : mg "range" = none) (n_len : mg "len" = none) (n_repr : mg "repr" = none) :
    FnG P w K mg base CX0 4 f fd ["one", "other", "many", "at"] (spReck K) := by
  refine go_ok F sc__law_reckoned (fun vs H Q E h => ?_) (fun cdv A outer s H vs Q E hr fr h => ?_)
  · obtain ⟨_, _, _, _, _, _, _, _, rfl, _⟩ := h
    rfl
  · obtain ⟨v, u, o, l, m, n, a, b, rfl, hv, hu, ho, cl, cm, l5, m5, ll, lm, hn, ha, hb, b0, q⟩ := h
    refine ⟨_, (Evl.pss_cut (ps_if (PW.pt (pw_or (pt_cmpR (op_neD hr.units) (pe_go C_curve_plus (hr.mono (by decide)) fr rfl (pa_cons (pv 0) (pa_cons (pv 1) pa_nil))) (pe_go C__law_sum (hr.mono (by decide)) fr rfl (pa_cons (pv 0) (pa_cons (pv 1) pa_nil))) (nomark _)) (pw_or1 (pt_cmpR (op_neD hr.units) (pe_go C_curve_times (hr.mono (by decide)) fr rfl (pa_cons (pv 0) (pa_cons (pv 1) pa_nil))) (pe_go C__law_product (hr.mono (by decide)) fr rfl (pa_cons (pv 0) (pa_cons (pv 1) pa_nil))) (nomark _))))) (pss_one (ps_ret (pe_bl))) pss_nil)
    (Evl.pss_cut (ps_set (i := 4) sc__law_reckoned.nd rfl (Or.inl rfl) (pe_callTy call_tupO (by rfl) n_tuple (by decide +kernel) (pa_cons (pe_lc (own := [("number", 8)]) (g := gName 8) rfl sc__law_reckoned.nd (pi_tup (pv 1)) (blkOk_by (N := ["one", "other", "many", "at", "back", "worth", "signs", "due", "number", "power"]) (sc := defScope s__law_reckoned) (by decide +kernel)) (fun _ _ _ _ _ => pg_name (i := 8) sc__law_reckoned.nd rfl (Or.inl rfl)) (fun _ _ _ _ _ => pts_nil) (fun _ _ _ _ _ => pe_op op_sub (pe_int) (pv 8))) pa_nil)))
    (Evl.pss_cut (ps_if (PW.pt (pw_or (pt_cmpR (op_neD hr.units) (pe_go C_curve_minus (hr.mono (by decide)) fr rfl (pa_cons (pv 0) (pa_cons (pv 1) pa_nil))) (pe_go C__law_sum (hr.mono (by decide)) fr rfl (pa_cons (pv 0) (pa_cons (pv 4) pa_nil))) (nomark _)) (pw_or1 (pt_cmpR (op_neD hr.units) (pe_go C_curve_minus (hr.mono (by decide)) fr rfl (pa_cons (pv 0) (pa_cons (pv 0) pa_nil))) (pe_tup pa_nil) (nomark _))))) (pss_one (ps_ret (pe_bl))) pss_nil)
    (Evl.pss_cut (ps_if (pt_cmpR (op_neD hr.units) (pe_go C_curve_scaled (hr.mono (by decide)) fr rfl (pa_cons (pv 0) (pa_cons (pv 2) pa_nil))) (pe_go C__law_short (hr.mono (by decide)) fr rfl (pa_cons (pe_lc (own := [("number", 8)]) (g := gName 8) rfl sc__law_reckoned.nd (pi_tup (pv 0)) (blkOk_by (N := ["one", "other", "many", "at", "back", "worth", "signs", "due", "number", "power"]) (sc := defScope s__law_reckoned) (by decide +kernel)) (fun _ _ _ _ _ => pg_name (i := 8) sc__law_reckoned.nd rfl (Or.inl rfl)) (fun _ _ _ _ _ => pts_nil) (fun _ _ _ _ _ => pe_op op_mul (pv 2) (pv 8))) pa_nil)) (nomark _)) (pss_one (ps_ret (pe_bl))) pss_nil)
    (Evl.pss_cut (ps_if (pt_cmpR (op_neD hr.units) (pe_go C_curve_slope (hr.mono (by decide)) fr rfl (pa_cons (pv 0) pa_nil)) (pe_go C__law_short (hr.mono (by decide)) fr rfl (pa_cons (pe_lc (own := [("power", 9)]) (g := gName 9) rfl sc__law_reckoned.nd (pi_range2 (by rfl) n_range (pa_cons (pe_int) (pa_cons (pe_callB call_lenI (by rfl) n_len PySem.boot_len (pa_cons (pv 0) pa_nil)) pa_nil))) (blkOk_by (N := ["one", "other", "many", "at", "back", "worth", "signs", "due", "number", "power"]) (sc := defScope s__law_reckoned) (by decide +kernel)) (fun _ _ _ _ _ => pg_name (i := 9) sc__law_reckoned.nd rfl (Or.inl rfl)) (fun _ _ _ _ _ => pts_nil) (fun _ _ _ _ _ => pe_op op_mul (pv 9) (pe_ix (r := rIxI K) ix_I (pv 0) (pv 9) (fun _ _ => rfl)))) pa_nil)) (nomark _)) (pss_one (ps_ret (pe_bl))) pss_nil)
    (Evl.pss_cut (ps_if (PW.pt (pw_or (pt_cmpR (op_neD hr.units) (pe_go C_curve_moved (hr.mono (by decide)) fr rfl (pa_cons (pv 0) (pa_cons (pv 2) pa_nil))) (pe_go C__law_behind (hr.mono (by decide)) fr rfl (pa_cons (pv 0) (pa_cons (pe_go C__law_short (hr.mono (by decide)) fr rfl (pa_cons (pe_lst (pa_cons (pv 2) (pa_cons (pe_int) pa_nil))) pa_nil)) pa_nil))) (nomark _)) (pw_or1 (pt_cmpR (op_neD hr.units) (pe_goK K_curve_moved (hr.mono (by decide)) fr rfl (pk_cons (pv 2) (pk_cons (pv 0) pk_nil))) (pe_go C_curve_moved (hr.mono (by decide)) fr rfl (pa_cons (pv 0) (pa_cons (pv 2) pa_nil))) (nomark _))))) (pss_one (ps_ret (pe_bl))) pss_nil)
    (Evl.pss_cut (ps_if (PW.pt (pw_or (pt_cmpR op_ne (pe_callB (cr_repr fr hr.units) (by rfl) n_repr (by decide +kernel) (pa_cons (pe_go C_curve_after (hr.mono (by decide)) fr rfl (pa_cons (pv 0) (pa_cons (pv 1) pa_nil))) pa_nil)) (pe_callB (cr_repr fr hr.units) (by rfl) n_repr (by decide +kernel) (pa_cons (pe_go C__law_behind (hr.mono (by decide)) fr rfl (pa_cons (pv 0) (pa_cons (pv 1) pa_nil))) pa_nil)) (nomark _)) (pw_or1 (pt_cmpR (op_neD hr.units) (pe_goK K_curve_after (hr.mono (by decide)) fr rfl (pk_cons (pv 1) (pk_cons (pv 0) pk_nil))) (pe_go C_curve_after (hr.mono (by decide)) fr rfl (pa_cons (pv 0) (pa_cons (pv 1) pa_nil))) (nomark _))))) (pss_one (ps_ret (pe_bl))) pss_nil)
    (pss_cons (ps_set (i := 5) sc__law_reckoned.nd rfl (Or.inl rfl) (pe_go C__law_worth (hr.mono (by decide)) fr rfl (pa_cons (pv 0) (pa_cons (pv 3) pa_nil))))
    (Evl.pss_cut (ps_if (PW.pt (pw_or (pt_cmpR op_ne (pe_callB (cr_repr fr hr.units) (by rfl) n_repr (by decide +kernel) (pa_cons (pe_go C_curve_worth (hr.mono (by decide)) fr rfl (pa_cons (pv 0) (pa_cons (pv 3) pa_nil))) pa_nil)) (pe_callB (cr_repr fr hr.units) (by rfl) n_repr (by decide +kernel) (pa_cons (pv 5) pa_nil)) (nomark _)) (pw_or1 (pt_cmpR op_ne (pe_callB (cr_repr fr hr.units) (by rfl) n_repr (by decide +kernel) (pa_cons (pe_go C_curve_sign (hr.mono (by decide)) fr rfl (pa_cons (pv 0) (pa_cons (pv 3) pa_nil))) pa_nil)) (pe_callB (cr_repr fr hr.units) (by rfl) n_repr (by decide +kernel) (pa_cons (pe_go C__law_sign (hr.mono (by decide)) fr rfl (pa_cons (pe_ix ix_tup (pv 5) (pe_int) (fun _ _ => rfl)) pa_nil)) pa_nil)) (nomark _))))) (pss_one (ps_ret (pe_bl))) pss_nil)
    (Evl.pss_cut (ps_setLc (i := 6) (own := [("number", 8)]) (g := gName 8) (by rfl) sc__law_reckoned.nd rfl rfl (sw_true rfl rfl rfl (by decide +kernel)) (pi_tup (pv 0)) (blkOk_by (N := ["one", "other", "many", "at", "back", "worth", "signs", "due", "number", "power"]) (sc := defScope s__law_reckoned) (by decide +kernel)) (fun _ _ _ _ _ => pg_name (i := 8) sc__law_reckoned.nd rfl (Or.inl rfl)) (fun _ _ _ _ _ => pts_one (pt_cmpR op_ne (pv 8) (pe_int) (nomark _))) (fun _ _ _ _ _ => pe_go C__law_sign (hr.mono (by decide)) fr rfl (pa_cons (pv 8) pa_nil)))
    (Evl.pss_cut (ps_set (i := 7) sc__law_reckoned.nd rfl (Or.inl rfl) (pe_ifExp (pt_cmpR (op_neD hr.units) (pv 6) (pe_lst pa_nil) (nomark _)) (pe_tup (pa_cons (pe_ix ix_list (pv 6) (pe_int) (fun _ _ => rfl)) (pa_cons (pe_ix ix_list (pv 6) (pe_op op_sub (pe_callB call_lenI (by rfl) n_len PySem.boot_len (pa_cons (pv 6) pa_nil)) (pe_int)) (fun _ _ => rfl)) pa_nil))) (pe_tup (pa_cons (pe_int) (pa_cons (pe_int) pa_nil)))))
    (pss_one (ps_ret (pe_cmpR op_eq (pe_callB (cr_repr fr hr.units) (by rfl) n_repr (by decide +kernel) (pa_cons (pe_tup (pa_cons (pe_go C_first_sign (hr.mono (by decide)) fr rfl (pa_cons (pv 0) pa_nil)) (pa_cons (pe_go C_last_sign (hr.mono (by decide)) fr rfl (pa_cons (pv 0) pa_nil)) pa_nil))) pa_nil)) (pe_callB (cr_repr fr hr.units) (by rfl) n_repr (by decide +kernel) (pa_cons (pv 7) pa_nil)) (nomark _))))))))))))))), ?_⟩
    have M0 : ∀ (σ : L2.St) (H' : Hp), True := fun _ _ => trivial
    have l1 : l.length ≤ 500 := by omega
    have m1 : m.length ≤ 500 := by omega
    have l2 : l.length ≤ 1000 := by omega
    have m2 : m.length ≤ 1000 := by omega
    have sl := Sm.of ll
    have sm := Sm.of lm
    have hn64 : -(2 ^ 64) < n ∧ n < 2 ^ 64 := ⟨by omega, by omega⟩
    refine ⟨fun σ H' => σ = [some v, some u, some (.int n), some o, none, none, none, none, none, none] ∧ Same H H', ?_, ?_⟩
    · refine ⟨_, rfl, _, rfl, v, u, l, m, rfl, hv, hu, l2, m2, fun z1 H1 s1 h1 => ?_⟩
      refine ⟨_, rfl, _, rfl, v, u, l, m, rfl, hv.same s1, hu.same s1, l2, m2, fun z2 H2 s2 h2 => ?_⟩
      refine ne_cv (h1.same s2) h2 rfl ⟨_, rfl, iteF ?_⟩
      have s12 := s1.trans s2
      refine ⟨_, rfl, _, rfl, v, u, l, m, rfl, hv.same s12, hu.same s12, l1, m1, .inl sl, fun z3 H3 s3 h3 => ?_⟩
      have s13 := s12.trans s3
      refine ⟨_, rfl, _, rfl, v, u, l, m, rfl, hv.same s13, hu.same s13, l1, m1, .inl sl, fun z4 H4 s4 h4 => ?_⟩
      refine ne_cv (h3.same s4) h4 ?_ ⟨_, rfl, iteF ⟨rfl, s13.trans s4⟩⟩
      exact Cn.ext (Cn.prodL cl cm) (Cn.trim _) fun x => by rw [ev_prodL, ev_trim, ev_cv]
    rintro σ H0 ⟨rfl, s0⟩
    refine ⟨fun σ H' => ∃ bk, σ = [some v, some u, some (.int n), some o, some bk, none, none, none, none, none] ∧ Same H H' ∧ IsCv K H' bk (m.map fun c => 0 - c), ?_, ?_⟩
    · obtain ⟨ub, rfl, hU⟩ := hu
      refine ⟨_, rfl, ub, rfl, ⟨_, SqT.same s0 hU⟩, fun D hD => ?_⟩
      refine lc_tup (xs := iv m) (fun i H' => Same H0 H' ∧ H' D = some (.lst (iv ((m.take i).map fun c => 0 - c)))) ?_ (fun i H' _ h => SqT.same (s0.trans h.1) hU) ?_ ?_
      · exact ⟨same_new hD _, upd_same⟩
      · rintro i x H' hi ⟨h1, h2⟩
        obtain ⟨hk, rfl⟩ := iv_get' hi
        refine ⟨rfl, _, rfl, _, _, rfl, rfl, _, h2, acc_ok m2 i _, Evl.Ex.mut h1 hD, ?_⟩
        rw [upd_same, List.take_add_one, List.getElem?_eq_getElem hk, List.map_append, iv_app]
        rfl
      · rintro H' ⟨h1, h2⟩
        rw [List.length_map, List.take_length] at h2
        exact rd_tup ⟨D, rfl, .inl (SqL.of h2)⟩ fun z H2 s2 hz => ⟨z, rfl, s0.trans (h1.trans s2), hz⟩
    rintro σ H0 ⟨bk, rfl, s0, hbk⟩
    have lb : (m.map fun c => 0 - c).length ≤ 1000 := by rw [List.length_map]; exact m2
    refine ⟨fun σ H' => σ = [some v, some u, some (.int n), some o, some bk, none, none, none, none, none] ∧ Same H H', ?_, ?_⟩
    · refine ⟨_, rfl, _, rfl, v, u, l, m, rfl, hv.same s0, hu.same s0, l2, m2, fun z1 H1 s1 h1 => ?_⟩
      refine ⟨_, rfl, _, rfl, v, bk, l, _, rfl, (hv.same s0).same s1, hbk.same s1, l2, lb, fun z2 H2 s2 h2 => ?_⟩
      refine ne_cv (h1.same s2) h2 ?_ ⟨_, rfl, iteF ?_⟩
      · refine Cn.ext (Cn.trim _) (Cn.trim _) fun x => ?_
        rw [ev_trim, ev_trim, ev_addL, ev_addL, ev_trim, ev_scale, ev_neg]
        omega
      have s12 := s0.trans (s1.trans s2)
      refine ⟨_, rfl, _, rfl, v, v, l, l, rfl, hv.same s12, hv.same s12, l2, l2, fun z3 H3 s3 h3 => ?_⟩
      refine ⟨by show 0 ≤ sizeLine; exact Nat.zero_le _, fun p hp => ?_⟩
      have s4 := same_new hp (.tup [])
      have h4 : IsCv K (upd H3 p (.tup [])) (.ref p) [] := ⟨p, rfl, SqT.of upd_same⟩
      refine ne_cv (h3.same s4) h4 ?_ ⟨_, rfl, iteF ⟨rfl, s12.trans (s3.trans s4)⟩⟩
      refine Cn.ext (Cn.trim _) Cn.nil fun x => ?_
      rw [ev_trim, ev_addL, ev_trim, ev_scale]
      show _ = (0 : Int)
      omega
    rintro σ H0 ⟨rfl, s0⟩
    refine ⟨fun σ H' => σ = [some v, some u, some (.int n), some o, some bk, none, none, none, none, none] ∧ Same H H', ?_, ?_⟩
    · refine ⟨_, rfl, _, rfl, v, l, n, rfl, hv.same s0, l2, hn64, fun z1 H1 s1 h1 => ?_⟩
      obtain ⟨va, rfl, hV⟩ := hv
      have hV1 := SqT.same s1 (SqT.same s0 hV)
      refine ⟨_, rfl, va, rfl, ⟨_, hV1⟩, fun D hD => ?_⟩
      refine lc_tup (xs := iv l) (fun i H' => Same H1 H' ∧ H' D = some (.lst (iv ((l.take i).map (n * ·))))) ?_ (fun i H' _ h => SqT.same h.1 hV1) ?_ ?_
      · exact ⟨same_new hD _, upd_same⟩
      · rintro i x H' hi ⟨h1', h2⟩
        obtain ⟨hk, rfl⟩ := iv_get' hi
        refine ⟨rfl, _, rfl, _, rfl, _, _, rfl, rfl, .inl hn64, _, h2, acc_ok l2 i _, Evl.Ex.mut h1' hD, ?_⟩
        rw [upd_same, List.take_add_one, List.getElem?_eq_getElem hk, List.map_append, iv_app]
        rfl
      · rintro H' ⟨h1', h2⟩
        rw [List.length_map, List.take_length] at h2
        refine ⟨_, _, rfl, ⟨D, rfl, .inl (SqL.of h2)⟩, fun z H2 s2 hz => ?_⟩
        exact ne_cv (h1.same (h1'.trans s2)) hz rfl ⟨_, rfl, iteF ⟨rfl, s0.trans (s1.trans (h1'.trans s2))⟩⟩
    rintro σ H0 ⟨rfl, s0⟩
    refine ⟨fun σ H' => σ = [some v, some u, some (.int n), some o, some bk, none, none, none, none, none] ∧ Same H H', ?_, ?_⟩
    · refine ⟨_, rfl, v, l, rfl, hv.same s0, l1, fun z1 H1 s1 h1 => ?_⟩
      have s01 := s0.trans s1
      refine ⟨_, rfl, rd_len (hv.sq.same s01) ⟨_, _, rfl, ⟨by omega, by omega, by omega, by omega⟩, fun D hD => ?_⟩⟩
      have ss := slp_len l
      refine lc_range (lo := 1) (n := ((l.length : Int) - 1).toNat) (fun i H' => Same H1 H' ∧ H' D = some (.lst (iv ((slp l).take i)))) ?_ ?_ ?_
      · exact ⟨same_new hD _, upd_same⟩
      · rintro i H' hi ⟨h1', h2⟩
        have hk : i + 1 < l.length := by omega
        refine ⟨rfl, _, rfl, _, rfl, _, rfl, rd_ix (k := i + 1) (hv.sq.same (s01.trans h1')) (by omega) hk ?_⟩
        refine ⟨_, _, rfl, rfl, .inl ⟨by omega, by omega⟩, _, h2, ?_, Evl.Ex.mut h1' hD, ?_⟩
        · rw [List.length_map, List.length_take]
          exact Nat.lt_of_le_of_lt (m := 1000) (by omega) (by decide)
        · rw [upd_same, List.take_add_one, slp_at hk, iv_app]
          show some (HO.lst (iv ((slp l).take i) ++ [V.int ((1 + (i : Int)) * l[i + 1])])) = some (HO.lst (iv ((slp l).take i) ++ [V.int (((i + 1 : Nat) : Int) * l[i + 1])]))
          rw [show (1 : Int) + (i : Int) = ((i + 1 : Nat) : Int) by omega]
      · rintro H' ⟨h1', h2⟩
        rw [show ((l.length : Int) - 1).toNat = (slp l).length by omega, List.take_length] at h2
        refine ⟨_, _, rfl, ⟨D, rfl, .inl (SqL.of h2)⟩, fun z H2 s2 hz => ?_⟩
        exact ne_cv (h1.same (h1'.trans s2)) hz (slp_cn cl).symm ⟨_, rfl, iteF ⟨rfl, s01.trans (h1'.trans s2)⟩⟩
    rintro σ H0 ⟨rfl, s0⟩
    refine ⟨fun σ H' => σ = [some v, some u, some (.int n), some o, some bk, none, none, none, none, none] ∧ Same H H', ?_, ?_⟩
    · refine ⟨_, rfl, _, rfl, v, l, n, rfl, hv.same s0, l1, hn64, fun z1 H1 r1 s1 h1 len1 last1 e1 => ?_⟩
      have s01 := s0.trans s1
      refine ⟨_, rfl, _, rfl, by show 2 ≤ sizeLine; decide, fun p hp => ?_⟩
      have s2 := same_new hp (.lst [.int n, .int 1])
      have e2 : (upd H1 p (.lst (iv [n, 1]))) p = some (.lst (iv [n, 1])) := upd_same
      refine ⟨_, [n, 1], rfl, ⟨p, rfl, .inl (SqL.of e2)⟩, fun z2 H2 s3 h2 => ?_⟩
      have t2 := trim_len [n, 1]
      have sn : Sm (trim [n, 1]) := fun c hc => by
        have := trim_sub hc
        simp only [List.mem_cons, List.not_mem_nil, or_false] at this
        rcases this with rfl | rfl
        · exact hn64
        · exact ⟨by decide, by decide⟩
      simp only [List.length_cons, List.length_nil] at t2
      have s03 := s01.trans (s2.trans s3)
      refine ⟨v, z2, l, _, rfl, hv.same s03, h2, l5, by omega, sl, sn, fun z3 H3 r3 s4 h3 c3 e3 => ?_⟩
      have er : r1 = r3 := by
        refine Cn.ext ((cn_iff _).mpr ?_) c3 fun x => ?_
        · rcases (cn_iff l).mp cl with z | z
          · left
            exact List.length_eq_zero_iff.mp (by rw [len1, z]; rfl)
          · right
            rw [last1]
            exact z
        · rw [e1, e3, ev_trim]
          congr 1
          show x + n = n + x * (1 + x * 0)
          grind
      refine ne_cv (h1.same ((s2.trans s3).trans s4)) h3 er ⟨_, rfl, iteF ?_⟩
      have s04 := s03.trans s4
      refine ⟨_, rfl, _, rfl, rfl, v, l, n, rfl, hv.same s04, l1, hn64, fun z4 H4 r4 s5 h4 len4 last4 e4 => ?_⟩
      refine ⟨_, rfl, _, rfl, v, l, n, rfl, hv.same (s04.trans s5), l1, hn64, fun z5 H5 r5 s6 h5 len5 last5 e5 => ?_⟩
      exact ne_cv (h4.same s6) h5 (len_ext (len4.trans len5.symm) fun x => (e4 x).trans (e5 x).symm) ⟨_, rfl, iteF ⟨rfl, s04.trans (s5.trans s6)⟩⟩
    rintro σ H0 ⟨rfl, s0⟩
    refine ⟨fun σ H' => σ = [some v, some u, some (.int n), some o, some bk, none, none, none, none, none] ∧ Same H H', ?_, ?_⟩
    · have ha : (∀ i ∈ aft l m, i.natAbs < 2 ^ 200) ∧ (aft l m).length ≤ 100 := by
        rcases aft_size m5 lm l ll with ⟨a1, a2, _⟩ | z
        · refine ⟨fun i hi => Nat.lt_of_le_of_lt (a2 i hi) (Nat.pow_lt_pow_right (by decide) (by omega)), by omega⟩
        · omega
      obtain ⟨p1, p2, p3, p4⟩ := repr_cv ha.1 ha.2
      refine ⟨_, rfl, _, rfl, v, u, l, m, rfl, hv.same s0, hu.same s0, l5, m5, ll, lm, fun z1 H1 s1 h1 => ?_⟩
      refine ⟨z1, dC (aft l m), rfl, h1.dp, p1, p2, p3, p4, ?_⟩
      have s01 := s0.trans s1
      refine ⟨_, rfl, _, rfl, v, u, l, m, rfl, hv.same s01, hu.same s01, l5, m5, sl, sm, fun z2 H2 r2 s2 h2 c2 e2 => ?_⟩
      have er : r2 = aft l m := Cn.ext c2 (aft_cn l m) fun x => by rw [e2, ev_aft]
      subst er
      refine ⟨z2, dC (aft l m), rfl, h2.dp, p1, p2, p3, p4, ?_⟩
      refine ⟨rfl, _, rfl, str_same ?_⟩
      have s02 := s01.trans s2
      refine ⟨_, rfl, _, rfl, rfl, v, u, l, m, rfl, hv.same s02, hu.same s02, l5, m5, ll, lm, fun z3 H3 s3 h3 => ?_⟩
      refine ⟨_, rfl, _, rfl, v, u, l, m, rfl, hv.same (s02.trans s3), hu.same (s02.trans s3), l5, m5, ll, lm, fun z4 H4 s4 h4 => ?_⟩
      exact ne_cv (h3.same s4) h4 rfl ⟨_, rfl, iteF ⟨rfl, s02.trans (s3.trans s4)⟩⟩
    rintro σ H0 ⟨rfl, s0⟩
    refine ⟨_, rfl, _, rfl, v, o, l, a, b, rfl, hv.same s0, ho.mono s0, l5, ll, ha, hb, b0, fun p5 H1 s1 e1 => ?_⟩
    replace s0 := s0.trans s1
    clear s1
    have hw1 : (hw a b l).natAbs < 2 ^ 160 := Nat.lt_of_lt_of_le (hw_size ha hb l l5 ll) (Nat.pow_le_pow_right (by decide) (by omega))
    obtain ⟨b1, b2⟩ := pow_ok (k := l.length - 1) (by omega) hb b0
    obtain ⟨z1, z2, z3⟩ := low_size (a := hw a b l) (b := b ^ (l.length - 1)) (by omega)
    have esg := low_sign (a := hw a b l) b1
    obtain ⟨T, eT⟩ : ∃ T, T = lT (hw a b l) (b ^ (l.length - 1)) := ⟨_, rfl⟩
    obtain ⟨B, eB⟩ : ∃ B, B = lB (hw a b l) (b ^ (l.length - 1)) := ⟨_, rfl⟩
    rw [← eT] at e1 z1 esg
    rw [← eB] at e1 z2 z3
    have hT : T.natAbs < 2 ^ 200 := Nat.lt_of_le_of_lt z1 (Nat.lt_of_lt_of_le hw1 (Nat.pow_le_pow_right (by decide) (by decide)))
    have hB : B.natAbs < 2 ^ 200 := Nat.lt_of_le_of_lt (show B.natAbs ≤ (b ^ (l.length - 1)).natAbs by omega) (Nat.lt_of_lt_of_le b2 (Nat.pow_le_pow_right (by decide) (by decide)))
    obtain ⟨p1, p2, p3, p4⟩ := repr_cv (l := [T, B]) (by
      intro i hi
      simp only [List.mem_cons, List.not_mem_nil, or_false] at hi
      rcases hi with rfl | rfl
      · exact hT
      · exact hB) (by simp)
    refine ⟨fun σ H' => σ = [some v, some u, some (.int n), some o, some bk, some (.ref p5), none, none, none, none] ∧ Same H H', ?_, ?_⟩
    · refine ⟨_, rfl, _, rfl, v, o, l, a, b, rfl, hv.same s0, ho.mono s0, l5, ll, ha, hb, b0, fun p6 H2 s2 e2 => ?_⟩
      rw [← eT, ← eB] at e2
      refine ⟨.ref p6, dC [T, B], rfl, .tup (SqT.of e2) (dp_ints [T, B]), p1, p2, p3, p4, _, rfl, .ref p5, dC [T, B], rfl, .tup (SqT.of (s2 _ _ e1)) (dp_ints [T, B]), p1, p2, p3, p4, rfl, _, rfl, str_same ?_⟩
      have s02 := s0.trans s2
      have hs1 : (hw a b l).sign.natAbs < 2 ^ 200 := Nat.lt_of_le_of_lt (sgn_le _) (by decide)
      refine ⟨_, rfl, _, rfl, v, o, l, a, b, rfl, hv.same s02, ho.mono s02, l5, ll, ha, hb, fun H3 s3 => ?_⟩
      refine ⟨_, _, rfl, .int _, sh_int hs1, rfl, dep0, len_int hs1, ?_⟩
      refine ⟨_, rfl, p5, _, 0, .int T, rfl, rfl, SqT.of (s3 _ _ (s2 _ _ e1)), rfl, T, rfl, ?_⟩
      rw [esg]
      exact ⟨_, _, rfl, .int _, sh_int hs1, rfl, dep0, len_int hs1, rfl, _, rfl, str_same ⟨rfl, s02.trans s3⟩⟩
    rintro σ H1 ⟨rfl, s1⟩
    refine ⟨fun σ H' => ∃ D, σ = [some v, some u, some (.int n), some o, some bk, some (.ref p5), some (.ref D), none, none, none] ∧ Same H H' ∧ H' D = some (.lst (iv (sgl l))), ?_, ?_⟩
    · obtain ⟨va, rfl, hV⟩ := hv
      have hV1 := SqT.same s1 hV
      refine ⟨_, rfl, va, rfl, ⟨_, hV1⟩, fun D hD => ?_⟩
      refine lc_tup (xs := iv l) (fun i H' => Same H1 H' ∧ H' D = some (.lst (iv (sgl (l.take i))))) ?_ (fun i H' _ h => SqT.same h.1 hV1) ?_ ?_
      · exact ⟨same_new hD _, upd_same⟩
      · rintro i x H' hi ⟨h1', h2⟩
        obtain ⟨hk, rfl⟩ := iv_get' hi
        have eap : sgl (l.take (i + 1)) = sgl (l.take i) ++ sgl [l[i]] := by
          rw [List.take_add_one, List.getElem?_eq_getElem hk]
          unfold sgl
          rw [List.filter_append, List.map_append]
          rfl
        refine ⟨rfl, _, rfl, rfl, _, rfl, ?_⟩
        refine iteN (fun c => ?_) (fun c => ?_)
        · have c0 : l[i] ≠ 0 := fun z => c (by rw [z])
          have e1 : sgl [l[i]] = [l[i].sign] := by
            unfold sgl
            rw [List.filter_cons, if_pos (decide_eq_true c0)]; rfl
          rw [e1] at eap
          refine ⟨_, rfl, _, rfl, _, h2, ?_, Evl.Ex.mut h1' hD, ?_⟩
          · rw [List.length_map]
            have := sgl_len (l.take i)
            rw [List.length_take] at this
            exact Nat.lt_of_le_of_lt (m := 1000) (by omega) (by decide)
          · rw [upd_same, eap, iv_app]
            rfl
        · have c0 : l[i] = 0 := V.int.inj c
          have e1 : sgl [l[i]] = [] := by rw [c0]; rfl
          rw [e1, List.append_nil] at eap
          exact ⟨h1', by rw [eap]; exact h2⟩
      · rintro H' ⟨h1', h2⟩
        rw [List.length_map, List.take_length] at h2
        exact ⟨D, rfl, s1.trans h1', h2⟩
    rintro σ H2 ⟨D, rfl, s2, e2⟩
    obtain ⟨d1, d2⟩ := due_of cl
    have sl5 := sgl_len l
    refine ⟨fun σ H' => ∃ du, σ = [some v, some u, some (.int n), some o, some bk, some (.ref p5), some (.ref D), some (.ref du), none, none] ∧ Same H H' ∧ H' du = some (.tup (iv [fsg l, lsg l])), ?_, ?_⟩
    · refine ⟨_, rfl, by show 0 ≤ sizeLine; exact Nat.zero_le _, fun p hp => ?_⟩
      have s3 := same_new hp (.lst [])
      have e3 : (upd H2 p (.lst [])) p = some (.lst []) := upd_same
      generalize upd H2 p (.lst []) = H3 at s3 e3 ⊢
      have eD := s3 _ _ e2
      refine ⟨dL (sgl l), .list [], .lst (SqL.of eD) (dp_ints _), .lst (SqL.of e3) .nil, sh_dL _, rfl, _, rfl, ?_⟩
      show if (!PyData.eqv (.list ((sgl l).map PyData.int)) (.list [])) = true then _ else _
      rw [eqv_nil]
      by_cases c : sgl l = []
      · obtain ⟨f1, f2⟩ := d1 c
        rw [c]
        refine iteF ?_
        refine ⟨by show 2 ≤ sizeLine; decide, fun p2 hp2 => ?_⟩
        refine ⟨p2, rfl, s2.trans (s3.trans (same_new hp2 _)), ?_⟩
        rw [f1, f2]
        exact upd_same
      · obtain ⟨f1, f2⟩ := d2 c
        have hne : ((sgl l).map PyData.int).isEmpty = false := by
          cases z : sgl l with
          | nil => exact absurd z c
          | cons _ _ => rfl
        have l0 : 0 < (sgl l).length := by
          cases z : sgl l with
          | nil => exact absurd z c
          | cons _ _ => simp
        rw [hne]
        refine iteT ?_
        refine ⟨_, rfl, D, _, 0, .int (fsg l), rfl, rfl, SqL.of eD, ?_, ?_⟩
        · exact atI_nat (j := 0) (by rw [List.getElem?_map, f1]; rfl)
        refine ⟨_, rfl, _, rfl, rd_len ⟨D, rfl, .inl (SqL.of eD)⟩ ⟨_, _, rfl, rfl, D, _, _, .int (lsg l), rfl, rfl, SqL.of eD, ?_, ?_⟩⟩
        · rw [show ((sgl l).length : Int) - 1 = (((sgl l).length - 1 : Nat) : Int) by omega]
          exact atI_nat (by rw [List.getElem?_map, f2]; rfl)
        refine ⟨by show 2 ≤ sizeLine; decide, fun p2 hp2 => ?_⟩
        exact ⟨p2, rfl, s2.trans (s3.trans (same_new hp2 _)), upd_same⟩
    rintro σ H3 ⟨du, rfl, s3, e3⟩
    have small : ∀ i ∈ [fsg l, lsg l], i.natAbs < 2 ^ 200 := fun i hi => by
      simp only [List.mem_cons, List.not_mem_nil, or_false] at hi
      have f1 := fsg_le l
      have f2 := lsg_le l
      refine Nat.lt_of_le_of_lt (m := 1) ?_ (by decide)
      rcases hi with rfl | rfl <;> assumption
    obtain ⟨p1, p2, p3, p4⟩ := repr_cv small (by simp)
    refine ⟨_, rfl, v, l, rfl, hv.same s3, _, rfl, v, l, rfl, hv.same s3, by show 2 ≤ sizeLine; decide, fun p hp => ?_⟩
    have s4 := same_new hp (.tup [.int (fsg l), .int (lsg l)])
    refine ⟨.ref p, dC [fsg l, lsg l], rfl, .tup (SqT.of upd_same) (dp_ints [fsg l, lsg l]), p1, p2, p3, p4, ?_⟩
    refine ⟨_, rfl, .ref du, dC [fsg l, lsg l], rfl, .tup (SqT.of (s4 _ _ e3)) (dp_ints [fsg l, lsg l]), p1, p2, p3, p4, rfl, ?_⟩
    rw [decide_eq_true rfl]
    exact q _ (s3.trans s4)
end
end Kc

namespace Kc
open PySem PySem.Spec PyProof.Rows L2 Hb Gu Tx Xb En M3 RZ RT
variable {K : PySem.W.Frag}
/-! ### _law_sequences_right -/
theorem trim_pad (l : List Int) : ∀ k : Nat, trim (l ++ List.replicate k 0) = trim l
  | 0 => by rw [List.replicate_zero, List.append_nil]
  | k + 1 => by rw [List.replicate_succ', ← List.append_assoc, trim_zero, trim_pad l k]
theorem ints_all : ∀ l : List Int, (l.map PyData.int).all isI = true
  | [] => rfl
  | _ :: l => ints_all l
theorem ints_as : ∀ l : List Int, (l.map PyData.int).map asInt = l
  | [] => rfl
  | a :: l => congrArg (a :: ·) (ints_as l)
theorem cof_dL (l : List Int) : cof (dL l) = .inr (trim l) := by
  show (match firstBad (l.map PyData.int) with | some k => _ | none => _) = _
  rw [firstBad_all (ints_all l), ints_as]
theorem cof_dC (l : List Int) : cof (dC l) = .inr (trim l) := cof_dL l
theorem crv_dC {l : List Int} (h : Cn l) : isCrv (dC l) = true := by
  show ((l.map PyData.int).all isI && decide (Cn ((l.map PyData.int).map asInt))) = true
  rw [ints_all, ints_as, decide_eq_true h]; rfl
theorem crv_pad {l : List Int} : isCrv (dC (l ++ [0])) = false := by
  show (((l ++ [0]).map PyData.int).all isI && decide (Cn (((l ++ [0]).map PyData.int).map asInt))) = false
  rw [ints_all, ints_as, Bool.true_and]
  refine decide_eq_false fun h => ?_
  have e : trim (l ++ [0]) = l ++ [0] := h
  rw [trim_zero] at e
  have := trim_len l
  rw [e, List.length_append] at this
  simp only [List.length_cons, List.length_nil] at this
  omega
theorem fb_at {d : PyData} {rest : List PyData} (h : isI d = false) : ∀ l : List Int, firstBad (l.map PyData.int ++ d :: rest) = some l.length
  | [] => by
    show (if isI d = true then _ else _) = _
    rw [h]; rfl
  | a :: l => by
    show (firstBad (l.map PyData.int ++ d :: rest)).map (· + 1) = _
    rw [fb_at h l]; rfl
theorem cof_bent {d : PyData} {rest : List PyData} (h : isI d = false) (l : List Int) : cof (.list (l.map PyData.int ++ d :: rest)) = .inl (l.length : Nat) := by
  show (match firstBad (l.map PyData.int ++ d :: rest) with | some k => _ | none => _) = _
  rw [fb_at h l]
theorem crv_bent {d : PyData} {rest : List PyData} (h : isI d = false) (l : List Int) : isCrv (.tuple (l.map PyData.int ++ d :: rest)) = false := by
  show ((l.map PyData.int ++ d :: rest).all isI && _) = false
  rw [List.all_append, List.all_cons, h, Bool.false_and, Bool.and_false, Bool.false_and]
theorem cof_no {d : PyData} (h : seqOf d = none) : cof d = .inl (-1) := by
  unfold cof
  rw [h]
theorem crv_no {d : PyData} (h : seqOf d = none) : isCrv d = false := by
  cases d <;> first | rfl | cases h
theorem dps_app {H : Hp} : ∀ {xs ys : List V} {ds es : List PyData}, DpAll K H xs ds → DpAll K H ys es → DpAll K H (xs ++ ys) (ds ++ es)
  | _, _, _, _, .nil, h => h
  | _, _, _, _, .cons h r, k => .cons h (dps_app r k)
/-- what is no integer and stays -/
def Odd (H : Hp) (x : V) : Prop := (∃ b, x = .bl b) ∨ x = .non ∨ (∃ s, x = .str s) ∨ ∃ T, x = .ref T ∧ H T = some (.tup [.int 1])
theorem Odd.dp {H : Hp} {x : V} (h : Odd H x) : ∃ d, Dp K H x d ∧ isI d = false := by
  rcases h with ⟨b, rfl⟩ | rfl | ⟨s, rfl⟩ | ⟨T, rfl, e⟩
  · exact ⟨_, .bl b, rfl⟩
  · exact ⟨_, .non, rfl⟩
  · exact ⟨_, .str s, rfl⟩
  · exact ⟨.tuple [.int 1], .tup (SqT.of e) (.cons (.int 1) .nil), rfl⟩
theorem Odd.same {H H' : Hp} {x : V} (h : Odd H x) (s : Same H H') : Odd H' x := by
  rcases h with h | h | h | ⟨T, rfl, e⟩
  · exact .inl h
  · exact .inr (.inl h)
  · exact .inr (.inr (.inl h))
  · exact .inr (.inr (.inr ⟨T, rfl, s _ _ e⟩))
theorem Odd.kept {H H' : Hp} {x : V} {p : Addr} (h : Odd H x) (k : Kept p H H') (b : BoxAt H p) : Odd H' x := by
  rcases h with h | h | h | ⟨T, rfl, e⟩
  · exact .inl h
  · exact .inr (.inl h)
  · exact .inr (.inr (.inl h))
  · obtain ⟨_, _, _, eb, _⟩ := b
    exact .inr (.inr (.inr ⟨T, rfl, Kept.tup k eb e⟩))
theorem rows_eq {H : Hp} {a b : Addr} {l : List Int} {Q : VK} (h1 : H a = some (.lst (iv l))) (h2 : H b = some (.lst (iv l))) (q : Q (.bl false) H) : rNeD K (.ref a) (.ref b) H Q := by
  refine ⟨dL l, dL l, .lst (SqL.of h1) (dp_ints l), .lst (SqL.of h2) (dp_ints l), sh_dL l, sh_dL l, ?_⟩
  rw [SeqAt.eqv_refl _ (SeqAt.canLay_of_shaped (sh_dL l))]
  exact q
theorem rows_eqT {H : Hp} {a b : Addr} {l : List Int} {Q : VK} (h1 : H a = some (.lst (iv l))) (h2 : H b = some (.lst (iv l))) (q : Q (.bl true) H) : rEqD K (.ref a) (.ref b) H Q := by
  refine ⟨dL l, dL l, .lst (SqL.of h1) (dp_ints l), .lst (SqL.of h2) (dp_ints l), sh_dL l, sh_dL l, ?_⟩
  rw [SeqAt.eqv_refl _ (SeqAt.canLay_of_shaped (sh_dL l))]
  exact q
theorem rd_cat0 {H : Hp} {v : V} {b : Addr} {l : List Int} {Q : VK} (h : IsCv K H v l) (e : H b = some (.tup [.int 0])) (hl : l.length ≤ 1000) (q : ∀ u H', Same H H' → IsCv K H' u (l ++ [0]) → Q u H') : rCatA K v (.ref b) H Q := by
  obtain ⟨a, rfl, h⟩ := h
  refine ⟨a, b, _, _, rfl, rfl, h, SqT.of e, ?_, fun z => ?_, fun _ z => (by cases z), fun _ _ p hp => ?_⟩
  · refine Nat.le_trans (m := 2000) ?_ (by decide)
    rw [List.length_map]
    show l.length + 1 ≤ 2000
    omega
  · have : l = [] := List.map_eq_nil_iff.mp z
    subst this
    exact q _ _ (Evl.Ex.refl _) ⟨b, rfl, SqT.of e⟩
  · exact q _ _ (same_new hp _) (IsCv.new (by rw [upd_same, iv_app]; rfl))
abbrev four : List V := [.non, .int 3, .str (Str.ofString "1 2"), .bl true]
theorem four_dp {H : Hp} {i : Nat} {x : V} (h : four[i]? = some x) : ∃ d, Dp K H x d ∧ seqOf d = none := by
  have := List.mem_of_getElem? h
  simp only [four, List.mem_cons, List.not_mem_nil, or_false] at this
  rcases this with rfl | rfl | rfl | rfl
  · exact ⟨_, .non, rfl⟩
  · exact ⟨_, .int 3, rfl⟩
  · exact ⟨_, .str _, rfl⟩
  · exact ⟨_, .bl true, rfl⟩
section
variable {P : Program} {w : World} {mg : Str → Option Value} {base : Heap}
abbrev s__law_sequences_right : Stmt := top 49
theorem sc__law_sequences_right : FnScope ["box", "one", "row", "kept", "at", "bent", "value"] ["box", "one"] (defScope s__law_sequences_right) := ⟨rfl, rfl, rfl, by decide +kernel, rfl, by decide +kernel, by decide +kernel⟩
def spSeqR (K : PySem.W.Frag) : Sp := fun vs H Q _ => ∃ (p : Addr) (v : V) (l : List Int), vs = [.ref p, v] ∧ BoxAt H p ∧ IsCv K H v l ∧ Cn l ∧ l.length ≤ 5 ∧ ∀ H', Kept p H H' → BoxAt H' p → Q (.bl true) H'
theorem ok_seqR {f : Addr} {fd : FuncData} (F : Fun K "_law_sequences_right" "_law_sequences_right" s__law_sequences_right f fd) (C__law_made : Cg P w K mg base CX0 "_law_made" ["values"] [] 3 (spMade K)) (C__law_pick : Cg P w K mg base CX0 "_law_pick" ["box", "some"] [] 2 spPick) (C__law_take : Cg P w K mg base CX0 "_law_take" ["box", "many"] [] 1 spTake) (C_is_curve : Cg P w K mg base CX0 "is_curve" ["value"] [] 2 (spIsCrv K)) (n_len : mg "len" = none) (n_list : mg "list" = none) (n_tuple : mg "tuple" = none) : FnG P w K mg base CX0 4 f fd ["box", "one"] (spSeqR K) := by
  refine go_ok F sc__law_sequences_right (fun vs H Q E h => ?_) (fun cdv A outer s H vs Q E hr fr h => ?_)
  · obtain ⟨_, _, _, rfl, _⟩ := h
    rfl
  · obtain ⟨p, v, l, rfl, hb, hv, cl, l5, q⟩ := h
    refine ⟨_, (pss_cons (ps_set (i := 2) sc__law_sequences_right.nd rfl (Or.inl rfl) (pe_op op_cat (pe_callTy call_list_of (by rfl) n_list (by decide +kernel) (pa_cons (pv 1) pa_nil)) (pe_op op_rep (pe_lst (pa_cons pe_int pa_nil)) (pe_go C__law_take (hr.mono (by decide)) fr rfl (pa_cons (pv 0) (pa_cons pe_int pa_nil))))))
    (pss_cons (ps_set (i := 3) sc__law_sequences_right.nd rfl (Or.inl rfl) (pe_callTy call_list_of (by rfl) n_list (by decide +kernel) (pa_cons (pv 2) pa_nil)))
    (Evl.pss_cut (ps_if (PW.pt (pw_or (pt_cmpR (op_neD hr.units) (pe_go C__law_made (hr.mono (by decide)) fr rfl (pa_cons (pv 2) pa_nil)) (pe_tup (pa_cons pe_str (pa_cons (pv 1) pa_nil))) (nomark _)) (pw_or (pt_cmpR (op_neD hr.units) (pe_go C__law_made (hr.mono (by decide)) fr rfl (pa_cons (pe_callTy call_tuple_of (by rfl) n_tuple (by decide +kernel) (pa_cons (pv 2) pa_nil)) pa_nil)) (pe_tup (pa_cons pe_str (pa_cons (pv 1) pa_nil))) (nomark _)) (pw_or1 (pt_cmpR (op_neD hr.units) (pv 2) (pv 3) (nomark _)))))) (pss_one (ps_ret pe_bl)) pss_nil)
    (pss_cons (ps_set (i := 4) sc__law_sequences_right.nd rfl (Or.inl rfl) (pe_go C__law_take (hr.mono (by decide)) fr rfl (pa_cons (pv 0) (pa_cons (pe_op op_add (pe_callB call_len_seq (by rfl) n_len PySem.boot_len (pa_cons (pv 2) pa_nil)) pe_int) pa_nil))))
    (pss_cons (ps_set (i := 5) sc__law_sequences_right.nd rfl (Or.inl rfl) (pe_op op_cat (pe_op op_cat (pe_op op_cat (pe_slice sl_list (pv 2) po_none (po_some (pv 4))) (pe_lst (pa_cons (pe_go C__law_pick (hr.mono (by decide)) fr rfl (pa_cons (pv 0) (pa_cons (pe_lst (pa_cons pe_bl (pa_cons pe_non (pa_cons pe_str (pa_cons (pe_tup (pa_cons pe_int pa_nil)) (pa_cons pe_bl pa_nil)))))) pa_nil))) pa_nil))) (pe_slice sl_list (pv 2) (po_some (pv 4)) po_none)) (pe_go C__law_pick (hr.mono (by decide)) fr rfl (pa_cons (pv 0) (pa_cons (pe_lst (pa_cons (pe_lst pa_nil) (pa_cons (pe_lst (pa_cons pe_non pa_nil)) pa_nil))) pa_nil)))))
    (Evl.pss_cut (ps_if (PW.pt (pw_or (pt_cmpR (op_neD hr.units) (pe_go C__law_made (hr.mono (by decide)) fr rfl (pa_cons (pv 5) pa_nil)) (pe_tup (pa_cons pe_str (pa_cons (pv 4) pa_nil))) (nomark _)) (pw_or (pt_val (pe_go C_is_curve (hr.mono (by decide)) fr rfl (pa_cons (pe_callTy call_tuple_of (by rfl) n_tuple (by decide +kernel) (pa_cons (pv 5) pa_nil)) pa_nil))) (pw_or (pt_val (pe_go C_is_curve (hr.mono (by decide)) fr rfl (pa_cons (pe_callTy call_list_of (by rfl) n_list (by decide +kernel) (pa_cons (pv 1) pa_nil)) pa_nil))) (pw_or1 (pt_not (pt_val (pe_go C_is_curve (hr.mono (by decide)) fr rfl (pa_cons (pv 1) pa_nil))))))))) (pss_one (ps_ret pe_bl)) pss_nil)
    (Evl.pss_cut (ps_if (PW.pt (pw_or (pt_val (pe_go C_is_curve (hr.mono (by decide)) fr rfl (pa_cons (pe_op op_catA (pv 1) (pe_tup (pa_cons pe_int pa_nil))) pa_nil))) (pw_or1 (pt_cmpR (op_neD hr.units) (pe_lc (own := [("value", 6)]) (g := gName 6) rfl sc__law_sequences_right.nd (pi_tup (pe_tup (pa_cons pe_non (pa_cons pe_int (pa_cons pe_str (pa_cons pe_bl pa_nil)))))) (blkOk_by (N := ["box", "one", "row", "kept", "at", "bent", "value"]) (sc := defScope s__law_sequences_right) (by decide +kernel)) (fun _ _ _ _ _ => pg_name (i := 6) sc__law_sequences_right.nd rfl (Or.inl rfl)) (fun _ _ _ _ _ => pts_one (pt_val (pe_go C_is_curve (hr.mono (by decide)) fr rfl (pa_cons (pv 6) pa_nil)))) (fun _ _ _ _ _ => pv 6)) (pe_lst pa_nil) (nomark _))))) (pss_one (ps_ret pe_bl)) pss_nil)
    (pss_one (ps_ret (pe_cmpR (op_eqD hr.units) (pe_lc (own := [("value", 6)]) (g := gName 6) rfl sc__law_sequences_right.nd (pi_tup (pe_tup (pa_cons pe_non (pa_cons pe_int (pa_cons pe_str (pa_cons pe_bl pa_nil)))))) (blkOk_by (N := ["box", "one", "row", "kept", "at", "bent", "value"]) (sc := defScope s__law_sequences_right) (by decide +kernel)) (fun _ _ _ _ _ => pg_name (i := 6) sc__law_sequences_right.nd rfl (Or.inl rfl)) (fun _ _ _ _ _ => pts_one (pt_cmpR (r := rNeD K) (op_neD hr.units) (pe_go C__law_made (hr.mono (by decide)) fr rfl (pa_cons (pv 6) pa_nil)) (pe_tup (pa_cons pe_str (pa_cons (pe_op op_sub pe_int pe_int) pa_nil))) (nomark _))) (fun _ _ _ _ _ => pv 6)) (pe_lst pa_nil) (nomark _))))))))))), ?_⟩
    have two : (2 : Nat) ≤ sizeLine := by decide
    refine ⟨_, rfl, ?_⟩
    obtain ⟨va, rfl, hV⟩ := hv
    refine ⟨va, _, rfl, .inr hV, fun L hL => ?_⟩
    have s1 := same_new hL (.lst (iv l))
    have e1 : (upd H L (.lst (iv l))) L = some (.lst (iv l)) := upd_same
    generalize upd H L (.lst (iv l)) = H1 at s1 e1 ⊢
    refine ⟨by show 1 ≤ sizeLine; decide, fun z hz => ?_⟩
    have s2 := same_new hz (.lst [.int 0])
    have e2 : (upd H1 z (.lst [.int 0])) z = some (.lst [.int 0]) := upd_same
    generalize upd H1 z (.lst [.int 0]) = H2 at s2 e2 ⊢
    have s12 := s1.trans s2
    have b2 := hb.mono s12
    have zp : z ≠ p := box_ne (hb.mono s1) hz
    have Lp : L ≠ p := box_ne hb hL
    refine ⟨_, rfl, p, _, rfl, ⟨by decide, by decide⟩, b2, fun d H3 d0 d1 k3 b3 => ?_⟩
    have e3 := k3 _ _ e2 zp
    have eL := k3 _ _ (s2 _ _ e1) Lp
    refine ⟨z, d, _, rfl, rfl, e3, by omega, by omega, ?_, fun D hD => ?_⟩
    · refine Nat.le_trans (m := 100) ?_ (by decide)
      show 1 * d.toNat ≤ 100
      omega
    have er : (List.replicate d.toNat [V.int 0]).flatten = iv (List.replicate d.toNat 0) := by
      show _ = (List.replicate d.toNat 0).map V.int
      rw [List.map_replicate]
      generalize d.toNat = k
      induction k with
      | zero => rfl
      | succ k ih => rw [List.replicate_succ, List.flatten_cons, ih]; rfl
    rw [er]
    have s4 := same_new hD (.lst (iv (List.replicate d.toNat 0)))
    have e4 : (upd H3 D (.lst (iv (List.replicate d.toNat 0)))) D = some (.lst (iv (List.replicate d.toNat 0))) := upd_same
    generalize upd H3 D (.lst (iv (List.replicate d.toNat 0))) = H4 at s4 e4 ⊢
    refine ⟨L, D, _, _, rfl, rfl, s4 _ _ eL, e4, ?_, fun R hR => ?_⟩
    · refine Nat.le_trans (m := 100) ?_ (by decide)
      rw [List.length_map, List.length_map, List.length_replicate]
      omega
    rw [← iv_app]
    obtain ⟨r, hr'⟩ : ∃ r, r = l ++ List.replicate d.toNat 0 := ⟨_, rfl⟩
    rw [← hr']
    have rl : r.length ≤ 7 := by rw [hr', List.length_append, List.length_replicate]; omega
    have rt : trim r = l := by rw [hr', trim_pad]; exact cl
    have k04 : Kept p H H4 := ((Hb.Same.kept s12).trans k3).trans (Hb.Same.kept s4)
    have b4 := b3.mono s4
    have s5 := same_new hR (.lst (iv r))
    have e5 : (upd H4 R (.lst (iv r))) R = some (.lst (iv r)) := upd_same
    have Rp : R ≠ p := box_ne b4 hR
    generalize upd H4 R (.lst (iv r)) = H5 at s5 e5 ⊢
    have k05 := k04.trans (Hb.Same.kept s5)
    have b5 := b4.mono s5
    have hv0 : IsCv K H (.ref va) l := ⟨va, rfl, hV⟩
    have hv5 := hv0.kept k05 hb
    clear er e4 s4 e3 eL hD hR hr'
    -- kept = list(row)
    refine ⟨_, rfl, R, _, rfl, .inl (SqL.of e5), fun R2 hR2 => ?_⟩
    have s6 := same_new hR2 (.lst (iv r))
    have e6 : (upd H5 R2 (.lst (iv r))) R2 = some (.lst (iv r)) := upd_same
    generalize upd H5 R2 (.lst (iv r)) = H6 at s6 e6 ⊢
    have e56 := s6 _ _ e5
    have hv6 := hv5.same s6
    have k06 := k05.trans (Hb.Same.kept s6)
    have b6 := b5.mono s6
    refine ⟨fun σ H7 => σ = [some (.ref p), some (.ref va), some (.ref R), some (.ref R2), none, none, none] ∧ Same H6 H7, ?_, ?_⟩
    · refine ⟨_, rfl, .ref R, dL r, rfl, .lst (SqL.of e56) (dp_ints r), fun u H7 s7 h7 => ?_⟩
      rw [cof_dL, rt] at h7
      refine ⟨_, rfl, two, fun t ht => ?_⟩
      have s8 := same_new ht (.tup [.str (Str.ofString "curve"), .ref va])
      refine ne_out (o := .inr l) (dp_same s8 _ _ h7) (.tup (SqT.of upd_same) (.cons (.str _) (.cons (hv6.same (s7.trans s8)).dp .nil))) ⟨_, rfl, iteF ?_⟩
      generalize upd H7 t (.tup [.str (Str.ofString "curve"), .ref va]) = H8 at s8 ⊢
      have s68 := s7.trans s8
      refine ⟨_, rfl, R, _, rfl, .inl ⟨SqL.of (s68 _ _ e56), fun t2 ht2 => ?_⟩⟩
      have s9 := same_new ht2 (.tup (iv r))
      have e9 : (upd H8 t2 (.tup (iv r))) t2 = some (.tup (iv r)) := upd_same
      generalize upd H8 t2 (.tup (iv r)) = H9 at s9 e9 ⊢
      have s69 := s68.trans s9
      refine ⟨.ref t2, dC r, rfl, .tup (SqT.of e9) (dp_ints r), fun u2 H10 s10 h10 => ?_⟩
      rw [cof_dC, rt] at h10
      refine ⟨_, rfl, two, fun t3 ht3 => ?_⟩
      have s11 := same_new ht3 (.tup [.str (Str.ofString "curve"), .ref va])
      refine ne_out (o := .inr l) (dp_same s11 _ _ h10) (.tup (SqT.of upd_same) (.cons (.str _) (.cons (hv6.same (s69.trans (s10.trans s11))).dp .nil))) ⟨_, rfl, iteF ?_⟩
      generalize upd H10 t3 (.tup [.str (Str.ofString "curve"), .ref va]) = H11 at s11 ⊢
      have sE := s69.trans (s10.trans s11)
      exact ⟨_, rfl, _, rfl, rows_eq (sE _ _ e56) (sE _ _ e6) ⟨_, rfl, iteF ⟨rfl, sE⟩⟩⟩
    rintro σ H7 ⟨rfl, s7⟩
    replace e5 := s7 _ _ e56
    replace hv6 := hv6.same s7
    replace k06 := k06.trans (Hb.Same.kept s7)
    replace b6 := b6.mono s7
    clear e6 e56 s6 s7 hv5 k05 b5 s5 k04 b4 b3 k3 b2 s12 hR2
    have rlv : (iv r).length = r.length := List.length_map ..
    refine ⟨_, rfl, _, rfl, R, _, rfl, .inl (SqL.of e5), _, _, rfl, rfl, ?_⟩
    refine ⟨p, _, rfl, ⟨by rw [rlv]; omega, by rw [rlv]; omega⟩, b6, fun a H8 a0 a1 k8 b8 => ?_⟩
    rw [rlv] at a1
    obtain ⟨n, rfl⟩ : ∃ n : Nat, a = (n : Int) := ⟨a.toNat, by omega⟩
    have nr : n ≤ r.length := by omega
    have e8 := k8 _ _ e5 Rp
    have hv8 := hv6.kept k8 b6
    have k08 := k06.trans k8
    clear hv6 k06 e5 k8 b6
    -- bent
    -- row[:at]
    refine ⟨_, rfl, _, rfl, _, rfl, R, _, rfl, SqL.of e8, fun A1 hA1 => ?_⟩
    rw [cut_to' (show n ≤ (iv r).length by rw [rlv]; exact nr), ← List.map_take]
    have s9 := same_new hA1 (.lst (iv (r.take n)))
    have e9 : (upd H8 A1 (.lst (iv (r.take n)))) A1 = some (.lst (iv (r.take n))) := upd_same
    have A1p : A1 ≠ p := box_ne b8 hA1
    generalize upd H8 A1 (.lst (iv (r.take n))) = H9 at s9 e9 ⊢
    replace e8 := s9 _ _ e8
    replace b8 := b8.mono s9
    replace hv8 := hv8.same s9
    replace k08 := k08.trans (Hb.Same.kept s9)
    clear s9 hA1
    -- [pick ..]
    refine ⟨_, rfl, by show 1 ≤ sizeLine; decide, fun T hT => ?_⟩
    have s9 := same_new hT (.tup [.int 1])
    have eT : (upd H9 T (.tup [.int 1])) T = some (.tup [.int 1]) := upd_same
    generalize upd H9 T (.tup [.int 1]) = H10 at s9 eT ⊢
    refine ⟨by show 5 ≤ sizeLine; decide, fun Y hY => ?_⟩
    have s10 := same_new hY (.lst [.bl true, .non, .str (Str.ofString "1"), .ref T, .bl false])
    have eY : (upd H10 Y (.lst [.bl true, .non, .str (Str.ofString "1"), .ref T, .bl false])) Y = some (.lst [.bl true, .non, .str (Str.ofString "1"), .ref T, .bl false]) := upd_same
    have b9 := b8.mono s9
    have Yp : Y ≠ p := box_ne b9 hY
    generalize upd H10 Y (.lst [.bl true, .non, .str (Str.ofString "1"), .ref T, .bl false]) = H11 at s10 eY ⊢
    have b11 := b9.mono s10
    have s911 := s9.trans s10
    replace eT := s10 _ _ eT
    replace e8 := s911 _ _ e8
    replace e9 := s911 _ _ e9
    replace hv8 := hv8.same s911
    replace k08 := k08.trans (Hb.Same.kept s911)
    clear s9 s10 s911 hT hY b8 b9
    refine ⟨p, Y, _, rfl, b11, eY, Yp, ⟨by show 1 ≤ 5; decide, by show 5 ≤ 1000; decide⟩, fun x H12 hx k12 b12 => ?_⟩
    have ox : Odd H12 x := by
      refine Odd.kept (H := H11) ?_ k12 b11
      simp only [List.mem_cons, List.not_mem_nil, or_false] at hx
      rcases hx with rfl | rfl | rfl | rfl | rfl
      · exact .inl ⟨_, rfl⟩
      · exact .inr (.inl rfl)
      · exact .inr (.inr (.inl ⟨_, rfl⟩))
      · exact .inr (.inr (.inr ⟨T, rfl, eT⟩))
      · exact .inl ⟨_, rfl⟩
    replace e8 := k12 _ _ e8 Rp
    replace e9 := k12 _ _ e9 A1p
    replace hv8 := hv8.kept k12 b11
    replace k08 := k08.trans k12
    clear k12 b11 eY eT hx Yp
    refine ⟨by show 1 ≤ sizeLine; decide, fun A2 hA2 => ?_⟩
    have s13 := same_new hA2 (.lst [x])
    have e13 : (upd H12 A2 (.lst [x])) A2 = some (.lst [x]) := upd_same
    generalize upd H12 A2 (.lst [x]) = H13 at s13 e13 ⊢
    replace e8 := s13 _ _ e8
    replace e9 := s13 _ _ e9
    replace hv8 := hv8.same s13
    replace k08 := k08.trans (Hb.Same.kept s13)
    replace b12 := b12.mono s13
    replace ox := ox.same s13
    clear s13 hA2
    have tl1 : (r.take n).length = n := by rw [List.length_take]; omega
    refine ⟨A1, A2, _, _, rfl, rfl, e9, e13, ?_, fun A3 hA3 => ?_⟩
    · refine Nat.le_trans (m := 100) ?_ (by decide)
      rw [List.length_map, tl1]
      show n + 1 ≤ 100
      omega
    have s14 := same_new hA3 (.lst (iv (r.take n) ++ [x]))
    have e14 : (upd H13 A3 (.lst (iv (r.take n) ++ [x]))) A3 = some (.lst (iv (r.take n) ++ [x])) := upd_same
    generalize upd H13 A3 (.lst (iv (r.take n) ++ [x])) = H14 at s14 e14 ⊢
    replace e8 := s14 _ _ e8
    replace hv8 := hv8.same s14
    replace k08 := k08.trans (Hb.Same.kept s14)
    replace b12 := b12.mono s14
    replace ox := ox.same s14
    clear s14 hA3 e9 e13 A1p
    refine ⟨_, rfl, _, rfl, _, rfl, R, _, rfl, SqL.of e8, fun A4 hA4 => ?_⟩
    rw [cut_from' (show n ≤ (iv r).length by rw [rlv]; exact nr), ← List.map_drop]
    have s15 := same_new hA4 (.lst (iv (r.drop n)))
    have e15 : (upd H14 A4 (.lst (iv (r.drop n)))) A4 = some (.lst (iv (r.drop n))) := upd_same
    generalize upd H14 A4 (.lst (iv (r.drop n))) = H15 at s15 e15 ⊢
    replace e8 := s15 _ _ e8
    replace e14 := s15 _ _ e14
    replace hv8 := hv8.same s15
    replace k08 := k08.trans (Hb.Same.kept s15)
    replace b12 := b12.mono s15
    replace ox := ox.same s15
    clear s15 hA4
    have dl : (r.drop n).length ≤ 7 := by rw [List.length_drop]; omega
    refine ⟨A3, A4, _, _, rfl, rfl, e14, e15, ?_, fun A5 hA5 => ?_⟩
    · refine Nat.le_trans (m := 100) ?_ (by decide)
      rw [List.length_append, List.length_map, List.length_map, tl1]
      show n + 1 + _ ≤ 100
      omega
    have s16 := same_new hA5 (.lst (iv (r.take n) ++ [x] ++ iv (r.drop n)))
    have e16 : (upd H15 A5 (.lst (iv (r.take n) ++ [x] ++ iv (r.drop n)))) A5 = some (.lst (iv (r.take n) ++ [x] ++ iv (r.drop n))) := upd_same
    have A5p : A5 ≠ p := box_ne b12 hA5
    generalize upd H15 A5 (.lst (iv (r.take n) ++ [x] ++ iv (r.drop n))) = H16 at s16 e16 ⊢
    replace hv8 := hv8.same s16
    replace k08 := k08.trans (Hb.Same.kept s16)
    replace b12 := b12.mono s16
    replace ox := ox.same s16
    clear s16 hA5 e14 e15 e8
    refine ⟨_, rfl, by show 0 ≤ sizeLine; exact Nat.zero_le _, fun E1 hE1 => ?_⟩
    have s17 := same_new hE1 (.lst [])
    have f1 : (upd H16 E1 (.lst [])) E1 = some (.lst []) := upd_same
    have E1p : E1 ≠ p := box_ne b12 hE1
    generalize upd H16 E1 (.lst []) = H17 at s17 f1 ⊢
    refine ⟨by show 1 ≤ sizeLine; decide, fun E2 hE2 => ?_⟩
    have s18 := same_new hE2 (.lst [.non])
    have f2 : (upd H17 E2 (.lst [.non])) E2 = some (.lst [.non]) := upd_same
    have E2p : E2 ≠ p := box_ne (b12.mono s17) hE2
    generalize upd H17 E2 (.lst [.non]) = H18 at s18 f2 ⊢
    refine ⟨two, fun Y hY => ?_⟩
    have s19 := same_new hY (.lst [.ref E1, .ref E2])
    have eY : (upd H18 Y (.lst [.ref E1, .ref E2])) Y = some (.lst [.ref E1, .ref E2]) := upd_same
    have Yp : Y ≠ p := box_ne ((b12.mono s17).mono s18) hY
    generalize upd H18 Y (.lst [.ref E1, .ref E2]) = H19 at s19 eY ⊢
    have s1619 := s17.trans (s18.trans s19)
    replace f1 := (s18.trans s19) _ _ f1
    replace f2 := s19 _ _ f2
    have e19 := s1619 _ _ e16
    have b19 := b12.mono s1619
    replace hv8 := (hv8.same s1619)
    replace k08 := k08.trans (Hb.Same.kept s1619)
    replace ox := ox.same s1619
    clear s17 s18 s19 s1619 hE1 hE2 hY b12 e16
    refine ⟨p, Y, _, rfl, b19, eY, Yp, ⟨by show 1 ≤ 2; decide, by show 2 ≤ 1000; decide⟩, fun y H20 hy k20 b20 => ?_⟩
    replace e19 := k20 _ _ e19 A5p
    replace f1 := k20 _ _ f1 E1p
    replace f2 := k20 _ _ f2 E2p
    replace hv8 := hv8.kept k20 b19
    replace k08 := k08.trans k20
    replace ox := ox.kept k20 b19
    have hy2 : ∃ (Z : Addr) (zs : List V) (ds : List PyData), y = .ref Z ∧ H20 Z = some (.lst zs) ∧ (∀ H, DpAll K H zs ds) ∧ zs.length ≤ 1 := by
      simp only [List.mem_cons, List.not_mem_nil, or_false] at hy
      rcases hy with rfl | rfl
      · exact ⟨E1, [], [], rfl, f1, fun _ => .nil, by decide⟩
      · exact ⟨E2, [.non], [.none], rfl, f2, fun _ => .cons .non .nil, by decide⟩
    obtain ⟨Z, zs, ds, rfl, eZ, hds, zl⟩ := hy2
    clear k20 b19 eY Yp E1p E2p f1 f2 hy
    refine ⟨A5, Z, _, _, rfl, rfl, e19, eZ, ?_, fun A6 hA6 => ?_⟩
    · refine Nat.le_trans (m := 100) ?_ (by decide)
      rw [List.length_append, List.length_append, List.length_map, List.length_map, tl1]
      show n + 1 + _ + _ ≤ 100
      omega
    obtain ⟨bt, hbt⟩ : ∃ bt, bt = iv (r.take n) ++ [x] ++ iv (r.drop n) ++ zs := ⟨_, rfl⟩
    rw [← hbt]
    have s21 := same_new hA6 (.lst bt)
    have e21 : (upd H20 A6 (.lst bt)) A6 = some (.lst bt) := upd_same
    generalize upd H20 A6 (.lst bt) = H21 at s21 e21 ⊢
    replace hv8 := hv8.same s21
    replace k08 := k08.trans (Hb.Same.kept s21)
    replace b20 := b20.mono s21
    replace ox := ox.same s21
    clear s21 hA6 e19 eZ A5p
    have btl : bt.length ≤ 20 := by
      rw [hbt, List.length_append, List.length_append, List.length_append, List.length_map, List.length_map, tl1]
      show n + 1 + _ + _ ≤ 20
      omega
    have dbt : ∀ {H'}, Same H21 H' → ∃ d rest, isI d = false ∧ DpAll K H' bt ((r.take n).map PyData.int ++ d :: rest) ∧ ((r.take n).map PyData.int ++ d :: rest).length ≤ 20 := fun {H'} s => by
      obtain ⟨d, h1, h2⟩ := (ox.same s).dp (K := K)
      have hall : DpAll K H' bt ((r.take n).map PyData.int ++ d :: ((r.drop n).map PyData.int ++ ds)) := by
        rw [hbt, List.append_assoc, List.append_assoc]
        show DpAll K H' (iv (r.take n) ++ x :: (iv (r.drop n) ++ zs)) _
        exact dps_app (dp_ints _) (.cons h1 (dps_app (dp_ints _) (hds H')))
      exact ⟨d, _, h2, hall, by rw [← all_len hall]; exact btl⟩
    refine ⟨fun σ H22 => σ = [some (.ref p), some (.ref va), some (.ref R), some (.ref R2), some (.int (n : Int)), some (.ref A6), none] ∧ Same H21 H22, ?_, ?_⟩
    · obtain ⟨d, rest, i1, i2, _⟩ := dbt (Evl.Ex.refl H21)
      refine ⟨_, rfl, .ref A6, _, rfl, .lst (SqL.of e21) i2, fun u H22 s22 h22 => ?_⟩
      rw [cof_bent i1, tl1] at h22
      refine ⟨_, rfl, two, fun t ht => ?_⟩
      have s23 := same_new ht (.tup [.str (Str.ofString "refused"), .int (n : Int)])
      refine ne_out (o := .inl (n : Nat)) (dp_same s23 _ _ h22) (.tup (SqT.of upd_same) (.cons (.str _) (.cons (.int _) .nil))) ⟨_, rfl, iteF ?_⟩
      generalize upd H22 t (.tup [.str (Str.ofString "refused"), .int (n : Int)]) = H23 at s23 ⊢
      have sA := s22.trans s23
      refine ⟨_, rfl, A6, _, rfl, .inl ⟨SqL.of (sA _ _ e21), fun t2 ht2 => ?_⟩⟩
      have s24 := same_new ht2 (.tup bt)
      have e24 : (upd H23 t2 (.tup bt)) t2 = some (.tup bt) := upd_same
      generalize upd H23 t2 (.tup bt) = H24 at s24 e24 ⊢
      have sB := sA.trans s24
      obtain ⟨d, rest, i1, i2, i3⟩ := dbt sB
      refine ⟨.ref t2, _, rfl, .tup (SqT.of e24) i2, fun ds2 e => ?_, fun H25 s25 => ⟨_, rfl, ?_⟩⟩
      · cases e
        omega
      rw [crv_bent i1]
      have sC := sB.trans s25
      refine iteF ?_
      have hv25 := hv8.same sC
      obtain ⟨_, hva, hV25⟩ := hv25
      cases hva
      refine ⟨_, rfl, va, _, rfl, .inr hV25, fun L2 hL2 => ?_⟩
      have s26 := same_new hL2 (.lst (iv l))
      have e26 : (upd H25 L2 (.lst (iv l))) L2 = some (.lst (iv l)) := upd_same
      generalize upd H25 L2 (.lst (iv l)) = H26 at s26 e26 ⊢
      refine ⟨.ref L2, dL l, rfl, .lst (SqL.of e26) (dp_ints l), fun ds2 e => (by cases e), fun H27 s27 => ⟨_, rfl, ?_⟩⟩
      show if false = true then _ else _
      refine iteF ?_
      have sD := sC.trans (s26.trans s27)
      refine ⟨_, rfl, .ref va, dC l, rfl, (hv8.same sD).dp, fun ds2 e => ?_, fun H28 s28 => ⟨_, rfl, ?_⟩⟩
      · cases e
        rw [List.length_map]
        omega
      rw [crv_dC cl]
      exact iteF ⟨rfl, sD.trans s28⟩
    rintro σ H22 ⟨rfl, s22⟩
    replace hv8 := hv8.same s22
    replace k08 := k08.trans (Hb.Same.kept s22)
    replace b20 := b20.mono s22
    clear e21 dbt btl hbt ox s22
    refine ⟨fun σ H23 => σ = [some (.ref p), some (.ref va), some (.ref R), some (.ref R2), some (.int (n : Int)), some (.ref A6), none] ∧ Same H22 H23, ?_, ?_⟩
    · obtain ⟨_, hva, hV22⟩ := hv8
      cases hva
      refine ⟨_, rfl, by show 1 ≤ sizeLine; decide, fun t ht => ?_⟩
      have s23 := same_new ht (.tup [.int 0])
      have e23 : (upd H22 t (.tup [.int 0])) t = some (.tup [.int 0]) := upd_same
      generalize upd H22 t (.tup [.int 0]) = H23 at s23 e23 ⊢
      refine rd_cat0 ⟨va, rfl, SqT.same s23 hV22⟩ e23 (by omega) fun u H24 s24 h24 => ?_
      refine ⟨u, _, rfl, h24.dp, fun ds2 e => ?_, fun H25 s25 => ⟨_, rfl, ?_⟩⟩
      · cases e
        rw [List.length_map, List.length_append]
        simp only [List.length_cons, List.length_nil]
        omega
      rw [crv_pad]
      refine iteF ?_
      have sA := s23.trans (s24.trans s25)
      refine ⟨by show 4 ≤ sizeLine; decide, fun t4 ht4 => ?_⟩
      have s26 := same_new ht4 (.tup four)
      have e26 : (upd H25 t4 (.tup four)) t4 = some (.tup four) := upd_same
      generalize upd H25 t4 (.tup four) = H26 at s26 e26 ⊢
      have sB := sA.trans s26
      refine ⟨t4, rfl, ⟨_, SqT.of e26⟩, fun D hD => ?_⟩
      refine lc_tup (xs := four) (fun i H' => Same H26 H' ∧ H' D = some (.lst [])) ?_ (fun i H' _ h => SqT.of (h.1 _ _ e26)) ?_ ?_
      · exact ⟨same_new hD _, upd_same⟩
      · rintro i x H' hi ⟨h1, h2⟩
        obtain ⟨d, hd, hn⟩ := four_dp (K := K) (H := H') hi
        refine ⟨rfl, _, rfl, x, d, rfl, hd, fun ds2 e => (by rw [e] at hn; cases hn), fun H3 s3 => ⟨_, rfl, ?_⟩⟩
        rw [crv_no hn]
        exact iteF ⟨h1.trans s3, s3 _ _ h2⟩
      · rintro H' ⟨h1, h2⟩
        refine ⟨by show 0 ≤ sizeLine; exact Nat.zero_le _, fun D2 hD2 => ?_⟩
        have s27 := same_new hD2 (.lst [])
        exact rows_eq (l := []) (s27 _ _ h2) upd_same ⟨_, rfl, iteF ⟨rfl, sB.trans (h1.trans s27)⟩⟩
    rintro σ H23 ⟨rfl, s23⟩
    replace k08 := k08.trans (Hb.Same.kept s23)
    replace b20 := b20.mono s23
    refine ⟨by show 4 ≤ sizeLine; decide, fun t4 ht4 => ?_⟩
    have s26 := same_new ht4 (.tup four)
    have e26 : (upd H23 t4 (.tup four)) t4 = some (.tup four) := upd_same
    generalize upd H23 t4 (.tup four) = H26 at s26 e26 ⊢
    replace k08 := k08.trans (Hb.Same.kept s26)
    replace b20 := b20.mono s26
    refine ⟨t4, rfl, ⟨_, SqT.of e26⟩, fun D hD => ?_⟩
    refine lc_tup (xs := four) (fun i H' => Same H26 H' ∧ H' D = some (.lst [])) ?_ (fun i H' _ h => SqT.of (h.1 _ _ e26)) ?_ ?_
    · exact ⟨same_new hD _, upd_same⟩
    · rintro i x H' hi ⟨h1, h2⟩
      obtain ⟨d, hd, hn⟩ := four_dp (K := K) (H := H') hi
      refine ⟨rfl, _, rfl, x, d, rfl, hd, fun u H3 s3 h3 => ?_⟩
      rw [cof_no hn] at h3
      refine ⟨_, _, rfl, rfl, two, fun t ht => ?_⟩
      have s4 := same_new ht (.tup [.str (Str.ofString "refused"), .int (0 - 1)])
      refine ne_out (o := .inl (-1)) (dp_same s4 _ _ h3) (.tup (SqT.of upd_same) (.cons (.str _) (.cons (.int _) .nil))) ⟨_, rfl, iteF ?_⟩
      exact ⟨h1.trans (s3.trans s4), s4 _ _ (s3 _ _ h2)⟩
    · rintro H' ⟨h1, h2⟩
      refine ⟨by show 0 ≤ sizeLine; exact Nat.zero_le _, fun D2 hD2 => ?_⟩
      have s27 := same_new hD2 (.lst [])
      refine rows_eqT (l := []) (s27 _ _ h2) upd_same ?_
      exact q _ (k08.trans (Hb.Same.kept (h1.trans s27))) (b20.mono (h1.trans s27))
end
end Kc

namespace Kc
open PySem PySem.Spec PyProof.Rows L2 Hb Gu Tx Xb En M3 RZ RT
variable {K : PySem.W.Frag}
/-! ### _law_texts_right -/
theorem joinL_len : ∀ ps : List (List Nat), (TL.joinL [32] ps).length ≤ (ps.map List.length).sum + ps.length
  | [] => Nat.zero_le _
  | [p] => by
    show p.length ≤ (p.length + 0) + 1
    omega
  | p :: q :: r => by
    have ih := joinL_len (q :: r)
    show (p ++ 32 :: TL.joinL [32] (q :: r)).length ≤ (p.length + ((q :: r).map List.length).sum) + ((q :: r).length + 1)
    rw [List.length_append, List.length_cons]
    omega
theorem joinL_ok : ∀ ps : List (List Nat), (∀ p ∈ ps, okC p) → okC (TL.joinL [32] ps)
  | [], _ => by intro c hc; cases hc
  | [p], h => h p List.mem_cons_self
  | p :: q :: r, h => by
    have ih := joinL_ok (q :: r) fun t ht => h t (List.mem_cons_of_mem _ ht)
    intro c hc
    have hc : c ∈ p ++ 32 :: TL.joinL [32] (q :: r) := hc
    rcases List.mem_append.mp hc with z | z
    · exact h p List.mem_cons_self c z
    · rcases List.mem_cons.mp z with y | y
      · rw [y]; decide
      · exact ih c y
theorem tl_joinT (xs : List Str) : tl (Txt.join (Str.ofString " ") xs) = TL.joinL [32] (xs.map tl) := by
  show TL.tl (Txt.join (Str.ofString " ") xs) = _
  rw [TL.join_eq, TL.tl_join]
  rfl
/-- words of a text -/
structure WL (n : Nat) (wl : List Str) : Prop where
  ok : ∀ y ∈ wl, y.length ≤ 20 ∧ okS y
  le : wl.length ≤ n
theorem WL.sum {n : Nat} {wl : List Str} (h : WL n wl) : (wl.map (·.length)).sum ≤ 20 * n := by
  have key : ∀ l : List Str, (∀ y ∈ l, y.length ≤ 20 ∧ okS y) → (l.map (·.length)).sum ≤ 20 * l.length := by
    intro l
    induction l with
    | nil => intro _; exact Nat.zero_le _
    | cons a l ih =>
      intro k
      have h1 := ih fun c hc => k c (List.mem_cons_of_mem _ hc)
      have h2 := (k a List.mem_cons_self).1
      rw [List.map_cons, List.sum_cons, List.length_cons]
      omega
  have := key wl h.ok
  have := h.le
  omega
theorem WL.len {wl : List Str} (h : WL 10 wl) : (Txt.join (Str.ofString " ") wl).length ≤ 300 := by
  rw [len_tl, tl_joinT]
  have h1 := joinL_len (wl.map tl)
  rw [List.length_map, List.map_map] at h1
  have h2 := h.sum
  have h3 := h.le
  have e : (wl.map (List.length ∘ tl)).sum = (wl.map (·.length)).sum := by
    congr 1
  rw [e] at h1
  omega
theorem WL.okj {n : Nat} {wl : List Str} (h : WL n wl) : okS (Txt.join (Str.ofString " ") wl) := by
  unfold okS
  rw [tl_joinT]
  refine joinL_ok _ fun p hp => ?_
  obtain ⟨y, hy, rfl⟩ := List.mem_map.mp hp
  exact (h.ok y hy).2
theorem spl_okC (c : Nat) : ∀ (n : Nat) (l : List Nat), l.length ≤ n → okC l → ∀ p ∈ TL.spl [c] 0 [] l, okC p := by
  intro n
  induction n with
  | zero =>
    intro l hl hk p hp
    have e : l = [] := List.length_eq_zero_iff.mp (by omega)
    subst e
    rw [spl_no (by simp)] at hp
    rw [List.mem_singleton.mp hp]
    exact hk
  | succ n ih =>
    intro l hl hk p hp
    by_cases h : c ∈ l
    · obtain ⟨a, r, e, ha⟩ := cut_at h
      subst e
      rw [List.length_append, List.length_cons] at hl
      rw [spl_yes ha] at hp
      rcases List.mem_cons.mp hp with z | z
      · rw [z]
        exact fun t ht => hk t (List.mem_append.mpr (.inl ht))
      · exact ih r (by omega) (fun t ht => hk t (List.mem_append.mpr (.inr (List.mem_cons_of_mem _ ht)))) p z
    · rw [spl_no h] at hp
      rw [List.mem_singleton.mp hp]
      exact hk
theorem ws_wl {l : List Int} (h : M3.Le (2 ^ 15) l) (h5 : l.length ≤ 5) : WL 6 (ws l) := by
  unfold ws
  by_cases c : l = []
  · rw [if_pos c]
    refine ⟨fun y hy => ?_, by show 1 ≤ 6; decide⟩
    rw [List.mem_singleton.mp hy]
    exact ⟨by decide, okS_of _⟩
  · rw [if_neg c]
    refine ⟨fun y hy => ?_, by rw [List.length_map]; omega⟩
    obtain ⟨i, hi, rfl⟩ := List.mem_map.mp hy
    refine ⟨?_, okS_of _⟩
    have hl : i.natAbs.log2 < 16 := PySem.Flt.log2_lt_of (by decide) (Nat.lt_of_le_of_lt (h i hi) (by decide))
    have e := int_text_length_le (k := 16) (by decide) hl
    have : (Str.ofString (toString i)).length = (toString i).length := by
      have h := congrArg List.length (TL.tl_ofString (toString i))
      rw [List.length_map, String.length_toList] at h
      rw [TL.len_tl]
      exact h
    omega
theorem WL.ins {n : Nat} {wl : List Str} {x : Str} (h : WL n wl) (i : Nat) (h1 : x.length ≤ 20) (h2 : okS x) : WL (n + 1) (wl.take i ++ [x] ++ wl.drop i) := by
  refine ⟨fun y hy => ?_, ?_⟩
  · rcases List.mem_append.mp hy with z | z
    · rcases List.mem_append.mp z with z | z
      · exact h.ok y (List.mem_of_mem_take z)
      · rw [List.mem_singleton.mp z]; exact ⟨h1, h2⟩
    · exact h.ok y (List.mem_of_mem_drop z)
  · rw [List.length_append, List.length_append, List.length_take, List.length_drop]
    have := h.le
    simp only [List.length_cons, List.length_nil]
    omega
theorem WL.put {n : Nat} {wl : List Str} {x : Str} (h : WL n wl) (i : Nat) (h1 : x.length ≤ 20) (h2 : okS x) : WL n (wl.set i x) := by
  refine ⟨fun y hy => ?_, by rw [List.length_set]; exact h.le⟩
  rcases List.mem_or_eq_of_mem_set hy with z | z
  · exact h.ok y z
  · rw [z]; exact ⟨h1, h2⟩
theorem os_wo (x : Str) : wo (Txt.split x (Str.ofString " ")) = os x := by
  have s32 : Str.ofString " " = c1 32 := by rfl
  have es : (Txt.split x (Str.ofString " ")).map tl = TL.spl [32] 0 [] (tl x) := by rw [s32]; exact split1 x (by decide)
  unfold wo os
  rw [← es, List.map_map]
  rfl
theorem split_ok {x : Str} (hx : x.length ≤ 300) (hk : okS x) : (∀ y ∈ Txt.split x (Str.ofString " "), y.length ≤ 10000 ∧ okS y) ∧ (Txt.split x (Str.ofString " ")).length ≤ 1000 := by
  have s32 : Str.ofString " " = c1 32 := by rfl
  have es : (Txt.split x (Str.ofString " ")).map tl = TL.spl [32] 0 [] (tl x) := by rw [s32]; exact split1 x (by decide)
  refine ⟨fun y hy => ?_, Nat.le_trans (PyProof.Rows.split_le x (Str.ofString " ")) (by omega)⟩
  have hm : tl y ∈ TL.spl [32] 0 [] (tl x) := by rw [← es]; exact List.mem_map_of_mem hy
  have h1 := spl_len 32 _ _ (Nat.le_refl _) _ hm
  refine ⟨?_, spl_okC 32 _ _ (Nat.le_refl _) hk _ hm⟩
  rw [len_tl] at hx ⊢
  omega
theorem eqv_nilT (l : List PyData) : PyData.eqv (.tuple l) (.tuple []) = l.isEmpty := by
  cases l <;> simp [PyData.eqv, PyData.eqvAll]
abbrev L12 : List V := [.str (Str.ofString ""), .str (Str.ofString "-0"), .str (Str.ofString "07"), .str (Str.ofString "+3"), .str (Str.ofString "x"), .str (Str.ofString "1234567890"), .str (Str.ofString "0"), .str (Str.ofString "1_0"), .str (Str.ofString "-"), .str (Str.ofString "12"), .str (Str.ofString "0 0"), .str (Str.ofString "--1")]
abbrev L4 : List V := [.str (Str.ofString "a"), .str (Str.ofString ""), .str (Str.ofString "0"), .str (Str.ofString "5")]
theorem of12 {v : V} (h : v ∈ L12) : ∃ z : Str, v = .str z ∧ z.length ≤ 20 ∧ okS z := of_lits (l := ["", "-0", "07", "+3", "x", "1234567890", "0", "1_0", "-", "12", "0 0", "--1"]) (n := 20) h (by decide +kernel)
theorem of4 {v : V} (h : v ∈ L4) : ∃ z : Str, v = .str z ∧ z.length ≤ 20 ∧ okS z := of_lits (l := ["a", "", "0", "5"]) (n := 20) h (by decide +kernel)
section
variable {P : Program} {w : World} {mg : Str → Option Value} {base : Heap}
abbrev s__law_texts_right : Stmt := top 50
theorem sc__law_texts_right : FnScope ["box", "one", "words", "turn", "bent", "spoilt", "text", "number", "value"] ["box", "one"] (defScope s__law_texts_right) := ⟨rfl, rfl, rfl, by decide +kernel, rfl, by decide +kernel, by decide +kernel⟩
def spTxtR (K : PySem.W.Frag) : Sp := fun vs H Q _ => ∃ (p : Addr) (v : V) (l : List Int), vs = [.ref p, v] ∧ BoxAt H p ∧ IsCv K H v l ∧ Cn l ∧ l.length ≤ 5 ∧ M3.Le (2 ^ 15) l ∧ ∀ H', Kept p H H' → BoxAt H' p → Q (.bl true) H'
theorem ok_txtR {f : Addr} {fd : FuncData} (F : Fun K "_law_texts_right" "_law_texts_right" s__law_texts_right f fd) (C__law_due : Cg P w K mg base CX0 "_law_due" ["words"] [] 2 (spDue K)) (C__law_pick : Cg P w K mg base CX0 "_law_pick" ["box", "some"] [] 2 spPick) (C__law_read : Cg P w K mg base CX0 "_law_read" ["text"] [] 3 (spLRead K)) (C__law_take : Cg P w K mg base CX0 "_law_take" ["box", "many"] [] 1 spTake) (C_curve_text : Cg P w K mg base CX0 "curve_text" ["f"] [] 1 (spCText K)) (n_len : mg "len" = none) (n_list : mg "list" = none) (n_range : mg "range" = none) (n_str : mg "str" = none) : FnG P w K mg base CX0 4 f fd ["box", "one"] (spTxtR K) := by
  refine go_ok F sc__law_texts_right (fun vs H Q E h => ?_) (fun cdv A outer s H vs Q E hr fr h => ?_)
  · obtain ⟨_, _, _, rfl, _⟩ := h
    rfl
  · obtain ⟨p, v, l, rfl, hb, hv, cl, l5, hl, q⟩ := h
    refine ⟨_, (Evl.pss_cut (ps_set (i := 2) sc__law_texts_right.nd rfl (Or.inl rfl) (pe_ifExp (pt_cmpR (op_neD hr.units) (pv 1) (pe_tup pa_nil) (nomark _)) (pe_lc (own := [("number", 7)]) (g := gName 7) rfl sc__law_texts_right.nd (pi_tup (pv 1)) (blkOk_by (N := ["box", "one", "words", "turn", "bent", "spoilt", "text", "number", "value"]) (sc := defScope s__law_texts_right) (by decide +kernel)) (fun _ _ _ _ _ => pg_name (i := 7) sc__law_texts_right.nd rfl (Or.inl rfl)) (fun _ _ _ _ _ => pts_nil) (fun _ _ _ _ _ => pe_callTy call_str_int (by rfl) n_str (by decide +kernel) (pa_cons (pv 7) pa_nil))) (pe_lst (pa_cons pe_str pa_nil))))
    (Evl.pss_cut (ps_if (PW.pt (pw_or (pt_cmpR op_ne (pe_go C_curve_text (hr.mono (by decide)) fr rfl (pa_cons (pv 1) pa_nil)) (pe_bm PySem.F.plainAttrs_str PySem.F.slot_str_join PySem.F.type_str_join mt_join pe_str (pa_cons (pv 2) pa_nil)) (nomark _)) (pw_or1 (pt_cmpR (op_neD hr.units) (pe_go C__law_read (hr.mono (by decide)) fr rfl (pa_cons (pe_go C_curve_text (hr.mono (by decide)) fr rfl (pa_cons (pv 1) pa_nil)) pa_nil)) (pe_tup (pa_cons pe_str (pa_cons (pv 1) pa_nil))) (nomark _))))) (pss_one (ps_ret pe_bl)) pss_nil)
    (Evl.pss_cut (ps_for PassesOwn.never rfl (pi_range1 (by rfl) n_range (pa_cons pe_int pa_nil)) (pg_name (i := 3) sc__law_texts_right.nd rfl (Or.inl rfl))
      (pss_cons (ps_set (i := 4) sc__law_texts_right.nd rfl (Or.inl rfl) (pe_callTy call_list_of (by rfl) n_list (by decide +kernel) (pa_cons (pv 2) pa_nil)))
    (pss_cons (ps_set (i := 5) sc__law_texts_right.nd rfl (Or.inl rfl) (pe_go C__law_pick (hr.mono (by decide)) fr rfl (pa_cons (pv 0) (pa_cons (pe_lst (pa_cons pe_str (pa_cons pe_str (pa_cons pe_str (pa_cons pe_str (pa_cons pe_str (pa_cons pe_str (pa_cons pe_str (pa_cons pe_str (pa_cons pe_str (pa_cons pe_str (pa_cons pe_str (pa_cons pe_str pa_nil))))))))))))) pa_nil))))
    (pss_cons (ps_expr (pe_bm PySem.F.plainAttrs_list PySem.F.slot_list_insert PySem.F.type_list_insert mt_insert (pv 4) (pa_cons (pe_go C__law_take (hr.mono (by decide)) fr rfl (pa_cons (pv 0) (pa_cons (pe_op op_add (pe_callB call_len_seq (by rfl) n_len PySem.boot_len (pa_cons (pv 4) pa_nil)) pe_int) pa_nil))) (pa_cons (pv 5) pa_nil))))
    (Evl.pss_cut (ps_if (pt_cmpR op_eq (pe_go C__law_take (hr.mono (by decide)) fr rfl (pa_cons (pv 0) (pa_cons pe_int pa_nil))) pe_int (nomark _)) (pss_one (ps_asg (pe_go C__law_pick (hr.mono (by decide)) fr rfl (pa_cons (pv 0) (pa_cons (pe_lst (pa_cons pe_str (pa_cons pe_str (pa_cons pe_str (pa_cons pe_str pa_nil))))) pa_nil))) (pg_sub (pv 4) (pe_go C__law_take (hr.mono (by decide)) fr rfl (pa_cons (pv 0) (pa_cons (pe_callB call_len_seq (by rfl) n_len PySem.boot_len (pa_cons (pv 4) pa_nil)) pa_nil))) set_list))) pss_nil)
    (pss_cons (ps_set (i := 6) sc__law_texts_right.nd rfl (Or.inl rfl) (pe_bm PySem.F.plainAttrs_str PySem.F.slot_str_join PySem.F.type_str_join mt_join pe_str (pa_cons (pv 4) pa_nil)))
    (pss_one (ps_if (pt_cmpR (op_neD hr.units) (pe_go C__law_read (hr.mono (by decide)) fr rfl (pa_cons (pv 6) pa_nil)) (pe_go C__law_due (hr.mono (by decide)) fr rfl (pa_cons (pe_bm PySem.F.plainAttrs_str PySem.F.slot_str_split PySem.F.type_str_split mt_split (pv 6) (pa_cons pe_str pa_nil)) pa_nil)) (nomark _)) (pss_one (ps_ret pe_bl)) pss_nil))))))))
    (pss_one (ps_ret (pe_cmpR (op_eqD hr.units) (pe_lc (own := [("value", 8)]) (g := gName 8) rfl sc__law_texts_right.nd (pi_tup (pe_tup (pa_cons pe_non (pa_cons pe_int (pa_cons (pe_lst (pa_cons pe_str pa_nil)) (pa_cons (pe_tup (pa_cons pe_str pa_nil)) (pa_cons pe_bl pa_nil))))))) (blkOk_by (N := ["box", "one", "words", "turn", "bent", "spoilt", "text", "number", "value"]) (sc := defScope s__law_texts_right) (by decide +kernel)) (fun _ _ _ _ _ => pg_name (i := 8) sc__law_texts_right.nd rfl (Or.inl rfl)) (fun _ _ _ _ _ => pts_one (pt_cmpR (r := rNeD K) (op_neD hr.units) (pe_go C__law_read (hr.mono (by decide)) fr rfl (pa_cons (pv 8) pa_nil)) (pe_tup (pa_cons pe_str (pa_cons pe_int pa_nil))) (nomark _))) (fun _ _ _ _ _ => pv 8)) (pe_lst pa_nil) (nomark _))))))), ?_⟩
    have two : (2 : Nat) ≤ sizeLine := by decide
    have hs100 : M3.Le (2 ^ 100) l := fun c hc => Nat.le_trans (hl c hc) (by decide)
    have hw6 := ws_wl hl l5
    have h15 : ∀ i ∈ l, i.natAbs < 10 ^ 9 := fun i hi => Nat.lt_of_le_of_lt (hl i hi) (by decide)
    obtain ⟨va, rfl, hV⟩ := hv
    have hv : IsCv K H (.ref va) l := ⟨va, rfl, hV⟩
    refine ⟨fun σ H' => ∃ W, σ = [some (.ref p), some (.ref va), some (.ref W), none, none, none, none, none, none] ∧ Same H H' ∧ H' W = some (.lst ((ws l).map V.str)) ∧ H W = none, ?_, ?_⟩
    · refine ⟨_, rfl, by show 0 ≤ sizeLine; exact Nat.zero_le _, fun t ht => ?_⟩
      have s1 := same_new ht (.tup [])
      have e1 : (upd H t (.tup [])) t = some (.tup []) := upd_same
      generalize upd H t (.tup []) = H1 at s1 e1 ⊢
      refine ⟨dC l, .tuple [], (hv.same s1).dp, .tup (SqT.of e1) .nil, sh_dC l, rfl, _, rfl, ?_⟩
      show if (!PyData.eqv (.tuple (l.map PyData.int)) (.tuple [])) = true then _ else _
      rw [eqv_nilT]
      cases er : (l.map PyData.int).isEmpty with
      | true =>
        have el : l = [] := List.map_eq_nil_iff.mp (List.isEmpty_iff.mp er)
        refine iteF ⟨by show 1 ≤ sizeLine; decide, fun W hW => ⟨W, rfl, s1.trans (same_new hW _), ?_, Evl.fresh_back s1 hW⟩⟩
        rw [upd_same, el]
        rfl
      | false =>
        have nl : l ≠ [] := fun z => by rw [z] at er; cases er
        have ew : ws l = l.map fun i => Str.ofString (toString i) := by unfold ws; rw [if_neg nl]
        have hV1 := SqT.same s1 hV
        refine iteT ⟨_, rfl, va, rfl, ⟨_, hV1⟩, fun D hD => ?_⟩
        refine lc_tup (xs := iv l) (fun i H' => Same H1 H' ∧ H' D = some (.lst (((l.take i).map fun i => Str.ofString (toString i)).map V.str))) ?_ (fun i H' _ h => SqT.same h.1 hV1) ?_ ?_
        · exact ⟨same_new hD _, upd_same⟩
        · rintro i x H' hi ⟨h1, h2⟩
          obtain ⟨hi', rfl⟩ := iv_get' hi
          have := hl _ (List.getElem_mem hi')
          refine ⟨rfl, _, rfl, _, rfl, (tlen (Nat.lt_of_le_of_lt this (by decide))).1, _, h2, ?_, Evl.Ex.mut h1 hD, ?_⟩
          · rw [List.length_map, List.length_map, List.length_take]
            exact Nat.lt_of_le_of_lt (m := 1000) (by omega) (by decide)
          · rw [upd_same, List.take_add_one, List.getElem?_eq_getElem hi', List.map_append, List.map_append]
            rfl
        · rintro H' ⟨h1, h2⟩
          rw [List.length_map, List.take_length, ← ew] at h2
          exact ⟨D, rfl, s1.trans h1, h2, Evl.fresh_back s1 hD⟩
    rintro σ H1 ⟨W, rfl, s1, eW, hW⟩
    have Wp : W ≠ p := box_ne hb hW
    have b1 := hb.mono s1
    have k1 : Kept p H H1 := Hb.Same.kept s1
    have hv1 := hv.same s1
    clear s1 hW
    refine ⟨fun σ H' => σ = [some (.ref p), some (.ref va), some (.ref W), none, none, none, none, none, none] ∧ Same H1 H', ?_, ?_⟩
    · refine ⟨_, rfl, .ref va, l, rfl, hv1, by omega, hs100, fun H2 s2 => ?_⟩
      refine ⟨rfl, _, rfl, _, W, _, rfl, rfl, .inl (SqL.of (s2 _ _ eW)), ?_, ?_⟩
      · exact ws_sum hs100 (by omega)
      refine ⟨rfl, _, rfl, str_same ?_⟩
      refine ⟨_, rfl, .ref va, l, rfl, hv1.same s2, by omega, hs100, fun H3 s3 => ?_⟩
      refine ⟨_, _, rfl, .str _, fun x e => ?_, fun u H4 s4 h4 => ?_⟩
      · cases e
        have : WL 10 (ws l) := ⟨hw6.ok, Nat.le_trans hw6.le (by decide)⟩
        exact Nat.le_trans this.len (by decide)
      rw [read_back cl h15] at h4
      refine ⟨_, rfl, two, fun t ht => ?_⟩
      have s5 := same_new ht (.tup [.str (Str.ofString "curve"), .ref va])
      have sA := s2.trans (s3.trans s4)
      exact ne_out (o := .inr l) (dp_same s5 _ _ h4) (.tup (SqT.of upd_same) (.cons (.str _) (.cons (hv1.same (sA.trans s5)).dp .nil))) ⟨_, rfl, iteF ⟨rfl, sA.trans s5⟩⟩
    rintro σ H2 ⟨rfl, s2⟩
    replace eW := s2 _ _ eW
    replace b1 := b1.mono s2
    replace k1 := k1.trans (Hb.Same.kept s2)
    clear s2 hv1 hv
    refine ⟨fun σ H' => (∃ o3 o4 o5 o6, σ = [some (.ref p), some (.ref va), some (.ref W), o3, o4, o5, o6, none, none]) ∧ Kept p H2 H' ∧ BoxAt H' p, ?_, ?_⟩
    · refine ⟨4, rfl, by decide, by decide, ?_⟩
      refine for_range (lo := 0) (n := 4) (fun i σ H' => (∃ o3 o4 o5 o6, σ = [some (.ref p), some (.ref va), some (.ref W), o3, o4, o5, o6, none, none]) ∧ Kept p H2 H' ∧ BoxAt H' p) ?_ ?_ ?_
      · exact ⟨⟨none, none, none, none, rfl⟩, Kept.refl p H2, b1⟩
      · rintro i σ H3 hi ⟨⟨o3, o4, o5, o6, rfl⟩, k3, b3⟩
        have eW3 := k3 _ _ eW Wp
        refine ⟨_, rfl, W, _, rfl, .inl (SqL.of eW3), fun B hB => ?_⟩
        have Bp : B ≠ p := box_ne b3 hB
        have s4 := same_new hB (.lst ((ws l).map V.str))
        have eB : (upd H3 B (.lst ((ws l).map V.str))) B = some (.lst ((ws l).map V.str)) := upd_same
        have nB : H2 B = none := by
          cases e : H2 B with
          | none => rfl
          | some o => rw [k3 B o e Bp] at hB; cases hB
        generalize upd H3 B (.lst ((ws l).map V.str)) = H4 at s4 eB ⊢
        replace k3 := k3.trans (Hb.Same.kept s4)
        replace b3 := b3.mono s4
        clear s4 hB eW3
        refine ⟨_, rfl, by show 12 ≤ sizeLine; decide, fun Y hY => ?_⟩
        have s5 := same_new hY (.lst L12)
        have eY : (upd H4 Y (.lst L12)) Y = some (.lst L12) := upd_same
        have Yp : Y ≠ p := box_ne b3 hY
        generalize upd H4 Y (.lst L12) = H5 at s5 eY ⊢
        replace b3 := b3.mono s5
        replace eB := s5 _ _ eB
        replace k3 := k3.trans (Hb.Same.kept s5)
        refine ⟨p, Y, _, rfl, b3, eY, Yp, ⟨by decide, by decide⟩, fun x H6 hx k6 b6 => ?_⟩
        obtain ⟨z, rfl, z1, z2⟩ := of12 hx
        replace eB := k6 _ _ eB Bp
        replace k3 := k3.trans k6
        clear s5 eY Yp hx k6 b3 hY
        refine ⟨_, rfl, .inl ⟨rfl, _, SqL.of eB⟩, _, rfl, _, rfl, B, _, rfl, .inl (SqL.of eB), _, _, rfl, rfl, ?_⟩
        have wle := hw6.le
        rw [List.length_map]
        refine ⟨p, _, rfl, ⟨by omega, by omega⟩, b6, fun d H7 d0 d1 k7 b7 => ?_⟩
        replace eB := k7 _ _ eB Bp
        replace k3 := k3.trans k7
        clear k7 b6
        refine ⟨_, rfl, B, _, d, _, rfl, rfl, eB, ?_, d0, by omega, ?_⟩
        · rw [List.length_map]
          exact Nat.lt_of_le_of_lt (m := 10) (by omega) (by decide)
        obtain ⟨wl, hwl⟩ : ∃ wl, wl = (ws l).take d.toNat ++ [z] ++ (ws l).drop d.toNat := ⟨_, rfl⟩
        have ewl : ((ws l).map V.str).take d.toNat ++ [V.str z] ++ ((ws l).map V.str).drop d.toNat = wl.map V.str := by
          rw [hwl, List.map_append, List.map_append, List.map_take, List.map_drop]
          rfl
        have w7 : WL 7 wl := by rw [hwl]; exact hw6.ins d.toNat z1 z2
        have wp : 1 ≤ wl.length := by
          rw [hwl, List.length_append, List.length_append]
          simp only [List.length_cons, List.length_nil]
          omega
        rw [ewl]
        have k8 : Kept p H2 (upd H7 B (.lst (wl.map V.str))) := kept_mut (Kept.refl p H2) k3 nB
        have b8 : BoxAt (upd H7 B (.lst (wl.map V.str))) p := box_mut b7 Bp
        have e8 : (upd H7 B (.lst (wl.map V.str))) B = some (.lst (wl.map V.str)) := upd_same
        generalize upd H7 B (.lst (wl.map V.str)) = H8 at k8 b8 e8 ⊢
        clear ewl hwl eB k3 b7
        refine ⟨fun σ H' => σ = [some (.ref p), some (.ref va), some (.ref W), some (.int (0 + (i : Int))), some (.ref B), some (.str z), o6, none, none] ∧ Kept p H2 H' ∧ BoxAt H' p ∧ ∃ wl, H' B = some (.lst (wl.map V.str)) ∧ WL 7 wl, ?_, ?_⟩
        · refine ⟨_, rfl, p, _, rfl, ⟨by decide, by decide⟩, b8, fun d H9 d0 d1 k9 b9 => ?_⟩
          replace e8 := k9 _ _ e8 Bp
          replace k8 := k8.trans k9
          refine ⟨rfl, _, rfl, ?_⟩
          refine iteD (fun c => ?_) (fun c => ⟨rfl, k8, b9, wl, e8, w7⟩)
          refine ⟨_, rfl, by show 4 ≤ sizeLine; decide, fun Y hY => ?_⟩
          have s5 := same_new hY (.lst L4)
          have eY : (upd H9 Y (.lst L4)) Y = some (.lst L4) := upd_same
          have Yp : Y ≠ p := box_ne b9 hY
          generalize upd H9 Y (.lst L4) = H10 at s5 eY ⊢
          have b10 := b9.mono s5
          replace e8 := s5 _ _ e8
          replace k8 := k8.trans (Hb.Same.kept s5)
          refine ⟨p, Y, _, rfl, b10, eY, Yp, ⟨by decide, by decide⟩, fun x H11 hx k11 b11 => ?_⟩
          obtain ⟨z', rfl, z3, z4⟩ := of4 hx
          replace e8 := k11 _ _ e8 Bp
          replace k8 := k8.trans k11
          refine ⟨_, rfl, _, rfl, _, rfl, B, _, rfl, .inl (SqL.of e8), ?_⟩
          have wle7 := w7.le
          rw [List.length_map]
          refine ⟨p, _, rfl, ⟨by omega, by omega⟩, b11, fun k H12 k0 k1' k12 b12 => ?_⟩
          replace e8 := k12 _ _ e8 Bp
          replace k8 := k8.trans k12
          refine ⟨B, _, k, k.toNat, rfl, rfl, e8, ?_, rfl, kept_mut (Kept.refl p H2) k8 nB, box_mut b12 Bp, wl.set k.toNat z', ?_, w7.put _ z3 z4⟩
          · rw [List.length_map]
            have := ixN_of (n := wl.length) (k := k.toNat) (by omega)
            rw [show ((k.toNat : Nat) : Int) = k by omega] at this
            exact this
          · rw [upd_same, List.map_set]
        rintro σ H9 ⟨rfl, k9, b9, wl2, e9, w9⟩
        have w10 : WL 10 wl2 := ⟨w9.ok, Nat.le_trans w9.le (by decide)⟩
        have tx := w10.len
        have tk := w10.okj
        refine ⟨rfl, _, rfl, _, B, _, rfl, rfl, .inl (SqL.of e9), ?_, ?_⟩
        · have h1 := w9.sum
          have h2 := w9.le
          refine Nat.le_trans (m := 1000) ?_ (by decide)
          show _ + wl2.length * 1 ≤ 1000
          omega
        obtain ⟨x, hx⟩ : ∃ x, x = Txt.join (Str.ofString " ") wl2 := ⟨_, rfl⟩
        rw [← hx] at tx tk ⊢
        refine ⟨_, rfl, .str x, .str x, rfl, .str x, fun y e => ?_, fun u H10 s10 h10 => ?_⟩
        · cases e
          omega
        refine ⟨_, rfl, rfl, _, _, rfl, rfl, rfl, Nat.le_trans (Nat.add_le_add_right tx 2) (by decide), fun S hS => ?_⟩
        obtain ⟨p1, p2⟩ := split_ok tx tk
        have s11 := same_new hS (.lst ((Txt.split x (Str.ofString " ")).map V.str))
        refine ⟨S, _, rfl, upd_same, p1, p2, fun u2 H12 s12 h12 => ?_⟩
        rw [os_wo] at h12
        have sA := s10.trans (s11.trans s12)
        refine ne_out (o := rdo (os x)) (dp_same (s11.trans s12) _ _ h10) h12 ⟨_, rfl, iteF ?_⟩
        exact ⟨⟨_, _, _, _, rfl⟩, k9.trans (Hb.Same.kept sA), b9.mono sA⟩
      · rintro σ H3 h3
        exact h3
    rintro σ H3 ⟨⟨o3, o4, o5, o6, rfl⟩, k3, b3⟩
    replace k3 := k1.trans k3
    refine ⟨by show 1 ≤ sizeLine; decide, fun A hA => ?_⟩
    have s4 := same_new hA (.lst [.str (Str.ofString "1")])
    have eA : (upd H3 A (.lst [.str (Str.ofString "1")])) A = some (.lst [.str (Str.ofString "1")]) := upd_same
    generalize upd H3 A (.lst [.str (Str.ofString "1")]) = H4 at s4 eA ⊢
    refine ⟨by show 1 ≤ sizeLine; decide, fun T hT => ?_⟩
    have s5 := same_new hT (.tup [.str (Str.ofString "1")])
    have eT : (upd H4 T (.tup [.str (Str.ofString "1")])) T = some (.tup [.str (Str.ofString "1")]) := upd_same
    generalize upd H4 T (.tup [.str (Str.ofString "1")]) = H5 at s5 eT ⊢
    refine ⟨by show 5 ≤ sizeLine; decide, fun Y hY => ?_⟩
    have s6 := same_new hY (.tup [.non, .int 3, .ref A, .ref T, .bl true])
    have eY : (upd H5 Y (.tup [.non, .int 3, .ref A, .ref T, .bl true])) Y = some (.tup [.non, .int 3, .ref A, .ref T, .bl true]) := upd_same
    generalize upd H5 Y (.tup [.non, .int 3, .ref A, .ref T, .bl true]) = H6 at s6 eY ⊢
    replace eA := (s5.trans s6) _ _ eA
    replace eT := s6 _ _ eT
    have s36 := s4.trans (s5.trans s6)
    refine ⟨Y, rfl, ⟨_, SqT.of eY⟩, fun D hD => ?_⟩
    refine lc_tup (xs := [.non, .int 3, .ref A, .ref T, .bl true]) (fun i H' => Same H6 H' ∧ H' D = some (.lst [])) ?_ (fun i H' _ h => SqT.of (h.1 _ _ eY)) ?_ ?_
    · exact ⟨same_new hD _, upd_same⟩
    · rintro i x H' hi ⟨h1, h2⟩
      have hd : ∃ d, Dp K H' x d ∧ rdT d = .inl 0 ∧ ∀ y, d ≠ .str y := by
        have := List.mem_of_getElem? hi
        simp only [List.mem_cons, List.not_mem_nil, or_false] at this
        rcases this with rfl | rfl | rfl | rfl | rfl
        · exact ⟨_, .non, rfl, by intro y z; cases z⟩
        · exact ⟨_, .int 3, rfl, by intro y z; cases z⟩
        · exact ⟨.list [.str _], .lst (SqL.of (h1 _ _ eA)) (.cons (.str _) .nil), rfl, by intro y z; cases z⟩
        · exact ⟨.tuple [.str _], .tup (SqT.of (h1 _ _ eT)) (.cons (.str _) .nil), rfl, by intro y z; cases z⟩
        · exact ⟨_, .bl true, rfl, by intro y z; cases z⟩
      obtain ⟨d, hd, hr0, hns⟩ := hd
      refine ⟨rfl, _, rfl, x, d, rfl, hd, fun y e => absurd e (hns y), fun u H7 s7 h7 => ?_⟩
      rw [hr0] at h7
      refine ⟨two, fun t ht => ?_⟩
      have s8 := same_new ht (.tup [.str (Str.ofString "refused"), .int 0])
      refine ne_out (o := .inl 0) (dp_same s8 _ _ h7) (.tup (SqT.of upd_same) (.cons (.str _) (.cons (.int _) .nil))) ⟨_, rfl, iteF ?_⟩
      exact ⟨h1.trans (s7.trans s8), s8 _ _ (s7 _ _ h2)⟩
    · rintro H' ⟨h1, h2⟩
      refine ⟨by show 0 ≤ sizeLine; exact Nat.zero_le _, fun D2 hD2 => ?_⟩
      have s27 := same_new hD2 (.lst [])
      refine rows_eqT (l := []) (s27 _ _ h2) upd_same ?_
      exact q _ (k3.trans (Hb.Same.kept (s36.trans (h1.trans s27)))) (b3.mono (s36.trans (h1.trans s27)))
end
end Kc

namespace Kc
open PySem PySem.Spec PyProof.Rows L2 Hb Gu Tx Xb En M3 RZ RT
section
variable {P : Program} {w : World} {K : PySem.W.Frag} {mg : Str → Option Value} {base : Heap}
/-! ### law -/
abbrev s_law : Stmt := top 51
theorem sc_law : FnScope ["script", "box", "more", "one", "other", "many", "at"] ["script"] (defScope s_law) := ⟨rfl, rfl, rfl, by decide +kernel, rfl, by decide +kernel, by decide +kernel⟩
def spLaw (K : PySem.W.Frag) : Sp := fun vs H Q _ => ∃ (a : Addr) (ns : List Int), vs = [.ref a] ∧ SqL K H a (ns.map V.int) ∧ ns.length ≤ 63 ∧ ∀ H', Q (.bl true) H'
theorem box_other {H H' : Hp} {p q : Addr} (b : BoxAt H q) (k : Kept p H H') (n : q ≠ p) : BoxAt H' q := by
  obtain ⟨g, s, m, e, r⟩ := b
  exact ⟨g, s, m, k _ _ e n, r⟩
theorem cn_small {i : Int} (h : -(2 ^ 10) < i ∧ i < 2 ^ 10) : i.natAbs < 2 ^ 15 := by omega
theorem ok_law {f : Addr} {fd : FuncData} (F : Fun K "law" "law" s_law f fd) (C__law_box : Cg P w K mg base CX0 "_law_box" ["script", "k"] [] 1 (spBox K)) (C__law_drawn : Cg P w K mg base CX0 "_law_drawn" ["box"] [] 3 (spDrawn K)) (C__law_low : Cg P w K mg base CX0 "_law_low" ["top", "bottom"] [] 2 spBy) (C__law_reckoned : Cg P w K mg base CX0 "_law_reckoned" ["one", "other", "many", "at"] [] 4 (spReck K)) (C__law_sequences_right : Cg P w K mg base CX0 "_law_sequences_right" ["box", "one"] [] 4 (spSeqR K)) (C__law_take : Cg P w K mg base CX0 "_law_take" ["box", "many"] [] 1 spTake) (C__law_texts_right : Cg P w K mg base CX0 "_law_texts_right" ["box", "one"] [] 4 (spTxtR K)) : FnG P w K mg base CX0 5 f fd ["script"] (spLaw K) := by
  refine go_ok F sc_law (fun vs H Q E h => ?_) (fun cdv A outer s H vs Q E hr fr h => ?_)
  · obtain ⟨_, _, rfl, _⟩ := h
    rfl
  · obtain ⟨a, ns, rfl, hS, h63, q⟩ := h
    refine ⟨_, (pss_cons (ps_par (i := 1) (j := 2) (by rfl) sc_law.nd rfl rfl (by decide) rfl rfl (pa_cons (pe_go C__law_box (hr.mono (by decide)) fr rfl (pa_cons (pv 0) (pa_cons pe_int pa_nil))) (pa_cons (pe_go C__law_box (hr.mono (by decide)) fr rfl (pa_cons (pv 0) (pa_cons pe_int pa_nil))) pa_nil)) (by rfl))
    (pss_cons (ps_par (i := 3) (j := 4) (by rfl) sc_law.nd rfl rfl (by decide) rfl rfl (pa_cons (pe_go C__law_drawn (hr.mono (by decide)) fr rfl (pa_cons (pv 1) pa_nil)) (pa_cons (pe_go C__law_drawn (hr.mono (by decide)) fr rfl (pa_cons (pv 2) pa_nil)) pa_nil)) (by rfl))
    (pss_cons (ps_par (i := 5) (j := 6) (by rfl) sc_law.nd rfl rfl (by decide) rfl rfl (pa_cons (pe_op op_sub (pe_go C__law_take (hr.mono (by decide)) fr rfl (pa_cons (pv 1) (pa_cons pe_int pa_nil))) pe_int) (pa_cons (pe_go C__law_low (hr.mono (by decide)) fr rfl (pa_cons (pe_op op_sub (pe_go C__law_take (hr.mono (by decide)) fr rfl (pa_cons (pv 2) (pa_cons pe_int pa_nil))) pe_int) (pa_cons (pe_op op_add pe_int (pe_go C__law_take (hr.mono (by decide)) fr rfl (pa_cons (pv 2) (pa_cons pe_int pa_nil)))) pa_nil))) pa_nil)) (by rfl))
    (Evl.pss_cut (ps_if (PW.pt (pw_or (pt_not (pt_val (pe_go C__law_reckoned (hr.mono (by decide)) fr rfl (pa_cons (pv 3) (pa_cons (pv 4) (pa_cons (pv 5) (pa_cons (pv 6) pa_nil))))))) (pw_or1 (pt_not (pt_val (pe_go C__law_reckoned (hr.mono (by decide)) fr rfl (pa_cons (pv 4) (pa_cons (pv 3) (pa_cons (pv 5) (pa_cons (pv 6) pa_nil)))))))))) (pss_one (ps_ret pe_bl)) pss_nil)
    (pss_one (ps_ret (pe_and (pe_go C__law_sequences_right (hr.mono (by decide)) fr rfl (pa_cons (pv 1) (pa_cons (pv 3) pa_nil))) (pe_one (pe_go C__law_texts_right (hr.mono (by decide)) fr rfl (pa_cons (pv 2) (pa_cons (pv 3) pa_nil))))))))))), ?_⟩
    refine ⟨_, rfl, a, ns, 0, rfl, ⟨by decide, by decide⟩, hS, h63, fun p H1 hp s1 b1 => ?_⟩
    refine ⟨_, rfl, a, ns, 1, rfl, ⟨by decide, by decide⟩, SqL.same s1 hS, h63, fun m H2 hm s2 b2 => ⟨_, _, rfl, ?_⟩⟩
    have mp : m ≠ p := box_ne b1 hm
    replace b1 := b1.mono s2
    refine ⟨_, rfl, p, rfl, b1, fun v H3 l k3 b3 hv cl l5 ll => ?_⟩
    replace b2 := box_other b2 k3 mp
    refine ⟨_, rfl, m, rfl, b2, fun u H4 r k4 b4 hu cr r5 lr => ⟨_, _, rfl, ?_⟩⟩
    replace hv := hv.kept k4 b2
    replace b3 := box_other b3 k4 mp.symm
    refine ⟨_, rfl, p, _, rfl, ⟨by decide, by decide⟩, b3, fun d H5 d0 d1 k5 b5 => ?_⟩
    replace hv := hv.kept k5 b3
    replace hu := hu.kept k5 b3
    replace b4 := box_other b4 k5 mp
    refine ⟨_, _, rfl, rfl, ?_⟩
    refine ⟨_, rfl, m, _, rfl, ⟨by decide, by decide⟩, b4, fun e H6 e0 e1 k6 b6 => ?_⟩
    replace hv := hv.kept k6 b4
    replace hu := hu.kept k6 b4
    replace b5 := box_other b5 k6 mp.symm
    refine ⟨_, _, rfl, rfl, ?_⟩
    refine ⟨_, rfl, m, _, rfl, ⟨by decide, by decide⟩, b6, fun g H7 g0 g1 k7 b7 => ?_⟩
    replace hv := hv.kept k7 b6
    replace hu := hu.kept k7 b6
    replace b5 := box_other b5 k7 mp.symm
    refine ⟨_, _, rfl, rfl, ?_⟩
    have big : (2 : Nat) ^ 40 < 2 ^ 190 := by decide
    obtain ⟨x0, y0, y1⟩ := low_size (a := e - 30) (b := 1 + g) (by omega)
    refine ⟨e - 30, 1 + g, rfl, by omega, by omega, fun t H8 s8 e8 => ⟨_, _, rfl, ?_⟩⟩
    replace hv := hv.same s8
    replace hu := hu.same s8
    replace b5 := b5.mono s8
    replace b7 := b7.mono s8
    have ht : IsR H8 (.ref t) (lT (e - 30) (1 + g)) (lB (e - 30) (1 + g)) := ⟨t, rfl, e8⟩
    generalize lT (e - 30) (1 + g) = T at x0 ht e8 ⊢
    generalize lB (e - 30) (1 + g) = B at y0 y1 ht e8 ⊢
    have hT := cn_small (i := T) (by omega)
    have hB := cn_small (i := B) (by omega)
    refine ⟨fun σ H' => σ = [some (.ref a), some (.ref p), some (.ref m), some v, some u, some (.int (d - 9)), some (.ref t)] ∧ Same H8 H', ?_, ?_⟩
    · refine ⟨_, rfl, _, rfl, _, rfl, _, rfl, v, u, .ref t, l, r, d - 9, T, B, rfl, hv, hu, ht, cl, cr, l5, r5, ll, lr, by omega, hT, hB, y0, fun H9 s9 => ⟨_, rfl, iteF ?_⟩⟩
      refine ⟨_, rfl, _, rfl, _, rfl, _, rfl, u, v, .ref t, r, l, d - 9, T, B, rfl, hu.same s9, hv.same s9, ht.mono s9, cr, cl, r5, l5, lr, ll, by omega, hT, hB, y0, fun H10 s10 => ⟨_, rfl, iteF ⟨rfl, s9.trans s10⟩⟩⟩
    rintro σ H9 ⟨rfl, s9⟩
    replace hv := hv.same s9
    replace b5 := b5.mono s9
    replace b7 := b7.mono s9
    refine ⟨_, rfl, _, rfl, p, v, l, rfl, b5, hv, cl, l5, fun H10 k10 b10 => ⟨true, rfl, iteT ?_⟩⟩
    exact ⟨_, rfl, _, rfl, m, v, l, rfl, box_other b7 k10 mp, hv.kept k10 b5, cl, l5, ll, fun H11 _ _ => q H11⟩
end
end Kc

namespace Kc
open PySem PySem.Spec PyProof.Rows L2 Hb Gu Tx Xb
theorem all_mk {l : PySem.W.OpenLaw} {w : World} {K : PySem.W.Frag} {h : Heap} {mg : Str → Option Value} {fa f0 f1 f2 f3 f4 f5 f6 f7 f8 f9 f10 f11 f12 f13 f14 f15 f16 f17 f18 f19 f20 f21 f22 f23 f24 f25 f26 f27 f28 f29 f30 f31 f32 f33 f34 f35 f36 f37 f38 f39 f40 f41 : Addr} (X : K.In h) (G : h.Ns mainGlobals mg) (hfa : mg "law" = some (.ref fa)) {B : Addr} {C_InvalidCurve N_InvalidCurve fI_InvalidCurve : Addr} {nm_InvalidCurve q_InvalidCurve : Str} {bs_InvalidCurve : List Value} {sn_InvalidCurve : List Str} {sub_InvalidCurve : List Value} {ab_InvalidCurve : Bool} {col_InvalidCurve : Option Bool} {dd_InvalidCurve : Option Addr} {m0_InvalidCurve m1_InvalidCurve m2_InvalidCurve m3_InvalidCurve m5_InvalidCurve : Option Value} {ocI_InvalidCurve dcI_InvalidCurve pmI_InvalidCurve cdI_InvalidCurve ctI_InvalidCurve : Value} {odI_InvalidCurve anI_InvalidCurve : Option Addr} {slI_InvalidCurve : Array (Option Value)} {C_InvalidText N_InvalidText fI_InvalidText : Addr} {nm_InvalidText q_InvalidText : Str} {bs_InvalidText : List Value} {sn_InvalidText : List Str} {sub_InvalidText : List Value} {ab_InvalidText : Bool} {col_InvalidText : Option Bool} {dd_InvalidText : Option Addr} {m0_InvalidText m1_InvalidText m2_InvalidText m3_InvalidText m5_InvalidText : Option Value} {ocI_InvalidText dcI_InvalidText pmI_InvalidText cdI_InvalidText ctI_InvalidText : Value} {odI_InvalidText anI_InvalidText : Option Addr} {slI_InvalidText : Array (Option Value)} {tkc_FIGURES : Tok} {tkd_ratio_by0 : Tok}
    {od0 an0 od1 an1 od2 an2 od3 an3 od4 an4 od5 an5 od6 an6 od7 an7 od8 an8 od9 an9 od10 an10 od11 an11 od12 an12 od13 an13 od14 an14 od15 an15 od16 an16 od17 an17 od18 an18 od19 an19 od20 an20 od21 an21 od22 an22 od23 an23 od24 an24 od25 an25 od26 an26 od27 an27 od28 an28 od29 an29 od30 an30 od31 an31 od32 an32 od33 an33 od34 an34 od35 an35 od36 an36 od37 an37 od38 an38 od39 an39 od40 an40 od41 an41 : Option Addr} {sl0 sl1 sl2 sl3 sl4 sl5 sl6 sl7 sl8 sl9 sl10 sl11 sl12 sl13 sl14 sl15 sl16 sl17 sl18 sl19 sl20 sl21 sl22 sl23 sl24 sl25 sl26 sl27 sl28 sl29 sl30 sl31 sl32 sl33 sl34 sl35 sl36 sl37 sl38 sl39 sl40 sl41 : Array (Option Value)} {oc0 kV0 dc0 pm0 cd0 ct0 oc1 kV1 dc1 pm1 cd1 ct1 oc2 kV2 dc2 pm2 cd2 ct2 oc3 kV3 dc3 pm3 cd3 ct3 oc4 kV4 dc4 pm4 cd4 ct4 oc5 kV5 dc5 pm5 cd5 ct5 oc6 kV6 dc6 pm6 cd6 ct6 oc7 kV7 dc7 pm7 cd7 ct7 oc8 kV8 dc8 pm8 cd8 ct8 oc9 kV9 dc9 pm9 cd9 ct9 oc10 kV10 dc10 pm10 cd10 ct10 oc11 kV11 dc11 pm11 cd11 ct11 oc12 kV12 dc12 pm12 cd12 ct12 oc13 kV13 dc13 pm13 cd13 ct13 oc14 kV14 dc14 pm14 cd14 ct14 oc15 kV15 dc15 pm15 cd15 ct15 oc16 kV16 dc16 pm16 cd16 ct16 oc17 kV17 dc17 pm17 cd17 ct17 oc18 kV18 dc18 pm18 cd18 ct18 oc19 kV19 dc19 pm19 cd19 ct19 oc20 kV20 dc20 pm20 cd20 ct20 oc21 kV21 dc21 pm21 cd21 ct21 oc22 kV22 dc22 pm22 cd22 ct22 oc23 kV23 dc23 pm23 cd23 ct23 oc24 kV24 dc24 pm24 cd24 ct24 oc25 kV25 dc25 pm25 cd25 ct25 oc26 kV26 dc26 pm26 cd26 ct26 oc27 kV27 dc27 pm27 cd27 ct27 oc28 kV28 dc28 pm28 cd28 ct28 oc29 kV29 dc29 pm29 cd29 ct29 oc30 kV30 dc30 pm30 cd30 ct30 oc31 kV31 dc31 pm31 cd31 ct31 oc32 kV32 dc32 pm32 cd32 ct32 oc33 kV33 dc33 pm33 cd33 ct33 oc34 kV34 dc34 pm34 cd34 ct34 oc35 kV35 dc35 pm35 cd35 ct35 oc36 kV36 dc36 pm36 cd36 ct36 oc37 kV37 dc37 pm37 cd37 ct37 oc38 kV38 dc38 pm38 cd38 ct38 oc39 kV39 dc39 pm39 cd39 ct39 oc40 kV40 dc40 pm40 cd40 ct40 oc41 kV41 dc41 pm41 cd41 ct41 : Value}
    (a0 : PySem.W.nsIn K mainGlobals "is_integer" = some (some (.ref f0))) (l0 : K.lookup f0 = some ⟨oc0, od0, .func (PySem.W.fnOf "is_integer" "is_integer" (defArgs s_is_integer) (defBody s_is_integer) (defScope s_is_integer) .none kV0 dc0 pm0 an0 cd0 ct0), sl0⟩) (c0 : PySem.W.codeIn K cd0 "is_integer" = true) (k0 : PySem.W.keepIn K (.ref f0) = true)
    (a1 : PySem.W.nsIn K mainGlobals "is_sequence" = some (some (.ref f1))) (l1 : K.lookup f1 = some ⟨oc1, od1, .func (PySem.W.fnOf "is_sequence" "is_sequence" (defArgs s_is_sequence) (defBody s_is_sequence) (defScope s_is_sequence) .none kV1 dc1 pm1 an1 cd1 ct1), sl1⟩) (c1 : PySem.W.codeIn K cd1 "is_sequence" = true) (k1 : PySem.W.keepIn K (.ref f1) = true)
    (a2 : PySem.W.nsIn K mainGlobals "sign_of" = some (some (.ref f2))) (l2 : K.lookup f2 = some ⟨oc2, od2, .func (PySem.W.fnOf "sign_of" "sign_of" (defArgs s_sign_of) (defBody s_sign_of) (defScope s_sign_of) .none kV2 dc2 pm2 an2 cd2 ct2), sl2⟩) (c2 : PySem.W.codeIn K cd2 "sign_of" = true) (k2 : PySem.W.keepIn K (.ref f2) = true)
    (a3 : PySem.W.nsIn K mainGlobals "read_integer" = some (some (.ref f3))) (l3 : K.lookup f3 = some ⟨oc3, od3, .func (PySem.W.fnOf "read_integer" "read_integer" (defArgs s_read_integer) (defBody s_read_integer) (defScope s_read_integer) .none kV3 dc3 pm3 an3 cd3 ct3), sl3⟩) (c3 : PySem.W.codeIn K cd3 "read_integer" = true) (k3 : PySem.W.keepIn K (.ref f3) = true)
    {T4 : Addr} {oT4 : Obj} {nT4 : Nat} (t4 : K.lookup T4 = some oT4) (u4 : oT4.data = .seq ([.int 1 tkd_ratio_by0] : List Value).toArray nT4)
    (a4 : PySem.W.nsIn K mainGlobals "ratio_by" = some (some (.ref f4))) (l4 : K.lookup f4 = some ⟨oc4, od4, .func (PySem.W.fnOf "ratio_by" "ratio_by" (defArgs s_ratio_by) (defBody s_ratio_by) (defScope s_ratio_by) (.ref T4) kV4 dc4 pm4 an4 cd4 ct4), sl4⟩) (c4 : PySem.W.codeIn K cd4 "ratio_by" = true) (k4 : PySem.W.keepIn K (.ref f4) = true)
    (a5 : PySem.W.nsIn K mainGlobals "curve_of" = some (some (.ref f5))) (l5 : K.lookup f5 = some ⟨oc5, od5, .func (PySem.W.fnOf "curve_of" "curve_of" (defArgs s_curve_of) (defBody s_curve_of) (defScope s_curve_of) .none kV5 dc5 pm5 an5 cd5 ct5), sl5⟩) (c5 : PySem.W.codeIn K cd5 "curve_of" = true) (k5 : PySem.W.keepIn K (.ref f5) = true)
    (a6 : PySem.W.nsIn K mainGlobals "without_end" = some (some (.ref f6))) (l6 : K.lookup f6 = some ⟨oc6, od6, .func (PySem.W.fnOf "without_end" "without_end" (defArgs s_without_end) (defBody s_without_end) (defScope s_without_end) .none kV6 dc6 pm6 an6 cd6 ct6), sl6⟩) (c6 : PySem.W.codeIn K cd6 "without_end" = true) (k6 : PySem.W.keepIn K (.ref f6) = true)
    (a7 : PySem.W.nsIn K mainGlobals "is_curve" = some (some (.ref f7))) (l7 : K.lookup f7 = some ⟨oc7, od7, .func (PySem.W.fnOf "is_curve" "is_curve" (defArgs s_is_curve) (defBody s_is_curve) (defScope s_is_curve) .none kV7 dc7 pm7 an7 cd7 ct7), sl7⟩) (c7 : PySem.W.codeIn K cd7 "is_curve" = true) (k7 : PySem.W.keepIn K (.ref f7) = true)
    (a8 : PySem.W.nsIn K mainGlobals "curve_plus" = some (some (.ref f8))) (l8 : K.lookup f8 = some ⟨oc8, od8, .func (PySem.W.fnOf "curve_plus" "curve_plus" (defArgs s_curve_plus) (defBody s_curve_plus) (defScope s_curve_plus) .none kV8 dc8 pm8 an8 cd8 ct8), sl8⟩) (c8 : PySem.W.codeIn K cd8 "curve_plus" = true) (k8 : PySem.W.keepIn K (.ref f8) = true)
    (a9 : PySem.W.nsIn K mainGlobals "curve_scaled" = some (some (.ref f9))) (l9 : K.lookup f9 = some ⟨oc9, od9, .func (PySem.W.fnOf "curve_scaled" "curve_scaled" (defArgs s_curve_scaled) (defBody s_curve_scaled) (defScope s_curve_scaled) .none kV9 dc9 pm9 an9 cd9 ct9), sl9⟩) (c9 : PySem.W.codeIn K cd9 "curve_scaled" = true) (k9 : PySem.W.keepIn K (.ref f9) = true)
    (a10 : PySem.W.nsIn K mainGlobals "curve_minus" = some (some (.ref f10))) (l10 : K.lookup f10 = some ⟨oc10, od10, .func (PySem.W.fnOf "curve_minus" "curve_minus" (defArgs s_curve_minus) (defBody s_curve_minus) (defScope s_curve_minus) .none kV10 dc10 pm10 an10 cd10 ct10), sl10⟩) (c10 : PySem.W.codeIn K cd10 "curve_minus" = true) (k10 : PySem.W.keepIn K (.ref f10) = true)
    (a11 : PySem.W.nsIn K mainGlobals "curve_times" = some (some (.ref f11))) (l11 : K.lookup f11 = some ⟨oc11, od11, .func (PySem.W.fnOf "curve_times" "curve_times" (defArgs s_curve_times) (defBody s_curve_times) (defScope s_curve_times) .none kV11 dc11 pm11 an11 cd11 ct11), sl11⟩) (c11 : PySem.W.codeIn K cd11 "curve_times" = true) (k11 : PySem.W.keepIn K (.ref f11) = true)
    (a12 : PySem.W.nsIn K mainGlobals "curve_slope" = some (some (.ref f12))) (l12 : K.lookup f12 = some ⟨oc12, od12, .func (PySem.W.fnOf "curve_slope" "curve_slope" (defArgs s_curve_slope) (defBody s_curve_slope) (defScope s_curve_slope) .none kV12 dc12 pm12 an12 cd12 ct12), sl12⟩) (c12 : PySem.W.codeIn K cd12 "curve_slope" = true) (k12 : PySem.W.keepIn K (.ref f12) = true)
    (a13 : PySem.W.nsIn K mainGlobals "curve_moved" = some (some (.ref f13))) (l13 : K.lookup f13 = some ⟨oc13, od13, .func (PySem.W.fnOf "curve_moved" "curve_moved" (defArgs s_curve_moved) (defBody s_curve_moved) (defScope s_curve_moved) .none kV13 dc13 pm13 an13 cd13 ct13), sl13⟩) (c13 : PySem.W.codeIn K cd13 "curve_moved" = true) (k13 : PySem.W.keepIn K (.ref f13) = true)
    (a14 : PySem.W.nsIn K mainGlobals "curve_after" = some (some (.ref f14))) (l14 : K.lookup f14 = some ⟨oc14, od14, .func (PySem.W.fnOf "curve_after" "curve_after" (defArgs s_curve_after) (defBody s_curve_after) (defScope s_curve_after) .none kV14 dc14 pm14 an14 cd14 ct14), sl14⟩) (c14 : PySem.W.codeIn K cd14 "curve_after" = true) (k14 : PySem.W.keepIn K (.ref f14) = true)
    (a15 : PySem.W.nsIn K mainGlobals "worth_parts" = some (some (.ref f15))) (l15 : K.lookup f15 = some ⟨oc15, od15, .func (PySem.W.fnOf "worth_parts" "worth_parts" (defArgs s_worth_parts) (defBody s_worth_parts) (defScope s_worth_parts) .none kV15 dc15 pm15 an15 cd15 ct15), sl15⟩) (c15 : PySem.W.codeIn K cd15 "worth_parts" = true) (k15 : PySem.W.keepIn K (.ref f15) = true)
    (a16 : PySem.W.nsIn K mainGlobals "curve_worth" = some (some (.ref f16))) (l16 : K.lookup f16 = some ⟨oc16, od16, .func (PySem.W.fnOf "curve_worth" "curve_worth" (defArgs s_curve_worth) (defBody s_curve_worth) (defScope s_curve_worth) .none kV16 dc16 pm16 an16 cd16 ct16), sl16⟩) (c16 : PySem.W.codeIn K cd16 "curve_worth" = true) (k16 : PySem.W.keepIn K (.ref f16) = true)
    (a17 : PySem.W.nsIn K mainGlobals "curve_sign" = some (some (.ref f17))) (l17 : K.lookup f17 = some ⟨oc17, od17, .func (PySem.W.fnOf "curve_sign" "curve_sign" (defArgs s_curve_sign) (defBody s_curve_sign) (defScope s_curve_sign) .none kV17 dc17 pm17 an17 cd17 ct17), sl17⟩) (c17 : PySem.W.codeIn K cd17 "curve_sign" = true) (k17 : PySem.W.keepIn K (.ref f17) = true)
    (a18 : PySem.W.nsIn K mainGlobals "first_sign" = some (some (.ref f18))) (l18 : K.lookup f18 = some ⟨oc18, od18, .func (PySem.W.fnOf "first_sign" "first_sign" (defArgs s_first_sign) (defBody s_first_sign) (defScope s_first_sign) .none kV18 dc18 pm18 an18 cd18 ct18), sl18⟩) (c18 : PySem.W.codeIn K cd18 "first_sign" = true) (k18 : PySem.W.keepIn K (.ref f18) = true)
    (a19 : PySem.W.nsIn K mainGlobals "last_sign" = some (some (.ref f19))) (l19 : K.lookup f19 = some ⟨oc19, od19, .func (PySem.W.fnOf "last_sign" "last_sign" (defArgs s_last_sign) (defBody s_last_sign) (defScope s_last_sign) .none kV19 dc19 pm19 an19 cd19 ct19), sl19⟩) (c19 : PySem.W.codeIn K cd19 "last_sign" = true) (k19 : PySem.W.keepIn K (.ref f19) = true)
    (a20 : PySem.W.nsIn K mainGlobals "curve_text" = some (some (.ref f20))) (l20 : K.lookup f20 = some ⟨oc20, od20, .func (PySem.W.fnOf "curve_text" "curve_text" (defArgs s_curve_text) (defBody s_curve_text) (defScope s_curve_text) .none kV20 dc20 pm20 an20 cd20 ct20), sl20⟩) (c20 : PySem.W.codeIn K cd20 "curve_text" = true) (k20 : PySem.W.keepIn K (.ref f20) = true)
    (a21 : PySem.W.nsIn K mainGlobals "read_curve" = some (some (.ref f21))) (l21 : K.lookup f21 = some ⟨oc21, od21, .func (PySem.W.fnOf "read_curve" "read_curve" (defArgs s_read_curve) (defBody s_read_curve) (defScope s_read_curve) .none kV21 dc21 pm21 an21 cd21 ct21), sl21⟩) (c21 : PySem.W.codeIn K cd21 "read_curve" = true) (k21 : PySem.W.keepIn K (.ref f21) = true)
    (a22 : PySem.W.nsIn K mainGlobals "_law_box" = some (some (.ref f22))) (l22 : K.lookup f22 = some ⟨oc22, od22, .func (PySem.W.fnOf "_law_box" "_law_box" (defArgs s__law_box) (defBody s__law_box) (defScope s__law_box) .none kV22 dc22 pm22 an22 cd22 ct22), sl22⟩) (c22 : PySem.W.codeIn K cd22 "_law_box" = true) (k22 : PySem.W.keepIn K (.ref f22) = true)
    (a23 : PySem.W.nsIn K mainGlobals "_law_take" = some (some (.ref f23))) (l23 : K.lookup f23 = some ⟨oc23, od23, .func (PySem.W.fnOf "_law_take" "_law_take" (defArgs s__law_take) (defBody s__law_take) (defScope s__law_take) .none kV23 dc23 pm23 an23 cd23 ct23), sl23⟩) (c23 : PySem.W.codeIn K cd23 "_law_take" = true) (k23 : PySem.W.keepIn K (.ref f23) = true)
    (a24 : PySem.W.nsIn K mainGlobals "_law_pick" = some (some (.ref f24))) (l24 : K.lookup f24 = some ⟨oc24, od24, .func (PySem.W.fnOf "_law_pick" "_law_pick" (defArgs s__law_pick) (defBody s__law_pick) (defScope s__law_pick) .none kV24 dc24 pm24 an24 cd24 ct24), sl24⟩) (c24 : PySem.W.codeIn K cd24 "_law_pick" = true) (k24 : PySem.W.keepIn K (.ref f24) = true)
    (a25 : PySem.W.nsIn K mainGlobals "_law_sign" = some (some (.ref f25))) (l25 : K.lookup f25 = some ⟨oc25, od25, .func (PySem.W.fnOf "_law_sign" "_law_sign" (defArgs s__law_sign) (defBody s__law_sign) (defScope s__law_sign) .none kV25 dc25 pm25 an25 cd25 ct25), sl25⟩) (c25 : PySem.W.codeIn K cd25 "_law_sign" = true) (k25 : PySem.W.keepIn K (.ref f25) = true)
    (a26 : PySem.W.nsIn K mainGlobals "_law_divisor" = some (some (.ref f26))) (l26 : K.lookup f26 = some ⟨oc26, od26, .func (PySem.W.fnOf "_law_divisor" "_law_divisor" (defArgs s__law_divisor) (defBody s__law_divisor) (defScope s__law_divisor) .none kV26 dc26 pm26 an26 cd26 ct26), sl26⟩) (c26 : PySem.W.codeIn K cd26 "_law_divisor" = true) (k26 : PySem.W.keepIn K (.ref f26) = true)
    (a27 : PySem.W.nsIn K mainGlobals "_law_low" = some (some (.ref f27))) (l27 : K.lookup f27 = some ⟨oc27, od27, .func (PySem.W.fnOf "_law_low" "_law_low" (defArgs s__law_low) (defBody s__law_low) (defScope s__law_low) .none kV27 dc27 pm27 an27 cd27 ct27), sl27⟩) (c27 : PySem.W.codeIn K cd27 "_law_low" = true) (k27 : PySem.W.keepIn K (.ref f27) = true)
    (a28 : PySem.W.nsIn K mainGlobals "_law_short" = some (some (.ref f28))) (l28 : K.lookup f28 = some ⟨oc28, od28, .func (PySem.W.fnOf "_law_short" "_law_short" (defArgs s__law_short) (defBody s__law_short) (defScope s__law_short) .none kV28 dc28 pm28 an28 cd28 ct28), sl28⟩) (c28 : PySem.W.codeIn K cd28 "_law_short" = true) (k28 : PySem.W.keepIn K (.ref f28) = true)
    (a29 : PySem.W.nsIn K mainGlobals "_law_drawn" = some (some (.ref f29))) (l29 : K.lookup f29 = some ⟨oc29, od29, .func (PySem.W.fnOf "_law_drawn" "_law_drawn" (defArgs s__law_drawn) (defBody s__law_drawn) (defScope s__law_drawn) .none kV29 dc29 pm29 an29 cd29 ct29), sl29⟩) (c29 : PySem.W.codeIn K cd29 "_law_drawn" = true) (k29 : PySem.W.keepIn K (.ref f29) = true)
    (a30 : PySem.W.nsIn K mainGlobals "_law_sum" = some (some (.ref f30))) (l30 : K.lookup f30 = some ⟨oc30, od30, .func (PySem.W.fnOf "_law_sum" "_law_sum" (defArgs s__law_sum) (defBody s__law_sum) (defScope s__law_sum) .none kV30 dc30 pm30 an30 cd30 ct30), sl30⟩) (c30 : PySem.W.codeIn K cd30 "_law_sum" = true) (k30 : PySem.W.keepIn K (.ref f30) = true)
    (a31 : PySem.W.nsIn K mainGlobals "_law_product" = some (some (.ref f31))) (l31 : K.lookup f31 = some ⟨oc31, od31, .func (PySem.W.fnOf "_law_product" "_law_product" (defArgs s__law_product) (defBody s__law_product) (defScope s__law_product) .none kV31 dc31 pm31 an31 cd31 ct31), sl31⟩) (c31 : PySem.W.codeIn K cd31 "_law_product" = true) (k31 : PySem.W.keepIn K (.ref f31) = true)
    (a32 : PySem.W.nsIn K mainGlobals "_law_behind" = some (some (.ref f32))) (l32 : K.lookup f32 = some ⟨oc32, od32, .func (PySem.W.fnOf "_law_behind" "_law_behind" (defArgs s__law_behind) (defBody s__law_behind) (defScope s__law_behind) .none kV32 dc32 pm32 an32 cd32 ct32), sl32⟩) (c32 : PySem.W.codeIn K cd32 "_law_behind" = true) (k32 : PySem.W.keepIn K (.ref f32) = true)
    (a33 : PySem.W.nsIn K mainGlobals "_law_worth" = some (some (.ref f33))) (l33 : K.lookup f33 = some ⟨oc33, od33, .func (PySem.W.fnOf "_law_worth" "_law_worth" (defArgs s__law_worth) (defBody s__law_worth) (defScope s__law_worth) .none kV33 dc33 pm33 an33 cd33 ct33), sl33⟩) (c33 : PySem.W.codeIn K cd33 "_law_worth" = true) (k33 : PySem.W.keepIn K (.ref f33) = true)
    (a34 : PySem.W.nsIn K mainGlobals "_law_reckoned" = some (some (.ref f34))) (l34 : K.lookup f34 = some ⟨oc34, od34, .func (PySem.W.fnOf "_law_reckoned" "_law_reckoned" (defArgs s__law_reckoned) (defBody s__law_reckoned) (defScope s__law_reckoned) .none kV34 dc34 pm34 an34 cd34 ct34), sl34⟩) (c34 : PySem.W.codeIn K cd34 "_law_reckoned" = true) (k34 : PySem.W.keepIn K (.ref f34) = true)
    (a35 : PySem.W.nsIn K mainGlobals "_law_made" = some (some (.ref f35))) (l35 : K.lookup f35 = some ⟨oc35, od35, .func (PySem.W.fnOf "_law_made" "_law_made" (defArgs s__law_made) (defBody s__law_made) (defScope s__law_made) .none kV35 dc35 pm35 an35 cd35 ct35), sl35⟩) (c35 : PySem.W.codeIn K cd35 "_law_made" = true) (k35 : PySem.W.keepIn K (.ref f35) = true)
    (a36 : PySem.W.nsIn K mainGlobals "_law_read" = some (some (.ref f36))) (l36 : K.lookup f36 = some ⟨oc36, od36, .func (PySem.W.fnOf "_law_read" "_law_read" (defArgs s__law_read) (defBody s__law_read) (defScope s__law_read) .none kV36 dc36 pm36 an36 cd36 ct36), sl36⟩) (c36 : PySem.W.codeIn K cd36 "_law_read" = true) (k36 : PySem.W.keepIn K (.ref f36) = true)
    (a37 : PySem.W.nsIn K mainGlobals "_law_is_word" = some (some (.ref f37))) (l37 : K.lookup f37 = some ⟨oc37, od37, .func (PySem.W.fnOf "_law_is_word" "_law_is_word" (defArgs s__law_is_word) (defBody s__law_is_word) (defScope s__law_is_word) .none kV37 dc37 pm37 an37 cd37 ct37), sl37⟩) (c37 : PySem.W.codeIn K cd37 "_law_is_word" = true) (k37 : PySem.W.keepIn K (.ref f37) = true)
    (a38 : PySem.W.nsIn K mainGlobals "_law_due" = some (some (.ref f38))) (l38 : K.lookup f38 = some ⟨oc38, od38, .func (PySem.W.fnOf "_law_due" "_law_due" (defArgs s__law_due) (defBody s__law_due) (defScope s__law_due) .none kV38 dc38 pm38 an38 cd38 ct38), sl38⟩) (c38 : PySem.W.codeIn K cd38 "_law_due" = true) (k38 : PySem.W.keepIn K (.ref f38) = true)
    (a39 : PySem.W.nsIn K mainGlobals "_law_sequences_right" = some (some (.ref f39))) (l39 : K.lookup f39 = some ⟨oc39, od39, .func (PySem.W.fnOf "_law_sequences_right" "_law_sequences_right" (defArgs s__law_sequences_right) (defBody s__law_sequences_right) (defScope s__law_sequences_right) .none kV39 dc39 pm39 an39 cd39 ct39), sl39⟩) (c39 : PySem.W.codeIn K cd39 "_law_sequences_right" = true) (k39 : PySem.W.keepIn K (.ref f39) = true)
    (a40 : PySem.W.nsIn K mainGlobals "_law_texts_right" = some (some (.ref f40))) (l40 : K.lookup f40 = some ⟨oc40, od40, .func (PySem.W.fnOf "_law_texts_right" "_law_texts_right" (defArgs s__law_texts_right) (defBody s__law_texts_right) (defScope s__law_texts_right) .none kV40 dc40 pm40 an40 cd40 ct40), sl40⟩) (c40 : PySem.W.codeIn K cd40 "_law_texts_right" = true) (k40 : PySem.W.keepIn K (.ref f40) = true)
    (a41 : PySem.W.nsIn K mainGlobals "law" = some (some (.ref f41))) (l41 : K.lookup f41 = some ⟨oc41, od41, .func (PySem.W.fnOf "law" "law" (defArgs s_law) (defBody s_law) (defScope s_law) .none kV41 dc41 pm41 an41 cd41 ct41), sl41⟩) (c41 : PySem.W.codeIn K cd41 "law" = true) (k41 : PySem.W.keepIn K (.ref f41) = true)
    (z_isinstance : PySem.W.nsIn K mainGlobals "isinstance" = some none)
    (z_int : PySem.W.nsIn K mainGlobals "int" = some none)
    (z_bool : PySem.W.nsIn K mainGlobals "bool" = some none)
    (z_list : PySem.W.nsIn K mainGlobals "list" = some none)
    (z_tuple : PySem.W.nsIn K mainGlobals "tuple" = some none)
    (z_len : PySem.W.nsIn K mainGlobals "len" = some none)
    (z_enumerate : PySem.W.nsIn K mainGlobals "enumerate" = some none)
    (z_all : PySem.W.nsIn K mainGlobals "all" = some none)
    (z_zip : PySem.W.nsIn K mainGlobals "zip" = some none)
    (z_range : PySem.W.nsIn K mainGlobals "range" = some none)
    (z_reversed : PySem.W.nsIn K mainGlobals "reversed" = some none)
    (z_str : PySem.W.nsIn K mainGlobals "str" = some none)
    (z_abs : PySem.W.nsIn K mainGlobals "abs" = some none)
    (z_max : PySem.W.nsIn K mainGlobals "max" = some none)
    (z_sum : PySem.W.nsIn K mainGlobals "sum" = some none)
    (z_repr : PySem.W.nsIn K mainGlobals "repr" = some none)
    (g_FIGURES : PySem.W.nsIn K mainGlobals "FIGURES" = some (some (.int 9 tkc_FIGURES)))
    (g_gcd : PySem.W.nsIn K mainGlobals "gcd" = some (some (.builtin "math.gcd")))
    (aB : PySem.W.nsIn K mainGlobals "BellError" = some (some (.ref B)))
    (aC_InvalidCurve : PySem.W.nsIn K mainGlobals "InvalidCurve" = some (some (.ref C_InvalidCurve)))
    (xL_InvalidCurve : K.lookup C_InvalidCurve = some (PySem.excClassObj nm_InvalidCurve q_InvalidCurve C_InvalidCurve N_InvalidCurve bs_InvalidCurve [.ref B, .type "Exception", .type "BaseException", .type "object"] true sn_InvalidCurve sub_InvalidCurve ab_InvalidCurve col_InvalidCurve dd_InvalidCurve m0_InvalidCurve m1_InvalidCurve m2_InvalidCurve m3_InvalidCurve m5_InvalidCurve "Exception.__new__"))
    (sa_InvalidCurve : PySem.W.findIn K (.ref C_InvalidCurve) "__setattr__" = some (some (.builtin "object.__setattr__")))
    (ga_InvalidCurve : PySem.W.findIn K (.ref C_InvalidCurve) "__getattribute__" = some (some (.builtin "BaseException.__getattribute__")))
    (gg_InvalidCurve : PySem.W.findIn K (.ref C_InvalidCurve) "__getattr__" = some none)
    (nb_InvalidCurve : PySem.W.findIn K (.ref C_InvalidCurve) "at" = some none)
    (aI_InvalidCurve : PySem.W.findIn K (.ref C_InvalidCurve) "__init__" = some (some (.ref fI_InvalidCurve)))
    (tI_InvalidCurve : PySem.W.typeIn K (.ref fI_InvalidCurve) = some (.type "function"))
    (lI_InvalidCurve : K.lookup fI_InvalidCurve = some ⟨ocI_InvalidCurve, odI_InvalidCurve, .func (PySem.W.fnOf "__init__" "InvalidCurve.__init__" (Xb.iA ⟨7, 17, 7, 21⟩ ⟨7, 23, 7, 25⟩) (Xb.iB ⟨8, 8, 8, 12⟩ ⟨8, 8, 8, 15⟩ ⟨8, 18, 8, 20⟩ ⟨8, 8, 8, 20⟩) Xb.iS .none .none dcI_InvalidCurve pmI_InvalidCurve anI_InvalidCurve cdI_InvalidCurve ctI_InvalidCurve), slI_InvalidCurve⟩)
    (cI_InvalidCurve : PySem.W.codeIn K cdI_InvalidCurve "InvalidCurve.__init__" = true)
    (kC_InvalidCurve : PySem.W.keepIn K (.ref C_InvalidCurve) = true)
    (eC_InvalidCurve : PySem.W.subIn K (.ref C_InvalidCurve) (.type "BaseException") = some true)
    (tC_InvalidCurve : PySem.W.typeIn K (.ref C_InvalidCurve) = some (.type "type"))
    (hC_InvalidCurve : PySem.W.hasDictIn K C_InvalidCurve = true)
    (iC_InvalidCurve : (PySem.W.clsIn K C_InvalidCurve).isSome = true)
    (sC_InvalidCurve : PySem.W.subIn K (.ref C_InvalidCurve) (.ref C_InvalidCurve) = some true)
    (x1_InvalidCurve : PySem.W.findIn K (.ref C_InvalidCurve) "__class__" = some (some (.builtin "object.__class__")))
    (x4_InvalidCurve : PySem.W.mroIn K C_InvalidCurve (.type "object") = some true)
    (aC_InvalidText : PySem.W.nsIn K mainGlobals "InvalidText" = some (some (.ref C_InvalidText)))
    (xL_InvalidText : K.lookup C_InvalidText = some (PySem.excClassObj nm_InvalidText q_InvalidText C_InvalidText N_InvalidText bs_InvalidText [.ref B, .type "Exception", .type "BaseException", .type "object"] true sn_InvalidText sub_InvalidText ab_InvalidText col_InvalidText dd_InvalidText m0_InvalidText m1_InvalidText m2_InvalidText m3_InvalidText m5_InvalidText "Exception.__new__"))
    (sa_InvalidText : PySem.W.findIn K (.ref C_InvalidText) "__setattr__" = some (some (.builtin "object.__setattr__")))
    (ga_InvalidText : PySem.W.findIn K (.ref C_InvalidText) "__getattribute__" = some (some (.builtin "BaseException.__getattribute__")))
    (gg_InvalidText : PySem.W.findIn K (.ref C_InvalidText) "__getattr__" = some none)
    (nb_InvalidText : PySem.W.findIn K (.ref C_InvalidText) "at" = some none)
    (aI_InvalidText : PySem.W.findIn K (.ref C_InvalidText) "__init__" = some (some (.ref fI_InvalidText)))
    (tI_InvalidText : PySem.W.typeIn K (.ref fI_InvalidText) = some (.type "function"))
    (lI_InvalidText : K.lookup fI_InvalidText = some ⟨ocI_InvalidText, odI_InvalidText, .func (PySem.W.fnOf "__init__" "InvalidText.__init__" (Xb.iA ⟨11, 17, 11, 21⟩ ⟨11, 23, 11, 25⟩) (Xb.iB ⟨12, 8, 12, 12⟩ ⟨12, 8, 12, 15⟩ ⟨12, 18, 12, 20⟩ ⟨12, 8, 12, 20⟩) Xb.iS .none .none dcI_InvalidText pmI_InvalidText anI_InvalidText cdI_InvalidText ctI_InvalidText), slI_InvalidText⟩)
    (cI_InvalidText : PySem.W.codeIn K cdI_InvalidText "InvalidText.__init__" = true)
    (kC_InvalidText : PySem.W.keepIn K (.ref C_InvalidText) = true)
    (eC_InvalidText : PySem.W.subIn K (.ref C_InvalidText) (.type "BaseException") = some true)
    (tC_InvalidText : PySem.W.typeIn K (.ref C_InvalidText) = some (.type "type"))
    (hC_InvalidText : PySem.W.hasDictIn K C_InvalidText = true)
    (iC_InvalidText : (PySem.W.clsIn K C_InvalidText).isSome = true)
    (sC_InvalidText : PySem.W.subIn K (.ref C_InvalidText) (.ref C_InvalidText) = some true)
    (x1_InvalidText : PySem.W.findIn K (.ref C_InvalidText) "__class__" = some (some (.builtin "object.__class__")))
    (x4_InvalidText : PySem.W.mroIn K C_InvalidText (.type "object") = some true)
    (x2 : PySem.W.specialIn K (.builtin "object.__class__") "__get__" = some (some (.builtin "getset_descriptor.__get__")))
    (x3 : PySem.W.takesIn K (.builtin "object.__class__") = some true)
    (kit_InvalidCurve_BellError : PySem.W.kitOne K (.ref C_InvalidCurve) (.ref B) = some true)
    (kit_InvalidCurve_InvalidText : PySem.W.kitOne K (.ref C_InvalidCurve) (.ref C_InvalidText) = some false)
    (kit_InvalidText_BellError : PySem.W.kitOne K (.ref C_InvalidText) (.ref B) = some true)
    (kit_InvalidText_InvalidCurve : PySem.W.kitOne K (.ref C_InvalidText) (.ref C_InvalidCurve) = some false)
    : ∃ fd : FuncData, (∀ (s : Shared) (v : Value), BindsTo s fd ⟨[v], []⟩ [("script", v)]) ∧ ∀ base : Heap, K.In base → base.Ns mainGlobals mg → FnG l.prog w K mg base CX0 5 fa fd ["script"] (spLaw K) := by
  have e := hfa.symm.trans (PySem.W.mg_of X G a41)
  cases e
  have F0 := fun_mk (st := s_is_integer) l0 c0 k0
  have b0 := F0.binds (ps := ["value"]) fun _ _ _ _ _ _ us hl => match us, hl with | [_], _ => rfl
  have F1 := fun_mk (st := s_is_sequence) l1 c1 k1
  have b1 := F1.binds (ps := ["value"]) fun _ _ _ _ _ _ us hl => match us, hl with | [_], _ => rfl
  have F2 := fun_mk (st := s_sign_of) l2 c2 k2
  have b2 := F2.binds (ps := ["integer"]) fun _ _ _ _ _ _ us hl => match us, hl with | [_], _ => rfl
  have F3 := fun_mk (st := s_read_integer) l3 c3 k3
  have b3 := F3.binds (ps := ["word"]) fun _ _ _ _ _ _ us hl => match us, hl with | [_], _ => rfl
  have F5 := fun_mk (st := s_curve_of) l5 c5 k5
  have b5 := F5.binds (ps := ["values"]) fun _ _ _ _ _ _ us hl => match us, hl with | [_], _ => rfl
  have F6 := fun_mk (st := s_without_end) l6 c6 k6
  have b6 := F6.binds (ps := ["integers"]) fun _ _ _ _ _ _ us hl => match us, hl with | [_], _ => rfl
  have F7 := fun_mk (st := s_is_curve) l7 c7 k7
  have b7 := F7.binds (ps := ["value"]) fun _ _ _ _ _ _ us hl => match us, hl with | [_], _ => rfl
  have F8 := fun_mk (st := s_curve_plus) l8 c8 k8
  have b8 := F8.binds (ps := ["f", "g"]) fun _ _ _ _ _ _ us hl => match us, hl with | [_, _], _ => rfl
  have F9 := fun_mk (st := s_curve_scaled) l9 c9 k9
  have b9 := F9.binds (ps := ["f", "n"]) fun _ _ _ _ _ _ us hl => match us, hl with | [_, _], _ => rfl
  have F10 := fun_mk (st := s_curve_minus) l10 c10 k10
  have b10 := F10.binds (ps := ["f", "g"]) fun _ _ _ _ _ _ us hl => match us, hl with | [_, _], _ => rfl
  have F11 := fun_mk (st := s_curve_times) l11 c11 k11
  have b11 := F11.binds (ps := ["f", "g"]) fun _ _ _ _ _ _ us hl => match us, hl with | [_, _], _ => rfl
  have F12 := fun_mk (st := s_curve_slope) l12 c12 k12
  have b12 := F12.binds (ps := ["f"]) fun _ _ _ _ _ _ us hl => match us, hl with | [_], _ => rfl
  have F13 := fun_mk (st := s_curve_moved) l13 c13 k13
  have b13 := F13.binds (ps := ["f", "n"]) fun _ _ _ _ _ _ us hl => match us, hl with | [_, _], _ => rfl
  have F14 := fun_mk (st := s_curve_after) l14 c14 k14
  have b14 := F14.binds (ps := ["f", "g"]) fun _ _ _ _ _ _ us hl => match us, hl with | [_, _], _ => rfl
  have F15 := fun_mk (st := s_worth_parts) l15 c15 k15
  have b15 := F15.binds (ps := ["f", "one"]) fun _ _ _ _ _ _ us hl => match us, hl with | [_, _], _ => rfl
  have F16 := fun_mk (st := s_curve_worth) l16 c16 k16
  have b16 := F16.binds (ps := ["f", "one"]) fun _ _ _ _ _ _ us hl => match us, hl with | [_, _], _ => rfl
  have F17 := fun_mk (st := s_curve_sign) l17 c17 k17
  have b17 := F17.binds (ps := ["f", "one"]) fun _ _ _ _ _ _ us hl => match us, hl with | [_, _], _ => rfl
  have F18 := fun_mk (st := s_first_sign) l18 c18 k18
  have b18 := F18.binds (ps := ["f"]) fun _ _ _ _ _ _ us hl => match us, hl with | [_], _ => rfl
  have F19 := fun_mk (st := s_last_sign) l19 c19 k19
  have b19 := F19.binds (ps := ["f"]) fun _ _ _ _ _ _ us hl => match us, hl with | [_], _ => rfl
  have F20 := fun_mk (st := s_curve_text) l20 c20 k20
  have b20 := F20.binds (ps := ["f"]) fun _ _ _ _ _ _ us hl => match us, hl with | [_], _ => rfl
  have F21 := fun_mk (st := s_read_curve) l21 c21 k21
  have b21 := F21.binds (ps := ["text"]) fun _ _ _ _ _ _ us hl => match us, hl with | [_], _ => rfl
  have F22 := fun_mk (st := s__law_box) l22 c22 k22
  have b22 := F22.binds (ps := ["script", "k"]) fun _ _ _ _ _ _ us hl => match us, hl with | [_, _], _ => rfl
  have F23 := fun_mk (st := s__law_take) l23 c23 k23
  have b23 := F23.binds (ps := ["box", "many"]) fun _ _ _ _ _ _ us hl => match us, hl with | [_, _], _ => rfl
  have F24 := fun_mk (st := s__law_pick) l24 c24 k24
  have b24 := F24.binds (ps := ["box", "some"]) fun _ _ _ _ _ _ us hl => match us, hl with | [_, _], _ => rfl
  have F25 := fun_mk (st := s__law_sign) l25 c25 k25
  have b25 := F25.binds (ps := ["number"]) fun _ _ _ _ _ _ us hl => match us, hl with | [_], _ => rfl
  have F26 := fun_mk (st := s__law_divisor) l26 c26 k26
  have b26 := F26.binds (ps := ["one", "other"]) fun _ _ _ _ _ _ us hl => match us, hl with | [_, _], _ => rfl
  have F27 := fun_mk (st := s__law_low) l27 c27 k27
  have b27 := F27.binds (ps := ["top", "bottom"]) fun _ _ _ _ _ _ us hl => match us, hl with | [_, _], _ => rfl
  have F28 := fun_mk (st := s__law_short) l28 c28 k28
  have b28 := F28.binds (ps := ["row"]) fun _ _ _ _ _ _ us hl => match us, hl with | [_], _ => rfl
  have F29 := fun_mk (st := s__law_drawn) l29 c29 k29
  have b29 := F29.binds (ps := ["box"]) fun _ _ _ _ _ _ us hl => match us, hl with | [_], _ => rfl
  have F30 := fun_mk (st := s__law_sum) l30 c30 k30
  have b30 := F30.binds (ps := ["one", "other"]) fun _ _ _ _ _ _ us hl => match us, hl with | [_, _], _ => rfl
  have F31 := fun_mk (st := s__law_product) l31 c31 k31
  have b31 := F31.binds (ps := ["one", "other"]) fun _ _ _ _ _ _ us hl => match us, hl with | [_, _], _ => rfl
  have F32 := fun_mk (st := s__law_behind) l32 c32 k32
  have b32 := F32.binds (ps := ["one", "other"]) fun _ _ _ _ _ _ us hl => match us, hl with | [_, _], _ => rfl
  have F33 := fun_mk (st := s__law_worth) l33 c33 k33
  have b33 := F33.binds (ps := ["row", "at"]) fun _ _ _ _ _ _ us hl => match us, hl with | [_, _], _ => rfl
  have F34 := fun_mk (st := s__law_reckoned) l34 c34 k34
  have b34 := F34.binds (ps := ["one", "other", "many", "at"]) fun _ _ _ _ _ _ us hl => match us, hl with | [_, _, _, _], _ => rfl
  have F35 := fun_mk (st := s__law_made) l35 c35 k35
  have b35 := F35.binds (ps := ["values"]) fun _ _ _ _ _ _ us hl => match us, hl with | [_], _ => rfl
  have F36 := fun_mk (st := s__law_read) l36 c36 k36
  have b36 := F36.binds (ps := ["text"]) fun _ _ _ _ _ _ us hl => match us, hl with | [_], _ => rfl
  have F37 := fun_mk (st := s__law_is_word) l37 c37 k37
  have b37 := F37.binds (ps := ["word"]) fun _ _ _ _ _ _ us hl => match us, hl with | [_], _ => rfl
  have F38 := fun_mk (st := s__law_due) l38 c38 k38
  have b38 := F38.binds (ps := ["words"]) fun _ _ _ _ _ _ us hl => match us, hl with | [_], _ => rfl
  have F39 := fun_mk (st := s__law_sequences_right) l39 c39 k39
  have b39 := F39.binds (ps := ["box", "one"]) fun _ _ _ _ _ _ us hl => match us, hl with | [_, _], _ => rfl
  have F40 := fun_mk (st := s__law_texts_right) l40 c40 k40
  have b40 := F40.binds (ps := ["box", "one"]) fun _ _ _ _ _ _ us hl => match us, hl with | [_, _], _ => rfl
  have F41 := fun_mk (st := s_law) l41 c41 k41
  have n_isinstance := PySem.W.mg_none_of X G z_isinstance
  have n_int := PySem.W.mg_none_of X G z_int
  have n_bool := PySem.W.mg_none_of X G z_bool
  have n_list := PySem.W.mg_none_of X G z_list
  have n_tuple := PySem.W.mg_none_of X G z_tuple
  have n_len := PySem.W.mg_none_of X G z_len
  have n_enumerate := PySem.W.mg_none_of X G z_enumerate
  have n_all := PySem.W.mg_none_of X G z_all
  have n_zip := PySem.W.mg_none_of X G z_zip
  have n_range := PySem.W.mg_none_of X G z_range
  have n_reversed := PySem.W.mg_none_of X G z_reversed
  have n_str := PySem.W.mg_none_of X G z_str
  have n_abs := PySem.W.mg_none_of X G z_abs
  have n_max := PySem.W.mg_none_of X G z_max
  have n_sum := PySem.W.mg_none_of X G z_sum
  have n_repr := PySem.W.mg_none_of X G z_repr
  refine ⟨PySem.W.fnOf "law" "law" (defArgs s_law) (defBody s_law) (defScope s_law) .none kV41 dc41 pm41 an41 cd41 ct41, fun s v => .of_eq rfl, fun base _ _ => ?_⟩
  have T_InvalidCurve : ErrC K mg "InvalidCurve" C_InvalidCurve fI_InvalidCurve := { gC := PySem.W.mg_of X G aC_InvalidCurve, cls := ⟨nm_InvalidCurve, q_InvalidCurve, N_InvalidCurve, bs_InvalidCurve, _, sn_InvalidCurve, sub_InvalidCurve, ab_InvalidCurve, col_InvalidCurve, dd_InvalidCurve, m0_InvalidCurve, m1_InvalidCurve, m2_InvalidCurve, m3_InvalidCurve, m5_InvalidCurve, xL_InvalidCurve, rfl⟩, sa := sa_InvalidCurve, ga := ga_InvalidCurve, gg := gg_InvalidCurve, noN := nb_InvalidCurve, iC := aI_InvalidCurve, tC := tI_InvalidCurve, kC := kC_InvalidCurve, exC := eC_InvalidCurve, tyC := tC_InvalidCurve, hdC := hC_InvalidCurve, te := PySem.W.exm_ref eC_InvalidCurve hC_InvalidCurve tC_InvalidCurve sC_InvalidCurve, fn := ⟨_, _, _, _, _, _, _, _, _, _, _, _, _, _, _, lI_InvalidCurve, cI_InvalidCurve⟩ }
  have TI_InvalidCurve : IsC K C_InvalidCurve := ⟨iC_InvalidCurve, ga_InvalidCurve, gg_InvalidCurve, eC_InvalidCurve, x1_InvalidCurve, x2, x3, x4_InvalidCurve⟩
  have T_InvalidText : ErrC K mg "InvalidText" C_InvalidText fI_InvalidText := { gC := PySem.W.mg_of X G aC_InvalidText, cls := ⟨nm_InvalidText, q_InvalidText, N_InvalidText, bs_InvalidText, _, sn_InvalidText, sub_InvalidText, ab_InvalidText, col_InvalidText, dd_InvalidText, m0_InvalidText, m1_InvalidText, m2_InvalidText, m3_InvalidText, m5_InvalidText, xL_InvalidText, rfl⟩, sa := sa_InvalidText, ga := ga_InvalidText, gg := gg_InvalidText, noN := nb_InvalidText, iC := aI_InvalidText, tC := tI_InvalidText, kC := kC_InvalidText, exC := eC_InvalidText, tyC := tC_InvalidText, hdC := hC_InvalidText, te := PySem.W.exm_ref eC_InvalidText hC_InvalidText tC_InvalidText sC_InvalidText, fn := ⟨_, _, _, _, _, _, _, _, _, _, _, _, _, _, _, lI_InvalidText, cI_InvalidText⟩ }
  have TI_InvalidText : IsC K C_InvalidText := ⟨iC_InvalidText, ga_InvalidText, gg_InvalidText, eC_InvalidText, x1_InvalidText, x2, x3, x4_InvalidText⟩
  have gn_BellError := PySem.W.mg_of X G aB
  have gn_InvalidCurve := PySem.W.mg_of X G aC_InvalidCurve
  have gn_InvalidText := PySem.W.mg_of X G aC_InvalidText
  have gg_FIGURES := PySem.W.mg_of X G g_FIGURES
  have gg_gcd := PySem.W.mg_of X G g_gcd
  have G_is_integer := ok_isI (P := l.prog) (w := w) (mg := mg) (base := base) F0 n_isinstance n_int n_bool
  have C_is_integer : Cg l.prog w K mg base CX0 "is_integer" ["value"] [] 1 (spIsI K) := ⟨_, _, [], G_is_integer, PySem.W.mg_of X G a0, k0, b0, .nil⟩
  have G_is_sequence := ok_isSeq (P := l.prog) (w := w) (mg := mg) (base := base) F1 n_isinstance n_list n_tuple
  have C_is_sequence : Cg l.prog w K mg base CX0 "is_sequence" ["value"] [] 1 (spIsSeq K) := ⟨_, _, [], G_is_sequence, PySem.W.mg_of X G a1, k1, b1, .nil⟩
  have G_sign_of := ok_sign (P := l.prog) (w := w) (mg := mg) (base := base) F2
  have C_sign_of : Cg l.prog w K mg base CX0 "sign_of" ["integer"] [] 1 spSign := ⟨_, _, [], G_sign_of, PySem.W.mg_of X G a2, k2, b2, .nil⟩
  have G_read_integer := ok_word (P := l.prog) (w := w) (mg := mg) (base := base) F3 n_len n_int gg_FIGURES
  have C_read_integer : Cg l.prog w K mg base CX0 "read_integer" ["word"] [] 1 spWord := ⟨_, _, [], G_read_integer, PySem.W.mg_of X G a3, k3, b3, .nil⟩
  have FS_ratio_by : FunD K "ratio_by" "ratio_by" (defArgs s_ratio_by) (defBody s_ratio_by) (defScope s_ratio_by) [.int 1] [] _ _ := ⟨⟨_, _, _, _, _, _, _, _, _, _, rfl, l4, c4, .inr ⟨by decide, _, _, _, _, rfl, t4, u4, .cons ⟨_, rfl⟩ .nil⟩, .inl rfl⟩, k4⟩
  have GS_ratio_by := ok_by (P := l.prog) (w := w) (mg := mg) (base := base) FS_ratio_by gg_gcd
  obtain ⟨d2_ratio_by, v2_ratio_by, B2_ratio_by⟩ := FS_ratio_by.binds1 (ps := ["top", "bottom"]) 2 1 (by decide) rfl fun T kV doc pm an cdv ct us its h1 h2 => match us, its, h1, h2 with | [_, _], [_], _, _ => ⟨_, rfl, rfl⟩
  have C_ratio_by : Cg l.prog w K mg base CX0 "ratio_by" ["top", "bottom"] [] 1 spBy := ⟨_, _, _, GS_ratio_by, PySem.W.mg_of X G a4, k4, B2_ratio_by, v2_ratio_by⟩
  have G_without_end := ok_trim (P := l.prog) (w := w) (mg := mg) (base := base) F6 n_len n_tuple
  have C_without_end : Cg l.prog w K mg base CX0 "without_end" ["integers"] [] 1 (spTrim K) := ⟨_, _, [], G_without_end, PySem.W.mg_of X G a6, k6, b6, .nil⟩
  have G_curve_of := ok_cof (P := l.prog) (w := w) (mg := mg) (base := base) F5 T_InvalidCurve C_is_sequence C_is_integer C_without_end n_enumerate
  have C_curve_of : Cg l.prog w K mg base (L2.CX l.prog w) "curve_of" ["values"] [] 2 (spCof K C_InvalidCurve) := ⟨_, _, [], G_curve_of, PySem.W.mg_of X G a5, k5, b5, .nil⟩
  have G_is_curve := ok_isCrv (P := l.prog) (w := w) (mg := mg) (base := base) F7 C_is_integer n_isinstance n_tuple n_all n_len
  have C_is_curve : Cg l.prog w K mg base CX0 "is_curve" ["value"] [] 2 (spIsCrv K) := ⟨_, _, [], G_is_curve, PySem.W.mg_of X G a7, k7, b7, .nil⟩
  have G_curve_plus := ok_plus (P := l.prog) (w := w) (mg := mg) (base := base) F8 C_without_end n_len n_zip n_list
  have C_curve_plus : Cg l.prog w K mg base CX0 "curve_plus" ["f", "g"] [] 2 (spPlus K) := ⟨_, _, [], G_curve_plus, PySem.W.mg_of X G a8, k8, b8, .nil⟩
  have G_curve_scaled := ok_scaled (P := l.prog) (w := w) (mg := mg) (base := base) F9 C_without_end
  have C_curve_scaled : Cg l.prog w K mg base CX0 "curve_scaled" ["f", "n"] [] 2 (spScaled K) := ⟨_, _, [], G_curve_scaled, PySem.W.mg_of X G a9, k9, b9, .nil⟩
  have G_curve_minus := ok_minus (P := l.prog) (w := w) (mg := mg) (base := base) F10 C_curve_plus C_curve_scaled
  have C_curve_minus : Cg l.prog w K mg base CX0 "curve_minus" ["f", "g"] [] 3 (spMinus K) := ⟨_, _, [], G_curve_minus, PySem.W.mg_of X G a10, k10, b10, .nil⟩
  have G_curve_times := ok_times (P := l.prog) (w := w) (mg := mg) (base := base) F11 n_len n_enumerate n_tuple
  have C_curve_times : Cg l.prog w K mg base CX0 "curve_times" ["f", "g"] [] 1 (spTimes K) := ⟨_, _, [], G_curve_times, PySem.W.mg_of X G a11, k11, b11, .nil⟩
  have G_curve_slope := ok_slope (P := l.prog) (w := w) (mg := mg) (base := base) F12 n_enumerate n_tuple
  have C_curve_slope : Cg l.prog w K mg base CX0 "curve_slope" ["f"] [] 1 (spSlope K) := ⟨_, _, [], G_curve_slope, PySem.W.mg_of X G a12, k12, b12, .nil⟩
  have G_curve_moved := ok_moved (P := l.prog) (w := w) (mg := mg) (base := base) F13 n_len n_list n_range n_tuple
  have C_curve_moved : Cg l.prog w K mg base CX0 "curve_moved" ["f", "n"] [] 1 (spMoved K) := ⟨_, _, [], G_curve_moved, PySem.W.mg_of X G a13, k13, b13, .nil⟩
  have K_curve_moved := ck_swap F13 G_curve_moved (PySem.W.mg_of X G a13) (fun _ _ _ _ _ _ _ _ => rfl)
  have G_curve_after := ok_after (P := l.prog) (w := w) (mg := mg) (base := base) F14 C_without_end C_curve_plus C_curve_times n_reversed
  have C_curve_after : Cg l.prog w K mg base CX0 "curve_after" ["f", "g"] [] 3 (spAfter K) := ⟨_, _, [], G_curve_after, PySem.W.mg_of X G a14, k14, b14, .nil⟩
  have K_curve_after := ck_swap F14 G_curve_after (PySem.W.mg_of X G a14) (fun _ _ _ _ _ _ _ _ => rfl)
  have G_worth_parts := ok_parts (P := l.prog) (w := w) (mg := mg) (base := base) F15 n_len n_range
  have C_worth_parts : Cg l.prog w K mg base CX0 "worth_parts" ["f", "one"] [] 1 (spParts K) := ⟨_, _, [], G_worth_parts, PySem.W.mg_of X G a15, k15, b15, .nil⟩
  have G_curve_worth := ok_worth (P := l.prog) (w := w) (mg := mg) (base := base) F16 C_worth_parts C_ratio_by
  have C_curve_worth : Cg l.prog w K mg base CX0 "curve_worth" ["f", "one"] [] 2 (spWorth K) := ⟨_, _, [], G_curve_worth, PySem.W.mg_of X G a16, k16, b16, .nil⟩
  have G_curve_sign := ok_csign (P := l.prog) (w := w) (mg := mg) (base := base) F17 C_worth_parts C_sign_of
  have C_curve_sign : Cg l.prog w K mg base CX0 "curve_sign" ["f", "one"] [] 2 (spCSign K) := ⟨_, _, [], G_curve_sign, PySem.W.mg_of X G a17, k17, b17, .nil⟩
  have G_first_sign := ok_first (P := l.prog) (w := w) (mg := mg) (base := base) F18 C_sign_of
  have C_first_sign : Cg l.prog w K mg base CX0 "first_sign" ["f"] [] 2 (spFirst K) := ⟨_, _, [], G_first_sign, PySem.W.mg_of X G a18, k18, b18, .nil⟩
  have G_last_sign := ok_last (P := l.prog) (w := w) (mg := mg) (base := base) F19 C_sign_of n_len
  have C_last_sign : Cg l.prog w K mg base CX0 "last_sign" ["f"] [] 2 (spLast K) := ⟨_, _, [], G_last_sign, PySem.W.mg_of X G a19, k19, b19, .nil⟩
  have G_curve_text := ok_ctext (P := l.prog) (w := w) (mg := mg) (base := base) F20 n_len n_str
  have C_curve_text : Cg l.prog w K mg base CX0 "curve_text" ["f"] [] 1 (spCText K) := ⟨_, _, [], G_curve_text, PySem.W.mg_of X G a20, k20, b20, .nil⟩
  have G_read_curve := ok_rdc (P := l.prog) (w := w) (mg := mg) (base := base) F21 T_InvalidText C_read_integer C_without_end n_enumerate n_isinstance n_str n_len
  have C_read_curve : Cg l.prog w K mg base (L2.CX l.prog w) "read_curve" ["text"] [] 2 (spRdc K C_InvalidText) := ⟨_, _, [], G_read_curve, PySem.W.mg_of X G a21, k21, b21, .nil⟩
  have G__law_box := ok_box (P := l.prog) (w := w) (mg := mg) (base := base) F22 n_int n_len n_abs
  have C__law_box : Cg l.prog w K mg base CX0 "_law_box" ["script", "k"] [] 1 (spBox K) := ⟨_, _, [], G__law_box, PySem.W.mg_of X G a22, k22, b22, .nil⟩
  have G__law_take := ok_take (P := l.prog) (w := w) (mg := mg) (base := base) F23 n_int
  have C__law_take : Cg l.prog w K mg base CX0 "_law_take" ["box", "many"] [] 1 spTake := ⟨_, _, [], G__law_take, PySem.W.mg_of X G a23, k23, b23, .nil⟩
  have G__law_pick := ok_pick (P := l.prog) (w := w) (mg := mg) (base := base) F24 C__law_take n_len
  have C__law_pick : Cg l.prog w K mg base CX0 "_law_pick" ["box", "some"] [] 2 spPick := ⟨_, _, [], G__law_pick, PySem.W.mg_of X G a24, k24, b24, .nil⟩
  have G__law_sign := ok_lsign (P := l.prog) (w := w) (mg := mg) (base := base) F25 n_int
  have C__law_sign : Cg l.prog w K mg base CX0 "_law_sign" ["number"] [] 1 spSign := ⟨_, _, [], G__law_sign, PySem.W.mg_of X G a25, k25, b25, .nil⟩
  have G__law_divisor := ok_div (P := l.prog) (w := w) (mg := mg) (base := base) F26 n_int n_abs
  have C__law_divisor : Cg l.prog w K mg base CX0 "_law_divisor" ["one", "other"] [] 1 spDiv := ⟨_, _, [], G__law_divisor, PySem.W.mg_of X G a26, k26, b26, .nil⟩
  have G__law_low := ok_low (P := l.prog) (w := w) (mg := mg) (base := base) F27 C__law_divisor
  have C__law_low : Cg l.prog w K mg base CX0 "_law_low" ["top", "bottom"] [] 2 spBy := ⟨_, _, [], G__law_low, PySem.W.mg_of X G a27, k27, b27, .nil⟩
  have G__law_short := ok_short (P := l.prog) (w := w) (mg := mg) (base := base) F28 n_len n_list n_tuple
  have C__law_short : Cg l.prog w K mg base CX0 "_law_short" ["row"] [] 1 (spTrim K) := ⟨_, _, [], G__law_short, PySem.W.mg_of X G a28, k28, b28, .nil⟩
  have G__law_drawn := ok_drawn (P := l.prog) (w := w) (mg := mg) (base := base) F29 C__law_take C__law_pick C__law_short n_len n_range
  have C__law_drawn : Cg l.prog w K mg base CX0 "_law_drawn" ["box"] [] 3 (spDrawn K) := ⟨_, _, [], G__law_drawn, PySem.W.mg_of X G a29, k29, b29, .nil⟩
  have G__law_sum := ok_sum (P := l.prog) (w := w) (mg := mg) (base := base) F30 C__law_short n_len n_max n_range
  have C__law_sum : Cg l.prog w K mg base CX0 "_law_sum" ["one", "other"] [] 2 (spPlus K) := ⟨_, _, [], G__law_sum, PySem.W.mg_of X G a30, k30, b30, .nil⟩
  have G__law_product := ok_prod (P := l.prog) (w := w) (mg := mg) (base := base) F31 C__law_short n_len n_sum n_range
  have C__law_product : Cg l.prog w K mg base CX0 "_law_product" ["one", "other"] [] 2 (spProd K) := ⟨_, _, [], G__law_product, PySem.W.mg_of X G a31, k31, b31, .nil⟩
  have G__law_behind := ok_behind (P := l.prog) (w := w) (mg := mg) (base := base) F32 C__law_sum C__law_product
  have C__law_behind : Cg l.prog w K mg base CX0 "_law_behind" ["one", "other"] [] 3 (spBehind K) := ⟨_, _, [], G__law_behind, PySem.W.mg_of X G a32, k32, b32, .nil⟩
  have G__law_worth := ok_lworth (P := l.prog) (w := w) (mg := mg) (base := base) F33 C__law_low
  have C__law_worth : Cg l.prog w K mg base CX0 "_law_worth" ["row", "at"] [] 3 (spWorth K) := ⟨_, _, [], G__law_worth, PySem.W.mg_of X G a33, k33, b33, .nil⟩
  have G__law_reckoned := ok_reck (P := l.prog) (w := w) (mg := mg) (base := base) F34 C_curve_plus C__law_sum C_curve_times C__law_product C_curve_minus C_curve_scaled C__law_short C_curve_slope C_curve_moved K_curve_moved C__law_behind C_curve_after K_curve_after C__law_worth C_curve_worth C_curve_sign C__law_sign C_first_sign C_last_sign n_tuple n_range n_len n_repr
  have C__law_reckoned : Cg l.prog w K mg base CX0 "_law_reckoned" ["one", "other", "many", "at"] [] 4 (spReck K) := ⟨_, _, [], G__law_reckoned, PySem.W.mg_of X G a34, k34, b34, .nil⟩
  have G__law_made := ok_made (P := l.prog) (w := w) (mg := mg) (base := base) F35 T_InvalidCurve TI_InvalidCurve gn_BellError gn_InvalidText kit_InvalidCurve_BellError kit_InvalidCurve_InvalidText C_curve_of n_isinstance
  have C__law_made : Cg l.prog w K mg base CX0 "_law_made" ["values"] [] 3 (spMade K) := ⟨_, _, [], G__law_made, PySem.W.mg_of X G a35, k35, b35, .nil⟩
  have G__law_read := ok_lread (P := l.prog) (w := w) (mg := mg) (base := base) F36 T_InvalidText TI_InvalidText gn_BellError gn_InvalidCurve kit_InvalidText_BellError kit_InvalidText_InvalidCurve C_read_curve n_isinstance
  have C__law_read : Cg l.prog w K mg base CX0 "_law_read" ["text"] [] 3 (spLRead K) := ⟨_, _, [], G__law_read, PySem.W.mg_of X G a36, k36, b36, .nil⟩
  have G__law_is_word := ok_isWord (P := l.prog) (w := w) (mg := mg) (base := base) F37 n_len
  have C__law_is_word : Cg l.prog w K mg base CX0 "_law_is_word" ["word"] [] 1 spIsWord := ⟨_, _, [], G__law_is_word, PySem.W.mg_of X G a37, k37, b37, .nil⟩
  have G__law_due := ok_due (P := l.prog) (w := w) (mg := mg) (base := base) F38 C__law_is_word C__law_short n_enumerate n_len n_int
  have C__law_due : Cg l.prog w K mg base CX0 "_law_due" ["words"] [] 2 (spDue K) := ⟨_, _, [], G__law_due, PySem.W.mg_of X G a38, k38, b38, .nil⟩
  have G__law_sequences_right := ok_seqR (P := l.prog) (w := w) (mg := mg) (base := base) F39 C__law_made C__law_pick C__law_take C_is_curve n_len n_list n_tuple
  have C__law_sequences_right : Cg l.prog w K mg base CX0 "_law_sequences_right" ["box", "one"] [] 4 (spSeqR K) := ⟨_, _, [], G__law_sequences_right, PySem.W.mg_of X G a39, k39, b39, .nil⟩
  have G__law_texts_right := ok_txtR (P := l.prog) (w := w) (mg := mg) (base := base) F40 C__law_due C__law_pick C__law_read C__law_take C_curve_text n_len n_list n_range n_str
  have C__law_texts_right : Cg l.prog w K mg base CX0 "_law_texts_right" ["box", "one"] [] 4 (spTxtR K) := ⟨_, _, [], G__law_texts_right, PySem.W.mg_of X G a40, k40, b40, .nil⟩
  exact ok_law F41 C__law_box C__law_drawn C__law_low C__law_reckoned C__law_sequences_right C__law_take C__law_texts_right
theorem walk {l : PySem.W.OpenLaw} {q : Program} {loose : List Str} {XP : (Str → Option Value) → Heap → Prop} {YP : World → Heap → Prop} {d : DefRec} {K : Params → PySem.W.Frag} (hn : l.most = some 63) (hdf : d.params.defaults = [])
    (hY : ∀ (w : World) (h : Heap), YP w h → (K w.params).In h)
    (F : ∀ (w : World) (mg : Str → Option Value) (fa : Addr) (h : Heap), (K w.params).In h → h.Ns mainGlobals mg → mg d.name = some (.ref fa) →
      ∃ fd : FuncData, (∀ (s : Shared) (u : Value), BindsTo s fd ⟨[u], []⟩ [("script", u)]) ∧ ∀ base : Heap, (K w.params).In base → base.Ns mainGlobals mg → FnG l.prog w (K w.params) mg base CX0 5 fa fd ["script"] (spLaw (K w.params))) :
    PySem.W.WalkO q loose XP YP l.row.toRowW d [] (fun f vs => PySem.call f vs) :=
  Gu.walk_go (n := 63) (k := 5) (x := "script") (sp := fun w => spLaw (K w.params)) hn (by decide) hdf ⟨rfl, by decide, by decide⟩ hY F (fun _ _ a ns hl hS => ⟨a, ns, rfl, hS, hl, fun _ => rfl⟩)
end Kc
open PySem PySem.W PyProof.Rows
set_option maxRecDepth 100000 in
set_option maxHeartbeats 0 in
theorem PySem.Challenge.cw_curvebells_k03_curves_reckoned_and_writt_holds : PySem.Challenge.rw_curvebells_k03_curves_reckoned_and_writt.Holds := by
  w_on; o_law; k_head; (case hw => w_witness2)
  k_fill
  refine Kc.walk (l := PySem.Challenge.rw_curvebells_k03_curves_reckoned_and_writt) rfl rfl (fun w h Y => PySem.W.kIn_of Y) ?F
  case F =>
    intro w mg fa h KX G hmg
    refine' Kc.all_mk KX G hmg ?a0 ?l0 ?c0 ?k0 ?a1 ?l1 ?c1 ?k1 ?a2 ?l2 ?c2 ?k2 ?a3 ?l3 ?c3 ?k3 ?t4 ?u4 ?a4 ?l4 ?c4 ?k4 ?a5 ?l5 ?c5 ?k5 ?a6 ?l6 ?c6 ?k6 ?a7 ?l7 ?c7 ?k7 ?a8 ?l8 ?c8 ?k8 ?a9 ?l9 ?c9 ?k9 ?a10 ?l10 ?c10 ?k10 ?a11 ?l11 ?c11 ?k11 ?a12 ?l12 ?c12 ?k12 ?a13 ?l13 ?c13 ?k13 ?a14 ?l14 ?c14 ?k14 ?a15 ?l15 ?c15 ?k15 ?a16 ?l16 ?c16 ?k16 ?a17 ?l17 ?c17 ?k17 ?a18 ?l18 ?c18 ?k18 ?a19 ?l19 ?c19 ?k19 ?a20 ?l20 ?c20 ?k20 ?a21 ?l21 ?c21 ?k21 ?a22 ?l22 ?c22 ?k22 ?a23 ?l23 ?c23 ?k23 ?a24 ?l24 ?c24 ?k24 ?a25 ?l25 ?c25 ?k25 ?a26 ?l26 ?c26 ?k26 ?a27 ?l27 ?c27 ?k27 ?a28 ?l28 ?c28 ?k28 ?a29 ?l29 ?c29 ?k29 ?a30 ?l30 ?c30 ?k30 ?a31 ?l31 ?c31 ?k31 ?a32 ?l32 ?c32 ?k32 ?a33 ?l33 ?c33 ?k33 ?a34 ?l34 ?c34 ?k34 ?a35 ?l35 ?c35 ?k35 ?a36 ?l36 ?c36 ?k36 ?a37 ?l37 ?c37 ?k37 ?a38 ?l38 ?c38 ?k38 ?a39 ?l39 ?c39 ?k39 ?a40 ?l40 ?c40 ?k40 ?a41 ?l41 ?c41 ?k41 ?z_isinstance ?z_int ?z_bool ?z_list ?z_tuple ?z_len ?z_enumerate ?z_all ?z_zip ?z_range ?z_reversed ?z_str ?z_abs ?z_max ?z_sum ?z_repr ?g_FIGURES ?g_gcd ?aB ?aC_InvalidCurve ?xL_InvalidCurve ?sa_InvalidCurve ?ga_InvalidCurve ?gg_InvalidCurve ?nb_InvalidCurve ?aI_InvalidCurve ?tI_InvalidCurve ?lI_InvalidCurve ?cI_InvalidCurve ?kC_InvalidCurve ?eC_InvalidCurve ?tC_InvalidCurve ?hC_InvalidCurve ?iC_InvalidCurve ?sC_InvalidCurve ?x1_InvalidCurve ?x4_InvalidCurve ?aC_InvalidText ?xL_InvalidText ?sa_InvalidText ?ga_InvalidText ?gg_InvalidText ?nb_InvalidText ?aI_InvalidText ?tI_InvalidText ?lI_InvalidText ?cI_InvalidText ?kC_InvalidText ?eC_InvalidText ?tC_InvalidText ?hC_InvalidText ?iC_InvalidText ?sC_InvalidText ?x1_InvalidText ?x4_InvalidText ?x2 ?x3 ?kit_InvalidCurve_BellError ?kit_InvalidCurve_InvalidText ?kit_InvalidText_BellError ?kit_InvalidText_InvalidCurve
    (case a0 => k_is); (case l0 => k_is); (case c0 => k_is); (case k0 => k_is)
    (case a1 => k_is); (case l1 => k_is); (case c1 => k_is); (case k1 => k_is)
    (case a2 => k_is); (case l2 => k_is); (case c2 => k_is); (case k2 => k_is)
    (case a3 => k_is); (case l3 => k_is); (case c3 => k_is); (case k3 => k_is)
    (case a4 => k_is); (case l4 => k_is); (case c4 => k_is); (case k4 => k_is); (case t4 => k_is)
    (case u4 => rfl)
    (case a5 => k_is); (case l5 => k_is); (case c5 => k_is); (case k5 => k_is)
    (case a6 => k_is); (case l6 => k_is); (case c6 => k_is); (case k6 => k_is)
    (case a7 => k_is); (case l7 => k_is); (case c7 => k_is); (case k7 => k_is)
    (case a8 => k_is); (case l8 => k_is); (case c8 => k_is); (case k8 => k_is)
    (case a9 => k_is); (case l9 => k_is); (case c9 => k_is); (case k9 => k_is)
    (case a10 => k_is); (case l10 => k_is); (case c10 => k_is); (case k10 => k_is)
    (case a11 => k_is); (case l11 => k_is); (case c11 => k_is); (case k11 => k_is)
    (case a12 => k_is); (case l12 => k_is); (case c12 => k_is); (case k12 => k_is)
    (case a13 => k_is); (case l13 => k_is); (case c13 => k_is); (case k13 => k_is)
    (case a14 => k_is); (case l14 => k_is); (case c14 => k_is); (case k14 => k_is)
    (case a15 => k_is); (case l15 => k_is); (case c15 => k_is); (case k15 => k_is)
    (case a16 => k_is); (case l16 => k_is); (case c16 => k_is); (case k16 => k_is)
    (case a17 => k_is); (case l17 => k_is); (case c17 => k_is); (case k17 => k_is)
    (case a18 => k_is); (case l18 => k_is); (case c18 => k_is); (case k18 => k_is)
    (case a19 => k_is); (case l19 => k_is); (case c19 => k_is); (case k19 => k_is)
    (case a20 => k_is); (case l20 => k_is); (case c20 => k_is); (case k20 => k_is)
    (case a21 => k_is); (case l21 => k_is); (case c21 => k_is); (case k21 => k_is)
    (case a22 => k_is); (case l22 => k_is); (case c22 => k_is); (case k22 => k_is)
    (case a23 => k_is); (case l23 => k_is); (case c23 => k_is); (case k23 => k_is)
    (case a24 => k_is); (case l24 => k_is); (case c24 => k_is); (case k24 => k_is)
    (case a25 => k_is); (case l25 => k_is); (case c25 => k_is); (case k25 => k_is)
    (case a26 => k_is); (case l26 => k_is); (case c26 => k_is); (case k26 => k_is)
    (case a27 => k_is); (case l27 => k_is); (case c27 => k_is); (case k27 => k_is)
    (case a28 => k_is); (case l28 => k_is); (case c28 => k_is); (case k28 => k_is)
    (case a29 => k_is); (case l29 => k_is); (case c29 => k_is); (case k29 => k_is)
    (case a30 => k_is); (case l30 => k_is); (case c30 => k_is); (case k30 => k_is)
    (case a31 => k_is); (case l31 => k_is); (case c31 => k_is); (case k31 => k_is)
    (case a32 => k_is); (case l32 => k_is); (case c32 => k_is); (case k32 => k_is)
    (case a33 => k_is); (case l33 => k_is); (case c33 => k_is); (case k33 => k_is)
    (case a34 => k_is); (case l34 => k_is); (case c34 => k_is); (case k34 => k_is)
    (case a35 => k_is); (case l35 => k_is); (case c35 => k_is); (case k35 => k_is)
    (case a36 => k_is); (case l36 => k_is); (case c36 => k_is); (case k36 => k_is)
    (case a37 => k_is); (case l37 => k_is); (case c37 => k_is); (case k37 => k_is)
    (case a38 => k_is); (case l38 => k_is); (case c38 => k_is); (case k38 => k_is)
    (case a39 => k_is); (case l39 => k_is); (case c39 => k_is); (case k39 => k_is)
    (case a40 => k_is); (case l40 => k_is); (case c40 => k_is); (case k40 => k_is)
    (case a41 => k_is); (case l41 => k_is); (case c41 => k_is); (case k41 => k_is)
    (case z_isinstance => k_is); (case z_int => k_is); (case z_bool => k_is); (case z_list => k_is); (case z_tuple => k_is); (case z_len => k_is); (case z_enumerate => k_is); (case z_all => k_is); (case z_zip => k_is); (case z_range => k_is); (case z_reversed => k_is); (case z_str => k_is); (case z_abs => k_is); (case z_max => k_is); (case z_sum => k_is); (case z_repr => k_is)
    (case g_FIGURES => k_is); (case g_gcd => k_is)
    (case aB => k_is)
    (case aC_InvalidCurve => k_is)
    (case xL_InvalidCurve => k_is)
    (case sa_InvalidCurve => k_is)
    (case ga_InvalidCurve => k_is)
    (case gg_InvalidCurve => k_is)
    (case nb_InvalidCurve => k_is)
    (case aI_InvalidCurve => k_is)
    (case tI_InvalidCurve => k_is)
    (case lI_InvalidCurve => k_is)
    (case cI_InvalidCurve => k_is)
    (case kC_InvalidCurve => k_is)
    (case eC_InvalidCurve => k_is)
    (case tC_InvalidCurve => k_is)
    (case hC_InvalidCurve => k_is)
    (case iC_InvalidCurve => show PySem.W.isClsIn _ _ = true; k_is)
    (case sC_InvalidCurve => first | rfl | k_is)
    (case x1_InvalidCurve => k_is)
    (case x4_InvalidCurve => k_is)
    (case aC_InvalidText => k_is)
    (case xL_InvalidText => k_is)
    (case sa_InvalidText => k_is)
    (case ga_InvalidText => k_is)
    (case gg_InvalidText => k_is)
    (case nb_InvalidText => k_is)
    (case aI_InvalidText => k_is)
    (case tI_InvalidText => k_is)
    (case lI_InvalidText => k_is)
    (case cI_InvalidText => k_is)
    (case kC_InvalidText => k_is)
    (case eC_InvalidText => k_is)
    (case tC_InvalidText => k_is)
    (case hC_InvalidText => k_is)
    (case iC_InvalidText => show PySem.W.isClsIn _ _ = true; k_is)
    (case sC_InvalidText => first | rfl | k_is)
    (case x1_InvalidText => k_is)
    (case x4_InvalidText => k_is)
    (case x2 => k_is)
    (case x3 => k_is)
    (case kit_InvalidCurve_BellError => kit_is)
    (case kit_InvalidCurve_InvalidText => kit_is)
    (case kit_InvalidText_BellError => kit_is)
    (case kit_InvalidText_InvalidCurve => kit_is)
