import PyProof.Rows.All
import Wide.All
import OpenK.AllK
import Wide.FinOn
import HandS.ForMost
import HandS.Wide
import HandS.Defaults
import HandS.ForExc
import HandS.ExcField
import HandS.ExcIs
import HandS.IsInst
import HandS.StrMore
import HandS.Gcd
import HandS.FStr
import HandS.Evl
import KE.KExcInit
import KE.KExcIs
import KE.IntTextLaws
import PyProof.Rows.StrFirst
import PyProof.ReprRoads
import PyProof.ReprReads
import PyProof.CallFns
import PySem.Challenge.RW_curvebells_k01_ratios_reckoned_told_and
set_option Elab.async false
set_option linter.all false
set_option maxRecDepth 100000
set_option maxHeartbeats 4000000
namespace Hb
open PySem PySem.Spec PyProof.Rows L2
/-! ### heaps -/
theorem same_new {H : Hp} {p : Addr} (h : H p = none) (o : HO) : Same H (upd H p o) := fun b u q => by
  rw [upd_ne (ne_of_none q h)]
  exact q
/-- a new object -/
theorem new_at {H : Hp} {p : Addr} {o : HO} {G : Hp → Prop} (h : H p = none) (k : ∀ H', Same H H' → H' p = some o → G H') : G (upd H p o) := k _ (same_new h o) upd_same
/-- a new tuple, a new list as the value of a display -/
theorem tup_at {H : Hp} {xs : List V} {Q : VK} (hl : xs.length ≤ 1000) (k : ∀ p H', H p = none → Same H H' → H' p = some (.tup xs) → Q (.ref p) H') : xs.length ≤ sizeLine ∧ ∀ p, H p = none → Q (.ref p) (upd H p (.tup xs)) :=
  ⟨Nat.le_trans hl (by decide), fun p hp => k p _ hp (same_new hp _) upd_same⟩
theorem lst_at {H : Hp} {xs : List V} {Q : VK} (hl : xs.length ≤ 1000) (k : ∀ p H', H p = none → Same H H' → H' p = some (.lst xs) → Q (.ref p) H') : xs.length ≤ sizeLine ∧ ∀ p, H p = none → Q (.ref p) (upd H p (.lst xs)) :=
  ⟨Nat.le_trans hl (by decide), fun p hp => k p _ hp (same_new hp _) upd_same⟩
/-- all but the object at p is as it was -/
def Kept (p : Addr) (H H' : Hp) : Prop := ∀ b o, H b = some o → b ≠ p → H' b = some o
theorem Same.kept {H H' : Hp} {p : Addr} (h : Same H H') : Kept p H H' := fun b o e _ => h b o e
theorem Kept.refl (p : Addr) (H : Hp) : Kept p H H := fun _ _ h _ => h
theorem Kept.trans {p : Addr} {H H1 H2 : Hp} (a : Kept p H H1) (b : Kept p H1 H2) : Kept p H H2 := fun c o h n => b c o (a c o h n) n
theorem kept_upd {p : Addr} {H : Hp} {o : HO} : Kept p H (upd H p o) := fun b u e n => by rw [upd_ne n]; exact e
/-- a tuple stays where the list at p changes -/
theorem Kept.tup {p t : Addr} {H H' : Hp} {xs ys : List V} (k : Kept p H H') (hp : H p = some (.lst ys)) (h : H t = some (.tup xs)) : H' t = some (.tup xs) := k t _ h (ne_of h hp (by intro z; cases z))

/-! ### tests -/
theorem iteD {c A B : Prop} [Decidable c] (h1 : c → A) (h2 : ¬ c → B) : if decide c = true then A else B := by
  by_cases h : c
  · rw [decide_eq_true h]
    exact iteT (h1 h)
  · rw [decide_eq_false h]
    exact iteF (h2 h)
theorem iteN {c A B : Prop} [Decidable c] (h1 : ¬ c → A) (h2 : c → B) : if (!decide c) = true then A else B := by
  by_cases h : c
  · rw [decide_eq_true h]
    exact iteF (h2 h)
  · rw [decide_eq_false h]
    exact iteT (h1 h)
theorem divw {i j : Int} (h0 : 0 < j) (h : j < 2 ^ 100) : CDivW i j := wide_div (b := 100) h0 (by omega) (by decide) (by decide)

/-! ### the defs of a text, by their promises -/
structure Cl (P : Program) (w : World) (K : PySem.W.Frag) (mg : Str → Option Value) (base : Heap) (x : Str) (ps : List Str) (dvs : List V) (lv : Nat) (sp : Sp) : Prop where
  ex : ∃ (f : Addr) (fd : FuncData) (ds : List Value), FnOk P w K mg base CX0 lv f fd ps sp ∧ mg x = some (.ref f) ∧ PySem.W.keepIn K (.ref f) = true ∧ Binds K fd ps ds ∧ Vals dvs ds
section
variable {X : Cx} {ps : List Str} {dvs : List V} {lv : Nat} {sp : Sp} {x : Str} {p pos : Pos} {e : Expr} {es : List Expr} {t : TA}
theorem pe_use (C : Cl X.prog X.w X.K X.mg X.base x ps dvs lv sp) (hr : Room lv X.A) (hg : Gl X x) (ha : PA X (e :: es) t) (hdb : (x == ("__debug__" : Str)) = false := by decide)
    (he : starEach (e :: es) X.env = (false, eval e X.env) :: starEach es X.env := by rfl) (hpl : (backTo pos (starEach es X.env)).any (·.1) = false := by rfl) : PE X (.Call (.Name x p) (e :: es) [] pos) (tCall sp dvs E0 t) := by
  obtain ⟨f, fd, ds, F, hm, hk, hb, hd⟩ := C.ex
  exact pe_call F hr hg hm hk hb hd pass0 ha hdb he hpl
theorem pe_use0 (C : Cl X.prog X.w X.K X.mg X.base x ps dvs lv sp) (hr : Room lv X.A) (hg : Gl X x) (hdb : (x == ("__debug__" : Str)) = false := by decide) : PE X (.Call (.Name x p) [] [] pos) (tCall sp dvs E0 tNil) := by
  obtain ⟨f, fd, ds, F, hm, hk, hb, hd⟩ := C.ex
  exact pe_call0 F hr hg hm hk hb hd pass0 hdb
end
/-- f(k = v, ..) without a value by place -/
structure ClK (P : Program) (w : World) (K : PySem.W.Frag) (mg : Str → Option Value) (base : Heap) (x : Str) (ps : List Str) (n : Nat) (ks : List Str) (gV : List V → List V → List V) (lv : Nat) (sp : Sp) : Prop where
  ex : ∃ (f : Addr) (fd : FuncData) (g : List Value → List Value → List Value), FnOk P w K mg base CX0 lv f fd ps sp ∧ mg x = some (.ref f) ∧ PySem.W.keepIn K (.ref f) = true ∧ KBn K fd ps n ks g gV
section
variable {X : Cx} {ps ks : List Str} {n : Nat} {gV : List V → List V → List V} {lv : Nat} {sp : Sp} {x : Str} {p pos : Pos} {e : Expr} {es : List Expr} {t tk : TA} {kws : List Keyword}
theorem pe_useK0 (C : ClK X.prog X.w X.K X.mg X.base x ps 0 ks gV lv sp) (hr : Room lv X.A) (hg : Gl X x) (hkw : PK X kws tk) (hall : (backToKw pos (keywordEach kws X.env)).all (·.1.isSome) = true := by rfl) (hks : (backToKw pos (keywordEach kws X.env)).filterMap (·.1) = ks := by rfl)
    (hdb : (x == ("__debug__" : Str)) = false := by decide) (hpl : ((backTo pos (starEach [] X.env)).any (·.1) || (backToKw pos (keywordEach kws X.env)).any (·.1.isNone)) = false := by rfl) :
    PE X (.Call (.Name x p) [] kws pos) (tCallN 0 ks.length sp gV E0 tNil tk) := by
  obtain ⟨f, fd, g, F, hm, hk, hb⟩ := C.ex
  refine ⟨fun pins s σ H Q I h => ?_⟩
  refine wpAny_Call_Name_kw (ld_glob I hg hm ?_ hdb)
  refine PySem.W.callWith_KW0 (h₀ := X.base) I.ok.mod.kin hk hall ?_ hpl
  refine thn (hkw.run pos pins s σ H _ I h) fun ws s2 ⟨zs, H2, I2, rz, l1, l2, q2⟩ => ⟨I2.kIn, ?_⟩
  rw [hks]
  exact run_fnN (us := []) (vs := []) F hr hb pass0 I2 .nil rz rfl l2 q2
theorem pe_useK (C : ClK X.prog X.w X.K X.mg X.base x ps n ks gV lv sp) (hr : Room lv X.A) (hg : Gl X x) (ha : PA X (e :: es) t) (hkw : PK X kws tk) (hall : (backToKw pos (keywordEach kws X.env)).all (·.1.isSome) = true := by rfl)
    (hks : (backToKw pos (keywordEach kws X.env)).filterMap (·.1) = ks := by rfl)
    (hdb : (x == ("__debug__" : Str)) = false := by decide) (he : starEach (e :: es) X.env = (false, eval e X.env) :: starEach es X.env := by rfl)
    (hpl : ((backTo pos (starEach (e :: es) X.env)).any (·.1) || (backToKw pos (keywordEach kws X.env)).any (·.1.isNone)) = false := by rfl) :
    PE X (.Call (.Name x p) (e :: es) kws pos) (tCallN n ks.length sp gV E0 t tk) := by
  obtain ⟨f, fd, g, F, hm, hk, hb⟩ := C.ex
  exact pe_callN F hr hg hm hk hb pass0 ha hkw hall hks hdb he hpl
end
/-- positional and keyword arguments that fill all parameters of a def with defaults -/
theorem kb_full {K : PySem.W.Frag} {x qual : Str} {params : Arguments} {body : List Stmt} {scope : Scope} {dvs : List V} {f : Addr} {fd : FuncData} {ps : List Str} (F : FunD K x qual params body scope dvs [] f fd) (n : Nat) (ks : List Str) (g : {α : Type} → List α → List α → List α → List α) (hd : dvs ≠ [])
    (hrel : ∀ {vs ds zs : List V} {us its ws : List Value}, Vals vs us → Vals ds its → Vals zs ws → Vals (g vs ds zs) (g us its ws))
    (h : ∀ (T : Addr) (kV doc pm : Value) (an : Option Addr) (cdv ct : Value) (us its ws : List Value), us.length = n → its.length = dvs.length → ws.length = ks.length →
      ∃ k, bindArgs (PySem.W.fnOf x qual params body scope (.ref T) kV doc pm an cdv ct) ⟨us, ks.zip ws⟩ = seqItems? (.ref T) >>= k ∧ k (some its.toArray) = pure (ps.zip (g us its ws))) :
    ∃ its : List Value, KBn K fd ps n ks (fun us ws => g us its ws) (fun vs zs => g vs dvs zs) := by
  obtain ⟨oc, od, dV, kV, doc, pm, an, cdv, ct, osl, rfl, lk, hcd, hD, hK⟩ := F.ex
  rcases hD with ⟨e, _⟩ | ⟨_, T, o, its, m, rfl, lT, oT, rT⟩
  · exact absurd e hd
  · refine ⟨its, ⟨fun s us ws X l1 l2 => ?_, fun r1 r2 => hrel r1 rT r2⟩⟩
    obtain ⟨k, e1, e2⟩ := h T kV doc pm an cdv ct us its ws l1 rT.length.symm l2
    refine BindsTo.of_looks fun M => ?_
    rw [e1]
    exact looks_items X lT oT (.of_pure e2)
end Hb

/-! errors of classes of the program's own, over Exception through other own classes, whose __init__ keeps one thing: self.at = at -/
namespace Xb
open PySem PySem.W PySem.Calls PyProof.Rows PySem.HandSPX
abbrev exB : List Value := [.type "Exception", .type "BaseException", .type "object"]
def iA (p1 p2 : Pos) : Arguments := { posonlyargs := [], args := [{ arg := "self", annotation := none, pos := p1 }, { arg := "at", annotation := none, pos := p2 }], vararg := none, kwonlyargs := [], kw_defaults := [], kwarg := none, defaults := [] }
def iB (q1 q2 q3 q4 : Pos) : List Stmt := [.Assign [.Attribute (.Name "self" q1) "at" q2] (.Name "at" q3) q4]
def iS : Scope := { kind := .function, names := [(PySem.Str.ofString "self", .local), (PySem.Str.ofString "at", .local)], isGenerator := false, isCoroutine := false, more := [] }
/-- what the written part says of the class cn, at C, and of its __init__, at fI -/
structure ErrC (K : Frag) (mg : Str → Option Value) (cn : Str) (C fI : Addr) : Prop where
  gC : mg cn = some (.ref C)
  cls : ∃ nm q N bs bm sn sub ab col dd k0 k1 k2 k3 k5, K.lookup C = some (excClassObj nm q C N bs bm true sn sub ab col dd k0 k1 k2 k3 k5 "Exception.__new__") ∧ excTail exB bm = true
  sa : findIn K (.ref C) "__setattr__" = some (some (.builtin "object.__setattr__"))
  ga : findIn K (.ref C) "__getattribute__" = some (some (.builtin "BaseException.__getattribute__"))
  gg : findIn K (.ref C) "__getattr__" = some none
  noN : findIn K (.ref C) "at" = some none
  iC : findIn K (.ref C) "__init__" = some (some (.ref fI))
  tC : typeIn K (.ref fI) = some (.type "function")
  kC : keepIn K (.ref C) = true
  exC : subIn K (.ref C) (.type "BaseException") = some true
  tyC : typeIn K (.ref C) = some (.type "type")
  hdC : hasDictIn K C = true
  te : exmOne K (.ref C) (.ref C) = some true
  fn : ∃ (oc : Value) (od : Option Addr) (qn : Str) (doc pm : Value) (an : Option Addr) (cdv ct : Value) (osl : Array (Option Value)) (p1 p2 q1 q2 q3 q4 : Pos),
    K.lookup fI = some ⟨oc, od, .func (fnOf "__init__" qn (iA p1 p2) (iB q1 q2 q3 q4) iS .none .none doc pm an cdv ct), osl⟩ ∧ codeIn K cdv qn = true
theorem one_size (v : Value) : [v].length ≤ sizeLine := by
  rw [sizeLine_eq]
  exact (by decide : 1 ≤ 16777216)
theorem at_local {M : Model} {s : Shared} {name : Str} {scope : Scope} {L a : Addr} {cd : Value} {m : Str → Option Value} {x : Str} {pos : Pos} {v : Value} {Q : Value → Shared → Prop} {A : Around} {E : Value → Shared → Prop} (hn : s.heap.Ns L m) (hv : m x = some v) (h : Q v s)
    (hk : scope.kind = .function := by rfl) (hl : (envOfC name scope L a cd).kindOf x = some .local := by rfl) (hd : (x == ("__debug__" : Str)) = false := by decide) :
    wpAny M A (eval (.Name x pos) (envOfC name scope L a cd)) Q E s := wpAny_Name (wpAny_loadName_local hk hl hn hv h) hd
/-- what __init__ leaves of a fresh exception at x -/
structure Ended (h h' : Heap) (x C dx t1 : Addr) (v : Value) : Prop where
  keep : ∀ b o, b ≠ x → h.get? b = some o → h'.get? b = some o
  obj : h'.get? x = some { cls := .ref C, dict := some dx, data := .fields #[.ref t1, .none, .none, .none, .bool false, .none] }
  dbig : h.objs.size ≤ dx
  dne : dx ≠ x
  ns : h'.Ns1 dx (fun y => if y = "at" then some v else none)
structure Made (h h' : Heap) (e C d : Addr) (v : Value) : Prop where
  keep : ∀ b o, h.get? b = some o → h'.get? b = some o
  new : h.objs.size ≤ e
  obj : ∃ oe vs, h'.get? e = some oe ∧ oe.cls = .ref C ∧ oe.dict = some d ∧ oe.data = .fields vs ∧ vs[1]? = some .none
  dbig : h.objs.size ≤ d
  dne : d ≠ e
  ns : h'.Ns1 d (fun y => if y = "at" then some v else none)
section
open Builtin Builtin.ObjectAttr
variable {prog : Program} {w : World} {A : Around} {E : Value → Shared → Prop} {R : Result → Shared → Prop} {K : Frag} {mg : Str → Option Value} {cn : Str} {C fI : Addr}
/-- the first store to such an exception: it gets its dict -/
theorem first_store {hp : Heap} {g : Array GenState} {d : Drawn} {t : Nat} {os : OsState} {name : Str} {tk : Tok} {v : Value} {x : Addr} {fv : Array Value} {cd : ClassData}
    (X : K.In hp) (hx : hp.get? x = some { cls := .ref C, data := .fields fv }) (hcd : clsIn K C = some cd) (ho : excOver K C exB = true) (hh : cd.hasDict = true) (ha : findIn K (.ref C) name = some none)
    (hq : ∀ h' tk' dx, (∀ b o, b ≠ x → hp.get? b = some o → h'.get? b = some o) → hp.objs.size ≤ dx → dx ≠ x → h'.get? x = some { cls := .ref C, dict := some dx, data := .fields fv } →
      h'.Ns1 dx (fun y => if y = name then some v else none) → R (.ok (.ret .none)) ⟨h', g, d, tk', os⟩) :
    codeAny (model prog w) A (.call (.builtin "object.__setattr__") ⟨[.ref x, .str name tk, v], []⟩) R ⟨hp, g, d, t, os⟩ := by
  have I : InstAt hp x { cls := .ref C, data := .fields fv } C none := ⟨hx, rfl, rfl, trivial⟩
  have nx : x ≠ hp.objs.size := Nat.ne_of_lt (Heap.lt_size hx)
  refine osa_openX (r := none) F.store_Exception X I ho (by unfold takerIn; rw [ha]; rfl) fun b => ?_
  show wpAny _ _ (storeInOwnDict (.ref x) (.ref C) (.str name tk) name v b) _ _ _
  have hC : Looks (model prog w) hp (classData C) cd := looks_clsIn X hcd
  obtain ⟨_, _, _, _, _, hd, _, _, _, _, _⟩ := cd
  dsimp only at hh
  subst hh
  unfold storeInOwnDict ownDictForStores
  repeat (first | with_reducible refine wpAny_loadPart_at hx ?_ | with_reducible refine hC.at ?_ | with_reducible refine HandSPX.store_in_new ?_ ?_ | wp_step)
  · exact ⟨_, #[], _, (Heap.get?_update_ne _ _ _ _ nx.symm).trans (Heap.get?_push_at rfl rfl), rfl, fun e he => absurd he (by simp), fun _ => rfl⟩
  · intro h' tk' hn' hs
    have old : (hp.push { cls := .type "dict", data := .dict #[] }).get? x = some { cls := .ref C, data := .fields fv } := Heap.get?_push_of_some _ hx
    refine hq h' tk' hp.objs.size (fun b o hb ho => ?_) (Nat.le_refl _) nx.symm ?_ hn'
    · exact (hs.2 b (Nat.ne_of_lt (Heap.lt_size ho))).trans ((Heap.get?_update_ne _ _ _ _ hb).trans (Heap.get?_push_of_some _ ho))
    · exact (hs.2 x nx).trans (Heap.get?_update_self _ old rfl)
theorem err_init (T : ErrC K mg cn C fI) {s : Shared} {x t0 : Addr} {v : Value} (X : K.In s.heap) (hlim : s.heap.NoLimit) (hx : s.heap.get? x = some (excO C t0)) (hroom : A.depth < recursionLimit)
    (hq : ∀ h' tk dx, Ended s.heap h' x C dx t0 v → R (.ok (.ret .none)) { s with heap := h', toks := tk }) :
    codeAny (model prog w) A (.call (.ref fI) ⟨[.ref x, v], []⟩) R s := by
  obtain ⟨oc, od, qn, doc, pm, an, cdv, ct, osl, p1, p2, q1, q2, q3, q4, ho, hcd⟩ := T.fn
  obtain ⟨nm, q, N, bs, bm, sn, sub, ab, col, dd, k0, k1, k2, k3, k5, hC, hbm⟩ := T.cls
  have hcl : clsIn K C = some { name := nm, bases := bs, mro := .ref C :: bm, ns := N, qualname := q, hasDict := true, slotNames := sn, subclasses := sub, abstract := ab, collection := col, hasDel := false } := by unfold clsIn; rw [hC] <;> rfl
  have over : excOver K C exB = true := by
    unfold excOver
    rw [hcl]
    show ((C == C) && excTail exB bm) = true
    rw [hbm, beq_self_eq_true]
    rfl
  refine Att.call_fn (binds := [("self", .ref x), ("at", v)]) X hlim ho hcd hroom (BindsTo.of_eq (by first | rfl | with_unfolding_all rfl)) (by first | rfl | decide | with_unfolding_all rfl) (fun s₁ IC => ?_) rfl rfl rfl
  obtain ⟨h₁, tk₁, rfl⟩ := IC.toInCall.same
  have k : ∀ b o, s.heap.get? b = some o → h₁.get? b = some o := IC.toInCall.keep
  have hn := IC.toInCall.ns
  have X₁ : K.In h₁ := X.keeps k
  have hx₁ := k _ _ hx
  show wpAny _ _ (execs _ _) _ _ _
  refine wpAny_execs_cons (plainObj_wpAny_Assign_Attribute ?_)
  refine at_local (v := v) hn (by first | rfl | with_unfolding_all rfl | kernel_rfl) (at_local (v := .ref x) hn (by first | rfl | with_unfolding_all rfl | kernel_rfl) ?_)
  refine set_plain X₁ (ox := excO C t0) (od := none) ⟨hx₁, rfl, rfl, trivial⟩ T.sa ?_
  refine first_store X₁ hx₁ hcl over rfl T.noN (fun h₃ tk₃ dx k₃ dn dne hx₃ hn₃ => ?_)
  show wpAny _ _ (execs _ _) _ _ _
  have z : s.heap.objs.size < h₁.objs.size := hn.lt
  exact wpAny_execs_nil (hq h₃ tk₃ dx ⟨fun b o hb e => k₃ b o hb (k b o e), hx₃, Nat.le_of_lt (Nat.lt_of_lt_of_le z dn), dne, hn₃⟩)
theorem err_made (T : ErrC K mg cn C fI) {s : Shared} {v : Value} (X : K.In s.heap) (hlim : s.heap.NoLimit) (hroom : A.depth + 1 < recursionLimit)
    (hq : ∀ h' tk e d, Made s.heap h' e C d v → R (.ok (.ret (.ref e))) { s with heap := h', toks := tk }) :
    codeAny (model prog w) A (.call (.ref C) ⟨[v], []⟩) R s := by
  obtain ⟨nm, q, N, bs, bm, sn, sub, ab, col, dd, k0, k1, k2, k3, k5, hC, hbm⟩ := T.cls
  obtain ⟨hp, g, dr, tk, os⟩ := s
  have k : ∀ b o, hp.get? b = some o → ((hp.push (kdv_tup [v])).push (excO C hp.objs.size)).get? b = some o := fun b o e => Heap.get?_push_of_some _ (Heap.get?_push_of_some _ e)
  have hget : ((hp.push (kdv_tup [v])).push (excO C hp.objs.size)).get? (hp.objs.size + 1) = some (excO C hp.objs.size) := by heap_get
  refine call_own F.excBase_Exception (fun X => excTail_contains X bm hbm) (X _ _ hC) (looks_findIn X T.iC) (fun self => bind_fn X self T.tC) (one_size v) ?_
  refine err_init (s := ⟨(hp.push (kdv_tup [v])).push (excO C hp.objs.size), g, dr, tk, os⟩) T (X.keeps k) (hlim.keeps k) hget ?_ fun h' tk' dx ⟨k', hx, dn, dne, hns⟩ => ?_
  · show A.depth + 1 < recursionLimit
    exact hroom
  · have old : ∀ b o, hp.get? b = some o → h'.get? b = some o := fun b o e => k' b o (Nat.ne_of_lt (Nat.lt_succ_of_lt (Heap.lt_size e))) (k b o e)
    have z : hp.objs.size + 1 + 1 ≤ dx := by
      first
        | (simpa only [Heap.size_push] using dn)
        | exact dn
        | (have q := dn; rw [Heap.size_push, Heap.size_push] at q; exact q)
    exact ⟨rfl, hq h' tk' (hp.objs.size + 1) dx ⟨old, Nat.le_succ _, ⟨_, _, hx, rfl, rfl, rfl, rfl⟩, Nat.le_trans (Nat.le_trans (Nat.le_succ _) (Nat.le_succ _)) z, dne, hns⟩⟩
end
end Xb
namespace Xb
open PySem PySem.Spec PyProof.Rows L2
theorem relO_at {v : V} {v' : Value} (r : RelV v v') (f : Str) : RelO (List.lookup f [(("at" : Str), v)]) (if f = "at" then some v' else none) := by
  by_cases hw : f = "at"
  · subst hw
    rw [if_pos rfl]
    have q : List.lookup ("at" : Str) [(("at" : Str), v)] = some v := by simp [List.lookup]
    rw [q]
    exact r
  · rw [if_neg hw]
    have qw : (f == ("at" : Str)) = false := by simpa using hw
    have q2 : List.lookup f [(("at" : Str), v)] = none := by simp [List.lookup, qw]
    rw [q2]
    trivial
section
variable {X : Cx} {cn : Str} {C fI : Addr}
/-- cn(e) -/
def tMk (C : Addr) (ta : TA) : L2.St → Hp → XK → Prop := fun σ H Q => ta σ H fun vs H1 => ∃ v, vs = [v] ∧ ∀ d, H1 d = none → Q (.ref C) (some d) (upd H1 d (.xd [(("at" : Str), v)]))
theorem pmk_at {a : Expr} {ta : TA} {p pos : Pos} {k : Nat} (T : ErrC X.K X.mg cn C fI) (hr : Room k X.A) (ha : PA X [a] ta) (hg : Gl X cn) (hdb : (cn == ("__debug__" : Str)) = false := by decide)
    (he : starEach (a :: []) X.env = (false, eval a X.env) :: starEach [] X.env := by rfl) (hpl : (backTo pos (starEach [] X.env)).any (·.1) = false := by rfl) :
    PMk X (.Call (.Name cn p) [a] [] pos) (tMk C ta) := by
  intro pins s σ H Q I h
  refine wpAny_Call_Name_kw (ld_glob I hg T.gC ?_ hdb)
  refine PySem.W.callWith_K (h₀ := X.base) I.ok.mod.kin T.kC (thn (ha.run pos pins s σ H _ I h) fun us s1 hh => ?_) he hpl
  obtain ⟨vs, H1, I1, r1, v, ev, q1⟩ := hh
  subst ev
  refine ⟨I1.kIn, ?_⟩
  cases r1 with
  | cons rv rn =>
    rename_i v' us'
    cases rn
    show wpAny _ _ (call (.ref C) [v']) _ _ _
    have hlim := I1.nolimit
    obtain ⟨hp, g, dr, tk, os⟩ := s1
    refine wpAny_call (err_made T I1.kIn hlim (by have := hr.dp; omega) fun h' tk' e d M => ?_)
    show MkP X pins σ Q (.ref e) ⟨h', g, dr, tk', os⟩
    obtain ⟨oe, fv, hoe, hc, hd, hdat, h1⟩ := M.obj
    have hns := M.ns
    obtain ⟨G', g1, g2⟩ := restrict h' fun b => decide (b ≠ e)
    have gk : ∀ b, b ≠ e → G'.get? b = h'.get? b := fun b hb => g1 b (decide_eq_true hb)
    have ge : G'.get? e = none := g2 e (by simp)
    have old : ∀ b o, hp.get? b = some o → G'.get? b = some o := fun b o q => (gk b (Nat.ne_of_lt (Nat.lt_of_lt_of_le (Heap.lt_size q) M.new))).trans (M.keep b o q)
    have ob : ObjOk X.prog X.w (upd H1 d (.xd [(("at" : Str), v)])) G' d (.xd [(("at" : Str), v)]) :=
      ⟨_, hns.at (fun o q => (gk d M.dne).trans q), fun f => relO_at rv f⟩
    have J : Inv X pins σ (upd H1 d (.xd [(("at" : Str), v)])) ⟨G', g, dr, tk', os⟩ := I1.laid (t' := tk') old M.dbig ob
    refine ⟨e, oe, fv, ⟨G', g, dr, tk', os⟩, _, .ref C, some d, rfl, J, fun b o q => ?_, ge, hoe, ⟨hc, hd⟩, hdat, h1, ?_, rfl, I1.bare, raises_own T.exC T.tyC, q1 d (I1.hok.fresh M.dbig)⟩
    · by_cases hb : b = e
      · have q' : G'.get? b = some o := q
        rw [hb, ge] at q'; cases q'
      · exact (gk b hb).symm.trans q
    · rw [upd_ne (Ne.symm M.dne)]
      exact I1.hok.fresh M.new
/-- raise cn(e) -/
def tRaise (C : Addr) (W : WX) (ta : TA) : TS := fun _ σ H => tMk C ta σ H fun cls d H' => W cls d σ H'
theorem ps_raiseAt {a : Expr} {ta : TA} {W : WX} {p pos pos2 : Pos} {k : Nat} (hc : X.calm = true) (T : ErrC X.K X.mg cn C fI) (hr : Room k X.A) (tk : Takes X W) (ha : PA X [a] ta) (hg : Gl X cn) (hdb : (cn == ("__debug__" : Str)) = false := by decide)
    (he : starEach (a :: []) X.env = (false, eval a X.env) :: starEach [] X.env := by rfl) (hpl : (backTo pos (starEach [] X.env)).any (·.1) = false := by rfl) :
    PS X (.Raise (some (.Call (.Name cn p) [a] [] pos)) none pos2) (tRaise C W ta) := ps_raise hc tk (pmk_at T hr ha hg hdb he hpl)
theorem ErrC.xf (T : ErrC X.K X.mg cn C fI) : XfC X.K C := ⟨T.ga, T.gg, T.exC, T.hdC⟩
end
end Xb

namespace Tx
open PySem PySem.Spec PyProof.Rows L2
open PySem.StrLaws (At)
abbrev tl (x : Str) : List Nat := x.cps.toList
abbrev c1 (c : Nat) : Str := ⟨#[c]⟩
theorem pre1 (c : Nat) (l : List Nat) : TL.pre [c] l = true ↔ ∃ r, l = c :: r := by
  unfold TL.pre
  cases l with
  | nil => simp
  | cons a r => simp
theorem at1 (x : Str) (c i : Nat) : At x (c1 c) x.length i ↔ ∃ r, (tl x).drop i = c :: r := by
  rw [TL.at_iff (y := c1 c) (by simp [TL.tl]) i]
  exact pre1 c _
theorem starts1 (x : Str) (c : Nat) : Txt.startswith x (c1 c) = true ↔ ∃ r, tl x = c :: r := by
  have h := at1 x c 0
  rw [List.drop_zero] at h
  rw [← h]
  unfold Txt.startswith At
  rw [Bool.and_eq_true, decide_eq_true_eq]
theorem find1_none {x : Str} {c : Nat} (h : c ∉ tl x) : Txt.find x (c1 c) = -1 := by
  rcases find_whole x (c1 c) with ⟨e, _⟩ | ⟨i, e, ha, _⟩
  · exact e
  · obtain ⟨r, hr⟩ := (at1 x c i).mp ha
    exact absurd (List.mem_of_mem_drop (by rw [hr]; exact List.mem_cons_self)) h
theorem find1_some {x : Str} {c : Nat} {p r : List Nat} (h : tl x = p ++ c :: r) (hp : c ∉ p) : Txt.find x (c1 c) = (p.length : Int) := by
  have hat : At x (c1 c) x.length p.length := (at1 x c _).mpr ⟨r, by rw [h, List.drop_left]⟩
  rcases find_whole x (c1 c) with ⟨_, no⟩ | ⟨i, e, ha, hm⟩
  · exact absurd hat (no _)
  · rcases Nat.lt_trichotomy i p.length with z | z | z
    · obtain ⟨r2, hr⟩ := (at1 x c i).mp ha
      rw [h, List.drop_append_of_le_length (by omega)] at hr
      cases hd : p.drop i with
      | nil =>
        have := congrArg List.length hd
        rw [List.length_drop, List.length_nil] at this
        omega
      | cons a q =>
        rw [hd] at hr
        have : a = c := (List.cons.inj hr).1
        exact absurd (List.mem_of_mem_drop (i := i) (by rw [hd, this]; exact List.mem_cons_self)) hp
    · rw [e, z]
    · exact absurd hat (hm _ z)
theorem split1 (x : Str) {c : Nat} (hc : c < 256) : (Txt.split x (c1 c)).map tl = TL.spl [c] 0 [] (tl x) :=
  TL.split_spl x (c1 c) (by simp [TL.tl]) (TL.kind_ok (by simpa using hc))
theorem spl_no {c : Nat} {l : List Nat} (h : c ∉ l) : TL.spl [c] 0 [] l = [l] := by
  have := TL.spl_last1 (S := []) (acc := []) h
  simpa using this
theorem spl_yes {c : Nat} {p r : List Nat} (h : c ∉ p) : TL.spl [c] 0 [] (p ++ c :: r) = p :: TL.spl [c] 0 [] r := by
  have := TL.spl_part1 (S := []) (acc := []) (rest := r) h
  simpa using this
theorem cut_at {c : Nat} {l : List Nat} (h : c ∈ l) : ∃ p r, l = p ++ c :: r ∧ c ∉ p := by
  induction l with
  | nil => cases h
  | cons a l ih =>
    by_cases e : a = c
    · exact ⟨[], l, by rw [e]; rfl, by simp⟩
    · obtain ⟨p, r, e2, hp⟩ := ih (by rcases List.mem_cons.mp h with z | z; exact absurd z.symm e; exact z)
      exact ⟨a :: p, r, by rw [e2]; rfl, by simp [hp, Ne.symm e]⟩
/-! ### words of integers -/
def figs (l : List Nat) : List Nat := match l with
  | 45 :: r => r
  | l => l
def isD (c : Nat) : Bool := decide (48 ≤ c) && decide (c ≤ 57)
def okW (l : List Nat) : Bool := decide (1 ≤ (figs l).length) && (decide ((figs l).length ≤ 9) && ((figs l).all isD && !(decide ((figs l).head? = some 48) && !decide (l = [48]))))
def valW (l : List Nat) : Int := match l with
  | 45 :: r => -((NumText.digitsVal r : Nat) : Int)
  | l => ((NumText.digitsVal l : Nat) : Int)
def wpart (l : List Nat) : Option Int := if okW l = true then some (valW l) else none
theorem all_digits {l : List Nat} (h : l.all isD = true) : NumText.AllDigits l := fun c hc => by
  have := List.all_eq_true.mp h c hc
  unfold isD at this
  rw [Bool.and_eq_true, decide_eq_true_eq, decide_eq_true_eq] at this
  exact this
theorem figs_len (l : List Nat) : (figs l).length ≤ l.length ∧ l.length ≤ (figs l).length + 1 := by
  unfold figs
  split
  · simp
  · simp
theorem okW_ok {l : List Nat} (h : okW l = true) : 1 ≤ (figs l).length ∧ (figs l).length ≤ 9 ∧ (figs l).all isD = true := by
  unfold okW at h
  rw [Bool.and_eq_true, Bool.and_eq_true, Bool.and_eq_true, decide_eq_true_eq, decide_eq_true_eq] at h
  exact ⟨h.1, h.2.1, h.2.2.1⟩
theorem int_word {x : Str} (h : okW (tl x) = true) : PySem.intText? x = some (valW (tl x)) ∧ x.length ≤ 640 := by
  obtain ⟨h1, h2, h3⟩ := okW_ok h
  have fl := figs_len (tl x)
  have hx : x.length = (tl x).length := by show x.cps.size = x.cps.toList.length; rw [Array.length_toList]
  refine ⟨?_, by omega⟩
  unfold valW
  unfold figs at h1 h3
  split
  · next r e =>
    rw [e] at h1 h3
    refine PySem.intText_neg e (all_digits h3) (fun z => ?_) (by omega)
    rw [z] at h1
    exact absurd h1 (by decide)
  · next l e =>
    have hf : (match tl x with | 45 :: r => r | l => l) = tl x := by
      split
      · next r e2 => exact absurd e2 (e r)
      · rfl
    rw [hf] at h1 h3
    refine PySem.intText_digits (all_digits h3) (fun z => ?_) (by omega)
    have h1' : 1 ≤ x.cps.toList.length := h1
    rw [z] at h1'
    exact absurd h1' (by decide)
/-- isascii and isdigit -/
theorem asc_dig (x : Str) : (Txt.isascii x && Txt.isdigit x) = (decide (1 ≤ (tl x).length) && (tl x).all isD) := by
  unfold Txt.isascii Txt.isdigit
  have e : ∀ f : Nat → Bool, x.cps.all f = (tl x).all f := fun f => by rw [← Array.all_toList]
  rw [e, e]
  have hx : x.length = (tl x).length := by show x.cps.size = x.cps.toList.length; rw [Array.length_toList]
  rw [hx]
  have key : ∀ l : List Nat, (l.all (· < 128) && l.all Unicode.isDigit) = l.all isD := by
    intro l
    induction l with
    | nil => rfl
    | cons c r ih =>
      have one : (decide (c < 128) && Unicode.isDigit c) = isD c := by
        by_cases hc : c < 128
        · have k : ∀ n : _root_.Fin 128, Unicode.isDigit n.val = isD n.val := by decide +kernel
          rw [decide_eq_true hc, Bool.true_and]
          exact k ⟨c, hc⟩
        · rw [decide_eq_false hc, Bool.false_and]
          unfold isD
          rw [decide_eq_false (show ¬ c ≤ 57 by omega), Bool.and_false]
      rw [List.all_cons, List.all_cons, List.all_cons, ← ih, ← one]
      cases decide (c < 128) <;> cases Unicode.isDigit c <;> cases r.all (· < 128) <;> cases r.all Unicode.isDigit <;> rfl
  rw [← key]
  rw [show decide ((tl x).length > 0) = decide (1 ≤ (tl x).length) from rfl]
  cases (tl x).all (· < 128) <;> cases (tl x).all Unicode.isDigit <;> cases decide (1 ≤ (tl x).length) <;> rfl
/-! ### slices -/
theorem cut_from (z : Str) (k : Nat) : tl (cutS z (some (k : Int)) none) = (tl z).drop k := by
  show (((z.cps.toList.drop (HT.sIx z.length 0 (some (k : Int)))).take (HT.sIx z.length z.length none - HT.sIx z.length 0 (some (k : Int)))).toArray).toList = _
  have hx : z.length = z.cps.toList.length := by show z.cps.size = z.cps.toList.length; rw [Array.length_toList]
  rw [List.toList_toArray, HT.sIx_nat, HT.sIx_none, hx]
  by_cases h : k ≤ z.cps.toList.length
  · rw [Nat.min_eq_left h, List.take_of_length_le (by rw [List.length_drop]; omega)]
  · rw [Nat.min_eq_right (by omega), List.drop_of_length_le (Nat.le_refl _), List.drop_of_length_le (show z.cps.toList.length ≤ k by omega), List.take_nil]
theorem cut_to (z : Str) (k : Nat) : tl (cutS z none (some (k : Int))) = (tl z).take k := by
  show (((z.cps.toList.drop (HT.sIx z.length 0 none)).take (HT.sIx z.length z.length (some (k : Int)) - HT.sIx z.length 0 none)).toArray).toList = _
  have hx : z.length = z.cps.toList.length := by show z.cps.size = z.cps.toList.length; rw [Array.length_toList]
  rw [List.toList_toArray, HT.sIx_nat, HT.sIx_none, hx, List.drop_zero, Nat.sub_zero]
  by_cases h : k ≤ z.cps.toList.length
  · rw [Nat.min_eq_left h]
  · rw [Nat.min_eq_right (by omega), List.take_of_length_le (Nat.le_refl _), List.take_of_length_le (show z.cps.toList.length ≤ k by omega)]
theorem ext {x y : Str} (h : tl x = tl y) : x = y := TL.ext_tl h
end Tx

/-! promises of defs that are called while no repr is under way: the same calculus, one thing more known of what runs around -/
namespace Gu
open PySem PySem.Spec PyProof.Rows L2
abbrev Free (A : Around) : Prop := A.guards = some []
/-- the def at f keeps its promise wherever nothing is being shown -/
structure FnG (P : Program) (w : World) (K : PySem.W.Frag) (mg : Str → Option Value) (base : Heap) (CX : CXT) (k : Nat) (f : Addr) (fd : FuncData) (ps : List Str) (sp : Sp) : Prop where
  many : ∀ vs H Q E, sp vs H Q E → vs.length = ps.length
  go : ∀ (A : Around) (outer : List Env) (s : Shared) (H : Hp) (args : Args) (us : List Value) (vs : List V) (Q : VK) (E : XK), Room k A → Free A → Env0 P w K mg base A outer s H → BindsTo s fd args (ps.zip us) → Vals vs us → sp vs H Q E →
    codeAny (model P w) A (.call (.ref f) args) (CR CX outer P w H s Q E) s
section
variable {P : Program} {w : World} {K : PySem.W.Frag} {mg : Str → Option Value} {base : Heap} {CX : CXT}
/-- a promise that is kept anywhere -/
theorem FnG.of {k : Nat} {f : Addr} {fd : FuncData} {ps : List Str} {sp : Sp} (F : FnOk P w K mg base CX k f fd ps sp) : FnG P w K mg base CX k f fd ps sp := ⟨F.len, fun A o s H a us vs Q E r _ => F.run A o s H a us vs Q E r⟩
theorem deeper_free {A : Around} {env : Env} (h : Free A) : Free (A.deeper env) := h
theorem mk_go {k : Nat} {f : Addr} {name qual : Str} {params : Arguments} {body : List Stmt} {scope : Scope} {dV kV doc pm cdv ct oc : Value} {an od : Option Addr} {osl : Array (Option Value)} {N ps : List Str} {sp : Sp}
    (at_f : K.lookup f = some ⟨oc, od, .func (PySem.W.fnOf name qual params body scope dV kV doc pm an cdv ct), osl⟩) (code : PySem.W.codeIn K cdv qual = true) (S : FnScope N ps scope) (many : ∀ vs H Q E, sp vs H Q E → vs.length = ps.length)
    (inside : ∀ (A : Around) (outer : List Env) (s : Shared) (H : Hp) (vs : List V) (Q : VK) (E : XK), Room k (A.deeper (envOfC qual scope s.heap.objs.size f cdv)) → Free A → sp vs H Q E →
      ∃ t, PSs (cxOf CX P w K mg base N qual scope f cdv A outer s H E) body t ∧ t { nx := fun _ H' => Q .non H', rt := Q } (start N vs) H) :
    FnG P w K mg base CX (k + 1) f (PySem.W.fnOf name qual params body scope dV kV doc pm an cdv ct) ps sp where
  many := many
  go A outer s H args us vs Q E room free e0 binds rel hs := by
    have count := many _ _ _ _ hs
    have stays : ∀ b o, base.get? b = some o → s.heap.get? b = some o := fun b o e => (e0.bs b o e).1
    have inK : K.In s.heap := e0.mod.kin.keeps stays
    refine codeAny_call_function room.depth (inK _ _ at_f) rfl S.co S.gen rfl (PySem.W.codeRec_of inK code) (binds _ _ _ _ ?_)
    refine wpAny_newFunctionEnv_cells S.kind (fun y hy => (S.par y.1 (List.of_mem_zip hy).1).elim Or.inl fun c => .inr ⟨c, PySem.W.cellsFrom_some _ _ _ (.inl c)⟩) fun env made s1 x => ?_
    subst made
    refine ⟨(e0.mod.nolimit.keeps stays).keeps x.toInCall.keep, codeAny_func ?_⟩
    obtain ⟨t, run, rd⟩ := inside A outer s H vs Q E (room.deeper _) free hs
    have I0 := inv_start (CX := CX) (E := E) S room.hd e0 count rel x
    refine wpAny_mono (run.run [] s1 (start N vs) H _ I0 rd) (fun fl s' out => ?_) fun _ _ z => z
    rcases fl with _ | _ | _ | u
    · obtain ⟨_, H', J, q⟩ := out
      exact ⟨V.non, H', J.os, J.bare, J.base, J.hok, rfl, q⟩
    · exact out.elim fun _ z => z.elim fun _ y => False.elim y.2
    · exact out.elim fun _ z => z.elim fun _ y => False.elim y.2
    · obtain ⟨v, _, H', J, rv, q⟩ := out
      exact ⟨v, H', J.os, J.bare, J.base, J.hok, rv, q⟩
end
/-! ### calls -/
section
variable {X : Cx} {CX : CXT} {k : Nat} {f C : Addr} {fd : FuncData} {ps : List Str} {sp : Sp} {dvs : List V} {ds : List Value} {E : XK}
theorem go_call {pins : List (Addr × Obj)} {σ : L2.St} {H : Hp} {s : Shared} {Q : VK} {args : Args} {us : List Value} {vs : List V} (F : FnG X.prog X.w X.K X.mg X.base CX k f fd ps sp) (room : Room k X.A) (free : Free X.A) (hx : Passes CX X E)
    (I : Inv X pins σ H s) (b : BindsTo s fd args (ps.zip us)) (r : Vals vs us) (h : sp vs H Q E) : codeAny (model X.prog X.w) X.A (.call (.ref f) args) (fun r s' => match r with
      | .error e => X.xe e s'
      | .ok (.ret u) => EP X pins σ Q u s'
      | .ok _ => False) s := codeAny_mono (F.go X.A X.stack s H args us vs Q E room free I.env0 b r h) fun r s' out => by
  rcases r with e | fl
  · exact hx pins σ H s e s' I out
  · rcases fl with _ | _ | _ | u <;> first | exact I.after out | exact False.elim out
end
/-- a def of the text, by its promise -/
structure Cg (P : Program) (w : World) (K : PySem.W.Frag) (mg : Str → Option Value) (base : Heap) (CX : CXT) (x : Str) (ps : List Str) (dvs : List V) (lv : Nat) (sp : Sp) : Prop where
  ex : ∃ (f : Addr) (fd : FuncData) (ds : List Value), FnG P w K mg base CX lv f fd ps sp ∧ mg x = some (.ref f) ∧ PySem.W.keepIn K (.ref f) = true ∧ Binds K fd ps ds ∧ Vals dvs ds
section
variable {X : Cx} {CX : CXT} {ps : List Str} {dvs : List V} {lv : Nat} {sp : Sp} {x : Str} {p pos : Pos} {e : Expr} {es : List Expr} {t : TA} {E : XK}
theorem pe_gox (C : Cg X.prog X.w X.K X.mg X.base CX x ps dvs lv sp) (hr : Room lv X.A) (fr : Free X.A) (hx : Passes CX X E) (hg : Gl X x) (ha : PA X (e :: es) t) (hdb : (x == ("__debug__" : Str)) = false := by decide)
    (he : starEach (e :: es) X.env = (false, eval e X.env) :: starEach es X.env := by rfl) (hpl : (backTo pos (starEach es X.env)).any (·.1) = false := by rfl) : PE X (.Call (.Name x p) (e :: es) [] pos) (tCall sp dvs E t) := by
  obtain ⟨f, fd, ds, F, hm, hk, hb, hd⟩ := C.ex
  refine ⟨fun pins s σ H Q I h => wpAny_Call_Name_kw (ld_glob I hg hm ?_ hdb)⟩
  refine PySem.W.callWith_K (h₀ := X.base) I.ok.mod.kin hk (thn (ha.run pos pins s σ H _ I h) fun us s1 ⟨vs, H1, I1, r, q⟩ => ⟨I1.kIn, ?_⟩) he hpl
  have r2 := r.append hd
  refine wpAny_call (codeAny_mono (go_call F hr fr hx I1 (hb s1 us I1.kIn (by rw [← r2.length]; exact F.many _ _ _ _ q)) r2 q) fun r s' z => ?_)
  rcases r with _ | (_ | _ | _ | _) <;> first | exact z | exact z.elim
theorem pe_go (C : Cg X.prog X.w X.K X.mg X.base CX0 x ps dvs lv sp) (hr : Room lv X.A) (fr : Free X.A) (hg : Gl X x) (ha : PA X (e :: es) t) (hdb : (x == ("__debug__" : Str)) = false := by decide)
    (he : starEach (e :: es) X.env = (false, eval e X.env) :: starEach es X.env := by rfl) (hpl : (backTo pos (starEach es X.env)).any (·.1) = false := by rfl) : PE X (.Call (.Name x p) (e :: es) [] pos) (tCall sp dvs E0 t) :=
  pe_gox C hr fr pass0 hg ha hdb he hpl
end
/-! ### repr of data -/
def rRepr (K : PySem.W.Frag) : List V → Hp → VK → Prop := fun xs H Q => ∃ v d, xs = [v] ∧ Dp K H v d ∧ PyData.showable d = true ∧ PyData.hasDict d = false ∧ PyData.depth d < 40 ∧ (PyData.shown d).length ≤ sizeLine ∧ Q (.str (PyData.shown d)) H
theorem cr_repr {X : Cx} (fr : Free X.A) (hu : X.A.units + 64 < cLine) : CallR X (.builtin "repr") (rRepr X.K) := by
  intro pins s σ H xs us Q I r h
  obtain ⟨v, d, rfl, hd, hs, hn, hdp, hz, q⟩ := h
  obtain ⟨u, rfl, ru⟩ := vals1 r
  obtain ⟨as, rd⟩ := Dp.reads I d v u hd ru
  cases hd with
  | non =>
    cases (show u = Value.none from ru)
    exact P.repr_of_none ⟨.str _, H, I.tok _, ⟨_, rfl⟩, q⟩
  | bl b =>
    cases (show u = Value.bool b from ru)
    refine P.repr_of_bool ⟨.str _, H, I.tok _, ⟨_, rfl⟩, ?_⟩
    cases b <;> exact q
  | int i =>
    obtain ⟨t, rfl⟩ := (show ∃ t, u = Value.int i t from ru)
    exact P.repr_of_int (of_decide_eq_true hs) ⟨.str _, H, I.tok _, ⟨_, rfl⟩, q⟩
  | str x =>
    obtain ⟨t, rfl⟩ := (show ∃ t, u = Value.str x t from ru)
    exact P.repr_of_str ⟨.str _, H, I.tok _, ⟨_, rfl⟩, q⟩ hz
  | lst _ _ =>
    cases (show u = Value.ref _ from ru)
    exact repr_of_reads' rd hs (PyData.noDict_hsm hn) fr (by omega) (fun _ _ e => e) (fun h' t tk k => ⟨.str _, H, I.kept k, ⟨_, rfl⟩, q⟩) hz
  | tup _ _ =>
    cases (show u = Value.ref _ from ru)
    exact repr_of_reads' rd hs (PyData.noDict_hsm hn) fr (by omega) (fun _ _ e => e) (fun h' t tk k => ⟨.str _, H, I.kept k, ⟨_, rfl⟩, q⟩) hz
/-! ### the law's own call -/
section
variable {P : Program} {w : World} {K : PySem.W.Frag} {mg : Str → Option Value} {CX : CXT}
/-- from a heap H in which nothing but the script at a may be tracked -/
theorem law_from {mb : Str → Option Value} {k : Nat} {fa a : Addr} {fd : FuncData} {x : Str} {sp : Sp} {s : Shared} {vs : List Value} {H : Hp}
    (inK : K.In s.heap) (globs : s.heap.Ns mainGlobals mg) (blt : s.heap.Ns builtinsNs mb) (same : ∀ x : Str, x ≠ "__name__" → mb x = bootBuiltins x) (lim : s.heap.NoLimit) (bare : s.gens = #[])
    (obj : s.heap.get? a = some { cls := .type "list", data := .seq vs.toArray }) (room : Room k callerA) (F : ∀ base : Heap, K.In base → base.Ns mainGlobals mg → FnG P w K mg base CX k fa fd [x] sp) (bind : ∀ (s : Shared) (u : Value), BindsTo s fd ⟨[u], []⟩ [(x, u)])
    (none_else : ∀ b u, H b = some u → b = a ∧ (∃ o xs, u = .frz o (.lst xs)) ∧ K.lookup a = none) (ok : HOk P w H s.heap) (hsp : sp [.ref a] H (fun v _ => v = .bl true) fun _ _ _ => False)
    (hCX : ∀ e s', CX [] H s (fun _ _ _ => False) e s' → False) :
    codeAny (model P w) callerA (.call (.ref fa) ⟨[.ref a], []⟩) (fun r s' => r = .ok (.ret (.bool true)) ∧ OldK s.heap s'.heap ∧ s'.os = s.os ∧ AllBare s'.gens) s := by
  have free_of : ∀ b, b ≠ a → H b = none := fun b n => by
    rcases e : H b with _ | u
    · rfl
    · exact absurd (none_else b u e).1 n
  have low : ∀ {b o}, s.heap.get? b = some o → H b = none → (hidT s.heap H).get? b = some o := fun e n => hidT_get e n
  have dicts : ∀ {b : Addr} {m : Str → Option Value}, s.heap.Ns b m → (hidT s.heap H).Ns b m := fun {b m} ⟨o, es, ep, e, d, r⟩ => by
    refine ⟨o, es, ep, low e (free_of b fun z => ?_), d, r⟩
    rw [z, obj] at e
    cases e
    exact nomatch (show Data.seq vs.toArray _ = Data.dict es ep from d)
  have kin : K.In (hidT s.heap H) := fun b o e => low (inK b o e) (by
    rcases q : H b with _ | u
    · rfl
    · obtain ⟨rfl, _, z⟩ := none_else b u q
      rw [z] at e
      cases e)
  have modl : Mod K mg (hidT s.heap H) := ⟨kin, dicts globs, ⟨mb, dicts blt, same⟩, let ⟨mc, h1, h2⟩ := lim; ⟨mc, dicts h1, h2⟩⟩
  have env : Env0 P w K mg (hidT s.heap H) callerA [] s H := ⟨rfl, modl, fun b o e => of_hidT e, Nat.le_of_eq (hidT_size _ _), trivial, fun b hb => (nomatch hb), ok, .of_eq bare⟩
  refine codeAny_mono ((F _ kin (dicts globs)).go callerA [] s H ⟨[.ref a], []⟩ [.ref a] [.ref a] _ _ room rfl env (bind s (.ref a)) (.cons rfl .nil) hsp) fun r s' out => ?_
  rcases r with e | fl
  · exact (hCX e s' out).elim
  · rcases fl with _ | _ | _ | u <;> try exact False.elim out
    obtain ⟨v, H', os, b', un, ok', rv, hv⟩ := out
    obtain rfl : v = .bl true := hv
    obtain rfl : u = Value.bool true := rv
    refine ⟨rfl, OldK.of_keep fun b o e => ?_, os, b'⟩
    rcases q : H b with _ | z
    · exact un.keep b o e q (fun m => nomatch m) (by simp)
    · obtain ⟨_, ⟨o1, xs, rfl⟩, _⟩ := none_else b z q
      have z2 := un.frzs b o1 _ q
      have old := (ok b _ q).1
      rw [e] at old
      cases old
      exact (ok' b _ z2).1
theorem law_go {mb : Str → Option Value} {k : Nat} {fa a : Addr} {fd : FuncData} {x : Str} {sp : Sp} {s : Shared} {vs : List Value} {ns : List Int}
    (inK : K.In s.heap) (globs : s.heap.Ns mainGlobals mg) (blt : s.heap.Ns builtinsNs mb) (same : ∀ x : Str, x ≠ "__name__" → mb x = bootBuiltins x) (lim : s.heap.NoLimit) (bare : s.gens = #[])
    (obj : s.heap.get? a = some { cls := .type "list", data := .seq vs.toArray }) (ivs : IntsAre vs ns) (size : ns.length ≤ sizeLine) (room : Room k callerA) (F : ∀ base : Heap, K.In base → base.Ns mainGlobals mg → FnG P w K mg base CX k fa fd [x] sp) (bind : ∀ (s : Shared) (u : Value), BindsTo s fd ⟨[u], []⟩ [(x, u)])
    (hsp : ∀ H : Hp, SqL K H a (ns.map V.int) → sp [.ref a] H (fun v _ => v = .bl true) fun _ _ _ => False) (hCX : ∀ H e s', CX [] H s (fun _ _ _ => False) e s' → False) :
    codeAny (model P w) callerA (.call (.ref fa) ⟨[.ref a], []⟩) (fun r s' => r = .ok (.ret (.bool true)) ∧ OldK s.heap s'.heap ∧ s'.os = s.os ∧ AllBare s'.gens) s := by
  have rv := vals_ints ivs
  have cnt := ivs.length
  rcases own : K.lookup a with _ | o
  · refine law_from (H := fun b => if b = a then some (.frz { cls := .type "list", data := .seq vs.toArray } (.lst (ns.map V.int))) else none) inK globs blt same lim bare obj room F bind (fun b u e => ?_) (fun b u e => ?_)
      (hsp _ (.inl (.inr ⟨_, if_pos rfl⟩))) (fun e s' => hCX _ e s')
    · by_cases hb : b = a
      · rw [if_pos hb] at e
        exact ⟨hb, ⟨_, _, (Option.some.inj e).symm⟩, own⟩
      · rw [if_neg hb] at e
        cases e
    · by_cases hb : b = a
      · subst hb
        have e' := (if_pos rfl).symm.trans e
        cases e'
        exact ⟨obj, by rw [List.length_map]; exact size, vs, _, rv, obj⟩
      · have e' := (if_neg hb).symm.trans e
        cases e'
  · have w0 := inK a o own
    rw [obj] at w0
    cases w0
    exact law_from (H := fun _ => none) inK globs blt same lim bare obj room F bind (fun b u e => (nomatch e)) (fun b u e => (nomatch e))
      (hsp _ (.inr ⟨_, vs.toArray, _, own, rfl, rfl, rfl, by rw [List.size_toArray, cnt]; exact size, by simpa using rv⟩)) (fun e s' => hCX _ e s')
end
theorem walk_go {l : PySem.W.OpenLaw} {n k : Nat} {q : Program} {loose : List Str} {XP : (Str → Option Value) → Heap → Prop} {YP : World → Heap → Prop} {d : DefRec} {K : Params → PySem.W.Frag} {sp : World → Sp} {x : Str}
    (most : l.most = some n) (small : n ≤ sizeLine) (nodf : d.params.defaults = []) (room : Room k callerA) (hY : ∀ (w : World) (h : Heap), YP w h → (K w.params).In h)
    (F : ∀ (w : World) (mg : Str → Option Value) (fa : Addr) (h : Heap), (K w.params).In h → h.Ns mainGlobals mg → mg d.name = some (.ref fa) →
      ∃ fd : FuncData, (∀ (s : Shared) (u : Value), BindsTo s fd ⟨[u], []⟩ [(x, u)]) ∧ ∀ base : Heap, (K w.params).In base → base.Ns mainGlobals mg → FnG l.prog w (K w.params) mg base CX0 k fa fd [x] (sp w))
    (hsp : ∀ (w : World) (H : Hp) (a : Addr) (ns : List Int), ns.length ≤ n → SqL (K w.params) H a (ns.map V.int) → sp w [.ref a] H (fun v _ => v = .bl true) fun _ _ _ => False) :
    PySem.W.WalkO q loose XP YP l.row.toRowW d [] (fun f vs => PySem.call f vs) := by
  refine Att.attach_call most nodf fun w s₀ s₁ mg mb fa o pm cd doc a vs ns G Y _ _ _ named obj ivs len bare => ?_
  obtain ⟨fd, bind, FF⟩ := F w mg fa _ (hY w _ Y) G.T.g named
  exact law_go (hY w _ Y) G.T.g G.T.b G.T.builtins G.T.nolimit bare obj ivs (Nat.le_trans len small) room FF bind (fun H S => hsp w H a ns len S) fun H e s' z => z
end Gu

namespace Gu
open PySem PySem.Spec PyProof.Rows L2
section
variable {P : Program} {w : World} {K : PySem.W.Frag} {mg : Str → Option Value} {base : Heap}
theorem go_ok {x qual : Str} {st : Stmt} {f : Addr} {fd : FuncData} {N ps : List Str} {k : Nat} {sp : Sp} (F : Fun K x qual st f fd) (S : FnScope N ps (defScope st)) (many : ∀ vs H Q E, sp vs H Q E → vs.length = ps.length)
    (inside : ∀ (cdv : Value) (A : Around) (outer : List Env) (s : Shared) (H : Hp) (vs : List V) (Q : VK) (E : XK), Room k (A.deeper (envOfC qual (defScope st) s.heap.objs.size f cdv)) → Free (A.deeper (envOfC qual (defScope st) s.heap.objs.size f cdv)) → sp vs H Q E →
      ∃ t, PSs (cxOf CX0 P w K mg base N qual (defScope st) f cdv A outer s H E).nox (defBody st) t ∧ t { nx := fun _ H' => Q .non H', rt := Q } (start N vs) H) : FnG P w K mg base CX0 (k + 1) f fd ps sp := by
  obtain ⟨oc, od, kV, doc, pm, an, cdv, ct, osl, rfl, lk, hcd⟩ := F.ex
  refine mk_go lk hcd S many fun A outer s H vs Q E hr fr hs => ?_
  obtain ⟨t, h, q⟩ := inside cdv A outer s H vs Q E hr fr hs
  exact ⟨t, h.nox, q⟩
theorem go_okX {x qual : Str} {st : Stmt} {f : Addr} {fd : FuncData} {N ps : List Str} {k : Nat} {sp : Sp} (F : Fun K x qual st f fd) (S : FnScope N ps (defScope st)) (many : ∀ vs H Q E, sp vs H Q E → vs.length = ps.length)
    (inside : ∀ (cdv : Value) (A : Around) (outer : List Env) (s : Shared) (H : Hp) (vs : List V) (Q : VK) (E : XK), Room k (A.deeper (envOfC qual (defScope st) s.heap.objs.size f cdv)) → Free (A.deeper (envOfC qual (defScope st) s.heap.objs.size f cdv)) → sp vs H Q E →
      ∃ t, PSs (cxOf (L2.CX P w) P w K mg base N qual (defScope st) f cdv A outer s H E) (defBody st) t ∧ t { nx := fun _ H' => Q .non H', rt := Q } (start N vs) H) : FnG P w K mg base (L2.CX P w) (k + 1) f fd ps sp := by
  obtain ⟨oc, od, kV, doc, pm, an, cdv, ct, osl, rfl, lk, hcd⟩ := F.ex
  exact mk_go lk hcd S many fun A outer s H vs Q E hr fr hs => inside cdv A outer s H vs Q E hr fr hs
/-- a def with defaults -/
theorem go_okD {x qual : Str} {params : Arguments} {body : List Stmt} {scope : Scope} {dvs : List V} {kws : List (Str × V)} {f : Addr} {fd : FuncData} {N ps : List Str} {k : Nat} {sp : Sp} (F : FunD K x qual params body scope dvs kws f fd) (S : FnScope N ps scope) (many : ∀ vs H Q E, sp vs H Q E → vs.length = ps.length)
    (inside : ∀ (cdv : Value) (A : Around) (outer : List Env) (s : Shared) (H : Hp) (vs : List V) (Q : VK) (E : XK), Room k (A.deeper (envOfC qual scope s.heap.objs.size f cdv)) → Free (A.deeper (envOfC qual scope s.heap.objs.size f cdv)) → sp vs H Q E →
      ∃ t, PSs (cxOf CX0 P w K mg base N qual scope f cdv A outer s H E).nox body t ∧ t { nx := fun _ H' => Q .non H', rt := Q } (start N vs) H) : FnG P w K mg base CX0 (k + 1) f fd ps sp := by
  obtain ⟨oc, od, dV, kV, doc, pm, an, cdv, ct, osl, rfl, lk, hcd, _, _⟩ := F.ex
  refine mk_go lk hcd S many fun A outer s H vs Q E hr fr hs => ?_
  obtain ⟨t, h, q⟩ := inside cdv A outer s H vs Q E hr fr hs
  exact ⟨t, h.nox, q⟩
end
section
variable {X : Cx} {CX : CXT} {ps : List Str} {lv : Nat} {sp : Sp} {x : Str} {p pos : Pos} {e : Expr} {es : List Expr} {t : TA} {E : L2.St → XK}
/-- a call within a try's body: what is raised is wished for at the slots -/
theorem pe_goS (C : Cg X.prog X.w X.K X.mg X.base CX x ps [] lv sp) (hr : Room lv X.A) (fr : Free X.A) (hx : ∀ σ, PassesAt CX X σ (E σ)) (hg : Gl X x) (ha : PA X (e :: es) t) (hdb : (x == ("__debug__" : Str)) = false := by decide)
    (he : starEach (e :: es) X.env = (false, eval e X.env) :: starEach es X.env := by rfl) (hpl : (backTo pos (starEach es X.env)).any (·.1) = false := by rfl) : PE X (.Call (.Name x p) (e :: es) [] pos) (tCallS sp E t) := by
  obtain ⟨f, fd, ds, F, hm, hk, hb, hd⟩ := C.ex
  cases hd
  refine ⟨fun pins s σ H Q I h => wpAny_Call_Name_kw (ld_glob I hg hm ?_ hdb)⟩
  refine PySem.W.callWith_K (h₀ := X.base) I.ok.mod.kin hk (thn (ha.run pos pins s σ H _ I h) fun us s1 ⟨vs, H1, I1, r, q⟩ => ⟨I1.kIn, ?_⟩) he hpl
  have hl : us.length = ps.length := by rw [← r.length]; exact F.many _ _ _ _ q
  have b := hb s1 us I1.kIn (by rw [List.append_nil]; exact hl)
  rw [List.append_nil] at b
  refine wpAny_call (codeAny_mono (F.go X.A X.stack s1 H1 ⟨us, []⟩ us vs Q (E σ) hr fr I1.env0 b r q) fun r s' z => ?_)
  rcases r with u | (_ | _ | _ | v)
  · exact hx σ pins H1 s1 u s' I1 z
  · exact False.elim z
  · exact False.elim z
  · exact False.elim z
  · exact I1.after z
end
end Gu
namespace Hb
open PySem PySem.Spec PyProof.Rows L2
/-! ### // by any divisor but 0 -/
def CDivZ (_ j : Int) : Prop := j ≠ 0 ∧ j.natAbs.log2 < 9000
theorem op_fdivZ {X : Cx} : OpR X (binaryOp .FloorDiv) (rI CDivZ fun i j => .int (i.fdiv j)) := opI fun _ _ _ _ _ _ _ hc q => floordiv_int hc.1 q (.inl (PyProof.noPylong_of_log2 hc.2))
theorem divz {i j : Int} (h0 : j ≠ 0) (h : j.natAbs < 2 ^ 200) : CDivZ i j := ⟨h0, Nat.lt_of_lt_of_le (PySem.Flt.log2_lt_of (by decide : 0 < 200) h) (by decide)⟩
/-! ### the type of data -/
def tyName : PyData → String
  | .none => "NoneType"
  | .bool _ => "bool"
  | .int _ => "int"
  | .str _ => "str"
  | .list _ => "list"
  | .tuple _ => "tuple"
  | .dict _ => "dict"
theorem ty_data {K : PySem.W.Frag} {H : Hp} {v : V} {d : PyData} (h : Dp K H v d) : TyX K H v (.type (tyName d)) := by
  cases h with
  | non => exact .base .non
  | bl b => exact .base (.bl b)
  | int i => exact .base (.int i)
  | str x => exact .base (.str x)
  | @lst a xs ds hs _ =>
    rcases hs with (e | ⟨o, e⟩) | ⟨o, its, n, e, c, _⟩
    · exact .base (.lst e)
    · exact .base (.frz e)
    · exact .kList e c
  | @tup a xs ds hs _ =>
    rcases hs with (e | ⟨o, e⟩) | ⟨o, its, n, e, c, _⟩
    · exact .base (.tup e)
    · exact .fTuple e
    · exact .kTuple e c
/-- isinstance of data against one built-in class -/
theorem isi_data {K : PySem.W.Frag} {H : Hp} {v : V} {d : PyData} {n : String} {b : Bool} {Q : VK} (h : Dp K H v d) (k : kitB (tyName d) n = some b) (q : Q (.bl b) H) : rIsi K [v, .ty n] H Q :=
  ⟨v, .ty n, _, _, b, rfl, .ty n, ty_data h, kit_ty k, q⟩
end Hb

namespace Ka
open PySem PySem.Spec PyProof.Rows L2 Hb Gu Tx
def top (i : Nat) : Stmt := PySem.Challenge.pw_curvebells_k01_ratios_reckoned_told_and.main.body.getD i (.Pass ⟨0, 0, 0, 0⟩)
local macro_rules | `(tactic| walk_at "sd") => `(tactic| (first
  | decide
  | exact ⟨by decide, by decide⟩
  | exact Or.inl ⟨by decide, by decide⟩
  | exact Or.inr ⟨by decide, by decide⟩
  | exact Or.inl ⟨by omega, by omega⟩
  | exact Or.inr ⟨by omega, by omega⟩
  | (show (0 : Int) < _; omega)))
local macro_rules | `(tactic| walk_at "sq") => `(tactic| (first | exact SqT.of (by assumption) | exact SqL.of (by assumption) | exact SqL.of upd_same | assumption))
local macro_rules | `(tactic| walk_at "rd") => `(tactic| repeat (first
  | refine ⟨_, rfl, ?_⟩
  | refine ⟨_, _, rfl, rfl, (by walk_at "sd"), ?_⟩
  | refine ⟨_, _, rfl, rfl, ?_⟩
  | refine ⟨_, _, _, _, rfl, rfl, (by walk_at "sq"), rfl, ?_⟩
  | refine ⟨_, _, rfl, ?_⟩
  | refine Or.inl ⟨_, rfl, ?_⟩
  | refine ⟨rfl, ?_⟩))
section
variable {P : Program} {w : World} {K : PySem.W.Frag} {mg : Str → Option Value} {base : Heap}
/-! ### is_integer -/
abbrev s_is_integer : Stmt := top 6
theorem sc_is_integer : FnScope ["value"] ["value"] (defScope s_is_integer) := ⟨rfl, rfl, rfl, by decide +kernel, rfl, by decide +kernel, by decide +kernel⟩
def isI : PyData → Bool
  | .int _ => true
  | _ => false
def spIsI (K : PySem.W.Frag) : Sp := fun vs H Q _ => ∃ (v : V) (d : PyData), vs = [v] ∧ Dp K H v d ∧ Q (.bl (isI d)) H
theorem no_dict {K : PySem.W.Frag} {H : Hp} {v : V} {kvs : List (PyData × PyData)} (h : Dp K H v (.dict kvs)) : False := by cases h
theorem ok_isI {f : Addr} {fd : FuncData} (F : Fun K "is_integer" "is_integer" s_is_integer f fd) (n_isinstance : mg "isinstance" = none) (n_int : mg "int" = none) (n_bool : mg "bool" = none) : FnG P w K mg base CX0 1 f fd ["value"] (spIsI K) := by
  refine go_ok F sc_is_integer (fun vs H Q E h => ?_) (fun cdv A outer s H vs Q E hr fr h => ?_)
  · obtain ⟨_, _, rfl, _⟩ := h
    rfl
  · obtain ⟨v, d, rfl, hd, q⟩ := h
    refine ⟨_, (pss_one (ps_ret (pe_and (pe_callB call_isi (by rfl) n_isinstance (by decide +kernel) (pa_cons (pv 0) (pa_cons (pe_bltn (v := .ty "int") (by rfl) n_int (by decide +kernel) rfl) pa_nil))) (pe_one (pe_not (pe_callB call_isi (by rfl) n_isinstance (by decide +kernel) (pa_cons (pv 0) (pa_cons (pe_bltn (v := .ty "bool") (by rfl) n_bool (by decide +kernel) rfl) pa_nil)))))))), ?_⟩
    refine ⟨v, rfl, ?_⟩
    cases d with
    | dict kvs => exact (no_dict hd).elim
    | int i =>
      refine ⟨v, .ty "int", _, _, true, rfl, .ty _, ty_data hd, kit_ty (show kitB "int" "int" = some true by decide +kernel), ?_⟩
      refine ⟨true, rfl, iteT ⟨v, rfl, ?_⟩⟩
      refine ⟨v, .ty "bool", _, _, false, rfl, .ty _, ty_data hd, kit_ty (show kitB "int" "bool" = some false by decide +kernel), ?_⟩
      exact ⟨_, rfl, q⟩
    | bool b =>
      refine ⟨v, .ty "int", _, _, true, rfl, .ty _, ty_data hd, kit_ty (show kitB "bool" "int" = some true by decide +kernel), ?_⟩
      refine ⟨true, rfl, iteT ⟨v, rfl, ?_⟩⟩
      refine ⟨v, .ty "bool", _, _, true, rfl, .ty _, ty_data hd, kit_ty (show kitB "bool" "bool" = some true by decide +kernel), ?_⟩
      exact ⟨_, rfl, q⟩
    | none =>
      refine ⟨v, .ty "int", _, _, false, rfl, .ty _, ty_data hd, kit_ty (show kitB "NoneType" "int" = some false by decide +kernel), ?_⟩
      exact ⟨false, rfl, iteF q⟩
    | str x =>
      refine ⟨v, .ty "int", _, _, false, rfl, .ty _, ty_data hd, kit_ty (show kitB "str" "int" = some false by decide +kernel), ?_⟩
      exact ⟨false, rfl, iteF q⟩
    | list x =>
      refine ⟨v, .ty "int", _, _, false, rfl, .ty _, ty_data hd, kit_ty (show kitB "list" "int" = some false by decide +kernel), ?_⟩
      exact ⟨false, rfl, iteF q⟩
    | tuple x =>
      refine ⟨v, .ty "int", _, _, false, rfl, .ty _, ty_data hd, kit_ty (show kitB "tuple" "int" = some false by decide +kernel), ?_⟩
      exact ⟨false, rfl, iteF q⟩
/-! ### read_integer -/
abbrev s_read_integer : Stmt := top 8
theorem sc_read_integer : FnScope ["word", "figures"] ["word"] (defScope s_read_integer) := ⟨rfl, rfl, rfl, by decide +kernel, rfl, by decide +kernel, by decide +kernel⟩
def vI : Option Int → V
  | none => .non
  | some i => .int i
def spWord : Sp := fun vs H Q _ => ∃ x : Str, vs = [.str x] ∧ x.length ≤ 10000 ∧ Q (vI (wpart (tl x))) H
theorem figs_of (x : Str) : tl (if Txt.startswith x (c1 45) = true then cutS x (some 1) none else x) = figs (tl x) := by
  by_cases h : Txt.startswith x (c1 45) = true
  · rw [if_pos h]
    obtain ⟨r, e⟩ := (starts1 x 45).mp h
    have z := cut_from x 1
    show tl (cutS x (some ((1 : Nat) : Int)) none) = _
    rw [z, e]
    rfl
  · rw [if_neg h]
    unfold figs
    split
    · next r e => exact absurd ((starts1 x 45).mpr ⟨r, e⟩) h
    · rfl
theorem str_eq (x : Str) (c : Nat) : decide (V.str x = V.str (c1 c)) = decide (tl x = [c]) := by
  by_cases h : tl x = [c]
  · rw [decide_eq_true h, decide_eq_true (show V.str x = V.str (c1 c) from congrArg V.str (ext h))]
  · rw [decide_eq_false h, decide_eq_false (fun z => h (by rw [V.str.inj z]))]
theorem starts_head (x : Str) (c : Nat) : Txt.startswith x (c1 c) = decide ((tl x).head? = some c) := by
  by_cases h : Txt.startswith x (c1 c) = true
  · obtain ⟨r, e⟩ := (starts1 x c).mp h
    rw [h, e]
    exact (decide_eq_true rfl).symm
  · rw [Bool.eq_false_iff.mpr h]
    refine (decide_eq_false fun z => h ((starts1 x c).mpr ?_)).symm
    cases e : tl x with
    | nil => rw [e] at z; cases z
    | cons a r =>
      rw [e] at z
      have : a = c := Option.some.inj z
      exact ⟨r, by rw [this]⟩
theorem ok_word {f : Addr} {fd : FuncData} (F : Fun K "read_integer" "read_integer" s_read_integer f fd) (n_len : mg "len" = none) (n_int : mg "int" = none) {tk : Tok} (g_FIGURES : mg "FIGURES" = some (.int 9 tk)) : FnG P w K mg base CX0 1 f fd ["word"] spWord := by
  refine go_ok F sc_read_integer (fun vs H Q E h => ?_) (fun cdv A outer s H vs Q E hr fr h => ?_)
  · obtain ⟨_, rfl, _⟩ := h
    rfl
  · obtain ⟨x, rfl, hx, q⟩ := h
    refine ⟨_, (Evl.pss_cut (ps_set (i := 1) sc_read_integer.nd rfl (Or.inl rfl) (pe_ifExp (pt_val (pe_bm PySem.F.plainAttrs_str PySem.F.slot_str_startswith PySem.F.type_str_startswith mt_startswith (pv 0) (pa_cons (pe_str) pa_nil))) (pe_slice sl_str (pv 0) (po_some (pe_int)) po_none) (pv 0)))
    (Evl.pss_cut (ps_if (PW.pt (pw_or (pt_cmpR op_gt (pe_callB call_len_str (by rfl) n_len PySem.boot_len (pa_cons (pv 1) pa_nil)) (pe_glob (v := .int 9) rfl g_FIGURES ⟨_, rfl⟩) (nomark _)) (pw_or (pt_not (pt_val (pe_bm0 PySem.F.plainAttrs_str PySem.F.slot_str_isascii PySem.F.type_str_isascii mt_isascii (pv 1)))) (pw_or1 (pt_not (pt_val (pe_bm0 PySem.F.plainAttrs_str PySem.F.slot_str_isdigit PySem.F.type_str_isdigit mt_isdigit (pv 1)))))))) (pss_one (ps_ret (pe_non))) pss_nil)
    (pss_cons (ps_if (PW.pt (pw_and (pt_val (pe_bm PySem.F.plainAttrs_str PySem.F.slot_str_startswith PySem.F.type_str_startswith mt_startswith (pv 1) (pa_cons (pe_str) pa_nil))) (pw_and1 (pt_cmpR op_ne (pv 0) (pe_str) (nomark _))))) (pss_one (ps_ret (pe_non))) pss_nil)
    (pss_one (ps_ret (pe_callTy call_int_str (by rfl) n_int (by decide +kernel) (pa_cons (pv 0) pa_nil))))))), ?_⟩
    have hxl : x.length = (tl x).length := by show x.cps.size = x.cps.toList.length; rw [Array.length_toList]
    have ef := figs_of x
    have s45 : Str.ofString "-" = c1 45 := by rfl
    have s48 : Str.ofString "0" = c1 48 := by rfl
    refine ⟨fun σ H' => ∃ y : Str, σ = [some (.str x), some (.str y)] ∧ H' = H ∧ tl y = figs (tl x) ∧ y.length ≤ 10000, ?_, ?_⟩
    · refine ⟨_, rfl, rfl, x, Str.ofString "-", rfl, rfl, _, rfl, ?_⟩
      rw [s45]
      cases e : Txt.startswith x (c1 45) with
      | true =>
        rw [e, if_pos rfl] at ef
        refine iteT ⟨_, rfl, 1, rfl, x, rfl, Nat.le_trans hx (by decide), cutS x (some 1) none, rfl, rfl, ef, Nat.le_trans (cutS_length x (some 1) none) hx⟩
      | false =>
        rw [e, if_neg Bool.false_ne_true] at ef
        exact iteF ⟨_, rfl, x, rfl, rfl, ef, hx⟩
    · rintro σ H' ⟨y, rfl, rfl, ey, hy⟩
      have hyl : y.length = (figs (tl x)).length := by rw [← ey]; show y.cps.size = y.cps.toList.length; rw [Array.length_toList]
      have ad := asc_dig y
      rw [ey] at ad
      -- what is not ok hands back None
      have no : okW (tl x) = false → Q .non H' := fun z => by
        have e : wpart (tl x) = none := by unfold wpart; rw [z]; rfl
        rw [e] at q
        exact q
      have bad : (decide (1 ≤ (figs (tl x)).length) && (figs (tl x)).all isD) = false → okW (tl x) = false := fun z => by
        unfold okW
        cases h1 : decide (1 ≤ (figs (tl x)).length) with
        | false => rfl
        | true =>
          rw [h1, Bool.true_and] at z
          rw [z, Bool.false_and, Bool.and_false, Bool.and_false]
      refine ⟨fun σ H2 => σ = [some (.str x), some (.str y)] ∧ H2 = H' ∧ (figs (tl x)).length ≤ 9 ∧ (decide (1 ≤ (figs (tl x)).length) && (figs (tl x)).all isD) = true, ?_, ?_⟩
      · refine ⟨_, rfl, y, rfl, Nat.le_trans hy (by decide), _, _, rfl, rfl, _, rfl, ?_⟩
        refine iteD (fun c => ?_) (fun c => ?_)
        · refine iteT (no ?_)
          unfold okW
          rw [decide_eq_false (show ¬ (figs (tl x)).length ≤ 9 by omega)]
          cases decide (1 ≤ (figs (tl x)).length) <;> rfl
        · refine ⟨_, rfl, rfl, y, rfl, rfl, trivial, _, rfl, ?_⟩
          cases e1 : Txt.isascii y with
          | false =>
            rw [e1, Bool.false_and] at ad
            exact iteT (iteT (no (bad ad.symm)))
          | true =>
            refine iteF ⟨_, rfl, rfl, y, rfl, rfl, trivial, _, rfl, ?_⟩
            cases e2 : Txt.isdigit y with
            | false =>
              rw [e1, e2] at ad
              exact iteT (no (bad ad.symm))
            | true =>
              rw [e1, e2] at ad
              exact iteF ⟨rfl, rfl, by omega, ad.symm⟩
      · rintro σ H2 ⟨rfl, rfl, h9, hd⟩
        rw [Bool.and_eq_true, decide_eq_true_eq] at hd
        have hs : Txt.startswith y (c1 48) = decide ((figs (tl x)).head? = some 48) := by rw [starts_head, ey]
        have okx : okW (tl x) = !(decide ((figs (tl x)).head? = some 48) && !decide (tl x = [48])) := by
          unfold okW
          rw [decide_eq_true hd.1, decide_eq_true h9, hd.2]
          rfl
        have yes : okW (tl x) = true → tRet (tCB (fun xs H Q => ∃ a n, xs = [V.str a] ∧ intText? a = some n ∧ a.length ≤ 640 ∧ Q (V.int n) H) (tCons (tVar 0) tNil)) { nx := fun _ H' => Q .non H', rt := Q } [some (.str x), some (.str y)] H2 := fun z => by
          obtain ⟨i1, i2⟩ := int_word z
          refine ⟨_, rfl, x, _, rfl, i1, i2, ?_⟩
          have e : wpart (tl x) = some (valW (tl x)) := by unfold wpart; rw [if_pos z]
          rw [e] at q
          exact q
        refine ⟨_, rfl, rfl, y, Str.ofString "0", rfl, rfl, _, rfl, ?_⟩
        rw [s48, hs]
        cases e1 : decide ((figs (tl x)).head? = some 48) with
        | false =>
          rw [e1] at okx
          exact iteF (iteF (yes okx))
        | true =>
          refine iteT ⟨_, rfl, rfl, _, rfl, ?_⟩
          show if (!decide (V.str x = V.str (Str.ofString "0"))) = true then _ else _
          rw [s48, str_eq]
          rw [e1] at okx
          cases e2 : decide (tl x = [48]) with
          | true =>
            rw [e2] at okx
            exact iteF (yes okx)
          | false =>
            rw [e2] at okx
            exact iteT (no okx)

/-! ### ratios of the heap -/
def IsR (H : Hp) (v : V) (a b : Int) : Prop := ∃ t, v = .ref t ∧ H t = some (.tup [.int a, .int b])
theorem IsR.mono {H H' : Hp} {v : V} {a b : Int} (s : Same H H') (h : IsR H v a b) : IsR H' v a b := let ⟨t, e, g⟩ := h; ⟨t, e, s _ _ g⟩
def sg (a b : Int) : Int := if b < 0 then -((Nat.gcd a.natAbs b.natAbs : Nat) : Int) else ((Nat.gcd a.natAbs b.natAbs : Nat) : Int)
def lT (a b : Int) : Int := a.fdiv (sg a b)
def lB (a b : Int) : Int := b.fdiv (sg a b)
theorem sg_ok {a b : Int} (hb : b ≠ 0) (hs : b.natAbs < 2 ^ 190) : sg a b ≠ 0 ∧ (sg a b).natAbs < 2 ^ 200 := by
  have g0 : 0 < Nat.gcd a.natAbs b.natAbs := Nat.gcd_pos_of_pos_right _ (by omega)
  have g1 : Nat.gcd a.natAbs b.natAbs ≤ b.natAbs := Nat.gcd_le_right _ (by omega)
  have h2 : (2 : Nat) ^ 190 < 2 ^ 200 := by decide
  unfold sg
  by_cases c : b < 0
  · rw [if_pos c]; omega
  · rw [if_neg c]; omega
abbrev s_sign_of : Stmt := top 7
theorem sc_sign_of : FnScope ["integer"] ["integer"] (defScope s_sign_of) := ⟨rfl, rfl, rfl, by decide +kernel, rfl, by decide +kernel, by decide +kernel⟩
def spSign : Sp := fun vs H Q _ => ∃ i : Int, vs = [.int i] ∧ Q (.int i.sign) H
theorem ok_sign {f : Addr} {fd : FuncData} (F : Fun K "sign_of" "sign_of" s_sign_of f fd) : FnG P w K mg base CX0 1 f fd ["integer"] spSign := by
  refine go_ok F sc_sign_of (fun vs H Q E h => ?_) (fun cdv A outer s H vs Q E hr fr h => ?_)
  · obtain ⟨i, rfl, _⟩ := h
    rfl
  · obtain ⟨i, rfl, q⟩ := h
    refine ⟨_, (pss_cons (ps_if (pt_cmpR op_gt (pv 0) (pe_int) (nomark _)) (pss_one (ps_ret (pe_int))) pss_nil)
    (pss_cons (ps_if (pt_cmpR op_lt (pv 0) (pe_int) (nomark _)) (pss_one (ps_ret (pe_un un_neg (pe_int)))) pss_nil)
    (pss_one (ps_ret (pe_int))))), ?_⟩
    walk_at "rd"
    refine iteD (fun c => ?_) (fun c => ?_)
    · rw [Int.sign_eq_one_of_pos c] at q
      exact q
    · walk_at "rd"
      refine iteD (fun c2 => ?_) (fun c2 => ?_)
      · walk_at "rd"
        rw [Int.sign_eq_neg_one_of_neg c2] at q
        exact q
      · rw [show i = 0 by omega] at q
        exact q
abbrev s_ratio_by : Stmt := top 10
theorem sc_ratio_by : FnScope ["top", "bottom", "shared"] ["top", "bottom"] (defScope s_ratio_by) := ⟨rfl, rfl, rfl, by decide +kernel, rfl, by decide +kernel, by decide +kernel⟩
def spBy : Sp := fun vs H Q _ => ∃ a b : Int, vs = [.int a, .int b] ∧ b ≠ 0 ∧ b.natAbs < 2 ^ 190 ∧ ∀ p H', Same H H' → H' p = some (.tup [.int (lT a b), .int (lB a b)]) → Q (.ref p) H'
theorem ok_by {f : Addr} {fd : FuncData} (F : FunD K "ratio_by" "ratio_by" (defArgs s_ratio_by) (defBody s_ratio_by) (defScope s_ratio_by) [.int 1] [] f fd) (g_gcd : mg "gcd" = some (.builtin "math.gcd")) : FnG P w K mg base CX0 1 f fd ["top", "bottom"] spBy := by
  refine go_okD F sc_ratio_by (fun vs H Q E h => ?_) (fun cdv A outer s H vs Q E hr fr h => ?_)
  · obtain ⟨_, _, rfl, _⟩ := h
    rfl
  · obtain ⟨a, b, rfl, hb, hs, q⟩ := h
    refine ⟨_, (pss_cons (ps_set (i := 2) sc_ratio_by.nd rfl (Or.inl rfl) (pe_callBfun cr_gcd rfl g_gcd (pa_cons (pv 0) (pa_cons (pv 1) pa_nil))))
    (Evl.pss_cut (ps_if (pt_cmpR op_lt (pv 1) (pe_int) (nomark _)) (pss_one (ps_set (i := 2) sc_ratio_by.nd rfl (Or.inl rfl) (pe_un un_neg (pv 2)))) pss_nil)
    (pss_one (ps_ret (pe_tup (pa_cons (pe_op op_fdivZ (pv 0) (pv 2)) (pa_cons (pe_op op_fdivZ (pv 1) (pv 2)) pa_nil))))))), ?_⟩
    refine ⟨_, rfl, _, rfl, a, b, rfl, ?_⟩
    refine ⟨fun σ H' => σ = [some (.int a), some (.int b), some (.int (sg a b))] ∧ H' = H, ?_, ?_⟩
    · refine ⟨_, rfl, _, _, rfl, rfl, _, rfl, ?_⟩
      refine iteD (fun c => ?_) (fun c => ?_)
      · refine ⟨_, rfl, _, rfl, ?_, rfl⟩
        unfold sg
        rw [if_pos c]
        rfl
      · refine ⟨?_, rfl⟩
        unfold sg
        rw [if_neg c]
        rfl
    · rintro σ H' ⟨rfl, rfl⟩
      obtain ⟨h1, h2⟩ := sg_ok (a := a) hb hs
      refine ⟨_, rfl, _, rfl, _, _, rfl, rfl, divz h1 h2, _, rfl, _, rfl, _, _, rfl, rfl, divz h1 h2, by show 2 ≤ sizeLine; decide, fun p hp => ?_⟩
      exact q p _ (same_new hp _) upd_same
/-! ### is_ratio -/
abbrev s_is_ratio : Stmt := top 11
theorem sc_is_ratio : FnScope ["value", "top", "bottom"] ["value"] (defScope s_is_ratio) := ⟨rfl, rfl, rfl, by decide +kernel, rfl, by decide +kernel, by decide +kernel⟩
def isRat : PyData → Bool
  | .tuple [.int a, .int b] => decide (0 < b) && decide (Nat.gcd a.natAbs b.natAbs = 1)
  | _ => false
def isTup : PyData → Bool
  | .tuple _ => true
  | _ => false
theorem isi_tup {H : Hp} {v : V} {d : PyData} (hd : Dp K H v d) : PySem.W.kitOne K (.type (tyName d)) (.type "tuple") = some (isTup d) := by
  cases d with
  | dict kvs => exact (no_dict hd).elim
  | int i => exact kit_ty (show kitB "int" "tuple" = some false by decide +kernel)
  | bool i => exact kit_ty (show kitB "bool" "tuple" = some false by decide +kernel)
  | none => exact kit_ty (show kitB "NoneType" "tuple" = some false by decide +kernel)
  | str i => exact kit_ty (show kitB "str" "tuple" = some false by decide +kernel)
  | list i => exact kit_ty (show kitB "list" "tuple" = some false by decide +kernel)
  | tuple i => exact kit_ty (show kitB "tuple" "tuple" = some true by decide +kernel)
theorem all_len {H : Hp} : ∀ {xs : List V} {ds : List PyData}, DpAll K H xs ds → xs.length = ds.length
  | _, _, .nil => rfl
  | _, _, .cons _ r => congrArg Nat.succ (all_len r)
def spRatQ (K : PySem.W.Frag) : Sp := fun vs H Q _ => ∃ (v : V) (d : PyData), vs = [v] ∧ Dp K H v d ∧ Q (.bl (isRat d)) H
theorem ok_ratQ {f : Addr} {fd : FuncData} (F : Fun K "is_ratio" "is_ratio" s_is_ratio f fd) (C_is_integer : Cg P w K mg base CX0 "is_integer" ["value"] [] 1 (spIsI K)) (n_isinstance : mg "isinstance" = none) (n_tuple : mg "tuple" = none) (n_len : mg "len" = none) (g_gcd : mg "gcd" = some (.builtin "math.gcd")) :
    FnG P w K mg base CX0 2 f fd ["value"] (spRatQ K) := by
  refine go_ok F sc_is_ratio (fun vs H Q E h => ?_) (fun cdv A outer s H vs Q E hr fr h => ?_)
  · obtain ⟨_, _, rfl, _⟩ := h
    rfl
  · obtain ⟨v, d, rfl, hd, q⟩ := h
    refine ⟨_, (pss_cons (ps_if (PW.pt (pw_or (pt_not (pt_val (pe_callB call_isi (by rfl) n_isinstance (by decide +kernel) (pa_cons (pv 0) (pa_cons (pe_bltn (v := .ty "tuple") (by rfl) n_tuple (by decide +kernel) rfl) pa_nil))))) (pw_or1 (pt_cmpR op_ne (pe_callB call_len_seq (by rfl) n_len PySem.boot_len (pa_cons (pv 0) pa_nil)) (pe_int) (nomark _))))) (pss_one (ps_ret (pe_bl))) pss_nil)
    (pss_cons (ps_asg (pv 0) (pg_tup rfl (pgs_cons (pg_name (i := 1) sc_is_ratio.nd rfl (Or.inl rfl)) (pgs_cons (pg_name (i := 2) sc_is_ratio.nd rfl (Or.inl rfl)) pgs_nil))))
    (pss_cons (ps_if (PW.pt (pw_or (pt_not (pt_val (pe_go C_is_integer (hr.mono (by decide)) fr rfl (pa_cons (pv 1) pa_nil)))) (pw_or1 (pt_not (pt_val (pe_go C_is_integer (hr.mono (by decide)) fr rfl (pa_cons (pv 2) pa_nil))))))) (pss_one (ps_ret (pe_bl))) pss_nil)
    (pss_one (ps_ret (pe_and (pe_cmpR op_gt (pv 2) (pe_int) (nomark _)) (pe_one (pe_cmpR op_eq (pe_callBfun cr_gcd rfl g_gcd (pa_cons (pv 1) (pa_cons (pv 2) pa_nil))) (pe_int) (nomark _))))))))), ?_⟩
    refine ⟨v, rfl, v, .ty "tuple", _, _, isTup d, rfl, .ty _, ty_data hd, isi_tup hd, _, rfl, ?_⟩
    cases d with
    | none => exact iteT (iteT q)
    | bool _ => exact iteT (iteT q)
    | int _ => exact iteT (iteT q)
    | str _ => exact iteT (iteT q)
    | list _ => exact iteT (iteT q)
    | dict kvs => exact (no_dict hd).elim
    | tuple ds =>
      obtain ⟨a, xs, rfl, hS, hA⟩ : ∃ a xs, v = .ref a ∧ SqT K H a xs ∧ DpAll K H xs ds := by
        cases hd with
        | tup h1 h2 => exact ⟨_, _, rfl, h1, h2⟩
      have hl := all_len hA
      refine iteF ⟨_, rfl, a, xs, rfl, .inr hS, rfl, _, rfl, ?_⟩
      show if (!decide (V.int (xs.length : Int) = V.int 2)) = true then _ else _
      refine iteN (fun c => ?_) (fun c => ?_)
      · have hn : ds.length ≠ 2 := fun z => c (by rw [hl, z]; rfl)
        have e : isRat (.tuple ds) = false := by
          unfold isRat
          split
          · next a b z => cases z; exact absurd rfl hn
          · rfl
        rw [e] at q
        exact q
      · have h2 : xs.length = 2 := by have := V.int.inj c; omega
        match xs, ds, hA, h2, hl with
        | [x, y], [dx, dy], .cons hx (.cons hy .nil), _, _ =>
          refine ⟨.ref a, rfl, a, _, rfl, hS, rfl, x, _, rfl, y, _, rfl, rfl, ?_⟩
          refine ⟨x, rfl, x, dx, rfl, hx, _, rfl, ?_⟩
          cases dx with
          | int i =>
            refine iteF ⟨y, rfl, y, dy, rfl, hy, _, rfl, ?_⟩
            cases dy with
            | int j =>
              cases hx
              cases hy
              refine iteF ⟨_, rfl, _, _, rfl, rfl, _, rfl, ?_⟩
              have eq : isRat (.tuple [.int i, .int j]) = (decide (0 < j) && decide (Nat.gcd i.natAbs j.natAbs = 1)) := rfl
              rw [eq] at q
              cases e : decide (0 < j) with
              | false =>
                rw [e] at q
                exact iteF q
              | true =>
                rw [e] at q
                refine iteT ⟨_, rfl, _, rfl, i, j, rfl, rfl, ?_⟩
                have e2 : decide (V.int ((Nat.gcd i.natAbs j.natAbs : Nat) : Int) = V.int 1) = decide (Nat.gcd i.natAbs j.natAbs = 1) := by
                  by_cases c : Nat.gcd i.natAbs j.natAbs = 1
                  · rw [decide_eq_true c]; exact decide_eq_true (congrArg (fun n : Nat => V.int (n : Int)) c)
                  · rw [decide_eq_false c, decide_eq_false (fun z => c (by have := V.int.inj z; omega))]
                show Q (V.bl (decide (V.int ((Nat.gcd i.natAbs j.natAbs : Nat) : Int) = V.int 1))) H
                rw [e2]
                exact q
            | none => exact iteT q
            | bool _ => exact iteT q
            | str _ => exact iteT q
            | list _ => exact iteT q
            | tuple _ => exact iteT q
            | dict kvs => exact (no_dict hy).elim
          | none => exact iteT (iteT q)
          | bool _ => exact iteT (iteT q)
          | str _ => exact iteT (iteT q)
          | list _ => exact iteT (iteT q)
          | tuple _ => exact iteT (iteT q)
          | dict kvs => exact (no_dict hx).elim

def Sz (a : Int) : Prop := -(2 ^ 60) < a ∧ a < 2 ^ 60
def spOp (fX fY : Int → Int → Int → Int → Int) : Sp := fun vs H Q _ => ∃ (v u : V) (a b c d : Int), vs = [v, u] ∧ IsR H v a b ∧ IsR H u c d ∧ (-(2 ^ 60) < a ∧ a < 2 ^ 60) ∧ (-(2 ^ 60) < b ∧ b < 2 ^ 60) ∧ (-(2 ^ 60) < c ∧ c < 2 ^ 60) ∧ (-(2 ^ 60) < d ∧ d < 2 ^ 60) ∧ fY a b c d ≠ 0 ∧ (fY a b c d).natAbs < 2 ^ 190 ∧
  ∀ p H', Same H H' → H' p = some (.tup [.int (lT (fX a b c d) (fY a b c d)), .int (lB (fX a b c d) (fY a b c d))]) → Q (.ref p) H'
abbrev s_ratio_plus : Stmt := top 13
theorem sc_ratio_plus : FnScope ["one", "other"] ["one", "other"] (defScope s_ratio_plus) := ⟨rfl, rfl, rfl, by decide +kernel, rfl, by decide +kernel, by decide +kernel⟩
def x_plus (a b c d : Int) : Int := a * d + c * b
def y_plus (a b c d : Int) : Int := b * d
theorem ok_plus {f : Addr} {fd : FuncData} (F : Fun K "ratio_plus" "ratio_plus" s_ratio_plus f fd) (C_ratio_by : Cg P w K mg base CX0 "ratio_by" ["top", "bottom"] [] 1 spBy) : FnG P w K mg base CX0 2 f fd ["one", "other"] (spOp x_plus y_plus) := by
  refine go_ok F sc_ratio_plus (fun vs H Q E h => ?_) (fun cdv A outer s H vs Q E hr fr h => ?_)
  · obtain ⟨_, _, _, _, _, _, rfl, _⟩ := h
    rfl
  · obtain ⟨_, _, a, b, c, d, rfl, ⟨t1, rfl, h1⟩, ⟨t2, rfl, h2⟩, ba, bb, bc, bd, y0, y1, q⟩ := h
    refine ⟨_, (pss_one (ps_ret (pe_go C_ratio_by (hr.mono (by decide)) fr rfl (pa_cons (pe_op op_add (pe_op op_mul (pe_ix ix_tup (pv 0) (pe_int) (fun _ _ => rfl)) (pe_ix ix_tup (pv 1) (pe_int) (fun _ _ => rfl))) (pe_op op_mul (pe_ix ix_tup (pv 1) (pe_int) (fun _ _ => rfl)) (pe_ix ix_tup (pv 0) (pe_int) (fun _ _ => rfl)))) (pa_cons (pe_op op_mul (pe_ix ix_tup (pv 0) (pe_int) (fun _ _ => rfl)) (pe_ix ix_tup (pv 1) (pe_int) (fun _ _ => rfl))) pa_nil))))), ?_⟩
    walk_at "rd"
    exact ⟨y0, y1, q⟩
abbrev s_ratio_minus : Stmt := top 14
theorem sc_ratio_minus : FnScope ["one", "other"] ["one", "other"] (defScope s_ratio_minus) := ⟨rfl, rfl, rfl, by decide +kernel, rfl, by decide +kernel, by decide +kernel⟩
def x_minus (a b c d : Int) : Int := a * d - c * b
def y_minus (a b c d : Int) : Int := b * d
theorem ok_minus {f : Addr} {fd : FuncData} (F : Fun K "ratio_minus" "ratio_minus" s_ratio_minus f fd) (C_ratio_by : Cg P w K mg base CX0 "ratio_by" ["top", "bottom"] [] 1 spBy) : FnG P w K mg base CX0 2 f fd ["one", "other"] (spOp x_minus y_minus) := by
  refine go_ok F sc_ratio_minus (fun vs H Q E h => ?_) (fun cdv A outer s H vs Q E hr fr h => ?_)
  · obtain ⟨_, _, _, _, _, _, rfl, _⟩ := h
    rfl
  · obtain ⟨_, _, a, b, c, d, rfl, ⟨t1, rfl, h1⟩, ⟨t2, rfl, h2⟩, ba, bb, bc, bd, y0, y1, q⟩ := h
    refine ⟨_, (pss_one (ps_ret (pe_go C_ratio_by (hr.mono (by decide)) fr rfl (pa_cons (pe_op op_sub (pe_op op_mul (pe_ix ix_tup (pv 0) (pe_int) (fun _ _ => rfl)) (pe_ix ix_tup (pv 1) (pe_int) (fun _ _ => rfl))) (pe_op op_mul (pe_ix ix_tup (pv 1) (pe_int) (fun _ _ => rfl)) (pe_ix ix_tup (pv 0) (pe_int) (fun _ _ => rfl)))) (pa_cons (pe_op op_mul (pe_ix ix_tup (pv 0) (pe_int) (fun _ _ => rfl)) (pe_ix ix_tup (pv 1) (pe_int) (fun _ _ => rfl))) pa_nil))))), ?_⟩
    walk_at "rd"
    exact ⟨y0, y1, q⟩
abbrev s_ratio_times : Stmt := top 15
theorem sc_ratio_times : FnScope ["one", "other"] ["one", "other"] (defScope s_ratio_times) := ⟨rfl, rfl, rfl, by decide +kernel, rfl, by decide +kernel, by decide +kernel⟩
def x_times (a b c d : Int) : Int := a * c
def y_times (a b c d : Int) : Int := b * d
theorem ok_times {f : Addr} {fd : FuncData} (F : Fun K "ratio_times" "ratio_times" s_ratio_times f fd) (C_ratio_by : Cg P w K mg base CX0 "ratio_by" ["top", "bottom"] [] 1 spBy) : FnG P w K mg base CX0 2 f fd ["one", "other"] (spOp x_times y_times) := by
  refine go_ok F sc_ratio_times (fun vs H Q E h => ?_) (fun cdv A outer s H vs Q E hr fr h => ?_)
  · obtain ⟨_, _, _, _, _, _, rfl, _⟩ := h
    rfl
  · obtain ⟨_, _, a, b, c, d, rfl, ⟨t1, rfl, h1⟩, ⟨t2, rfl, h2⟩, ba, bb, bc, bd, y0, y1, q⟩ := h
    refine ⟨_, (pss_one (ps_ret (pe_go C_ratio_by (hr.mono (by decide)) fr rfl (pa_cons (pe_op op_mul (pe_ix ix_tup (pv 0) (pe_int) (fun _ _ => rfl)) (pe_ix ix_tup (pv 1) (pe_int) (fun _ _ => rfl))) (pa_cons (pe_op op_mul (pe_ix ix_tup (pv 0) (pe_int) (fun _ _ => rfl)) (pe_ix ix_tup (pv 1) (pe_int) (fun _ _ => rfl))) pa_nil))))), ?_⟩
    walk_at "rd"
    exact ⟨y0, y1, q⟩
abbrev s_ratio_over : Stmt := top 16
theorem sc_ratio_over : FnScope ["one", "other"] ["one", "other"] (defScope s_ratio_over) := ⟨rfl, rfl, rfl, by decide +kernel, rfl, by decide +kernel, by decide +kernel⟩
def x_over (a b c d : Int) : Int := a * d
def y_over (a b c d : Int) : Int := b * c
theorem ok_over {f : Addr} {fd : FuncData} (F : Fun K "ratio_over" "ratio_over" s_ratio_over f fd) (C_ratio_by : Cg P w K mg base CX0 "ratio_by" ["top", "bottom"] [] 1 spBy) : FnG P w K mg base CX0 2 f fd ["one", "other"] (spOp x_over y_over) := by
  refine go_ok F sc_ratio_over (fun vs H Q E h => ?_) (fun cdv A outer s H vs Q E hr fr h => ?_)
  · obtain ⟨_, _, _, _, _, _, rfl, _⟩ := h
    rfl
  · obtain ⟨_, _, a, b, c, d, rfl, ⟨t1, rfl, h1⟩, ⟨t2, rfl, h2⟩, ba, bb, bc, bd, y0, y1, q⟩ := h
    refine ⟨_, (pss_one (ps_ret (pe_go C_ratio_by (hr.mono (by decide)) fr rfl (pa_cons (pe_op op_mul (pe_ix ix_tup (pv 0) (pe_int) (fun _ _ => rfl)) (pe_ix ix_tup (pv 1) (pe_int) (fun _ _ => rfl))) (pa_cons (pe_op op_mul (pe_ix ix_tup (pv 0) (pe_int) (fun _ _ => rfl)) (pe_ix ix_tup (pv 1) (pe_int) (fun _ _ => rfl))) pa_nil))))), ?_⟩
    walk_at "rd"
    exact ⟨y0, y1, q⟩
abbrev s_middle_ratio : Stmt := top 17
theorem sc_middle_ratio : FnScope ["one", "other"] ["one", "other"] (defScope s_middle_ratio) := ⟨rfl, rfl, rfl, by decide +kernel, rfl, by decide +kernel, by decide +kernel⟩
def x_middle (a b c d : Int) : Int := a * d + c * b
def y_middle (a b c d : Int) : Int := 2 * b * d
theorem ok_middle {f : Addr} {fd : FuncData} (F : Fun K "middle_ratio" "middle_ratio" s_middle_ratio f fd) (C_ratio_by : Cg P w K mg base CX0 "ratio_by" ["top", "bottom"] [] 1 spBy) : FnG P w K mg base CX0 2 f fd ["one", "other"] (spOp x_middle y_middle) := by
  refine go_ok F sc_middle_ratio (fun vs H Q E h => ?_) (fun cdv A outer s H vs Q E hr fr h => ?_)
  · obtain ⟨_, _, _, _, _, _, rfl, _⟩ := h
    rfl
  · obtain ⟨_, _, a, b, c, d, rfl, ⟨t1, rfl, h1⟩, ⟨t2, rfl, h2⟩, ba, bb, bc, bd, y0, y1, q⟩ := h
    refine ⟨_, (pss_one (ps_ret (pe_go C_ratio_by (hr.mono (by decide)) fr rfl (pa_cons (pe_op op_add (pe_op op_mul (pe_ix ix_tup (pv 0) (pe_int) (fun _ _ => rfl)) (pe_ix ix_tup (pv 1) (pe_int) (fun _ _ => rfl))) (pe_op op_mul (pe_ix ix_tup (pv 1) (pe_int) (fun _ _ => rfl)) (pe_ix ix_tup (pv 0) (pe_int) (fun _ _ => rfl)))) (pa_cons (pe_op op_mul (pe_op op_mul pe_int (pe_ix ix_tup (pv 0) (pe_int) (fun _ _ => rfl))) (pe_ix ix_tup (pv 1) (pe_int) (fun _ _ => rfl))) pa_nil))))), ?_⟩
    walk_at "rd"
    exact ⟨y0, y1, q⟩
abbrev s_ratio_order : Stmt := top 12
theorem sc_ratio_order : FnScope ["one", "other"] ["one", "other"] (defScope s_ratio_order) := ⟨rfl, rfl, rfl, by decide +kernel, rfl, by decide +kernel, by decide +kernel⟩
def spOrder : Sp := fun vs H Q _ => ∃ (v u : V) (a b c d : Int), vs = [v, u] ∧ IsR H v a b ∧ IsR H u c d ∧ (-(2 ^ 60) < a ∧ a < 2 ^ 60) ∧ (-(2 ^ 60) < c ∧ c < 2 ^ 60) ∧ Q (.int (a * d - c * b).sign) H
theorem ok_order {f : Addr} {fd : FuncData} (F : Fun K "ratio_order" "ratio_order" s_ratio_order f fd) (C_sign_of : Cg P w K mg base CX0 "sign_of" ["integer"] [] 1 spSign) : FnG P w K mg base CX0 2 f fd ["one", "other"] spOrder := by
  refine go_ok F sc_ratio_order (fun vs H Q E h => ?_) (fun cdv A outer s H vs Q E hr fr h => ?_)
  · obtain ⟨_, _, _, _, _, _, rfl, _⟩ := h
    rfl
  · obtain ⟨_, _, a, b, c, d, rfl, ⟨t1, rfl, h1⟩, ⟨t2, rfl, h2⟩, ba, bc, q⟩ := h
    refine ⟨_, (pss_one (ps_ret (pe_go C_sign_of (hr.mono (by decide)) fr rfl (pa_cons (pe_op op_sub (pe_op op_mul (pe_ix ix_tup (pv 0) (pe_int) (fun _ _ => rfl)) (pe_ix ix_tup (pv 1) (pe_int) (fun _ _ => rfl))) (pe_op op_mul (pe_ix ix_tup (pv 1) (pe_int) (fun _ _ => rfl)) (pe_ix ix_tup (pv 0) (pe_int) (fun _ _ => rfl)))) pa_nil)))), ?_⟩
    walk_at "rd"
    exact q
/-! ### ratio_text -/
abbrev s_ratio_text : Stmt := top 18
theorem sc_ratio_text : FnScope ["one", "top", "bottom"] ["one"] (defScope s_ratio_text) := ⟨rfl, rfl, rfl, by decide +kernel, rfl, by decide +kernel, by decide +kernel⟩
def rText (a b : Int) : Str := if b = 1 then Str.ofString (toString a) else Str.ofString (toString a) ++ c1 47 ++ Str.ofString (toString b)
def spText : Sp := fun vs H Q _ => ∃ (v : V) (a b : Int), vs = [v] ∧ IsR H v a b ∧ a.natAbs < 2 ^ 200 ∧ b.natAbs < 2 ^ 200 ∧ Q (.str (rText a b)) H
theorem tlen {a : Int} (h : a.natAbs < 2 ^ 200) : a.natAbs.log2 < 1920 ∧ (Str.ofString (toString a)).length ≤ 201 := by
  have l : a.natAbs.log2 < 200 := PySem.Flt.log2_lt_of (by decide) h
  refine ⟨by omega, ?_⟩
  have e := int_text_length_le (k := 200) (by decide) l
  have : (Str.ofString (toString a)).length = (toString a).length := by
    have h := congrArg List.length (TL.tl_ofString (toString a))
    rw [List.length_map, String.length_toList] at h
    rw [TL.len_tl]
    exact h
  omega
theorem len_app (x y : Str) : (x ++ y).length = x.length + y.length := by
  have h : ∀ z : Str, z.length = (tl z).length := fun z => by show z.cps.size = z.cps.toList.length; rw [Array.length_toList]
  rw [h, h x, h y, ← List.length_append]
  exact congrArg List.length (TL.tl_append x y)
theorem emp_app (x : Str) : Str.empty ++ x = x := ext (by show TL.tl (Str.empty ++ x) = TL.tl x; rw [TL.tl_append]; rfl)
theorem ok_text {f : Addr} {fd : FuncData} (F : Fun K "ratio_text" "ratio_text" s_ratio_text f fd) (n_str : mg "str" = none) : FnG P w K mg base CX0 1 f fd ["one"] spText := by
  refine go_ok F sc_ratio_text (fun vs H Q E h => ?_) (fun cdv A outer s H vs Q E hr fr h => ?_)
  · obtain ⟨_, _, _, rfl, _⟩ := h
    rfl
  · obtain ⟨_, a, b, rfl, ⟨t1, rfl, h1⟩, ha, hb, q⟩ := h
    refine ⟨_, (pss_cons (ps_asg (pv 0) (pg_tup rfl (pgs_cons (pg_name (i := 1) sc_ratio_text.nd rfl (Or.inl rfl)) (pgs_cons (pg_name (i := 2) sc_ratio_text.nd rfl (Or.inl rfl)) pgs_nil))))
    (pss_cons (ps_if (pt_cmpR op_eq (pv 2) (pe_int) (nomark _)) (pss_one (ps_ret (pe_callTy call_str_int (by rfl) n_str (by decide +kernel) (pa_cons (pv 1) pa_nil)))) pss_nil)
    (pss_one (ps_ret (pe_joined (.cons (pe_fmt (pv 1)) (.cons pe_str (.cons (pe_fmt (pv 2)) .nil)))))))), ?_⟩
    obtain ⟨a1, a2⟩ := tlen ha
    obtain ⟨b1, b2⟩ := tlen hb
    refine ⟨.ref t1, rfl, t1, _, rfl, SqT.of h1, rfl, _, _, rfl, _, _, rfl, rfl, _, rfl, rfl, _, rfl, ?_⟩
    unfold rText at q
    refine iteD (fun c => ?_) (fun c => ?_)
    · have e : b = 1 := V.int.inj c
      rw [if_pos e] at q
      exact ⟨_, rfl, a, rfl, a1, q⟩
    · rw [if_neg (fun z => c (congrArg V.int z))] at q
      have s47 : Str.ofString "/" = c1 47 := by rfl
      have hsz : ∀ x : Str, x.length ≤ 1000 → x.length ≤ sizeLine := fun x h => Nat.le_trans h (by decide)
      have l47 : (c1 47).length = 1 := rfl
      refine ⟨_, rfl, .inr ⟨a, rfl, a1, _, rfl, ?_, Str.ofString "/", rfl, ?_, _, rfl, .inr ⟨b, rfl, b1, _, rfl, ?_, ?_⟩⟩⟩
      · rw [emp_app]; exact hsz _ (by omega)
      · rw [emp_app, s47]; exact hsz _ (by rw [len_app]; omega)
      · rw [emp_app, s47]; exact hsz _ (by rw [len_app, len_app]; omega)
      · show Q (.str (Str.empty ++ Str.ofString (toString a) ++ Str.ofString "/" ++ Str.ofString (toString b))) H
        rw [emp_app, s47]
        exact q
end
end Ka

namespace Ka
open PySem PySem.Spec PyProof.Rows L2 Hb Gu Tx Xb
section
variable {P : Program} {w : World} {K : PySem.W.Frag} {mg : Str → Option Value} {base : Heap}
def isStr : PyData → Bool
  | .str _ => true
  | _ => false
theorem isi_str {H : Hp} {v : V} {d : PyData} (hd : Dp K H v d) : PySem.W.kitOne K (.type (tyName d)) (.type "str") = some (isStr d) := by
  cases d with
  | dict kvs => exact (no_dict hd).elim
  | int i => exact kit_ty (show kitB "int" "str" = some false by decide +kernel)
  | bool i => exact kit_ty (show kitB "bool" "str" = some false by decide +kernel)
  | none => exact kit_ty (show kitB "NoneType" "str" = some false by decide +kernel)
  | str i => exact kit_ty (show kitB "str" "str" = some true by decide +kernel)
  | list i => exact kit_ty (show kitB "list" "str" = some false by decide +kernel)
  | tuple i => exact kit_ty (show kitB "tuple" "str" = some false by decide +kernel)
/-- what the pieces of a text give -/
def pieces (x : Str) : List (Option Int) := (TL.spl [47] 0 [] (tl x)).map wpart
def okB (a b : Int) : Bool := decide (2 ≤ b) && decide (Nat.gcd a.natAbs b.natAbs = 1)
def ofP : List (Option Int) → Option (Int × Int)
  | [some a] => some (a, 1)
  | [some a, some b] => if okB a b = true then some (a, b) else none
  | _ => none
def rr (x : Str) : Option (Int × Int) := ofP (pieces x)
def rrd : PyData → Option (Int × Int)
  | .str x => rr x
  | _ => none
def spRead (K : PySem.W.Frag) (C : Addr) : Sp := fun vs H Q E => ∃ (v : V) (d : PyData), vs = [v] ∧ Dp K H v d ∧ (∀ x, d = .str x → x.length ≤ 10000) ∧
  (∀ a b, rrd d = some (a, b) → ∀ p H', Same H H' → H' p = some (.tup [.int a, .int b]) → Q (.ref p) H') ∧
  (rrd d = none → ∀ dd H', Same H H' → H' dd = some (.xd [(("at" : Str), .int 0)]) → E (.ref C) (some dd) H')
abbrev s_read_ratio : Stmt := top 19
theorem sc_read_ratio : FnScope ["text", "integers", "one", "word"] ["text"] (defScope s_read_ratio) := ⟨rfl, rfl, rfl, by decide +kernel, rfl, by decide +kernel, by decide +kernel⟩
theorem len_tl (x : Str) : x.length = (tl x).length := by show x.cps.size = x.cps.toList.length; rw [Array.length_toList]
theorem flat_vI (o : Option Int) : flatV (vI o) = true := by cases o <;> rfl
theorem in_vI : ∀ l : List (Option Int), inV .non (l.map vI) = l.any (·.isNone)
  | [] => rfl
  | o :: l => by
    show (eqV (vI o) .non || inV .non (l.map vI)) = (o.isNone || l.any (·.isNone))
    rw [in_vI l]
    cases o <;> rfl
theorem spl_len (c : Nat) : ∀ (n : Nat) (l : List Nat), l.length ≤ n → ∀ p ∈ TL.spl [c] 0 [] l, p.length ≤ n := by
  intro n
  induction n with
  | zero =>
    intro l hl p hp
    have e : l = [] := List.length_eq_zero_iff.mp (by omega)
    subst e
    rw [spl_no (by simp)] at hp
    rw [List.mem_singleton.mp hp]
    exact Nat.le_refl _
  | succ n ih =>
    intro l hl p hp
    by_cases h : c ∈ l
    · obtain ⟨a, r, e, ha⟩ := cut_at h
      subst e
      rw [List.length_append, List.length_cons] at hl
      rw [spl_yes ha] at hp
      rcases List.mem_cons.mp hp with z | z
      · rw [z]; omega
      · have := ih r (by omega) p z
        omega
    · rw [spl_no h] at hp
      rw [List.mem_singleton.mp hp]
      exact hl
theorem ok_read {f C fI : Addr} {fd : FuncData} (F : Fun K "read_ratio" "read_ratio" s_read_ratio f fd) (T : ErrC K mg "InvalidText" C fI) (C_read_integer : Cg P w K mg base CX0 "read_integer" ["word"] [] 1 spWord) (C_is_ratio : Cg P w K mg base CX0 "is_ratio" ["value"] [] 2 (spRatQ K)) (n_isinstance : mg "isinstance" = none) (n_str : mg "str" = none) (n_len : mg "len" = none) :
    FnG P w K mg base (L2.CX P w) 3 f fd ["text"] (spRead K C) := by
  refine go_okX F sc_read_ratio (fun vs H Q E h => ?_) (fun cdv A outer s H vs Q E hr fr h => ?_)
  · obtain ⟨_, _, rfl, _⟩ := h
    rfl
  · obtain ⟨v, d, rfl, hd, hx, q1, q2⟩ := h
    refine ⟨_, (pss_cons (ps_if (pt_not (pt_val (pe_callB call_isi (by rfl) n_isinstance (by decide +kernel) (pa_cons (pv 0) (pa_cons (pe_bltn (v := .ty "str") (by rfl) n_str (by decide +kernel) rfl) pa_nil))))) (pss_one (ps_raiseAt rfl T hr (takes_of rfl rfl rfl rfl) (pa_cons pe_int pa_nil) rfl)) pss_nil)
    (Evl.pss_cut (ps_setLc (i := 1) (own := [("word", 3)]) (g := gName 3) (by rfl) sc_read_ratio.nd rfl rfl (sw_true rfl rfl rfl (by decide +kernel)) (pi_list (pe_split (pv 0) pe_str)) (blkOk_by (N := ["text", "integers", "one", "word"]) (sc := defScope s_read_ratio) (by decide +kernel)) (fun _ _ _ _ _ => pg_name (i := 3) sc_read_ratio.nd rfl (Or.inl rfl)) (fun _ _ _ _ _ => pts_nil) (fun _ _ _ _ _ => pe_go C_read_integer (hr.mono (by decide)) fr rfl (pa_cons (pv 3) pa_nil)))
    (Evl.pss_cut (ps_if (PW.pt (pw_or (pt_cmpR op_gt (pe_callB call_len_seq (by rfl) n_len PySem.boot_len (pa_cons (pv 1) pa_nil)) (pe_int) (nomark _)) (pw_or1 (pt_cmpR op_in_seq (pe_non) (pv 1) rfl)))) (pss_one (ps_raiseAt rfl T hr (takes_of rfl rfl rfl rfl) (pa_cons pe_int pa_nil) rfl)) pss_nil)
    (pss_cons (ps_if (pt_cmpR op_eq (pe_callB call_len_seq (by rfl) n_len PySem.boot_len (pa_cons (pv 1) pa_nil)) (pe_int) (nomark _)) (pss_one (ps_ret (pe_tup (pa_cons (pe_ix ix_list (pv 1) (pe_int) (fun _ _ => rfl)) (pa_cons (pe_int) pa_nil))))) pss_nil)
    (pss_cons (ps_set (i := 2) sc_read_ratio.nd rfl (Or.inl rfl) (pe_tup (pa_cons (pe_ix ix_list (pv 1) (pe_int) (fun _ _ => rfl)) (pa_cons (pe_ix ix_list (pv 1) (pe_int) (fun _ _ => rfl)) pa_nil))))
    (pss_cons (ps_if (PW.pt (pw_or (pt_cmpR op_eq (pe_ix ix_tup (pv 2) (pe_int) (fun _ _ => rfl)) (pe_int) (nomark _)) (pw_or1 (pt_not (pt_val (pe_go C_is_ratio (hr.mono (by decide)) fr rfl (pa_cons (pv 2) pa_nil))))))) (pss_one (ps_raiseAt rfl T hr (takes_of rfl rfl rfl rfl) (pa_cons pe_int pa_nil) rfl)) pss_nil)
    (pss_one (ps_ret (pv 2))))))))), ?_⟩
    refine ⟨v, rfl, v, .ty "str", _, _, isStr d, rfl, .ty _, ty_data hd, isi_str hd, _, rfl, ?_⟩
    have bad : rrd d = none → ∀ dd, H dd = none → E (.ref C) (some dd) (upd H dd (.xd [(("at" : Str), .int 0)])) := fun e dd hn => q2 e dd _ (same_new hn _) upd_same
    cases d with
    | none => exact iteT ⟨_, rfl, bad rfl⟩
    | bool _ => exact iteT ⟨_, rfl, bad rfl⟩
    | int _ => exact iteT ⟨_, rfl, bad rfl⟩
    | list _ => exact iteT ⟨_, rfl, bad rfl⟩
    | tuple _ => exact iteT ⟨_, rfl, bad rfl⟩
    | dict kvs => exact (no_dict hd).elim
    | str x =>
      cases hd
      have hxl := hx x rfl
      clear bad hx
      refine iteF ?_
      have s47 : Str.ofString "/" = c1 47 := by rfl
      have es : (Txt.split x (Str.ofString "/")).map tl = TL.spl [47] 0 [] (tl x) := by rw [s47]; exact split1 x (by decide)
      have ep : pieces x = (Txt.split x (Str.ofString "/")).map fun y => wpart (tl y) := by unfold pieces; rw [← es, List.map_map]; rfl
      have hlen : (Txt.split x (Str.ofString "/")).length ≤ x.length + 2 := PyProof.Rows.split_le x (Str.ofString "/")
      have hwords : ∀ y ∈ Txt.split x (Str.ofString "/"), y.length ≤ 10000 := fun y hy => by
        have hm : tl y ∈ TL.spl [47] 0 [] (tl x) := by rw [← es]; exact List.mem_map_of_mem hy
        have := spl_len 47 _ _ (Nat.le_refl _) _ hm
        rw [len_tl] at hxl ⊢
        omega
      obtain ⟨ws, hws⟩ : ∃ ws, Txt.split x (Str.ofString "/") = ws := ⟨_, rfl⟩
      rw [hws] at es ep hlen hwords
      refine ⟨fun σ H' => ∃ D, σ = [some (.str x), some (.ref D), none, none] ∧ Same H H' ∧ H' D = some (.lst ((pieces x).map vI)), ?_, ?_⟩
      · refine ⟨_, rfl, ⟨_, rfl⟩, _, _, rfl, rfl, rfl, Nat.le_trans (Nat.add_le_add_right hxl 2) (by decide), fun p hp => ?_⟩
        rw [hws]
        refine ⟨p, rfl, ⟨_, SqL.of upd_same⟩, fun D hD => ?_⟩
        have hpD : p ≠ D := ne_of_none upd_same hD
        have hD0 : H D = none := Evl.fresh_back (same_new hp _) hD
        refine lc_list (xs := ws.map V.str) (fun i H' => H' p = some (.lst (ws.map V.str)) ∧ Same H H' ∧ H' D = some (.lst (((pieces x).take i).map vI))) ?_ (fun i H' _ h => SqL.of h.1) ?_ ?_
        · refine ⟨?_, (same_new hp _).trans (same_new hD _), upd_same⟩
          rw [upd_ne hpD]
          exact upd_same
        · rintro i y H' hi ⟨h1, h2, h3⟩
          rw [List.getElem?_map] at hi
          obtain ⟨z, hz, e⟩ := Option.map_eq_some_iff.mp hi
          subst e
          have hil : i < ws.length := (List.getElem?_eq_some_iff.mp hz).1
          have hpi : (pieces x)[i]? = some (wpart (tl z)) := by rw [ep, List.getElem?_map, hz]; rfl
          refine ⟨rfl, _, rfl, z, rfl, hwords z (List.mem_of_getElem? hz), _, h3, ?_, ?_, Evl.Ex.mut h2 hD0, ?_⟩
          · rw [List.length_map, List.length_take]
            exact Nat.lt_of_le_of_lt (Nat.min_le_left _ _) (Nat.lt_of_lt_of_le (show i < 10003 by omega) (by decide))
          · rw [upd_ne hpD]
            exact h1
          · rw [upd_same, List.take_add_one, hpi, List.map_append]
            rfl
        · rintro H' ⟨h1, h2, h3⟩
          rw [List.take_of_length_le (by rw [ep, List.length_map, List.length_map]; exact Nat.le_refl _)] at h3
          exact ⟨D, rfl, h2, h3⟩
      · rintro σ H' ⟨D, rfl, h2, h3⟩
        have hpl : (pieces x).length ≤ 10002 := by rw [ep, List.length_map]; omega
        have bad : rr x = none → ∀ dd, H' dd = none → E (.ref C) (some dd) (upd H' dd (.xd [(("at" : Str), .int 0)])) := fun e dd hn => q2 e dd _ (h2.trans (same_new hn _)) upd_same
        refine ⟨fun σ H2 => ((∃ a, pieces x = [some a]) ∨ ∃ a b, pieces x = [some a, some b]) ∧ σ = [some (.str x), some (.ref D), none, none] ∧ H2 = H', ?_, ?_⟩
        · refine ⟨_, rfl, D, _, rfl, .inl (SqL.of h3), _, _, rfl, rfl, _, rfl, ?_⟩
          rw [List.length_map]
          refine iteD (fun c => ?_) (fun c => ?_)
          · refine iteT ⟨_, rfl, bad ?_⟩
            unfold rr ofP
            split
            · next e => rw [e, List.length_cons, List.length_nil] at c; omega
            · next e => rw [e, List.length_cons, List.length_cons, List.length_nil] at c; omega
            · rfl
          · refine ⟨_, rfl, D, _, rfl, .inl (SqL.of h3), rfl, ?_, _, rfl, ?_⟩
            · rw [List.all_map]
              exact List.all_eq_true.mpr fun o _ => flat_vI o
            · rw [in_vI]
              have pos : 1 ≤ (pieces x).length := by
                rw [ep, List.length_map]
                have := PyProof.Rows.split_pos x (Str.ofString "/")
                rw [hws] at this
                exact this
              match e : pieces x, pos, c with
              | [some a], _, _ => exact iteF ⟨.inl ⟨a, rfl⟩, rfl, rfl⟩
              | [none], _, _ => exact iteT ⟨_, rfl, bad (by unfold rr; rw [e]; rfl)⟩
              | [some a, some b], _, _ => exact iteF ⟨.inr ⟨a, b, rfl⟩, rfl, rfl⟩
              | [some a, none], _, _ => exact iteT ⟨_, rfl, bad (by unfold rr; rw [e]; rfl)⟩
              | [none, some b], _, _ => exact iteT ⟨_, rfl, bad (by unfold rr; rw [e]; rfl)⟩
              | [none, none], _, _ => exact iteT ⟨_, rfl, bad (by unfold rr; rw [e]; rfl)⟩
              | _ :: _ :: _ :: l, _, c => exact absurd (show (2 : Int) < ((l.length + 1 + 1 + 1 : Nat) : Int) by omega) c
        · rintro σ H2 ⟨hc, rfl, rfl⟩
          refine ⟨_, rfl, D, _, rfl, .inl (SqL.of h3), rfl, _, rfl, ?_⟩
          show if decide (V.int (((pieces x).map vI).length : Int) = V.int 1) = true then _ else _
          rcases hc with ⟨a, e⟩ | ⟨a, b, e⟩
          · rw [e] at h3 ⊢
            refine iteT ⟨_, rfl, D, _, _, _, rfl, rfl, SqL.of h3, rfl, by show 2 ≤ sizeLine; decide, fun p hp => ?_⟩
            exact q1 a 1 (by show rr x = _; unfold rr; rw [e]; rfl) p _ (h2.trans (same_new hp _)) upd_same
          · rw [e] at h3 ⊢
            refine iteF ⟨_, rfl, D, _, _, _, rfl, rfl, SqL.of h3, rfl, _, rfl, D, _, _, _, rfl, rfl, SqL.of h3, rfl, by show 2 ≤ sizeLine; decide, fun p hp => ?_⟩
            have s3 := same_new hp (.tup [.int a, .int b])
            have e3 : (upd H2 p (.tup [.int a, .int b])) p = some (.tup [.int a, .int b]) := upd_same
            show tSeq _ _ _ [some (.str x), some (.ref D), some (.ref p), none] (upd H2 p (.tup [.int a, .int b]))
            generalize upd H2 p (.tup [.int a, .int b]) = H3 at s3 e3 ⊢
            have fin : rr x = some (a, b) → Q (.ref p) H3 := fun z => q1 a b z p _ (h2.trans s3) e3
            have bad3 : rr x = none → ∀ dd, H3 dd = none → E (.ref C) (some dd) (upd H3 dd (.xd [(("at" : Str), .int 0)])) := fun e dd hn => q2 e dd _ ((h2.trans s3).trans (same_new hn _)) upd_same
            have er : rr x = if okB a b = true then some (a, b) else none := by unfold rr; rw [e]; rfl
            refine ⟨_, rfl, p, _, _, _, rfl, rfl, SqT.of e3, rfl, rfl, _, rfl, ?_⟩
            refine iteD (fun c => ?_) (fun c => ?_)
            · have c' : b = 1 := V.int.inj c
              refine iteT ⟨_, rfl, bad3 ?_⟩
              rw [er, c']
              rfl
            · refine ⟨_, rfl, _, .tuple [.int a, .int b], rfl, .tup (SqT.of e3) (.cons (.int a) (.cons (.int b) .nil)), _, rfl, ?_⟩
              have c' : b ≠ 1 := fun z => c (congrArg V.int z)
              have eb : isRat (.tuple [.int a, .int b]) = okB a b := by
                show (decide (0 < b) && decide (Nat.gcd a.natAbs b.natAbs = 1)) = (decide (2 ≤ b) && decide (Nat.gcd a.natAbs b.natAbs = 1))
                congr 1
                exact decide_eq_decide.mpr (by omega)
              rw [eb]
              cases z : okB a b with
              | true =>
                rw [z] at er
                exact iteF ⟨_, rfl, fin er⟩
              | false =>
                rw [z] at er
                exact iteT ⟨_, rfl, bad3 er⟩
end
end Ka

namespace Ka
open PySem PySem.Spec PyProof.Rows L2 Hb Gu Tx Xb
local macro_rules | `(tactic| walk_at "sd") => `(tactic| (first
  | decide
  | exact ⟨by decide, by decide⟩
  | exact ⟨by decide, by decide, by decide⟩
  | exact Or.inl ⟨by decide, by decide⟩
  | exact Or.inr ⟨by decide, by decide⟩
  | exact divw (by decide) (by decide)
  | exact divw (by omega) (by omega)
  | exact Or.inl ⟨by omega, by omega⟩
  | exact Or.inr ⟨by omega, by omega⟩
  | (show (0 : Int) < _; omega)))
local macro_rules | `(tactic| walk_at "sq") => `(tactic| (first | exact SqT.of (by assumption) | exact SqL.of (by assumption) | exact SqL.of upd_same | assumption))
local macro_rules | `(tactic| walk_at "rd") => `(tactic| repeat (first
  | refine ⟨_, rfl, ?_⟩
  | refine ⟨_, _, rfl, rfl, (by walk_at "sd"), ?_⟩
  | refine ⟨_, _, rfl, rfl, ?_⟩
  | refine ⟨_, _, _, _, rfl, rfl, (by walk_at "sq"), rfl, ?_⟩
  | refine ⟨_, _, _, _, rfl, rfl, (by first | assumption | exact upd_same), rfl, ?_⟩
  | refine ⟨_, _, rfl, Or.inl (by walk_at "sq"), ?_⟩
  | refine ⟨_, _, rfl, ?_⟩
  | refine Or.inl ⟨_, rfl, ?_⟩
  | refine ⟨rfl, ?_⟩))
section
variable {P : Program} {w : World} {K : PySem.W.Frag} {mg : Str → Option Value} {base : Heap}
def BoxAt (H : Hp) (p : Addr) : Prop := ∃ g s n : Int, H p = some (.lst [.int g, .int s, .int n]) ∧ 0 ≤ g ∧ (0 ≤ s ∧ s < 2 ^ 40) ∧ 0 ≤ n
/-! ### _law_take -/
abbrev s__law_take : Stmt := top 22
theorem sc__law_take : FnScope ["box", "many", "digit", "raw"] ["box", "many"] (defScope s__law_take) := ⟨rfl, rfl, rfl, by decide +kernel, rfl, by decide +kernel, by decide +kernel⟩
def spTake : Sp := fun vs H Q _ => ∃ (p : Addr) (many : Int), vs = [.ref p, .int many] ∧ (1 ≤ many ∧ many < 2 ^ 30) ∧ BoxAt H p ∧ ∀ d H', 0 ≤ d → d < many → Kept p H H' → BoxAt H' p → Q (.int d) H'
theorem ok_take {f : Addr} {fd : FuncData} (F : Fun K "_law_take" "_law_take" s__law_take f fd) (n_int : mg "int" = none) : FnG P w K mg base CX0 1 f fd ["box", "many"] spTake := by
  refine FnG.of (F.ok sc__law_take (fun vs H Q E h => ?_) (fun cdv A outer s H vs Q E hr h => ?_))
  · obtain ⟨_, _, rfl, _⟩ := h
    rfl
  · obtain ⟨p, many, rfl, hm, ⟨g, s, n, hp, g0, s0, n0⟩, q⟩ := h
    refine ⟨_, (pss_cons (ps_if (pt_cmpR op_gt (pe_ix ix_list (pv 0) (pe_int) (fun _ _ => rfl)) (pe_int) (nomark _)) (pss_cons (ps_set (i := 2) sc__law_take.nd rfl (Or.inl rfl) (pe_op op_mod (pe_callTy call_int1 (by rfl) n_int (by decide +kernel) (pa_cons (pe_ix ix_list (pv 0) (pe_int) (fun _ _ => rfl)) pa_nil)) (pv 1)))
    (pss_cons (ps_asg (pe_op op_fdivW (pe_ix ix_list (pv 0) (pe_int) (fun _ _ => rfl)) (pv 1)) (pg_sub (pv 0) (pe_int) set_list))
    (pss_one (ps_ret (pv 2))))) pss_nil)
    (pss_cons (ps_asg (pe_op op_add (pe_ix ix_list (pv 0) (pe_int) (fun _ _ => rfl)) (pe_int)) (pg_sub (pv 0) (pe_int) set_list))
    (pss_cons (ps_set (i := 3) sc__law_take.nd rfl (Or.inl rfl) (pe_op op_mod (pe_callTy call_int1 (by rfl) n_int (by decide +kernel) (pa_cons (pe_op op_add (pe_op op_mul (pe_op op_add (pe_ix ix_list (pv 0) (pe_int) (fun _ _ => rfl)) (pe_op op_mul (pe_int) (pe_ix ix_list (pv 0) (pe_int) (fun _ _ => rfl)))) (pe_int)) (pe_int)) pa_nil)) (pe_int)))
    (pss_cons (ps_asg (pe_op op_add (pe_op op_mod (pe_callTy call_int1 (by rfl) n_int (by decide +kernel) (pa_cons (pe_op op_add (pe_op op_mul (pv 3) (pe_int)) (pe_int)) pa_nil)) (pe_int)) (pe_int)) (pg_sub (pv 0) (pe_int) set_list))
    (pss_one (ps_ret (pe_op op_mod (pe_callTy call_int1 (by rfl) n_int (by decide +kernel) (pa_cons (pe_op op_fdivW (pe_op op_add (pe_op op_mul (pv 3) (pe_int)) (pe_ix ix_list (pv 0) (pe_int) (fun _ _ => rfl))) (pe_int)) pa_nil)) (pv 1)))))))), ?_⟩
    walk_at "rd"
    refine iteD (fun c => ?_) (fun c => ?_)
    · walk_at "rd"
      exact q _ _ (Int.emod_nonneg _ (by omega)) (Int.emod_lt_of_pos _ (by omega)) kept_upd ⟨_, _, _, upd_same, Int.ediv_nonneg g0 (by omega), s0, n0⟩
    · walk_at "rd"
      refine q _ _ (Int.emod_nonneg _ (by omega)) (Int.emod_lt_of_pos _ (by omega)) (kept_upd.trans kept_upd) ⟨_, _, _, upd_same, g0, ⟨?_, ?_⟩, by omega⟩ <;> omega
/-! ### _law_box -/
abbrev s__law_box : Stmt := top 21
theorem sc__law_box : FnScope ["script", "k", "cell"] ["script", "k"] (defScope s__law_box) := ⟨rfl, rfl, rfl, by decide +kernel, rfl, by decide +kernel, by decide +kernel⟩
def spBox (K : PySem.W.Frag) : Sp := fun vs H Q _ => ∃ (a : Addr) (ns : List Int) (k : Int), vs = [.ref a, .int k] ∧ (0 ≤ k ∧ k ≤ 100) ∧ SqL K H a (ns.map V.int) ∧ ns.length ≤ 63 ∧ ∀ p H', H p = none → Same H H' → BoxAt H' p → Q (.ref p) H'
theorem at_map {ns : List Int} {k : Int} (h0 : 0 ≤ k) (h : k < (ns.length : Int)) : ∃ v : Int, atI (ns.map V.int) k = some (.int v) := by
  have hk : k.toNat < ns.length := by omega
  have ek : k = ((k.toNat : Nat) : Int) := by omega
  have q : atI (ns.map V.int) ((k.toNat : Nat) : Int) = some (.int ns[k.toNat]) := atI_nat (by rw [List.getElem?_map, List.getElem?_eq_getElem hk] <;> rfl)
  rw [← ek] at q
  exact ⟨_, q⟩
theorem abs_nn (i : Int) : 0 ≤ (if i < 0 then -i else i) := by
  by_cases h : i < 0
  · rw [if_pos h]; omega
  · rw [if_neg h]; omega
theorem ok_box {f : Addr} {fd : FuncData} (F : Fun K "_law_box" "_law_box" s__law_box f fd) (n_int : mg "int" = none) (n_len : mg "len" = none) (n_abs : mg "abs" = none) : FnG P w K mg base CX0 1 f fd ["script", "k"] (spBox K) := by
  refine FnG.of (F.ok sc__law_box (fun vs H Q E h => ?_) (fun cdv A outer s H vs Q E hr h => ?_))
  · obtain ⟨_, _, _, rfl, _⟩ := h
    rfl
  · obtain ⟨a, ns, k, rfl, hk, hS, hl, q⟩ := h
    refine ⟨_, (pss_cons (ps_set (i := 2) sc__law_box.nd rfl (Or.inl rfl) (pe_op op_add (pe_op op_mul (pe_int) (pv 1)) (pe_int)))
    (Evl.pss_cut (ps_if (pt_cmpR op_lt (pv 1) (pe_callB call_len_seq (by rfl) n_len PySem.boot_len (pa_cons (pv 0) pa_nil)) (nomark _)) (pss_one (ps_set (i := 2) sc__law_box.nd rfl (Or.inl rfl) (pe_callB call_abs (by rfl) n_abs (by decide +kernel) (pa_cons (pe_ix ix_list (pv 0) (pv 1) (fun _ _ => rfl)) pa_nil)))) (pss_one (ps_if (pt_cmpR op_gt (pe_callB call_len_seq (by rfl) n_len PySem.boot_len (pa_cons (pv 0) pa_nil)) (pe_int) (nomark _)) (pss_one (ps_set (i := 2) sc__law_box.nd rfl (Or.inl rfl) (pe_op op_add (pv 2) (pe_op op_mul (pe_op op_mod (pe_callTy call_int1 (by rfl) n_int (by decide +kernel) (pa_cons (pe_callB call_abs (by rfl) n_abs (by decide +kernel) (pa_cons (pe_ix ix_list (pv 0) (pe_op op_mod (pe_callTy call_int1 (by rfl) n_int (by decide +kernel) (pa_cons (pv 1) pa_nil)) (pe_callB call_len_seq (by rfl) n_len PySem.boot_len (pa_cons (pv 0) pa_nil))) (fun _ _ => rfl)) pa_nil)) pa_nil)) (pe_int)) (pe_int))))) pss_nil)))
    (pss_one (ps_ret (pe_lst (pa_cons (pe_ix ix_list (pe_lst (pa_cons (pe_int) (pa_cons (pv 2) pa_nil))) (pe_callTy call_int1 (by rfl) n_int (by decide +kernel) (pa_cons (pe_cmpR op_ge (pv 2) (pe_op op_pow (pe_int) (pe_int)) (nomark _)) pa_nil)) (fun _ _ => rfl)) (pa_cons (pe_op op_add (pe_op op_mod (pe_callTy call_int1 (by rfl) n_int (by decide +kernel) (pa_cons (pe_op op_add (pe_op op_mul (pe_op op_mod (pe_callTy call_int1 (by rfl) n_int (by decide +kernel) (pa_cons (pv 2) pa_nil)) (pe_int)) (pe_int)) (pe_op op_mul (pe_int) (pv 1))) pa_nil)) (pe_int)) (pe_int)) (pa_cons (pe_int) pa_nil)))))))), ?_⟩
    walk_at "rd"
    refine ⟨fun σ H' => ∃ c : Int, σ = [some (.ref a), some (.int k), some (.int c)] ∧ H' = H ∧ 0 ≤ c, ?_, ?_⟩
    · walk_at "rd"
      rw [List.length_map]
      refine iteD (fun c => ?_) (fun c => ?_)
      · obtain ⟨v, hv⟩ := at_map hk.1 c
        refine ⟨_, rfl, _, rfl, _, _, _, _, rfl, rfl, hS, hv, _, rfl, _, rfl, rfl, abs_nn v⟩
      · walk_at "rd"
        refine iteD (fun c2 => ?_) (fun c2 => ?_)
        · rw [List.length_map] at c2
          obtain ⟨v, hv⟩ := at_map (ns := ns) (k := k % (ns.length : Int)) (Int.emod_nonneg _ (by omega)) (Int.emod_lt_of_pos _ (by omega))
          refine ⟨_, rfl, _, rfl, _, rfl, .inl ⟨_, rfl, _, rfl, _, _, rfl, .inl hS, _, _, rfl, rfl, ?_, _, _, _, V.int v, rfl, rfl, hS, ?_, ?_⟩⟩
          · rw [List.length_map]; exact c2
          · rw [List.length_map]; exact hv
          · walk_at "rd"
            have := Int.emod_nonneg (if v < 0 then -v else v) (show (2147483629 : Int) ≠ 0 by decide)
            omega
        · exact ⟨_, rfl, rfl, by omega⟩
    · rintro σ H' ⟨c, rfl, rfl, hc⟩
      walk_at "rd"
      refine ⟨by show 2 ≤ sizeLine; decide, fun l hl => ?_⟩
      have sl := same_new hl (.lst [.int 0, .int c])
      have el : (upd H' l (.lst [.int 0, .int c])) l = some (.lst [.int 0, .int c]) := upd_same
      generalize upd H' l (.lst [.int 0, .int c]) = H2 at sl el ⊢
      refine ⟨_, rfl, _, _, rfl, rfl, ⟨by decide, by decide, by decide⟩, _, _, rfl, rfl, .inr ⟨_, rfl, ?_⟩⟩
      have fin : ∀ g : Int, 0 ≤ g → ∀ p, H2 p = none → Q (.ref p) (upd H2 p (.lst [.int g, .int ((c % 2147483629 * 48271 + 39191 * k) % 2147483629 + 1), .int 0])) := fun g g0 p hp =>
        q p _ (Evl.fresh_back sl hp) (sl.trans (same_new hp _)) ⟨g, _, _, upd_same, g0, ⟨by omega, by omega⟩, by decide⟩
      cases e : decide ((10 : Int) ^ (18 : Int).toNat ≤ c) with
      | true =>
        refine ⟨l, _, _, _, rfl, rfl, SqL.of el, rfl, ?_⟩
        walk_at "rd"
        exact ⟨by show 3 ≤ sizeLine; decide, fun p hp => fin c hc p hp⟩
      | false =>
        refine ⟨l, _, _, _, rfl, rfl, SqL.of el, rfl, ?_⟩
        walk_at "rd"
        exact ⟨by show 3 ≤ sizeLine; decide, fun p hp => fin 0 (by decide) p hp⟩

/-! ### _law_divisor, _law_low, _law_ratio -/
abbrev s__law_divisor : Stmt := top 25
theorem sc__law_divisor : FnScope ["one", "other"] ["one", "other"] (defScope s__law_divisor) := ⟨rfl, rfl, rfl, by decide +kernel, rfl, by decide +kernel, by decide +kernel⟩
def spDiv : Sp := fun vs H Q _ => ∃ a b : Int, vs = [.int a, .int b] ∧ Q (.int (Int.gcd a b : Nat)) H
theorem abs_eq (i : Int) : (if i < 0 then -i else i) = (i.natAbs : Int) := by
  by_cases h : i < 0
  · rw [if_pos h]; omega
  · rw [if_neg h]; omega
theorem ok_div {f : Addr} {fd : FuncData} (F : Fun K "_law_divisor" "_law_divisor" s__law_divisor f fd) (n_int : mg "int" = none) (n_abs : mg "abs" = none) : FnG P w K mg base CX0 1 f fd ["one", "other"] spDiv := by
  refine FnG.of (F.ok sc__law_divisor (fun vs H Q E h => ?_) (fun cdv A outer s H vs Q E hr h => ?_))
  · obtain ⟨_, _, rfl, _⟩ := h
    rfl
  · obtain ⟨a, b, rfl, q⟩ := h
    refine ⟨_, (pss_cons (ps_par (i := 0) (j := 1) (by rfl) sc__law_divisor.nd rfl rfl (by decide) rfl rfl (pa_cons (pe_callB call_abs (by rfl) n_abs (by decide +kernel) (pa_cons (pv 0) pa_nil)) (pa_cons (pe_callB call_abs (by rfl) n_abs (by decide +kernel) (pa_cons (pv 1) pa_nil)) pa_nil)) (by rfl))
    (pss_cons (ps_while PassesOwn.never (pt_cmpR op_gt (pv 1) (pe_int) (nomark _))
      (pss_one (ps_par (i := 0) (j := 1) (by rfl) sc__law_divisor.nd rfl rfl (by decide) rfl rfl (pa_cons (pv 1) (pa_cons (pe_op op_mod (pe_callTy call_int1 (by rfl) n_int (by decide +kernel) (pa_cons (pv 0) pa_nil)) (pv 1)) pa_nil)) (by rfl))))
    (pss_one (ps_ret (pv 0))))), ?_⟩
    refine ⟨_, rfl, _, rfl, _, rfl, _, rfl, _, _, rfl, ?_⟩
    rw [abs_eq, abs_eq]
    refine ⟨fun m σ H' => ∃ x y : Nat, σ = [some (.int (x : Int)), some (.int (y : Int))] ∧ H' = H ∧ m = y ∧ Nat.gcd x y = Int.gcd a b, ⟨_, a.natAbs, b.natAbs, rfl, rfl, rfl, rfl⟩, ?_⟩
    rintro m σ H' ⟨x, y, rfl, rfl, rfl, e⟩
    walk_at "rd"
    refine iteD (fun c => ?_) (fun c => ?_)
    · refine ⟨_, fun _ _ h => h, ?_⟩
      refine ⟨_, rfl, _, rfl, .inl ⟨_, rfl, _, rfl, _, _, rfl, rfl, c, _, _, rfl, x % m, Nat.mod_lt _ (by omega), m, x % m, ?_, rfl, rfl, ?_⟩⟩
      · show [some (V.int (m : Int)), some (V.int ((x : Int) % (m : Int)))] = _
        rw [← Int.natCast_emod]
      · rw [← e, Nat.gcd_comm x m, Nat.gcd_rec m x, Nat.gcd_comm]
    · have m0 : m = 0 := by omega
      subst m0
      rw [Nat.gcd_zero_right] at e
      walk_at "rd"
      rw [e]
      exact q
/-! ### _law_pick -/
abbrev s__law_pick : Stmt := top 23
theorem sc__law_pick : FnScope ["box", "some"] ["box", "some"] (defScope s__law_pick) := ⟨rfl, rfl, rfl, by decide +kernel, rfl, by decide +kernel, by decide +kernel⟩
def spPick : Sp := fun vs H Q _ => ∃ (p l : Addr) (xs : List V), vs = [.ref p, .ref l] ∧ BoxAt H p ∧ H l = some (.lst xs) ∧ l ≠ p ∧ (1 ≤ xs.length ∧ xs.length ≤ 1000) ∧ ∀ x H', x ∈ xs → Kept p H H' → BoxAt H' p → Q x H'
theorem ok_pick {f : Addr} {fd : FuncData} (F : Fun K "_law_pick" "_law_pick" s__law_pick f fd) (C__law_take : Cg P w K mg base CX0 "_law_take" ["box", "many"] [] 1 spTake) (n_len : mg "len" = none) : FnG P w K mg base CX0 2 f fd ["box", "some"] spPick := by
  refine go_ok F sc__law_pick (fun vs H Q E h => ?_) (fun cdv A outer s H vs Q E hr fr h => ?_)
  · obtain ⟨_, _, _, rfl, _⟩ := h
    rfl
  · obtain ⟨p, l, xs, rfl, hb, hl, ne, ⟨l1, l2⟩, q⟩ := h
    refine ⟨_, (pss_one (ps_ret (pe_ix ix_list (pv 1) (pe_go C__law_take (hr.mono (by decide)) fr rfl (pa_cons (pv 0) (pa_cons (pe_callB call_len_seq (by rfl) n_len PySem.boot_len (pa_cons (pv 1) pa_nil)) pa_nil))) (fun _ _ => rfl)))), ?_⟩
    refine ⟨_, rfl, _, rfl, _, rfl, l, xs, rfl, .inl (SqL.of hl), p, _, rfl, ⟨by omega, by omega⟩, hb, fun d H' d0 d1 k b => ?_⟩
    have hk : d.toNat < xs.length := by omega
    have e : ∃ x, x ∈ xs ∧ atI xs d = some x := ⟨xs[d.toNat], List.getElem_mem hk, by
      have := atI_nat (xs := xs) (j := d.toNat) (v := xs[d.toNat]) (by rw [List.getElem?_eq_getElem hk])
      have ed : ((d.toNat : Nat) : Int) = d := by omega
      rw [ed] at this
      exact this⟩
    obtain ⟨x, hx, e⟩ := e
    exact ⟨l, xs, d, x, rfl, rfl, SqL.of (k l _ hl ne), e, q x H' hx k b⟩
/-! ### _law_sign -/
abbrev s__law_sign : Stmt := top 24
theorem sc__law_sign : FnScope ["number"] ["number"] (defScope s__law_sign) := ⟨rfl, rfl, rfl, by decide +kernel, rfl, by decide +kernel, by decide +kernel⟩
theorem ok_lsign {f : Addr} {fd : FuncData} (F : Fun K "_law_sign" "_law_sign" s__law_sign f fd) (n_int : mg "int" = none) : FnG P w K mg base CX0 1 f fd ["number"] spSign := by
  refine go_ok F sc__law_sign (fun vs H Q E h => ?_) (fun cdv A outer s H vs Q E hr fr h => ?_)
  · obtain ⟨_, rfl, _⟩ := h
    rfl
  · obtain ⟨i, rfl, q⟩ := h
    refine ⟨_, (pss_one (ps_ret (pe_op op_sub (pe_callTy call_int1 (by rfl) n_int (by decide +kernel) (pa_cons (pe_cmpR op_gt (pv 0) (pe_int) (nomark _)) pa_nil)) (pe_callTy call_int1 (by rfl) n_int (by decide +kernel) (pa_cons (pe_cmpR op_lt (pv 0) (pe_int) (nomark _)) pa_nil))))), ?_⟩
    refine ⟨_, rfl, _, _, rfl, rfl, .inr ⟨_, rfl, _, rfl, _, _, rfl, rfl, .inr ⟨_, rfl, _, _, rfl, rfl, ?_⟩⟩⟩
    have e : (if decide (0 < i) = true then (1 : Int) else 0) - (if decide (i < 0) = true then (1 : Int) else 0) = i.sign := by
      rcases Int.lt_trichotomy i 0 with c | c | c
      · rw [Int.sign_eq_neg_one_of_neg c, decide_eq_true c, decide_eq_false (show ¬ 0 < i by omega)]; rfl
      · subst c; rfl
      · rw [Int.sign_eq_one_of_pos c, decide_eq_true c, decide_eq_false (show ¬ i < 0 by omega)]; rfl
    rw [← e] at q
    exact q
/-! ### _law_low -/
abbrev s__law_low : Stmt := top 26
theorem sc__law_low : FnScope ["top", "bottom", "shared"] ["top", "bottom"] (defScope s__law_low) := ⟨rfl, rfl, rfl, by decide +kernel, rfl, by decide +kernel, by decide +kernel⟩
theorem ok_low {f : Addr} {fd : FuncData} (F : Fun K "_law_low" "_law_low" s__law_low f fd) (C__law_divisor : Cg P w K mg base CX0 "_law_divisor" ["one", "other"] [] 1 spDiv) : FnG P w K mg base CX0 2 f fd ["top", "bottom"] spBy := by
  refine go_ok F sc__law_low (fun vs H Q E h => ?_) (fun cdv A outer s H vs Q E hr fr h => ?_)
  · obtain ⟨_, _, rfl, _⟩ := h
    rfl
  · obtain ⟨a, b, rfl, hb, hs, q⟩ := h
    refine ⟨_, (pss_cons (ps_set (i := 2) sc__law_low.nd rfl (Or.inl rfl) (pe_go C__law_divisor (hr.mono (by decide)) fr rfl (pa_cons (pv 0) (pa_cons (pv 1) pa_nil))))
    (Evl.pss_cut (ps_if (pt_cmpR op_lt (pv 1) (pe_int) (nomark _)) (pss_one (ps_set (i := 2) sc__law_low.nd rfl (Or.inl rfl) (pe_op op_sub (pe_int) (pv 2)))) pss_nil)
    (pss_one (ps_ret (pe_tup (pa_cons (pe_op op_fdivZ (pv 0) (pv 2)) (pa_cons (pe_op op_fdivZ (pv 1) (pv 2)) pa_nil))))))), ?_⟩
    refine ⟨_, rfl, _, rfl, a, b, rfl, ?_⟩
    refine ⟨fun σ H' => σ = [some (.int a), some (.int b), some (.int (sg a b))] ∧ H' = H, ?_, ?_⟩
    · refine ⟨_, rfl, _, _, rfl, rfl, _, rfl, ?_⟩
      refine iteD (fun c => ?_) (fun c => ?_)
      · refine ⟨_, rfl, _, _, rfl, rfl, ?_, rfl⟩
        unfold sg
        rw [if_pos c, ← Int.zero_sub]
        rfl
      · refine ⟨?_, rfl⟩
        unfold sg
        rw [if_neg c]
        rfl
    · rintro σ H' ⟨rfl, rfl⟩
      obtain ⟨h1, h2⟩ := sg_ok (a := a) hb hs
      refine ⟨_, rfl, _, rfl, _, _, rfl, rfl, divz h1 h2, _, rfl, _, rfl, _, _, rfl, rfl, divz h1 h2, by show 2 ≤ sizeLine; decide, fun p hp => ?_⟩
      exact q p _ (same_new hp _) upd_same
/-! ### _law_integer, _law_drawn -/
abbrev s__law_integer : Stmt := top 27
theorem sc__law_integer : FnScope ["box"] ["box"] (defScope s__law_integer) := ⟨rfl, rfl, rfl, by decide +kernel, rfl, by decide +kernel, by decide +kernel⟩
def spInteger : Sp := fun vs H Q _ => ∃ p : Addr, vs = [.ref p] ∧ BoxAt H p ∧ ∀ (i : Int) H', (-(2 ^ 40) < i ∧ i < 2 ^ 40) → Kept p H H' → BoxAt H' p → Q (.int i) H'
theorem BoxAt.mono {H H' : Hp} {p : Addr} (h : BoxAt H p) (s : Same H H') : BoxAt H' p := by
  obtain ⟨g, s', n, e, r⟩ := h
  exact ⟨g, s', n, s _ _ e, r⟩
theorem ok_integer {f : Addr} {fd : FuncData} (F : Fun K "_law_integer" "_law_integer" s__law_integer f fd) (C__law_take : Cg P w K mg base CX0 "_law_take" ["box", "many"] [] 1 spTake) (C__law_pick : Cg P w K mg base CX0 "_law_pick" ["box", "some"] [] 2 spPick) : FnG P w K mg base CX0 3 f fd ["box"] spInteger := by
  refine go_ok F sc__law_integer (fun vs H Q E h => ?_) (fun cdv A outer s H vs Q E hr fr h => ?_)
  · obtain ⟨_, rfl, _⟩ := h
    rfl
  · obtain ⟨p, rfl, hb, q⟩ := h
    refine ⟨_, (pss_cons (ps_if (pt_cmpR op_gt (pe_go C__law_take (hr.mono (by decide)) fr rfl (pa_cons (pv 0) (pa_cons (pe_int) pa_nil))) (pe_int) (nomark _)) (pss_one (ps_ret (pe_op op_sub (pe_go C__law_take (hr.mono (by decide)) fr rfl (pa_cons (pv 0) (pa_cons (pe_int) pa_nil))) (pe_int)))) pss_nil)
    (pss_one (ps_ret (pe_op op_mul (pe_op op_add (pe_op op_mul (pe_go C__law_take (hr.mono (by decide)) fr rfl (pa_cons (pv 0) (pa_cons (pe_op op_pow (pe_int) (pe_int)) pa_nil))) (pe_op op_pow (pe_int) (pe_int))) (pe_go C__law_take (hr.mono (by decide)) fr rfl (pa_cons (pv 0) (pa_cons (pe_op op_pow (pe_int) (pe_int)) pa_nil)))) (pe_go C__law_pick (hr.mono (by decide)) fr rfl (pa_cons (pv 0) (pa_cons (pe_lst (pa_cons (pe_int) (pa_cons (pe_op op_sub (pe_int) (pe_int)) pa_nil))) pa_nil))))))), ?_⟩
    refine ⟨_, rfl, p, _, rfl, ⟨by decide, by decide⟩, hb, fun d H1 d0 d1 k1 b1 => ?_⟩
    refine ⟨_, _, rfl, rfl, _, rfl, ?_⟩
    refine iteD (fun c => ?_) (fun c => ?_)
    · refine ⟨_, rfl, p, _, rfl, ⟨by decide, by decide⟩, b1, fun e H2 e0 e1 k2 b2 => ?_⟩
      exact ⟨_, _, rfl, rfl, q _ H2 ⟨by omega, by omega⟩ (k1.trans k2) b2⟩
    · refine ⟨_, rfl, _, _, rfl, rfl, ⟨by decide, by decide, by decide⟩, p, _, rfl, ⟨by decide, by decide⟩, b1, fun e H2 e0 e1 k2 b2 => ?_⟩
      replace e1 : e < 1000000 := e1
      refine ⟨_, _, rfl, rfl, ⟨by decide, by decide, by decide⟩, _, _, rfl, rfl, .inl ⟨by omega, by omega⟩, _, rfl, _, _, rfl, rfl, ⟨by decide, by decide, by decide⟩, p, _, rfl, ⟨by decide, by decide⟩, b2, fun g H3 g0 g1 k3 b3 => ?_⟩
      replace g1 : g < 1000000 := g1
      refine ⟨_, _, rfl, rfl, _, rfl, _, _, rfl, rfl, by show 2 ≤ sizeLine; decide, fun l hl => ?_⟩
      have s4 := same_new hl (.lst [.int 1, .int (0 - 1)])
      have e4 : (upd H3 l (.lst [.int 1, .int (0 - 1)])) l = some (.lst [.int 1, .int (0 - 1)]) := upd_same
      have ne : l ≠ p := fun z => by
        obtain ⟨_, _, _, e, _⟩ := b3
        rw [← z, hl] at e
        cases e
      generalize upd H3 l (.lst [.int 1, .int (0 - 1)]) = H4 at s4 e4 ⊢
      refine ⟨p, l, _, rfl, b3.mono s4, e4, ne, ⟨by decide, by decide⟩, fun x H5 hx k5 b5 => ?_⟩
      have kk : Kept p H H5 := k1.trans (k2.trans (k3.trans ((Hb.Same.kept s4).trans k5)))
      rcases List.mem_cons.mp hx with z | z
      · subst z
        refine ⟨_, _, rfl, rfl, .inl ⟨?_, ?_⟩, q _ H5 ⟨?_, ?_⟩ kk b5⟩ <;> show _ < _ <;> (try (show _ < (2 : Int) ^ _)) <;> simp only [show ((10 : Int) ^ (6 : Int).toNat) = 1000000 from rfl] <;> omega
      · have z := List.mem_singleton.mp z
        subst z
        refine ⟨_, _, rfl, rfl, .inl ⟨?_, ?_⟩, q _ H5 ⟨?_, ?_⟩ kk b5⟩ <;> simp only [show ((10 : Int) ^ (6 : Int).toNat) = 1000000 from rfl] <;> omega
end
end Ka

namespace Xb
open PySem PySem.Spec PyProof.Rows L2
/-- isinstance of the caught error, whose own dict is known -/
structure IsC (K : PySem.W.Frag) (C : Addr) : Prop where
  cl : (PySem.W.clsIn K C).isSome = true
  ga : PySem.W.findIn K (.ref C) "__getattribute__" = some (some (.builtin "BaseException.__getattribute__"))
  gg : PySem.W.findIn K (.ref C) "__getattr__" = some none
  ex : PySem.W.subIn K (.ref C) (.type "BaseException") = some true
  c1 : PySem.W.findIn K (.ref C) "__class__" = some (some (.builtin "object.__class__"))
  c2 : PySem.W.specialIn K (.builtin "object.__class__") "__get__" = some (some (.builtin "getset_descriptor.__get__"))
  c3 : PySem.W.takesIn K (.builtin "object.__class__") = some true
  c4 : PySem.W.mroIn K C (.type "object") = some true
def rIsAt (K : PySem.W.Frag) (a : Addr) (cls : Value) (d : Option Addr) (C : Addr) : List V → Hp → VK → Prop := fun xs H Q => cls = .ref C ∧ ∃ (c : V) (cv : Value) (b : Bool) (dd : Addr) (fs : List (Str × V)), xs = [.ref a, c] ∧ d = some dd ∧ H dd = some (.xd fs) ∧ (∀ u, RelV c u → u = cv) ∧ PySem.W.kitOne K (.ref C) cv = some b ∧ Q (.bl b) H
theorem call_isAt {X : Cx} {a C : Addr} {cls : Value} {d : Option Addr} {oe : Obj} {pn : List (Addr × Obj)} (T : IsC X.K C) (hz : Zc cls d oe) (hf : ∃ vs, oe.data = .fields vs) : CallR (X.suite a ((a, oe) :: pn)) (.builtin "isinstance") (rIsAt X.K a cls d C) := by
  intro pins s σ H xs us Q I r h
  obtain ⟨rfl, c, cv, b, dd, fs, rfl, rfl, ea, hcv, e, q⟩ := h
  match us, r with
  | [_, _], .cons r1 (.cons r2 .nil) =>
    cases r1
    have ec := hcv _ r2
    subst ec
    have pin := (I.pin (a, oe) (List.mem_append.mpr (.inl List.mem_cons_self))).1
    obtain ⟨vs, hv⟩ := hf
    obtain ⟨mA, hns, _⟩ := (I.hok dd _ ea : ObjOk X.prog X.w H s.heap dd (.xd fs))
    obtain ⟨od, ho, _⟩ := lookIn_ns hns
    have J : PySem.W.InstAt s.heap a oe C (some od) := ⟨pin, hz.1, by unfold PySem.W.notCls; rw [hv] <;> rfl, by rw [hz.2]; exact ho⟩
    exact PySem.W.kia_one (PySem.W.kitx_exc T.cl T.ga T.gg T.ex T.c1 T.c2 T.c3 T.c4) I.kIn J e (by intro z; cases z) fun tk => ⟨.bl b, H, I.kept (t' := tk) fun _ _ z => z, rfl, q⟩
end Xb
namespace Ka
open PySem PySem.Spec PyProof.Rows L2 Hb Gu Tx Xb
theorem lc_str {x : Str} {g : TG} {tt : TT} {te : TE} {vs : List Nat} {σ : L2.St} {H1 : Hp} {D : Addr} {Qd : Hp → Prop} (Pv : Nat → Hp → Prop) (h0 : Pv 0 (upd H1 D (.lst [])))
    (hs : ∀ i c H, (tl x)[i]? = some c → Pv i H → g (.str (c1 c)) (wipe σ vs) H fun σ2 H2 => wipe σ2 vs = wipe σ vs ∧ tt σ2 H2 fun b H3 =>
      if b = true then te σ2 H3 fun y H4 => ∃ acc, H4 D = some (.lst acc) ∧ acc.length < sizeLine ∧ Pv (i + 1) (upd H4 D (.lst (acc ++ [y]))) else Pv (i + 1) H3) (hd : ∀ H, Pv (tl x).length H → Qd H) :
    ∃ W : Nat → Nat → Hp → Prop, (∃ m, W 0 m (upd H1 D (.lst []))) ∧ ∀ i m H, W i m H →
      ((Its x).stop i H ∧ Qd H) ∨ ((Its x).go i H ∧ ∃ Nx : Hp → Prop, (∀ H', Nx H' → ∃ m', m' < m ∧ W (i + 1) m' H') ∧ ∀ v H', (Its x).yld i H v H' → g v (wipe σ vs) H' fun σ2 H2 => wipe σ2 vs = wipe σ vs ∧ tt σ2 H2 fun b H3 =>
        if b = true then te σ2 H3 fun y H4 => ∃ acc, H4 D = some (.lst acc) ∧ acc.length < sizeLine ∧ Nx (upd H4 D (.lst (acc ++ [y]))) else Nx H3) := by
  have hx : x.cps.size = (tl x).length := by show x.cps.size = x.cps.toList.length; rw [Array.length_toList]
  refine ⟨fun i m H => m + i = (tl x).length ∧ Pv i H, ⟨(tl x).length, rfl, h0⟩, fun i m H ⟨e, p⟩ => ?_⟩
  cases m with
  | zero =>
    have e' : i = (tl x).length := by omega
    subst e'
    exact .inl ⟨by show x.cps.size ≤ _; omega, hd H p⟩
  | succ m =>
    refine .inr ⟨by show i < x.cps.size; omega, Pv (i + 1), fun H' p' => ⟨m, Nat.lt_succ_self m, by omega, p'⟩, fun v H' y => ?_⟩
    obtain ⟨rfl, c, hc, rfl⟩ := y
    exact hs i c _ (by show x.cps.toList[i]? = _; rw [Array.getElem?_toList]; exact hc) p
section
variable {P : Program} {w : World} {K : PySem.W.Frag} {mg : Str → Option Value} {base : Heap}
/-! ### _law_part -/
abbrev s__law_part : Stmt := top 29
theorem sc__law_part : FnScope ["text", "figures", "sign"] ["text"] (defScope s__law_part) := ⟨rfl, rfl, rfl, by decide +kernel, rfl, by decide +kernel, by decide +kernel⟩
def sgs (l : List Nat) : List V := l.map fun c => V.str (c1 c)
def sgD (l : List Nat) : List PyData := l.map fun c => PyData.str (c1 c)
def okC (l : List Nat) : Prop := ∀ c ∈ l, c < 1114112
def okS (x : Str) : Prop := okC (tl x)
theorem sgs_dp {H : Hp} : ∀ l : List Nat, DpAll K H (sgs l) (sgD l)
  | [] => .nil
  | c :: l => .cons (.str _) (sgs_dp l)
theorem sgs_lay : ∀ l : List Nat, okC l → PyData.canLayAll0 (sgD l) = true ∧ PyData.depthAll (sgD l) = 0
  | [], _ => ⟨rfl, rfl⟩
  | c :: l, h => by
    obtain ⟨h1, h2⟩ := sgs_lay l fun a ha => h a (List.mem_cons_of_mem _ ha)
    have hc := h c List.mem_cons_self
    constructor
    · show (PyData.strOk (c1 c) && PyData.canLayAll0 (sgD l)) = true
      have : PyData.strOk (c1 c) = true := by
        unfold PyData.strOk
        show (#[c] : Array Nat).all (fun n => decide (n < 1114112)) = true
        rw [← Array.all_toList]
        show (decide (c < 1114112) && true) = true
        rw [decide_eq_true hc]; rfl
      rw [h1, this]; rfl
    · show max 0 (PyData.depthAll (sgD l)) = 0
      rw [h2]; rfl
theorem sgs_shaped (l : List Nat) (h : okC l) : SeqAt.shaped (.list (sgD l)) = true := by
  obtain ⟨h1, h2⟩ := sgs_lay l h
  unfold SeqAt.shaped
  rw [Bool.and_eq_true]
  refine ⟨h1, decide_eq_true ?_⟩
  show PyData.depthAll _ + 1 ≤ 64
  rw [h2]
  decide
theorem sgs_eqv (l : List Nat) : PyData.eqv (.list (sgD l)) (.list []) = l.isEmpty := by
  cases l <;> simp [PyData.eqv, PyData.eqvAll, sgD]
def spPart : Sp := fun vs H Q _ => ∃ x : Str, vs = [.str x] ∧ x.length ≤ 10000 ∧ okS x ∧ ∀ H', Same H H' → Q (vI (wpart (tl x))) H'
theorem isD_mem (c : Nat) : decide (c ∈ (Str.ofString "0123456789").cps.toList) = isD c := by
  have e : (Str.ofString "0123456789").cps.toList = [48, 49, 50, 51, 52, 53, 54, 55, 56, 57] := by decide +kernel
  rw [e]
  unfold isD
  rw [← Bool.decide_and]
  refine decide_eq_decide.mpr ?_
  simp only [List.mem_cons, List.not_mem_nil, or_false]
  omega
theorem ok_part {f : Addr} {fd : FuncData} (F : Fun K "_law_part" "_law_part" s__law_part f fd) (n_len : mg "len" = none) (n_int : mg "int" = none) : FnG P w K mg base CX0 1 f fd ["text"] spPart := by
  refine go_ok F sc__law_part (fun vs H Q E h => ?_) (fun cdv A outer s H vs Q E hr fr h => ?_)
  · obtain ⟨_, rfl, _⟩ := h
    rfl
  · obtain ⟨x, rfl, hx, okx, q⟩ := h
    refine ⟨_, (Evl.pss_cut (ps_set (i := 1) sc__law_part.nd rfl (Or.inl rfl) (pe_ifExp (pt_cmpR op_eq (pe_slice sl_str (pv 0) po_none (po_some (pe_int))) (pe_str) (nomark _)) (pe_slice sl_str (pv 0) (po_some (pe_int)) po_none) (pv 0)))
    (Evl.pss_cut (ps_if (PW.pt (pw_or (pt_cmpR op_lt (pe_callB call_len_str (by rfl) n_len PySem.boot_len (pa_cons (pv 1) pa_nil)) (pe_int) (nomark _)) (pw_or (pt_cmpR op_gt (pe_callB call_len_str (by rfl) n_len PySem.boot_len (pa_cons (pv 1) pa_nil)) (pe_int) (nomark _)) (pw_or1 (pt_cmpR (op_neD hr.units) (pe_lc (own := [("sign", 2)]) (g := gName 2) rfl sc__law_part.nd (pi_str (pv 1)) (blkOk_by (N := ["text", "figures", "sign"]) (sc := defScope s__law_part) (by decide +kernel)) (fun _ _ _ _ _ => pg_name (i := 2) sc__law_part.nd rfl (Or.inl rfl)) (fun _ _ _ _ _ => pts_one (pt_cmpR op_notIn_sign (pv 2) (pe_str) rfl)) (fun _ _ _ _ _ => pv 2)) (pe_lst pa_nil) (nomark _)))))) (pss_one (ps_ret (pe_non))) pss_nil)
    (pss_cons (ps_if (PW.pt (pw_and (pt_cmpR op_eq (pe_ix ix_str (pv 1) (pe_int) (fun _ _ => rfl)) (pe_str) (nomark _)) (pw_and1 (pt_cmpR op_ne (pv 0) (pe_str) (nomark _))))) (pss_one (ps_ret (pe_non))) pss_nil)
    (pss_one (ps_ret (pe_callTy call_int_str (by rfl) n_int (by decide +kernel) (pa_cons (pv 0) pa_nil))))))), ?_⟩
    have hxl := len_tl x
    have hline : ∀ {n : Nat}, n ≤ 10000 → n ≤ sizeLine := fun h => Nat.le_trans h (by decide)
    have s45 : Str.ofString "-" = c1 45 := by rfl
    have s48 : Str.ofString "0" = c1 48 := by rfl
    refine ⟨fun σ H' => ∃ y : Str, σ = [some (.str x), some (.str y), none] ∧ H' = H ∧ tl y = figs (tl x), ?_, ?_⟩
    · refine ⟨_, rfl, 1, rfl, x, rfl, hline hx, rfl, _, rfl, ?_⟩
      rw [s45, str_eq]
      have z1 : tl (cutS x none (some 1)) = (tl x).take 1 := cut_to x 1
      have z2 : tl (cutS x (some 1) none) = (tl x).drop 1 := cut_from x 1
      rw [z1]
      refine iteD (fun c => ?_) (fun c => ?_)
      · refine ⟨_, rfl, 1, rfl, x, rfl, hline hx, cutS x (some 1) none, rfl, rfl, ?_⟩
        rw [z2]
        cases e : tl x with
        | nil => rw [e] at c; cases c
        | cons a r =>
          rw [e] at c
          have : a = 45 := by simpa using c
          subst this
          rfl
      · refine ⟨_, rfl, x, rfl, rfl, ?_⟩
        unfold figs
        split
        · next r e => rw [e] at c; exact absurd rfl c
        · rfl
    · rintro σ H' ⟨y, rfl, rfl, ey⟩
      have hyl := len_tl y
      rw [ey] at hyl
      have fl := figs_len (tl x)
      have no : okW (tl x) = false → ∀ H2, Same H' H2 → Q .non H2 := fun z H2 h2 => by
        have e : wpart (tl x) = none := by unfold wpart; rw [z]; rfl
        rw [e] at q
        exact q H2 h2
      have okf : okC (figs (tl x)) := fun c hc => by
        refine okx c ?_
        unfold figs at hc
        split at hc
        · next r e => rw [e]; exact List.mem_cons_of_mem _ hc
        · exact hc
      refine ⟨fun σ H2 => σ = [some (.str x), some (.str y), none] ∧ Same H' H2 ∧ (1 ≤ (figs (tl x)).length ∧ (figs (tl x)).length ≤ 9) ∧ (figs (tl x)).all isD = true, ?_, ?_⟩
      · refine ⟨_, rfl, y, rfl, hline (by omega), _, _, rfl, rfl, _, rfl, ?_⟩
        refine iteD (fun c => ?_) (fun c => ?_)
        · refine iteT (no ?_ H' (Evl.Ex.refl _))
          unfold okW
          rw [decide_eq_false (show ¬ 1 ≤ (figs (tl x)).length by omega)]
          rfl
        refine ⟨_, rfl, y, rfl, hline (by omega), _, _, rfl, rfl, _, rfl, ?_⟩
        refine iteD (fun c2 => ?_) (fun c2 => ?_)
        · refine iteT (no ?_ H' (Evl.Ex.refl _))
          unfold okW
          rw [decide_eq_false (show ¬ (figs (tl x)).length ≤ 9 by omega)]
          cases decide (1 ≤ (figs (tl x)).length) <;> rfl
        refine ⟨_, rfl, y, rfl, fun D hD => lc_str (fun i H2 => Same H' H2 ∧ H2 D = some (.lst (sgs (((figs (tl x)).take i).filter fun c => !isD c)))) ?_ ?_ ?_⟩
        · exact ⟨same_new hD _, upd_same⟩
        · rintro i c H2 hi ⟨h1, h2⟩
          rw [ey] at hi
          refine ⟨rfl, _, rfl, c, Str.ofString "0123456789", rfl, rfl, _, rfl, ?_⟩
          rw [isD_mem]
          cases z : isD c with
          | true =>
            refine iteF ⟨h1, ?_⟩
            rw [h2, List.take_add_one, hi, List.filter_append]
            simp [z]
          | false =>
            refine iteT ⟨_, rfl, _, h2, ?_, Evl.Ex.mut h1 hD, ?_⟩
            · refine Nat.lt_of_le_of_lt (m := 10) ?_ (by decide)
              unfold sgs
              rw [List.length_map]
              refine Nat.le_trans (List.length_filter_le _ _) ?_
              rw [List.length_take]
              omega
            · rw [upd_same, List.take_add_one, hi, List.filter_append]
              simp [z, sgs]
        · rintro H2 ⟨h1, h2⟩
          rw [ey, List.take_length] at h2
          refine ⟨by show 0 ≤ sizeLine; exact Nat.zero_le _, fun l hl => ?_⟩
          have s3 := same_new hl (.lst [])
          have e3 : (upd H2 l (.lst [])) l = some (.lst []) := upd_same
          generalize upd H2 l (.lst []) = H3 at s3 e3 ⊢
          have sh : okC ((figs (tl x)).filter fun c => !isD c) := fun c hc => okf c ((List.mem_filter.mp hc).1)
          refine ⟨.list (sgD ((figs (tl x)).filter fun c => !isD c)), .list [], .lst (SqL.of (s3 _ _ h2)) (sgs_dp _), .lst (SqL.of e3) .nil, sgs_shaped _ sh, rfl, _, rfl, ?_⟩
          rw [sgs_eqv]
          cases z : ((figs (tl x)).filter fun c => !isD c).isEmpty with
          | true =>
            refine iteF ⟨rfl, h1.trans s3, ⟨by omega, by omega⟩, ?_⟩
            refine List.all_eq_true.mpr fun c hc => ?_
            have := List.isEmpty_iff.mp z
            rw [List.filter_eq_nil_iff] at this
            simpa using this c hc
          | false =>
            refine iteT (no ?_ H3 (h1.trans s3))
            have ha : (figs (tl x)).all isD = false := by
              rw [Bool.eq_false_iff]
              intro t
              have : ((figs (tl x)).filter fun c => !isD c) = [] := List.filter_eq_nil_iff.mpr fun c hc => by simp [List.all_eq_true.mp t c hc]
              rw [this] at z
              cases z
            unfold okW
            rw [ha]
            cases decide (1 ≤ (figs (tl x)).length) <;> cases decide ((figs (tl x)).length ≤ 9) <;> rfl
      · rintro σ H2 ⟨rfl, h2, ⟨h1, h9⟩, hd⟩
        have okx' : okW (tl x) = !(decide ((figs (tl x)).head? = some 48) && !decide (tl x = [48])) := by
          unfold okW
          rw [decide_eq_true h1, decide_eq_true h9, hd]
          rfl
        have yes : okW (tl x) = true → tRet (tCB (fun xs H Q => ∃ a n, xs = [V.str a] ∧ intText? a = some n ∧ a.length ≤ 640 ∧ Q (V.int n) H) (tCons (tVar 0) tNil)) { nx := fun _ H' => Q .non H', rt := Q } [some (.str x), some (.str y), none] H2 := fun z => by
          obtain ⟨i1, i2⟩ := int_word z
          refine ⟨_, rfl, x, _, rfl, i1, i2, ?_⟩
          have e : wpart (tl x) = some (valW (tl x)) := by unfold wpart; rw [if_pos z]
          rw [e] at q
          exact q H2 h2
        obtain ⟨a, r, er⟩ : ∃ a r, figs (tl x) = a :: r := by
          cases e : figs (tl x) with
          | nil => rw [e] at h1; exact absurd h1 (by decide)
          | cons a r => exact ⟨a, r, rfl⟩
        have ey' : tl y = a :: r := by rw [ey, er]
        have at0 : atI y.cps.toList 0 = some a := by
          show atI (tl y) 0 = some a
          rw [ey']
          exact atI_nat (j := 0) rfl
        refine ⟨_, rfl, y, 0, a, rfl, rfl, hline (by omega), at0, rfl, _, rfl, ?_⟩
        have e48 : decide (V.str ⟨#[a]⟩ = V.str (Str.ofString "0")) = decide ((figs (tl x)).head? = some 48) := by
          rw [s48, str_eq, er]
          show decide ([a] = [48]) = decide (some a = some 48)
          exact decide_eq_decide.mpr (by simp)
        rw [e48]
        cases e1 : decide ((figs (tl x)).head? = some 48) with
        | false =>
          rw [e1] at okx'
          exact iteF (iteF (yes okx'))
        | true =>
          refine iteT ⟨_, rfl, rfl, _, rfl, ?_⟩
          show if (!decide (V.str x = V.str (Str.ofString "0"))) = true then _ else _
          rw [s48, str_eq]
          rw [e1] at okx'
          cases e2 : decide (tl x = [48]) with
          | true =>
            rw [e2] at okx'
            exact iteF (yes okx')
          | false =>
            rw [e2] at okx'
            exact iteT (no okx' H2 h2)
end
end Ka

namespace Ka
open PySem PySem.Spec PyProof.Rows L2 Hb Gu Tx Xb
section
variable {P : Program} {w : World} {K : PySem.W.Frag} {mg : Str → Option Value} {base : Heap}
/-! ### _law_reads -/
def OptR (H : Hp) (v : V) : Option (Int × Int) → Prop
  | none => v = .non
  | some (a, b) => IsR H v a b
theorem OptR.mono {H H' : Hp} {v : V} {o : Option (Int × Int)} (s : Same H H') (h : OptR H v o) : OptR H' v o := by
  cases o with
  | none => exact h
  | some o => exact IsR.mono s h
theorem rr_no {x : Str} (h : (47 : Nat) ∉ tl x) : rr x = (wpart (tl x)).map fun a => (a, 1) := by
  unfold rr pieces
  rw [spl_no h]
  show ofP [wpart (tl x)] = _
  cases wpart (tl x) <;> rfl
theorem wpart_47 {l : List Nat} (h : (47 : Nat) ∈ l) : wpart l = none := by
  have hf : 47 ∈ figs l := by
    unfold figs
    split
    · rcases List.mem_cons.mp h with z | z
      · cases z
      · exact z
    · exact h
  have ha : (figs l).all isD = false := by
    rw [Bool.eq_false_iff]
    intro t
    have := List.all_eq_true.mp t 47 hf
    revert this
    decide
  unfold wpart okW
  rw [ha]
  cases decide (1 ≤ (figs l).length) <;> cases decide ((figs l).length ≤ 9) <;> rfl
def two (a b : Option Int) : Option (Int × Int) :=
  match a, b with
  | some a, some b => if okB a b = true then some (a, b) else none
  | _, _ => none
theorem rr_yes {x : Str} {p r : List Nat} (e : tl x = p ++ 47 :: r) (h : (47 : Nat) ∉ p) : rr x = two (wpart p) (wpart r) := by
  unfold rr pieces
  rw [e, spl_yes h]
  by_cases hr : (47 : Nat) ∈ r
  · obtain ⟨p2, r2, e2, h2⟩ := cut_at hr
    rw [wpart_47 hr, e2, spl_yes h2]
    cases e3 : TL.spl [47] 0 [] r2 with
    | nil =>
      by_cases hr2 : (47 : Nat) ∈ r2
      · obtain ⟨p3, r3, e4, h4⟩ := cut_at hr2
        rw [e4, spl_yes h4] at e3
        cases e3
      · rw [spl_no hr2] at e3
        cases e3
    | cons a b =>
      show ofP (wpart p :: wpart p2 :: wpart a :: b.map wpart) = _
      cases wpart p <;> cases wpart p2 <;> rfl
  · rw [spl_no hr]
    show ofP [wpart p, wpart r] = _
    cases wpart p <;> cases wpart r <;> rfl
abbrev s__law_reads : Stmt := top 30
theorem sc__law_reads : FnScope ["text", "at", "whole", "top", "bottom"] ["text"] (defScope s__law_reads) := ⟨rfl, rfl, rfl, by decide +kernel, rfl, by decide +kernel, by decide +kernel⟩
def spReads : Sp := fun vs H Q _ => ∃ x : Str, vs = [.str x] ∧ x.length ≤ 10000 ∧ okS x ∧ ∀ v H', Same H H' → OptR H' v (rr x) → Q v H'
theorem ok_reads {f : Addr} {fd : FuncData} (F : Fun K "_law_reads" "_law_reads" s__law_reads f fd) (C__law_part : Cg P w K mg base CX0 "_law_part" ["text"] [] 1 spPart) (C__law_divisor : Cg P w K mg base CX0 "_law_divisor" ["one", "other"] [] 1 spDiv) : FnG P w K mg base CX0 2 f fd ["text"] spReads := by
  refine go_ok F sc__law_reads (fun vs H Q E h => ?_) (fun cdv A outer s H vs Q E hr fr h => ?_)
  · obtain ⟨_, rfl, _⟩ := h
    rfl
  · obtain ⟨x, rfl, hx, okx, q⟩ := h
    refine ⟨_, (pss_cons (ps_set (i := 1) sc__law_reads.nd rfl (Or.inl rfl) (pe_m1 PySem.F.slot_str_find PySem.F.type_str_find mt_find (pv 0) (pe_str)))
    (pss_cons (ps_if (pt_cmpR op_lt (pv 1) (pe_int) (nomark _)) (pss_cons (ps_set (i := 2) sc__law_reads.nd rfl (Or.inl rfl) (pe_go C__law_part (hr.mono (by decide)) fr rfl (pa_cons (pv 0) pa_nil)))
    (pss_one (ps_ret (pe_ifExp (pt_cmpR op_isN (pv 2) (pe_non) (nomark _)) (pe_non) (pe_tup (pa_cons (pv 2) (pa_cons (pe_int) pa_nil))))))) pss_nil)
    (pss_cons (ps_par (i := 3) (j := 4) (by rfl) sc__law_reads.nd rfl rfl (by decide) rfl rfl (pa_cons (pe_go C__law_part (hr.mono (by decide)) fr rfl (pa_cons (pe_slice sl_str (pv 0) po_none (po_some (pv 1))) pa_nil)) (pa_cons (pe_go C__law_part (hr.mono (by decide)) fr rfl (pa_cons (pe_slice sl_str (pv 0) (po_some (pe_op op_add (pv 1) (pe_int))) po_none) pa_nil)) pa_nil)) (by rfl))
    (pss_cons (ps_if (PW.pt (pw_or (pt_cmpR op_isN (pv 3) (pe_non) (nomark _)) (pw_or (pt_cmpR op_isN (pv 4) (pe_non) (nomark _)) (pw_or (pt_cmpR op_lt (pv 4) (pe_int) (nomark _)) (pw_or1 (pt_cmpR op_ne (pe_go C__law_divisor (hr.mono (by decide)) fr rfl (pa_cons (pv 3) (pa_cons (pv 4) pa_nil))) (pe_int) (nomark _))))))) (pss_one (ps_ret (pe_non))) pss_nil)
    (pss_one (ps_ret (pe_tup (pa_cons (pv 3) (pa_cons (pv 4) pa_nil))))))))), ?_⟩
    have hxl := len_tl x
    have hline : ∀ {n : Nat}, n ≤ 10000 → n ≤ sizeLine := fun h => Nat.le_trans h (by decide)
    have s47 : Str.ofString "/" = c1 47 := by rfl
    refine ⟨_, rfl, ⟨_, rfl⟩, x, _, rfl, rfl, ?_⟩
    rw [s47]
    refine ⟨_, rfl, _, _, rfl, rfl, _, rfl, ?_⟩
    by_cases hm : (47 : Nat) ∈ tl x
    · obtain ⟨p, r, e, hp⟩ := cut_at hm
      rw [find1_some e hp]
      rw [rr_yes e hp] at q
      refine iteD (fun c => by omega) (fun _ => ?_)
      have hlx : (tl x).length = p.length + (r.length + 1) := by rw [e, List.length_append, List.length_cons]
      have t1 : tl (cutS x none (some (p.length : Int))) = p := by rw [cut_to, e, List.take_left]
      have t2 : tl (cutS x (some ((p.length : Int) + 1)) none) = r := by
        have := cut_from x (p.length + 1)
        rw [Int.natCast_add] at this
        refine this.trans ?_
        rw [e, show p ++ 47 :: r = (p ++ [47]) ++ r by simp, show p.length + 1 = (p ++ [47]).length by simp, List.drop_left]
      have o1 : okC p := fun c hc => okx c (by rw [e]; exact List.mem_append_left _ hc)
      have o2 : okC r := fun c hc => okx c (by rw [e]; exact List.mem_append_right _ (List.mem_cons_of_mem _ hc))
      refine ⟨_, rfl, _, rfl, _, rfl, x, rfl, hline hx, _, rfl, ?_, ?_, fun H1 s1 => ?_⟩
      · rw [len_tl, t1]; omega
      · show okC _
        rw [t1]; exact o1
      refine ⟨_, rfl, _, rfl, _, _, rfl, rfl, _, rfl, x, rfl, hline hx, _, rfl, ?_, ?_, fun H2 s2 => ?_⟩
      · rw [len_tl, t2]; omega
      · show okC _
        rw [t2]; exact o2
      rw [t1, t2]
      have sm : Same H H2 := s1.trans s2
      clear t1 t2
      refine ⟨_, _, rfl, ?_⟩
      cases wp : wpart p with
      | none =>
        rw [wp] at q
        exact ⟨_, rfl, rfl, _, rfl, iteT (iteT (q _ _ sm rfl))⟩
      | some a =>
        refine ⟨_, rfl, rfl, _, rfl, iteF ?_⟩
        cases wr : wpart r with
        | none =>
          rw [wp, wr] at q
          exact ⟨_, rfl, rfl, _, rfl, iteT (iteT (q _ _ sm rfl))⟩
        | some b =>
          rw [wp, wr] at q
          have q' : ∀ v H', Same H H' → OptR H' v (if okB a b = true then some (a, b) else none) → Q v H' := q
          refine ⟨_, rfl, rfl, _, rfl, iteF ⟨_, rfl, _, _, rfl, rfl, _, rfl, ?_⟩⟩
          refine iteD (fun c => ?_) (fun c => ?_)
          · have z : okB a b = false := by
              unfold okB
              rw [decide_eq_false (show ¬ 2 ≤ b by omega)]; rfl
            rw [z] at q'
            exact iteT (q' _ _ sm rfl)
          · refine ⟨_, rfl, _, rfl, a, b, rfl, rfl, _, rfl, ?_⟩
            have z : okB a b = decide (Nat.gcd a.natAbs b.natAbs = 1) := by
              unfold okB
              rw [decide_eq_true (show 2 ≤ b by omega)]; rfl
            have z2 : decide (V.int ((Int.gcd a b : Nat) : Int) = V.int 1) = decide (Nat.gcd a.natAbs b.natAbs = 1) := by
              refine decide_eq_decide.mpr ⟨fun h => ?_, fun h => ?_⟩
              · have := V.int.inj h
                show Int.gcd a b = 1
                omega
              · exact congrArg V.int (congrArg (fun n : Nat => (n : Int)) (show Int.gcd a b = 1 from h))
            show if (!decide (V.int ((Int.gcd a b : Nat) : Int) = V.int 1)) = true then _ else _
            rw [z2]
            rw [z] at q'
            cases z3 : decide (Nat.gcd a.natAbs b.natAbs = 1) with
            | false =>
              rw [z3] at q'
              exact iteT (q' _ _ sm rfl)
            | true =>
              rw [z3] at q'
              refine iteF ⟨_, rfl, _, rfl, by show 2 ≤ sizeLine; decide, fun t ht => ?_⟩
              exact q' _ _ (sm.trans (same_new ht _)) ⟨t, rfl, upd_same⟩
    · rw [find1_none hm]
      rw [rr_no hm] at q
      refine iteT ⟨_, rfl, x, rfl, hx, okx, fun H1 s1 => ?_⟩
      cases ew : wpart (tl x) with
      | none =>
        rw [ew] at q
        exact ⟨_, rfl, rfl, _, rfl, iteT (q _ _ s1 rfl)⟩
      | some a =>
        rw [ew] at q
        refine ⟨_, rfl, rfl, _, rfl, iteF ⟨_, rfl, by show 2 ≤ sizeLine; decide, fun t ht => ?_⟩⟩
        exact q _ _ (s1.trans (same_new ht _)) ⟨t, rfl, upd_same⟩
end
end Ka

namespace Ka
open PySem PySem.Spec PyProof.Rows L2 Hb Gu Tx Xb
section
variable {P : Program} {w : World} {K : PySem.W.Frag} {mg : Str → Option Value} {base : Heap}
/-! ### _law_told -/
abbrev s__law_told : Stmt := top 31
theorem sc__law_told : FnScope ["text", "e"] ["text"] (defScope s__law_told) := ⟨rfl, rfl, rfl, by decide +kernel, rfl, by decide +kernel, by decide +kernel⟩
def spTold (K : PySem.W.Frag) : Sp := fun vs H Q _ => ∃ (v : V) (d : PyData), vs = [v] ∧ Dp K H v d ∧ (∀ x, d = .str x → x.length ≤ 10000) ∧ ∀ u H', Same H H' → OptR H' u (rrd d) → Q u H'
theorem ok_told {f C fI B : Addr} {fd : FuncData} (F : Fun K "_law_told" "_law_told" s__law_told f fd) (T : ErrC K mg "InvalidText" C fI) (TI : IsC K C) (gB : mg "BellError" = some (.ref B)) (kB : PySem.W.kitOne K (.ref C) (.ref B) = some true) (kV : PySem.W.kitOne K (.ref C) (.type "ValueError") = some false)
    (C_read_ratio : Cg P w K mg base (L2.CX P w) "read_ratio" ["text"] [] 3 (spRead K C)) (n_isinstance : mg "isinstance" = none) (n_ValueError : mg "ValueError" = none) : FnG P w K mg base CX0 4 f fd ["text"] (spTold K) := by
  refine go_ok F sc__law_told (fun vs H Q E h => ?_) (fun cdv A outer s H vs Q E hr fr h => ?_)
  · obtain ⟨_, _, rfl, _⟩ := h
    rfl
  · obtain ⟨v, d, rfl, hd, hx, q⟩ := h
    refine ⟨_, (pss_one (ps_try_as (i := 1) rfl rfl sc__law_told.nd rfl rfl ⟨rfl, by decide, .inl T.gC⟩ takes0 (fun W pn xe tk _ => pss_one (ps_ret (pe_goS C_read_ratio (hr.mono (by decide)) fr (fun σ => passAt tk σ) rfl (pa_cons (pv 0) pa_nil))))
      (fun a oe cls d pn hz hf => pss_one (ps_ret (pe_ifExp (PW.pt (pw_and (pt_cmpR op_eq (pe_xf T.xf T.noN hz hf (pv 1)) (pe_int) (nomark _)) (pw_and (pt_val (pe_callB (call_isAt TI hz hf) (by rfl) n_isinstance (by decide +kernel) (pa_cons (pv 1) (pa_cons (pe_glob (v := .ref B) (by rfl) gB rfl) pa_nil)))) (pw_and1 (pt_not (pt_val (pe_callB (call_isAt TI hz hf) (by rfl) n_isinstance (by decide +kernel) (pa_cons (pv 1) (pa_cons (pe_bltn (v := .ty "ValueError") (by rfl) n_ValueError (by decide +kernel) rfl) pa_nil)))))))))
        (pe_non) (pe_str)))))), ?_⟩
    refine ⟨_, rfl, v, d, rfl, hd, hx, fun a b e p H' s1 e1 => ?_, fun e dd H' s1 e1 => ?_⟩
    · exact q _ H' s1 (by rw [e]; exact ⟨p, rfl, e1⟩)
    · refine ⟨true, T.te, fun _ a ha => ?_, fun z => by cases z⟩
      refine ⟨_, rfl, rfl, rfl, dd, _, .int 0, rfl, e1, rfl, rfl, _, rfl, ?_⟩
      refine iteT ⟨_, rfl, rfl, .ref B, .ref B, true, dd, _, rfl, rfl, e1, fun u r => r, kB, _, rfl, ?_⟩
      refine iteT ⟨_, rfl, rfl, .ty "ValueError", .type "ValueError", false, dd, _, rfl, rfl, e1, fun u r => r, kV, _, rfl, ?_⟩
      refine iteT ?_
      exact q _ H' s1 (by rw [e]; rfl)
end
end Ka

namespace Ka
open PySem PySem.Spec PyProof.Rows L2 Hb Gu Tx Xb
section
variable {P : Program} {w : World} {K : PySem.W.Frag} {mg : Str → Option Value} {base : Heap}
/-! ### texts with codes in order -/
theorem okS_of (x : String) : okS (Str.ofString x) := fun c hc => by
  have e : tl (Str.ofString x) = x.toList.map Char.toNat := TL.tl_ofString x
  rw [e] at hc
  obtain ⟨a, _, rfl⟩ := List.mem_map.mp hc
  have h := a.valid
  have e : a.toNat = a.val.toNat := rfl
  rcases h with h | ⟨_, h⟩
  · rw [e]; exact Nat.lt_trans h (by decide)
  · rw [e]; exact h
theorem okS_app {x y : Str} (h : okS x) (k : okS y) : okS (x ++ y) := fun c hc => by
  have e : tl (x ++ y) = tl x ++ tl y := TL.tl_append x y
  rw [e] at hc
  rcases List.mem_append.mp hc with z | z
  · exact h c z
  · exact k c z
theorem okS_c1 {c : Nat} (h : c < 1114112) : okS (c1 c) := fun a ha => by
  have := List.mem_singleton.mp (show a ∈ [c] from ha)
  omega
theorem int_pos (a : Int) : 1 ≤ (Str.ofString (toString a)).length := by
  have e : (Str.ofString (toString a)).length = (toString a).length := by
    have h := congrArg List.length (TL.tl_ofString (toString a))
    rw [List.length_map, String.length_toList] at h
    rw [TL.len_tl]
    exact h
  rw [e]
  cases a with
  | ofNat n => exact Nat.length_repr_pos
  | negSucc n =>
    show 1 ≤ ("-" ++ (n + 1).repr).length
    rw [String.length_append]
    exact Nat.le_add_right_of_le (by decide)
theorem rText_ok {a b : Int} (ha : a.natAbs < 2 ^ 200) (hb : b.natAbs < 2 ^ 200) : okS (rText a b) ∧ 1 ≤ (rText a b).length ∧ (rText a b).length ≤ 410 := by
  have h1 := int_pos a
  have h2 := (tlen ha).2
  have h3 := (tlen hb).2
  have l47 : (c1 47).length = 1 := rfl
  unfold rText
  by_cases c : b = 1
  · rw [if_pos c]
    exact ⟨okS_of _, h1, by omega⟩
  · rw [if_neg c]
    refine ⟨okS_app (okS_app (okS_of _) (okS_c1 (by decide))) (okS_of _), ?_, ?_⟩ <;> rw [len_app, len_app] <;> omega
theorem okS_cut {x : Str} (h : okS x) (lo hi : Option Int) : okS (cutS x lo hi) := fun c hc => by
  have hc' : c ∈ (((x.cps.toList.drop (HT.sIx x.length 0 lo)).take (HT.sIx x.length x.length hi - HT.sIx x.length 0 lo)).toArray).toList := hc
  rw [List.toList_toArray] at hc'
  exact h c (List.mem_of_mem_drop (List.mem_of_mem_take hc'))
theorem joinE : ∀ ls : List (List Nat), TL.joinL [] ls = ls.flatten
  | [] => rfl
  | [p] => by show p = [p].flatten; simp
  | p :: q :: r => by
    show p ++ ([] ++ TL.joinL [] (q :: r)) = _
    rw [joinE (q :: r)]
    simp
theorem join_tl (ys : List Str) : tl (Txt.join Str.empty ys) = (ys.map tl).flatten := by
  show TL.tl (Txt.join Str.empty ys) = _
  rw [TL.join_eq, TL.tl_join]
  exact joinE _
theorem one_flat : ∀ {ys : List Str}, (∀ y ∈ ys, y.length ≤ 1 ∧ okS y) → (ys.map (·.length)).sum ≤ ys.length ∧ ((ys.map tl).flatten).length ≤ ys.length ∧ okC (ys.map tl).flatten
  | [], _ => ⟨Nat.le_refl _, Nat.le_refl _, fun c hc => by cases hc⟩
  | y :: ys, h => by
    obtain ⟨h1, h2, h3⟩ := one_flat (ys := ys) fun z hz => h z (List.mem_cons_of_mem _ hz)
    obtain ⟨y1, y2⟩ := h y List.mem_cons_self
    refine ⟨?_, ?_, fun c hc => ?_⟩
    · rw [List.map_cons, List.sum_cons, List.length_cons]; omega
    · rw [List.map_cons, List.flatten_cons, List.length_append, List.length_cons, ← len_tl]; omega
    · rw [List.map_cons, List.flatten_cons] at hc
      rcases List.mem_append.mp hc with z | z
      · exact y2 c z
      · exact h3 c z
/-! ### _law_string -/
abbrev s__law_string : Stmt := top 32
theorem sc__law_string : FnScope ["box", "one", "text", "form", "at", "sign", "turn"] ["box", "one"] (defScope s__law_string) := ⟨rfl, rfl, rfl, by decide +kernel, rfl, by decide +kernel, by decide +kernel⟩
def spString : Sp := fun vs H Q _ => ∃ (p : Addr) (v : V) (a b : Int), vs = [.ref p, v] ∧ BoxAt H p ∧ IsR H v a b ∧ a.natAbs < 2 ^ 200 ∧ b.natAbs < 2 ^ 200 ∧ ∀ x H', x.length ≤ 1000 → okS x → Kept p H H' → BoxAt H' p → Q (.str x) H'
theorem box_ne {H : Hp} {p l : Addr} (b : BoxAt H p) (hl : H l = none) : l ≠ p := fun z => by
  obtain ⟨_, _, _, e, _⟩ := b
  rw [← z, hl] at e
  cases e
def lits (l : List String) : List V := l.map fun s => V.str (Str.ofString s)
theorem of_lits {l : List String} {n : Nat} {v : V} (h : v ∈ lits l) (k : (l.all fun s => decide ((Str.ofString s).length ≤ n)) = true) : ∃ z : Str, v = .str z ∧ z.length ≤ n ∧ okS z := by
  obtain ⟨s, hs, rfl⟩ := List.mem_map.mp h
  exact ⟨_, rfl, of_decide_eq_true (List.all_eq_true.mp k s hs), okS_of s⟩
theorem ok_string {f : Addr} {fd : FuncData} (F : Fun K "_law_string" "_law_string" s__law_string f fd) (C__law_take : Cg P w K mg base CX0 "_law_take" ["box", "many"] [] 1 spTake) (C__law_pick : Cg P w K mg base CX0 "_law_pick" ["box", "some"] [] 2 spPick) (n_len : mg "len" = none) (n_str : mg "str" = none) (n_range : mg "range" = none) :
    FnG P w K mg base CX0 3 f fd ["box", "one"] spString := by
  refine go_ok F sc__law_string (fun vs H Q E h => ?_) (fun cdv A outer s H vs Q E hr fr h => ?_)
  · obtain ⟨_, _, _, _, rfl, _⟩ := h
    rfl
  · obtain ⟨p, _, a, b, rfl, hb, ⟨t1, rfl, h1⟩, ha, hbb, q⟩ := h
    refine ⟨_, (Evl.pss_cut (ps_set (i := 2) sc__law_string.nd rfl (Or.inl rfl) (pe_ifExp (pt_cmpR op_eq (pe_ix ix_tup (pv 1) (pe_int) (fun _ _ => rfl)) (pe_int) (nomark _)) (pe_callTy call_str_int (by rfl) n_str (by decide +kernel) (pa_cons (pe_ix ix_tup (pv 1) (pe_int) (fun _ _ => rfl)) pa_nil)) (pe_op op_add_str (pe_op op_add_str (pe_callTy call_str_int (by rfl) n_str (by decide +kernel) (pa_cons (pe_ix ix_tup (pv 1) (pe_int) (fun _ _ => rfl)) pa_nil)) (pe_str)) (pe_callTy call_str_int (by rfl) n_str (by decide +kernel) (pa_cons (pe_ix ix_tup (pv 1) (pe_int) (fun _ _ => rfl)) pa_nil)))))
    (pss_cons (ps_par (i := 3) (j := 4) (by rfl) sc__law_string.nd rfl rfl (by decide) rfl rfl (pa_cons (pe_go C__law_take (hr.mono (by decide)) fr rfl (pa_cons (pv 0) (pa_cons (pe_int) pa_nil))) (pa_cons (pe_go C__law_take (hr.mono (by decide)) fr rfl (pa_cons (pv 0) (pa_cons (pe_callB call_len_str (by rfl) n_len PySem.boot_len (pa_cons (pv 2) pa_nil)) pa_nil))) pa_nil)) (by rfl))
    (Evl.pss_cut (ps_set (i := 5) sc__law_string.nd rfl (Or.inl rfl) (pe_go C__law_pick (hr.mono (by decide)) fr rfl (pa_cons (pv 0) (pa_cons (pe_lst (pa_cons (pe_str) (pa_cons (pe_str) (pa_cons (pe_str) (pa_cons (pe_str) (pa_cons (pe_str) (pa_cons (pe_str) (pa_cons (pe_str) (pa_cons (pe_str) (pa_cons (pe_str) pa_nil)))))))))) pa_nil))))
    (pss_cons (ps_if (pt_cmpR op_eq (pv 3) (pe_int) (nomark _)) (pss_one (ps_ret (pe_op op_add_str (pe_op op_add_str (pe_slice sl_str (pv 2) po_none (po_some (pv 4))) (pv 5)) (pe_slice sl_str (pv 2) (po_some (pv 4)) po_none)))) pss_nil)
    (pss_cons (ps_if (pt_cmpR op_eq (pv 3) (pe_int) (nomark _)) (pss_one (ps_ret (pe_op op_add_str (pe_slice sl_str (pv 2) po_none (po_some (pv 4))) (pe_slice sl_str (pv 2) (po_some (pe_op op_add (pv 4) (pe_int))) po_none)))) pss_nil)
    (pss_cons (ps_if (pt_cmpR op_eq (pv 3) (pe_int) (nomark _)) (pss_one (ps_ret (pe_op op_add_str (pe_op op_add_str (pe_slice sl_str (pv 2) po_none (po_some (pv 4))) (pv 5)) (pe_slice sl_str (pv 2) (po_some (pe_op op_add (pv 4) (pe_int))) po_none)))) pss_nil)
    (pss_cons (ps_if (pt_cmpR op_eq (pv 3) (pe_int) (nomark _)) (pss_one (ps_ret (pe_m1 PySem.F.slot_str_join PySem.F.type_str_join mt_join (pe_str) (pe_lc (own := [("turn", 6)]) (g := gName 6) rfl sc__law_string.nd (pi_range1 (by rfl) n_range (pa_cons (pe_go C__law_take (hr.mono (by decide)) fr rfl (pa_cons (pv 0) (pa_cons (pe_int) pa_nil))) pa_nil)) (blkOk_by (N := ["box", "one", "text", "form", "at", "sign", "turn"]) (sc := defScope s__law_string) (by decide +kernel)) (fun _ _ _ _ _ => pg_name (i := 6) sc__law_string.nd rfl (Or.inl rfl)) (fun _ _ _ _ _ => pts_nil) (fun _ _ _ _ _ => pe_go C__law_pick (hr.mono (by decide)) fr rfl (pa_cons (pv 0) (pa_cons (pe_lst (pa_cons (pe_str) (pa_cons (pe_str) (pa_cons (pe_str) (pa_cons (pe_str) (pa_cons (pe_str) (pa_cons (pe_str) pa_nil))))))) pa_nil))))))) pss_nil)
    (pss_cons (ps_if (pt_cmpR op_eq (pv 3) (pe_int) (nomark _)) (pss_one (ps_ret (pe_go C__law_pick (hr.mono (by decide)) fr rfl (pa_cons (pv 0) (pa_cons (pe_lst (pa_cons (pe_str) (pa_cons (pe_str) (pa_cons (pe_str) (pa_cons (pe_str) (pa_cons (pe_str) (pa_cons (pe_str) (pa_cons (pe_str) (pa_cons (pe_str) (pa_cons (pe_str) (pa_cons (pe_str) (pa_cons (pe_str) (pa_cons (pe_str) pa_nil))))))))))))) pa_nil))))) pss_nil)
    (pss_one (ps_ret (pv 2))))))))))), ?_⟩
    obtain ⟨r1, r2, r3⟩ := rText_ok ha hbb
    have hline : ∀ {n : Nat}, n ≤ 10000 → n ≤ sizeLine := fun h => Nat.le_trans h (by decide)
    obtain ⟨a1, a2⟩ := tlen ha
    obtain ⟨b1, b2⟩ := tlen hbb
    have s47 : Str.ofString "/" = c1 47 := by rfl
    have l47 : (c1 47).length = 1 := rfl
    refine ⟨fun σ H' => σ = [some (.ref p), some (.ref t1), some (.str (rText a b)), none, none, none, none] ∧ H' = H, ?_, ?_⟩
    · refine ⟨_, rfl, t1, _, _, _, rfl, rfl, SqT.of h1, rfl, rfl, _, rfl, ?_⟩
      unfold rText
      refine iteD (fun c => ?_) (fun c => ?_)
      · rw [if_pos (V.int.inj c)]
        exact ⟨_, rfl, t1, _, _, _, rfl, rfl, SqT.of h1, rfl, a, rfl, a1, rfl, rfl⟩
      · rw [if_neg (fun z => c (congrArg V.int z))]
        rw [s47]
        refine ⟨_, rfl, t1, _, _, _, rfl, rfl, SqT.of h1, rfl, a, rfl, a1, _, _, rfl, rfl, ?_, _, rfl, t1, _, _, _, rfl, rfl, SqT.of h1, rfl, b, rfl, b1, _, _, rfl, rfl, ?_, rfl, rfl⟩
        · exact hline (by rw [l47]; omega)
        · exact hline (by rw [len_app, l47]; omega)
    · rintro σ H' ⟨rfl, rfl⟩
      generalize rText a b = x at r1 r2 r3 ⊢
      refine ⟨_, rfl, p, _, rfl, ⟨by decide, by decide⟩, hb, fun d H1 d0 d1 k1 b1' => ?_⟩
      refine ⟨_, rfl, _, rfl, x, rfl, hline (by omega), p, _, rfl, ⟨by omega, by omega⟩, b1', fun e H2 e0 e1 k2 b2' => ?_⟩
      refine ⟨_, _, rfl, ?_⟩
      have kk : Kept p H' H2 := k1.trans k2
      refine ⟨fun σ H3 => ∃ z : Str, σ = [some (.ref p), some (.ref t1), some (.str x), some (.int d), some (.int e), some (.str z), none] ∧ z.length ≤ 1 ∧ okS z ∧ Kept p H' H3 ∧ BoxAt H3 p, ?_, ?_⟩
      · refine ⟨_, rfl, by show 9 ≤ sizeLine; decide, fun l hl => ?_⟩
        refine ⟨p, l, lits ["-", "/", "0", "1", "7", "+", " ", "a", "_"], rfl, b2'.mono (same_new hl _), upd_same, box_ne b2' hl, ⟨by decide, by decide⟩, fun z H4 hz k4 b4 => ?_⟩
        obtain ⟨z, rfl, z1, z2⟩ := of_lits (n := 1) hz (by decide +kernel)
        exact ⟨z, rfl, z1, z2, kk.trans ((Hb.Same.kept (same_new hl _)).trans k4), b4⟩
      · rintro σ H3 ⟨z, rfl, z1, z2, k3, b3⟩
        have q' : ∀ y : Str, y.length ≤ 1000 → okS y → Q (.str y) H3 := fun y y1 y2 => q y H3 y1 y2 k3 b3
        have cl : ∀ lo hi, (cutS x lo hi).length ≤ 410 := fun lo hi => Nat.le_trans (cutS_length x lo hi) r3
        refine ⟨_, rfl, rfl, _, rfl, ?_⟩
        refine iteD (fun c => ?_) (fun c => ?_)
        · refine ⟨_, rfl, _, rfl, _, rfl, x, rfl, hline (by omega), _, rfl, _, _, rfl, rfl, ?_, _, rfl, _, rfl, _, rfl, x, rfl, hline (by omega), _, _, rfl, rfl, ?_, ?_⟩
          · exact hline (by have := cl none (some e); omega)
          · exact hline (by have := cl none (some e); have := cl (some e) none; rw [len_app]; omega)
          · refine q' _ ?_ (okS_app (okS_app (okS_cut r1 _ _) z2) (okS_cut r1 _ _))
            have := cl none (some e); have := cl (some e) none; rw [len_app, len_app]; omega
        refine ⟨_, rfl, rfl, _, rfl, ?_⟩
        refine iteD (fun c => ?_) (fun c => ?_)
        · refine ⟨_, rfl, _, rfl, _, rfl, x, rfl, hline (by omega), _, rfl, _, rfl, _, _, rfl, rfl, _, rfl, x, rfl, hline (by omega), _, _, rfl, rfl, ?_, ?_⟩
          · exact hline (by have := cl none (some e); have := cl (some (e + 1)) none; omega)
          · refine q' _ ?_ (okS_app (okS_cut r1 _ _) (okS_cut r1 _ _))
            have := cl none (some e); have := cl (some (e + 1)) none; rw [len_app]; omega
        refine ⟨_, rfl, rfl, _, rfl, ?_⟩
        refine iteD (fun c => ?_) (fun c => ?_)
        · refine ⟨_, rfl, _, rfl, _, rfl, x, rfl, hline (by omega), _, rfl, _, _, rfl, rfl, ?_, _, rfl, _, rfl, _, _, rfl, rfl, _, rfl, x, rfl, hline (by omega), _, _, rfl, rfl, ?_, ?_⟩
          · exact hline (by have := cl none (some e); omega)
          · exact hline (by have := cl none (some e); have := cl (some (e + 1)) none; rw [len_app]; omega)
          · refine q' _ ?_ (okS_app (okS_app (okS_cut r1 _ _) z2) (okS_cut r1 _ _))
            have := cl none (some e); have := cl (some (e + 1)) none; rw [len_app, len_app]; omega
        refine ⟨_, rfl, rfl, _, rfl, ?_⟩
        refine iteD (fun c => ?_) (fun c => ?_)
        · refine ⟨⟨_, rfl⟩, _, rfl, p, _, rfl, ⟨by decide, by decide⟩, b3, fun n H4 n0 n1 k4 b4 => ⟨n, rfl, by omega, by omega, fun D hD => ?_⟩⟩
          have hDp : D ≠ p := box_ne b4 hD
          refine lc_range (lo := 0) (n := n.toNat) (fun i H5 => ∃ ys : List Str, ys.length = i ∧ (∀ y ∈ ys, y.length ≤ 1 ∧ okS y) ∧ H5 D = some (.lst (ys.map V.str)) ∧ Kept p H' H5 ∧ BoxAt H5 p) ?_ ?_ ?_
          · refine ⟨[], rfl, (by intro y hy; cases hy), upd_same, k3.trans (k4.trans (Hb.Same.kept (same_new hD _))), b4.mono (same_new hD _)⟩
          · rintro i H5 hi ⟨ys, yl, yo, h5, k5, b5⟩
            refine ⟨rfl, _, rfl, by show 6 ≤ sizeLine; decide, fun l hl => ?_⟩
            refine ⟨p, l, lits ["-", "/", "0", "1", "2", "3"], rfl, b5.mono (same_new hl _), upd_same, box_ne b5 hl, ⟨by decide, by decide⟩, fun y H6 hy k6 b6 => ?_⟩
            obtain ⟨y, rfl, y1, y2⟩ := of_lits (n := 1) hy (by decide +kernel)
            have h6 := k6 D _ (same_new hl _ D _ h5) hDp
            refine ⟨_, h6, ?_, ys ++ [y], ?_, fun u hu => ?_, ?_, ?_, ?_⟩
            · rw [List.length_map, yl]
              exact Nat.lt_of_lt_of_le (show i < 7 by omega) (by decide)
            · rw [List.length_append, yl]; rfl
            · rcases List.mem_append.mp hu with z | z
              · exact yo u z
              · rw [List.mem_singleton.mp z]; exact ⟨y1, y2⟩
            · rw [upd_same, List.map_append]; rfl
            · intro c o hc hne
              rw [upd_ne]
              · exact (k5.trans ((Hb.Same.kept (same_new hl _)).trans k6)) c o hc hne
              · intro z
                have := ((k3.trans k4) c o hc hne)
                rw [z, hD] at this
                cases this
            · obtain ⟨g, s', n', e6, r6⟩ := b6
              exact ⟨g, s', n', by rw [upd_ne (Ne.symm hDp)]; exact e6, r6⟩
          · rintro H5 ⟨ys, yl, yo, h5, k5, b5⟩
            obtain ⟨f1, f2, f3⟩ := one_flat yo
            refine ⟨_, D, ys, rfl, rfl, .inl (SqL.of h5), ?_, ?_⟩
            · show _ + ys.length * 0 ≤ _
              omega
            · have ej : tl (Txt.join Str.empty ys) = (ys.map tl).flatten := join_tl ys
              refine q (Txt.join Str.empty ys) H5 ?_ ?_ k5 b5
              · rw [len_tl, ej]; omega
              · show okC _
                rw [ej]
                exact f3
        refine ⟨_, rfl, rfl, _, rfl, ?_⟩
        refine iteD (fun c => ?_) (fun c => ?_)
        · refine ⟨_, rfl, by show 12 ≤ sizeLine; decide, fun l hl => ?_⟩
          refine ⟨p, l, lits ["-0", "0/5", "3/1", "2/4", "5/0", "3/-2", "1/2/3", "1234567890", "123456789", "", "/", "+1"], rfl, b3.mono (same_new hl _), upd_same, box_ne b3 hl, ⟨by decide, by decide⟩, fun z H4 hz k4 b4 => ?_⟩
          obtain ⟨z, rfl, z1, z2⟩ := of_lits (n := 10) hz (by decide +kernel)
          exact q z H4 (by omega) z2 (k3.trans ((Hb.Same.kept (same_new hl _)).trans k4)) b4
        exact ⟨_, rfl, q' x (by omega) r1⟩
end
end Ka

namespace Ka
open PySem PySem.Spec PyProof.Rows L2 Hb Gu Tx Xb
section
variable {P : Program} {w : World} {K : PySem.W.Frag} {mg : Str → Option Value} {base : Heap}
/-! ### data under a greater heap -/
theorem SqL.same {H H' : Hp} {a : Addr} {xs : List V} (s : Same H H') (h : SqL K H a xs) : SqL K H' a xs := by
  rcases h with (e | ⟨o, e⟩) | ⟨o, its, n, e, r⟩
  · exact .inl (.inl (s _ _ e))
  · exact .inl (.inr ⟨o, s _ _ e⟩)
  · exact .inr ⟨o, its, n, e, r⟩
theorem SqT.same {H H' : Hp} {a : Addr} {xs : List V} (s : Same H H') (h : SqT K H a xs) : SqT K H' a xs := by
  rcases h with (e | ⟨o, e⟩) | ⟨o, its, n, e, r⟩
  · exact .inl (.inl (s _ _ e))
  · exact .inl (.inr ⟨o, s _ _ e⟩)
  · exact .inr ⟨o, its, n, e, r⟩
mutual
theorem dp_same {H H' : Hp} (s : Same H H') : ∀ (d : PyData) (v : V), Dp K H v d → Dp K H' v d
  | .none, _, h => by cases h; exact .non
  | .bool b, _, h => by cases h; exact .bl b
  | .int i, _, h => by cases h; exact .int i
  | .str x, _, h => by cases h; exact .str x
  | .list ds, _, h => by
    cases h with
    | lst h1 h2 => exact .lst (SqL.same s h1) (dps_same s ds _ h2)
  | .tuple ds, _, h => by
    cases h with
    | tup h1 h2 => exact .tup (SqT.same s h1) (dps_same s ds _ h2)
  | .dict _, _, h => by cases h
theorem dps_same {H H' : Hp} (s : Same H H') : ∀ (ds : List PyData) (xs : List V), DpAll K H xs ds → DpAll K H' xs ds
  | [], _, h => by cases h; exact .nil
  | d :: ds, _, h => by
    cases h with
    | cons h1 h2 => exact .cons (dp_same s d _ h1) (dps_same s ds _ h2)
end
theorem eqv_nil (l : List PyData) : PyData.eqv (.list l) (.list []) = l.isEmpty := by
  cases l <;> simp [PyData.eqv, PyData.eqvAll]
theorem sh_two {x y : PyData} (h : SeqAt.shaped (.tuple [x, y]) = true) : ∀ l : List PyData, (∀ d ∈ l, d = x ∨ d = y) → SeqAt.shaped (.list l) = true := by
  unfold SeqAt.shaped at h ⊢
  rw [Bool.and_eq_true, decide_eq_true_eq] at h
  obtain ⟨h1, h2⟩ := h
  have c1 : (x.canLay0 && (y.canLay0 && true)) = true := h1
  rw [Bool.and_eq_true, Bool.and_eq_true] at c1
  have d1 : max x.depth (max y.depth 0) + 1 ≤ 64 := h2
  intro l hl
  have key : PyData.canLayAll0 l = true ∧ PyData.depthAll l ≤ 63 := by
    induction l with
    | nil => exact ⟨rfl, Nat.zero_le _⟩
    | cons d l ih =>
      obtain ⟨i1, i2⟩ := ih fun d hd => hl d (List.mem_cons_of_mem _ hd)
      have hd := hl d List.mem_cons_self
      constructor
      · show (d.canLay0 && PyData.canLayAll0 l) = true
        rcases hd with e | e
        · rw [e, c1.1, i1]; rfl
        · rw [e, c1.2.1, i1]; rfl
      · show max d.depth (PyData.depthAll l) ≤ 63
        rcases hd with e | e <;> rw [e] <;> omega
  rw [Bool.and_eq_true]
  exact ⟨key.1, decide_eq_true (by show PyData.depthAll l + 1 ≤ 64; omega)⟩
/-! ### _law_is -/
abbrev s__law_is : Stmt := top 33
theorem sc__law_is : FnScope ["value", "part"] ["value"] (defScope s__law_is) := ⟨rfl, rfl, rfl, by decide +kernel, rfl, by decide +kernel, by decide +kernel⟩
def spIs (K : PySem.W.Frag) : Sp := fun vs H Q _ => ∃ (v : V) (d : PyData), vs = [v] ∧ Dp K H v d ∧ SeqAt.shaped d = true ∧ ∀ H', Same H H' → Q (.bl (isRat d)) H'
theorem keep_all {H : Hp} (f : PyData → Bool) : ∀ {zs : List (V × PyData)}, (∀ z ∈ zs, Dp K H z.1 z.2) → DpAll K H ((zs.filter fun z => f z.2).map (·.1)) ((zs.filter fun z => f z.2).map (·.2))
  | [], _ => .nil
  | z :: zs, h => by
    have ih := keep_all f (zs := zs) fun y hy => h y (List.mem_cons_of_mem _ hy)
    rw [List.filter_cons]
    by_cases c : f z.2 = true
    · rw [if_pos c]
      exact .cons (h z List.mem_cons_self) ih
    · rw [if_neg c]
      exact ih
def isN : PyData → Bool
  | .int _ => true
  | .bool _ => true
  | _ => false
def isB : PyData → Bool
  | .bool _ => true
  | _ => false
theorem isNB (d : PyData) : (!isN d || isB d) = !isI d := by cases d <;> rfl
theorem isi_numb {H : Hp} {v : V} {d : PyData} (hd : Dp K H v d) : PySem.W.kitOne K (.type (tyName d)) (.type "int") = some (isN d) := by
  cases d with
  | dict kvs => exact (no_dict hd).elim
  | int i => exact kit_ty (show kitB "int" "int" = some true by decide +kernel)
  | bool i => exact kit_ty (show kitB "bool" "int" = some true by decide +kernel)
  | none => exact kit_ty (show kitB "NoneType" "int" = some false by decide +kernel)
  | str i => exact kit_ty (show kitB "str" "int" = some false by decide +kernel)
  | list i => exact kit_ty (show kitB "list" "int" = some false by decide +kernel)
  | tuple i => exact kit_ty (show kitB "tuple" "int" = some false by decide +kernel)
theorem isi_boo {H : Hp} {v : V} {d : PyData} (hd : Dp K H v d) : PySem.W.kitOne K (.type (tyName d)) (.type "bool") = some (isB d) := by
  cases d with
  | dict kvs => exact (no_dict hd).elim
  | int i => exact kit_ty (show kitB "int" "bool" = some false by decide +kernel)
  | bool i => exact kit_ty (show kitB "bool" "bool" = some true by decide +kernel)
  | none => exact kit_ty (show kitB "NoneType" "bool" = some false by decide +kernel)
  | str i => exact kit_ty (show kitB "str" "bool" = some false by decide +kernel)
  | list i => exact kit_ty (show kitB "list" "bool" = some false by decide +kernel)
  | tuple i => exact kit_ty (show kitB "tuple" "bool" = some false by decide +kernel)
theorem ok_is {f : Addr} {fd : FuncData} (F : Fun K "_law_is" "_law_is" s__law_is f fd) (C__law_divisor : Cg P w K mg base CX0 "_law_divisor" ["one", "other"] [] 1 spDiv) (n_isinstance : mg "isinstance" = none) (n_tuple : mg "tuple" = none) (n_len : mg "len" = none) (n_int : mg "int" = none) (n_bool : mg "bool" = none) :
    FnG P w K mg base CX0 2 f fd ["value"] (spIs K) := by
  refine go_ok F sc__law_is (fun vs H Q E h => ?_) (fun cdv A outer s H vs Q E hr fr h => ?_)
  · obtain ⟨_, _, rfl, _⟩ := h
    rfl
  · obtain ⟨v, d, rfl, hd, sh, q⟩ := h
    refine ⟨_, (pss_cons (ps_if (PW.pt (pw_or (pt_not (pt_val (pe_callB call_isi (by rfl) n_isinstance (by decide +kernel) (pa_cons (pv 0) (pa_cons (pe_bltn (v := .ty "tuple") (by rfl) n_tuple (by decide +kernel) rfl) pa_nil))))) (pw_or1 (pt_cmpR op_ne (pe_callB call_len_seq (by rfl) n_len PySem.boot_len (pa_cons (pv 0) pa_nil)) (pe_int) (nomark _))))) (pss_one (ps_ret (pe_bl))) pss_nil)
    (pss_cons (ps_if (pt_cmpR (op_neD hr.units) (pe_lc (own := [("part", 1)]) (g := gName 1) rfl sc__law_is.nd (pi_tup (pv 0)) (blkOk_by (N := ["value", "part"]) (sc := defScope s__law_is) (by decide +kernel)) (fun _ _ _ _ _ => pg_name (i := 1) sc__law_is.nd rfl (Or.inl rfl)) (fun _ _ _ _ _ => pts_one (PW.pt (pw_or (pt_not (pt_val (pe_callB (id := "isinstance") (r := rIsi K) call_isi (by rfl) n_isinstance (by decide +kernel) (pa_cons (pv 1) (pa_cons (pe_bltn (v := .ty "int") (by rfl) n_int (by decide +kernel) rfl) pa_nil))))) (pw_or1 (pt_val (pe_callB (id := "isinstance") (r := rIsi K) call_isi (by rfl) n_isinstance (by decide +kernel) (pa_cons (pv 1) (pa_cons (pe_bltn (v := .ty "bool") (by rfl) n_bool (by decide +kernel) rfl) pa_nil)))))))) (fun _ _ _ _ _ => pv 1)) (pe_lst pa_nil) (nomark _)) (pss_one (ps_ret (pe_bl))) pss_nil)
    (pss_one (ps_ret (pe_and (pe_cmpR op_gt (pe_ix ix_tup (pv 0) (pe_int) (fun _ _ => rfl)) (pe_int) (nomark _)) (pe_one (pe_cmpR op_eq (pe_go C__law_divisor (hr.mono (by decide)) fr rfl (pa_cons (pe_ix ix_tup (pv 0) (pe_int) (fun _ _ => rfl)) (pa_cons (pe_ix ix_tup (pv 0) (pe_int) (fun _ _ => rfl)) pa_nil))) (pe_int) (nomark _)))))))), ?_⟩
    refine ⟨v, rfl, v, .ty "tuple", _, _, isTup d, rfl, .ty _, ty_data hd, isi_tup hd, _, rfl, ?_⟩
    have q0 : isRat d = false → Q (.bl false) H := fun e => by
      have := q H (Evl.Ex.refl _)
      rw [e] at this
      exact this
    cases d with
    | none => exact iteT (iteT (q0 rfl))
    | bool _ => exact iteT (iteT (q0 rfl))
    | int _ => exact iteT (iteT (q0 rfl))
    | str _ => exact iteT (iteT (q0 rfl))
    | list _ => exact iteT (iteT (q0 rfl))
    | dict kvs => exact (no_dict hd).elim
    | tuple ds =>
      obtain ⟨a, xs, rfl, hS, hA⟩ : ∃ a xs, v = .ref a ∧ SqT K H a xs ∧ DpAll K H xs ds := by
        cases hd with
        | tup h1 h2 => exact ⟨_, _, rfl, h1, h2⟩
      have hl := all_len hA
      refine iteF ⟨_, rfl, a, xs, rfl, .inr hS, rfl, _, rfl, ?_⟩
      show if (!decide (V.int (xs.length : Int) = V.int 2)) = true then _ else _
      refine iteN (fun c => ?_) (fun c => ?_)
      · have hn : ds.length ≠ 2 := fun z => c (by rw [hl, z]; rfl)
        refine q0 ?_
        unfold isRat
        split
        · next a b z => cases z; exact absurd rfl hn
        · rfl
      · have h2 : xs.length = 2 := by have := V.int.inj c; omega
        match xs, ds, hA, h2, hl with
        | [x, y], [dx, dy], .cons hx (.cons hy .nil), _, _ =>
          refine ⟨.ref a, rfl, a, rfl, ⟨_, hS⟩, fun D hD => ?_⟩
          refine lc_tup (xs := [x, y]) (fun i H' => Same H H' ∧ H' D = some (.lst ((([(x, dx), (y, dy)].take i).filter fun z => !isI z.2).map (·.1)))) ?_ (fun i H' _ h => SqT.same h.1 hS) ?_ ?_
          · exact ⟨same_new hD _, upd_same⟩
          · rintro i u H' hi ⟨h1, h3⟩
            obtain ⟨z, hz, ez⟩ : ∃ z : V × PyData, [(x, dx), (y, dy)][i]? = some z ∧ z.1 = u := by
              match i, hi with
              | 0, hi => exact ⟨(x, dx), rfl, Option.some.inj hi⟩
              | 1, hi => exact ⟨(y, dy), rfl, Option.some.inj hi⟩
            have hzd : Dp K H' z.1 z.2 := by
              refine dp_same h1 _ _ ?_
              rcases List.mem_cons.mp (List.mem_of_getElem? hz) with e | e
              · rw [e]; exact hx
              · rw [List.mem_singleton.mp e]; exact hy
            subst ez
            have hil : ((([(x, dx), (y, dy)].take i).filter fun z => !isI z.2).map (·.1)).length < sizeLine := by
              rw [List.length_map]
              refine Nat.lt_of_le_of_lt (m := 2) (Nat.le_trans (List.length_filter_le _ _) ?_) (by decide)
              rw [List.length_take]
              exact Nat.min_le_right _ _
            have fin : if (!isI z.2) = true then ∃ acc, H' D = some (.lst acc) ∧ acc.length < sizeLine ∧ (Same H (upd H' D (.lst (acc ++ [z.1]))) ∧ (upd H' D (.lst (acc ++ [z.1]))) D = some (.lst ((([(x, dx), (y, dy)].take (i + 1)).filter fun z => !isI z.2).map (·.1)))) else Same H H' ∧ H' D = some (.lst ((([(x, dx), (y, dy)].take (i + 1)).filter fun z => !isI z.2).map (·.1))) := by
              cases e : isI z.2 with
              | true =>
                refine iteF ⟨h1, ?_⟩
                rw [h3, List.take_add_one, hz, List.filter_append]
                simp [e]
              | false =>
                refine iteT ⟨_, h3, hil, Evl.Ex.mut h1 hD, ?_⟩
                rw [upd_same, List.take_add_one, hz, List.filter_append]
                simp [e]
            refine ⟨rfl, _, rfl, z.1, .ty "int", _, _, isN z.2, rfl, .ty _, ty_data hzd, isi_numb hzd, _, rfl, ?_⟩
            have nb := isNB z.2
            cases e : isN z.2 with
            | false =>
              rw [e] at nb
              rw [← nb] at fin
              exact iteT ⟨_, rfl, fin⟩
            | true =>
              rw [e] at nb
              refine iteF ⟨_, rfl, z.1, .ty "bool", _, _, isB z.2, rfl, .ty _, ty_data hzd, isi_boo hzd, _, rfl, ?_⟩
              rw [← nb] at fin
              cases e2 : isB z.2 with
              | true => rw [e2] at fin; exact iteT ⟨_, rfl, fin⟩
              | false => rw [e2] at fin; exact iteF fin
          · rintro H' ⟨h1, h3⟩
            refine ⟨by show 0 ≤ sizeLine; exact Nat.zero_le _, fun l hl => ?_⟩
            have s3 := same_new hl (.lst [])
            have e3 : (upd H' l (.lst [])) l = some (.lst []) := upd_same
            generalize upd H' l (.lst []) = H3 at s3 e3 ⊢
            have hm : Same H H3 := h1.trans s3
            have hkeep := keep_all (K := K) (H := H3) (fun d => !isI d) (zs := [(x, dx), (y, dy)]) (fun z hz => by
              rcases List.mem_cons.mp hz with e | e
              · rw [e]; exact dp_same hm _ _ hx
              · rw [List.mem_singleton.mp e]; exact dp_same hm _ _ hy)
            have hsh : SeqAt.shaped (.list (([(x, dx), (y, dy)].filter fun z => !isI z.2).map (·.2))) = true := sh_two sh _ fun d hd => by
              obtain ⟨z, hz, rfl⟩ := List.mem_map.mp hd
              rcases List.mem_cons.mp (List.mem_filter.mp hz).1 with e | e
              · rw [e]; exact .inl rfl
              · rw [List.mem_singleton.mp e]; exact .inr rfl
            refine ⟨.list _, .list [], .lst (SqL.of (s3 _ _ h3)) hkeep, .lst (SqL.of e3) .nil, hsh, rfl, _, rfl, ?_⟩
            rw [eqv_nil]
            have qq := q H3 hm
            cases dx with
            | int i =>
              cases dy with
              | int j =>
                cases hx
                cases hy
                have hS3 := SqT.same hm hS
                refine iteF ⟨_, rfl, a, _, _, _, rfl, rfl, hS3, rfl, _, _, rfl, rfl, _, rfl, ?_⟩
                have eq : isRat (.tuple [.int i, .int j]) = (decide (0 < j) && decide (Nat.gcd i.natAbs j.natAbs = 1)) := rfl
                rw [eq] at qq
                cases e : decide (0 < j) with
                | false =>
                  rw [e] at qq
                  exact iteF qq
                | true =>
                  rw [e] at qq
                  refine iteT ⟨_, rfl, a, _, _, _, rfl, rfl, hS3, rfl, _, rfl, a, _, _, _, rfl, rfl, hS3, rfl, i, j, rfl, rfl, ?_⟩
                  have e2 : decide (V.int ((Int.gcd i j : Nat) : Int) = V.int 1) = decide (Nat.gcd i.natAbs j.natAbs = 1) := by
                    refine decide_eq_decide.mpr ⟨fun h => ?_, fun h => ?_⟩
                    · have := V.int.inj h
                      show Int.gcd i j = 1
                      omega
                    · exact congrArg V.int (congrArg (fun n : Nat => (n : Int)) (show Int.gcd i j = 1 from h))
                  show Q (V.bl (decide (V.int ((Int.gcd i j : Nat) : Int) = V.int 1))) H3
                  rw [e2]
                  exact qq
              | none => exact iteT qq
              | bool _ => exact iteT qq
              | str _ => exact iteT qq
              | list _ => exact iteT qq
              | tuple _ => exact iteT qq
              | dict kvs => exact (no_dict hy).elim
            | none => exact iteT qq
            | bool _ => exact iteT qq
            | str _ => exact iteT qq
            | list _ => exact iteT qq
            | tuple _ => exact iteT qq
            | dict kvs => exact (no_dict hx).elim
end
end Ka

namespace Ka
open PySem PySem.Spec PyProof.Rows L2 Hb Gu Tx Xb
section
variable {P : Program} {w : World} {K : PySem.W.Frag} {mg : Str → Option Value} {base : Heap}
/-! ### _law_drawn -/
abbrev s__law_drawn : Stmt := top 28
theorem sc__law_drawn : FnScope ["box", "top", "bottom"] ["box"] (defScope s__law_drawn) := ⟨rfl, rfl, rfl, by decide +kernel, rfl, by decide +kernel, by decide +kernel⟩
def spDrawn : Sp := fun vs H Q _ => ∃ p : Addr, vs = [.ref p] ∧ BoxAt H p ∧ ∀ t H' (a b : Int), Kept p H H' → BoxAt H' p → H' t = some (.tup [.int a, .int b]) → (-(2 ^ 40) < a ∧ a < 2 ^ 40) → (-(2 ^ 40) < b ∧ b < 2 ^ 40) → b ≠ 0 → Q (.ref t) H'
theorem ok_drawn {f : Addr} {fd : FuncData} (F : Fun K "_law_drawn" "_law_drawn" s__law_drawn f fd) (C__law_integer : Cg P w K mg base CX0 "_law_integer" ["box"] [] 3 spInteger) (C__law_take : Cg P w K mg base CX0 "_law_take" ["box", "many"] [] 1 spTake) : FnG P w K mg base CX0 4 f fd ["box"] spDrawn := by
  refine go_ok F sc__law_drawn (fun vs H Q E h => ?_) (fun cdv A outer s H vs Q E hr fr h => ?_)
  · obtain ⟨_, rfl, _⟩ := h
    rfl
  · obtain ⟨p, rfl, hb, q⟩ := h
    refine ⟨_, (pss_cons (ps_par (i := 1) (j := 2) (by rfl) sc__law_drawn.nd rfl rfl (by decide) rfl rfl (pa_cons (pe_go C__law_integer (hr.mono (by decide)) fr rfl (pa_cons (pv 0) pa_nil)) (pa_cons (pe_go C__law_integer (hr.mono (by decide)) fr rfl (pa_cons (pv 0) pa_nil)) pa_nil)) (by rfl))
    (pss_one (ps_ret (pe_tup (pa_cons (pv 1) (pa_cons (pe_ifExp (pt_cmpR op_ne (pv 2) (pe_int) (nomark _)) (pv 2) (pe_op op_add (pe_int) (pe_go C__law_take (hr.mono (by decide)) fr rfl (pa_cons (pv 0) (pa_cons (pe_int) pa_nil))))) pa_nil)))))), ?_⟩
    refine ⟨_, rfl, p, rfl, hb, fun a H1 ha k1 b1 => ?_⟩
    refine ⟨_, rfl, p, rfl, b1, fun b H2 hbb k2 b2 => ?_⟩
    refine ⟨_, _, rfl, _, rfl, _, rfl, rfl, _, rfl, ?_⟩
    refine iteN (fun c => ?_) (fun c => ?_)
    · refine ⟨_, rfl, by show 2 ≤ sizeLine; decide, fun t ht => ?_⟩
      exact q t _ a b (k1.trans (k2.trans (Hb.Same.kept (same_new ht _)))) (b2.mono (same_new ht _)) upd_same ha hbb (fun z => c (congrArg V.int z))
    · refine ⟨_, rfl, p, _, rfl, ⟨by decide, by decide⟩, b2, fun d H3 d0 d1 k3 b3 => ?_⟩
      refine ⟨_, _, rfl, rfl, by show 2 ≤ sizeLine; decide, fun t ht => ?_⟩
      exact q t _ a (1 + d) (k1.trans (k2.trans (k3.trans (Hb.Same.kept (same_new ht _))))) (b3.mono (same_new ht _)) upd_same ha ⟨by omega, by omega⟩ (by omega)
/-! ### sizes -/
theorem low_size {a b : Int} (hb : b ≠ 0) : (lT a b).natAbs ≤ a.natAbs ∧ 0 < lB a b ∧ lB a b ≤ b.natAbs := by
  have g0 : 0 < Nat.gcd a.natAbs b.natAbs := Nat.gcd_pos_of_pos_right _ (by omega)
  have d1 : ((Nat.gcd a.natAbs b.natAbs : Nat) : Int) ∣ a := Int.gcd_dvd_left a b
  have d2 : ((Nat.gcd a.natAbs b.natAbs : Nat) : Int) ∣ b := Int.gcd_dvd_right a b
  unfold lT lB sg
  generalize Nat.gcd a.natAbs b.natAbs = g at *
  obtain ⟨x, ex⟩ := d1
  obtain ⟨y, ey⟩ := d2
  have mono : ∀ z : Int, z.natAbs ≤ ((g : Int) * z).natAbs := fun z => by
    rw [Int.natAbs_mul, Int.natAbs_natCast]
    exact Nat.le_mul_of_pos_left _ g0
  have mx := mono x
  have my := mono y
  rw [← ex] at mx
  rw [← ey] at my
  by_cases c : b < 0
  · rw [if_pos c]
    have e1 : a.fdiv (-(g : Int)) = -x := by
      rw [ex, show (g : Int) * x = -(g : Int) * (-x) by rw [Int.neg_mul_neg]]
      exact Int.mul_fdiv_cancel_left _ (by omega)
    have e2 : b.fdiv (-(g : Int)) = -y := by
      rw [ey, show (g : Int) * y = -(g : Int) * (-y) by rw [Int.neg_mul_neg]]
      exact Int.mul_fdiv_cancel_left _ (by omega)
    rw [e1, e2]
    have y0 : y < 0 := by
      rcases Int.lt_or_le y 0 with z | z
      · exact z
      · have := Int.mul_nonneg (show (0 : Int) ≤ (g : Int) by omega) z
        omega
    omega
  · rw [if_neg c]
    have e1 : a.fdiv (g : Int) = x := by
      rw [ex]
      exact Int.mul_fdiv_cancel_left _ (by omega)
    have e2 : b.fdiv (g : Int) = y := by
      rw [ey]
      exact Int.mul_fdiv_cancel_left _ (by omega)
    rw [e1, e2]
    have y0 : 0 < y := by
      rcases Int.lt_or_le 0 y with z | z
      · exact z
      · have := Int.mul_nonpos_of_nonneg_of_nonpos (show (0 : Int) ≤ (g : Int) by omega) z
        omega
    omega
theorem low_one (a : Int) : lT a 1 = a ∧ lB a 1 = 1 := by
  have e : sg a 1 = 1 := by
    unfold sg
    rw [if_neg (by decide), show (1 : Int).natAbs = 1 from rfl, Nat.gcd_one_right]; rfl
  unfold lT lB
  rw [e]
  exact ⟨by rw [Int.fdiv_one], by decide⟩
theorem ne_tup {H : Hp} {p q : Addr} {a b c d : Int} {Q : VK} (h1 : H p = some (.tup [.int a, .int b])) (h2 : H q = some (.tup [.int c, .int d])) (e1 : a = c) (e2 : b = d) (k : Q (.bl false) H) : rNeD K (.ref p) (.ref q) H Q := by
  subst e1 e2
  refine ⟨.tuple [.int a, .int b], .tuple [.int a, .int b], .tup (SqT.of h1) (.cons (.int a) (.cons (.int b) .nil)), .tup (SqT.of h2) (.cons (.int a) (.cons (.int b) .nil)), rfl, rfl, ?_⟩
  rw [SeqAt.eqv_refl _ rfl]
  exact k
end
end Ka

namespace Ka
open PySem PySem.Spec PyProof.Rows L2 Hb Gu Tx Xb
section
variable {P : Program} {w : World} {K : PySem.W.Frag} {mg : Str → Option Value} {base : Heap}
theorem shown_two {a b : Int} (ha : a.natAbs < 2 ^ 200) (hb : b.natAbs < 2 ^ 200) : (PyData.shown (.tuple [.int a, .int b])).length ≤ sizeLine := by
  have h1 := (tlen ha).2
  have h2 := (tlen hb).2
  have h := tupleText_len_le [(Str.ofString (toString a)), (Str.ofString (toString b))]
  refine Nat.le_trans h (Nat.le_trans (m := 1000) ?_ (by decide))
  show ((Str.ofString (toString a)).length + ((Str.ofString (toString b)).length + 0)) + 2 * 2 + 3 ≤ 1000
  omega
theorem dp_two {H : Hp} {p : Addr} {a b : Int} (h : H p = some (.tup [.int a, .int b])) : Dp K H (.ref p) (.tuple [.int a, .int b]) := .tup (SqT.of h) (.cons (.int a) (.cons (.int b) .nil))
theorem sh_int {a : Int} (ha : a.natAbs < 2 ^ 200) : PyData.showable (.int a) = true := decide_eq_true (tlen ha).1
theorem sh_tup {a b : Int} (ha : a.natAbs < 2 ^ 200) (hb : b.natAbs < 2 ^ 200) : PyData.showable (.tuple [.int a, .int b]) = true := by
  show (PyData.showable (.int a) && (PyData.showable (.int b) && true)) = true
  rw [sh_int ha, sh_int hb]; rfl
theorem dep_tup {a b : Int} : PyData.depth (.tuple [.int a, .int b]) < 40 := by show max 0 (max 0 0) + 1 < 40; decide
theorem len_int {a : Int} (ha : a.natAbs < 2 ^ 200) : (PyData.shown (.int a)).length ≤ sizeLine := Nat.le_trans (show (Str.ofString (toString a)).length ≤ 201 from (tlen ha).2) (by decide)
theorem len_bl (b : Bool) : (PyData.shown (.bool b)).length ≤ sizeLine := by cases b <;> exact Nat.le_trans (show _ ≤ 5 by decide) (by decide)
theorem dep0 : (0 : Nat) < 40 := by decide
theorem str_same {x : Str} {A B : Prop} (k : B) : if (!decide (V.str x = V.str x)) = true then A else B := by
  rw [decide_eq_true rfl]
  exact iteF k
theorem mul_small {x y : Int} (hx : x.natAbs < 2 ^ 40) (hy : y.natAbs < 2 ^ 40) : (x * y).natAbs < 2 ^ 80 := by
  rw [Int.natAbs_mul]
  have := Nat.mul_le_mul (Nat.le_of_lt_succ (Nat.lt_succ_of_lt hx)) (Nat.le_of_lt_succ (Nat.lt_succ_of_lt hy))
  by_cases h0 : x.natAbs = 0
  · rw [h0, Nat.zero_mul]; decide
  · have h1 : x.natAbs * y.natAbs < x.natAbs * 2 ^ 40 := Nat.mul_lt_mul_of_pos_left hy (by omega)
    have h2 : x.natAbs * 2 ^ 40 ≤ 2 ^ 40 * 2 ^ 40 := Nat.mul_le_mul_right _ (by omega)
    have : (2 : Nat) ^ 40 * 2 ^ 40 = 2 ^ 80 := by decide
    omega
theorem ne_opt {H : Hp} {u1 u2 : V} {o : Option (Int × Int)} (h1 : OptR H u1 o) (h2 : OptR H u2 o) : ∃ d, Dp K H u1 d ∧ Dp K H u2 d ∧ SeqAt.shaped d = true ∧ PyData.eqv d d = true := by
  cases o with
  | none =>
    obtain rfl : u1 = .non := h1
    obtain rfl : u2 = .non := h2
    exact ⟨.none, .non, .non, rfl, rfl⟩
  | some o =>
    obtain ⟨a, b⟩ := o
    obtain ⟨t, rfl, e1⟩ : IsR H u1 a b := h1
    obtain ⟨t2, rfl, e2⟩ : IsR H u2 a b := h2
    exact ⟨.tuple [.int a, .int b], dp_two e1, dp_two e2, rfl, SeqAt.eqv_refl _ rfl⟩
theorem strOk_of {x : Str} (h : okS x) : PyData.strOk x = true := by
  unfold PyData.strOk
  rw [← Array.all_toList]
  exact List.all_eq_true.mpr fun c hc => decide_eq_true (h c hc)
theorem sh_str {x : Str} (h : okS x) : SeqAt.shaped (.str x) = true := by
  unfold SeqAt.shaped
  show (PyData.strOk x && decide (0 ≤ 64)) = true
  rw [strOk_of h]; rfl
theorem sh_si {x : Str} {i : Int} (h : okS x) : SeqAt.shaped (.tuple [.str x, .int i]) = true := by
  unfold SeqAt.shaped
  show ((PyData.strOk x && (true && true)) && decide (max 0 (max 0 0) + 1 ≤ 64)) = true
  rw [strOk_of h]; rfl
theorem dps_get {H : Hp} : ∀ {xs : List V} {ds : List PyData} {i : Nat} {y : V}, DpAll K H xs ds → xs[i]? = some y → ∃ d, d ∈ ds ∧ Dp K H y d
  | _, _, _, _, .nil, h => by cases h
  | _, _, 0, _, .cons h _, e => by cases e; exact ⟨_, List.mem_cons_self, h⟩
  | _, _, i + 1, _, .cons _ r, e => by
    obtain ⟨d, h1, h2⟩ := dps_get r e
    exact ⟨d, List.mem_cons_of_mem _ h1, h2⟩
/-! ### _law_pair_right -/
abbrev s__law_pair_right : Stmt := top 34
theorem sc__law_pair_right : FnScope ["box", "raw", "more", "one", "other", "top", "bottom", "cross", "written", "values", "texts", "value", "turn", "text"] ["box"] (defScope s__law_pair_right) := ⟨rfl, rfl, rfl, by decide +kernel, rfl, by decide +kernel, by decide +kernel⟩
def spPair : Sp := fun vs H Q _ => ∃ p : Addr, vs = [.ref p] ∧ BoxAt H p ∧ ∀ H', Kept p H H' → Q (.bl true) H'
theorem ok_pair {f : Addr} {fd : FuncData} (F : Fun K "_law_pair_right" "_law_pair_right" s__law_pair_right f fd)
    (C_ratio_by : Cg P w K mg base CX0 "ratio_by" ["top", "bottom"] [] 1 spBy) (C_ratio_by1 : Cg P w K mg base CX0 "ratio_by" ["top", "bottom"] [.int 1] 1 spBy)
    (C__law_drawn : Cg P w K mg base CX0 "_law_drawn" ["box"] [] 4 spDrawn) (C__law_low : Cg P w K mg base CX0 "_law_low" ["top", "bottom"] [] 2 spBy)
    (C_ratio_plus : Cg P w K mg base CX0 "ratio_plus" ["one", "other"] [] 2 (spOp x_plus y_plus)) (C_ratio_minus : Cg P w K mg base CX0 "ratio_minus" ["one", "other"] [] 2 (spOp x_minus y_minus)) (C_ratio_times : Cg P w K mg base CX0 "ratio_times" ["one", "other"] [] 2 (spOp x_times y_times))
    (C_ratio_over : Cg P w K mg base CX0 "ratio_over" ["one", "other"] [] 2 (spOp x_over y_over)) (C_middle_ratio : Cg P w K mg base CX0 "middle_ratio" ["one", "other"] [] 2 (spOp x_middle y_middle)) (C_ratio_order : Cg P w K mg base CX0 "ratio_order" ["one", "other"] [] 2 spOrder)
    (C__law_sign : Cg P w K mg base CX0 "_law_sign" ["number"] [] 1 spSign) (C_ratio_text : Cg P w K mg base CX0 "ratio_text" ["one"] [] 1 spText) (C__law_told : Cg P w K mg base CX0 "_law_told" ["text"] [] 4 (spTold K)) (C__law_reads : Cg P w K mg base CX0 "_law_reads" ["text"] [] 2 spReads)
    (C_is_ratio : Cg P w K mg base CX0 "is_ratio" ["value"] [] 2 (spRatQ K)) (C__law_is : Cg P w K mg base CX0 "_law_is" ["value"] [] 2 (spIs K)) (C__law_string : Cg P w K mg base CX0 "_law_string" ["box", "one"] [] 3 spString)
    (n_repr : mg "repr" = none) (n_str : mg "str" = none) (n_list : mg "list" = none) (n_range : mg "range" = none) :
    FnG P w K mg base CX0 5 f fd ["box"] spPair := by
  refine go_ok F sc__law_pair_right (fun vs H Q E h => ?_) (fun cdv A outer s H vs Q E hr fr h => ?_)
  · obtain ⟨_, rfl, _⟩ := h
    rfl
  · obtain ⟨p, rfl, hb, q⟩ := h
    refine ⟨_, (pss_cons (ps_par (i := 1) (j := 2) (by rfl) sc__law_pair_right.nd rfl rfl (by decide) rfl rfl (pa_cons (pe_go C__law_drawn (hr.mono (by decide)) fr rfl (pa_cons (pv 0) pa_nil)) (pa_cons (pe_go C__law_drawn (hr.mono (by decide)) fr rfl (pa_cons (pv 0) pa_nil)) pa_nil)) (by rfl))
    (pss_cons (ps_asg (pe_tup (pa_cons (pe_go C__law_low (hr.mono (by decide)) fr rfl (pa_cons (pe_ix ix_tup (pv 1) (pe_int) (fun _ _ => rfl)) (pa_cons (pe_ix ix_tup (pv 1) (pe_int) (fun _ _ => rfl)) pa_nil))) (pa_cons (pe_go C__law_low (hr.mono (by decide)) fr rfl (pa_cons (pe_ix ix_tup (pv 2) (pe_int) (fun _ _ => rfl)) (pa_cons (pe_ix ix_tup (pv 2) (pe_int) (fun _ _ => rfl)) pa_nil))) pa_nil))) (pg_tup rfl (pgs_cons (pg_name (i := 3) sc__law_pair_right.nd rfl (Or.inr rfl)) (pgs_cons (pg_name (i := 4) sc__law_pair_right.nd rfl (Or.inl rfl)) pgs_nil))))
    (Evl.pss_cut (ps_if (PW.pt (pw_or (pt_cmpR op_ne (pe_callB (cr_repr fr hr.units) (by rfl) n_repr (by decide +kernel) (pa_cons (pe_go C_ratio_by (hr.mono (by decide)) fr rfl (pa_cons (pe_ix ix_tup (pv 1) (pe_int) (fun _ _ => rfl)) (pa_cons (pe_ix ix_tup (pv 1) (pe_int) (fun _ _ => rfl)) pa_nil))) pa_nil)) (pe_callB (cr_repr fr hr.units) (by rfl) n_repr (by decide +kernel) (pa_cons (pv 3) pa_nil)) (nomark _)) (pw_or (pt_cmpR (op_neD hr.units) (pe_go C_ratio_by (hr.mono (by decide)) fr rfl (pa_cons (pe_ix ix_tup (pv 2) (pe_int) (fun _ _ => rfl)) (pa_cons (pe_ix ix_tup (pv 2) (pe_int) (fun _ _ => rfl)) pa_nil))) (pv 4) (nomark _)) (pw_or1 (pt_cmpR (op_neD hr.units) (pe_go C_ratio_by1 (hr.mono (by decide)) fr rfl (pa_cons (pe_ix ix_tup (pv 1) (pe_int) (fun _ _ => rfl)) pa_nil)) (pe_tup (pa_cons (pe_ix ix_tup (pv 1) (pe_int) (fun _ _ => rfl)) (pa_cons (pe_int) pa_nil))) (nomark _)))))) (pss_one (ps_ret (pe_bl))) pss_nil)
    (pss_cons (ps_par (i := 5) (j := 6) (by rfl) sc__law_pair_right.nd rfl rfl (by decide) rfl rfl (pa_cons (pe_op op_mul (pe_ix ix_tup (pv 3) (pe_int) (fun _ _ => rfl)) (pe_ix ix_tup (pv 4) (pe_int) (fun _ _ => rfl))) (pa_cons (pe_op op_mul (pe_ix ix_tup (pv 3) (pe_int) (fun _ _ => rfl)) (pe_ix ix_tup (pv 4) (pe_int) (fun _ _ => rfl))) pa_nil)) (by rfl))
    (pss_cons (ps_set (i := 7) sc__law_pair_right.nd rfl (Or.inl rfl) (pe_op op_mul (pe_ix ix_tup (pv 4) (pe_int) (fun _ _ => rfl)) (pe_ix ix_tup (pv 3) (pe_int) (fun _ _ => rfl))))
    (Evl.pss_cut (ps_if (PW.pt (pw_or (pt_cmpR (op_neD hr.units) (pe_go C_ratio_plus (hr.mono (by decide)) fr rfl (pa_cons (pv 3) (pa_cons (pv 4) pa_nil))) (pe_go C__law_low (hr.mono (by decide)) fr rfl (pa_cons (pe_op op_add (pv 5) (pv 7)) (pa_cons (pv 6) pa_nil))) (nomark _)) (pw_or1 (pt_cmpR (op_neD hr.units) (pe_go C_ratio_minus (hr.mono (by decide)) fr rfl (pa_cons (pv 3) (pa_cons (pv 4) pa_nil))) (pe_go C__law_low (hr.mono (by decide)) fr rfl (pa_cons (pe_op op_sub (pv 5) (pv 7)) (pa_cons (pv 6) pa_nil))) (nomark _))))) (pss_one (ps_ret (pe_bl))) pss_nil)
    (Evl.pss_cut (ps_if (pt_cmpR (op_neD hr.units) (pe_go C_ratio_times (hr.mono (by decide)) fr rfl (pa_cons (pv 3) (pa_cons (pv 4) pa_nil))) (pe_go C__law_low (hr.mono (by decide)) fr rfl (pa_cons (pe_op op_mul (pe_ix ix_tup (pv 3) (pe_int) (fun _ _ => rfl)) (pe_ix ix_tup (pv 4) (pe_int) (fun _ _ => rfl))) (pa_cons (pv 6) pa_nil))) (nomark _)) (pss_one (ps_ret (pe_bl))) pss_nil)
    (Evl.pss_cut (ps_if (pt_cmpR (op_neD hr.units) (pe_go C_middle_ratio (hr.mono (by decide)) fr rfl (pa_cons (pv 3) (pa_cons (pv 4) pa_nil))) (pe_go C__law_low (hr.mono (by decide)) fr rfl (pa_cons (pe_op op_add (pv 5) (pv 7)) (pa_cons (pe_op op_mul (pe_int) (pv 6)) pa_nil))) (nomark _)) (pss_one (ps_ret (pe_bl))) pss_nil)
    (Evl.pss_cut (ps_if (PW.pt (pw_and (pt_cmpR op_ne (pe_ix ix_tup (pv 4) (pe_int) (fun _ _ => rfl)) (pe_int) (nomark _)) (pw_and1 (pt_cmpR (op_neD hr.units) (pe_go C_ratio_over (hr.mono (by decide)) fr rfl (pa_cons (pv 3) (pa_cons (pv 4) pa_nil))) (pe_go C__law_low (hr.mono (by decide)) fr rfl (pa_cons (pv 5) (pa_cons (pv 7) pa_nil))) (nomark _))))) (pss_one (ps_ret (pe_bl))) pss_nil)
    (Evl.pss_cut (ps_if (PW.pt (pw_or (pt_cmpR op_ne (pe_callB (cr_repr fr hr.units) (by rfl) n_repr (by decide +kernel) (pa_cons (pe_go C_ratio_order (hr.mono (by decide)) fr rfl (pa_cons (pv 3) (pa_cons (pv 4) pa_nil))) pa_nil)) (pe_callB (cr_repr fr hr.units) (by rfl) n_repr (by decide +kernel) (pa_cons (pe_go C__law_sign (hr.mono (by decide)) fr rfl (pa_cons (pe_op op_sub (pv 5) (pv 7)) pa_nil)) pa_nil)) (nomark _)) (pw_or1 (pt_cmpR op_ne (pe_go C_ratio_order (hr.mono (by decide)) fr rfl (pa_cons (pv 3) (pa_cons (pv 3) pa_nil))) (pe_int) (nomark _))))) (pss_one (ps_ret (pe_bl))) pss_nil)
    (Evl.pss_cut (ps_set (i := 8) sc__law_pair_right.nd rfl (Or.inl rfl) (pe_ifExp (pt_cmpR op_eq (pe_ix ix_tup (pv 3) (pe_int) (fun _ _ => rfl)) (pe_int) (nomark _)) (pe_callTy call_str_int (by rfl) n_str (by decide +kernel) (pa_cons (pe_ix ix_tup (pv 3) (pe_int) (fun _ _ => rfl)) pa_nil)) (pe_op op_add_str (pe_op op_add_str (pe_callTy call_str_int (by rfl) n_str (by decide +kernel) (pa_cons (pe_ix ix_tup (pv 3) (pe_int) (fun _ _ => rfl)) pa_nil)) (pe_str)) (pe_callTy call_str_int (by rfl) n_str (by decide +kernel) (pa_cons (pe_ix ix_tup (pv 3) (pe_int) (fun _ _ => rfl)) pa_nil)))))
    (Evl.pss_cut (ps_if (PW.pt (pw_or (pt_cmpR op_ne (pe_go C_ratio_text (hr.mono (by decide)) fr rfl (pa_cons (pv 3) pa_nil)) (pv 8) (nomark _)) (pw_or1 (pt_cmpR (op_neD hr.units) (pe_go C__law_told (hr.mono (by decide)) fr rfl (pa_cons (pv 8) pa_nil)) (pe_go C__law_reads (hr.mono (by decide)) fr rfl (pa_cons (pv 8) pa_nil)) (nomark _))))) (pss_one (ps_ret (pe_bl))) pss_nil)
    (pss_cons (ps_set (i := 9) sc__law_pair_right.nd rfl (Or.inl rfl) (pe_lst (pa_cons (pv 3) (pa_cons (pe_callTy call_list_of (by rfl) n_list (by decide +kernel) (pa_cons (pv 3) pa_nil)) (pa_cons (pv 1) (pa_cons (pe_tup (pa_cons (pe_ix ix_tup (pv 3) (pe_int) (fun _ _ => rfl)) (pa_cons (pe_bl) pa_nil))) (pa_cons (pe_tup (pa_cons (pe_bl) (pa_cons (pe_int) pa_nil))) (pa_cons (pe_tup (pa_cons (pe_ix ix_tup (pv 3) (pe_int) (fun _ _ => rfl)) (pa_cons (pe_int) pa_nil))) (pa_cons (pe_tup (pa_cons (pe_ix ix_tup (pv 3) (pe_int) (fun _ _ => rfl)) (pa_cons (pe_op op_sub (pe_int) (pe_ix ix_tup (pv 3) (pe_int) (fun _ _ => rfl))) pa_nil))) (pa_cons (pe_tup (pa_cons (pe_ix ix_tup (pv 3) (pe_int) (fun _ _ => rfl)) (pa_cons (pe_ix ix_tup (pv 3) (pe_int) (fun _ _ => rfl)) (pa_cons (pe_int) pa_nil)))) pa_nil))))))))))
    (Evl.pss_cut (ps_set (i := 9) sc__law_pair_right.nd rfl (Or.inl rfl) (pe_op op_cat (pv 9) (pe_lst (pa_cons (pe_non) (pa_cons (pe_ix ix_tup (pv 3) (pe_int) (fun _ _ => rfl)) (pa_cons (pv 8) (pa_cons (pe_tup (pa_cons (pe_op op_mul (pe_int) (pe_ix ix_tup (pv 3) (pe_int) (fun _ _ => rfl))) (pa_cons (pe_op op_mul (pe_int) (pe_ix ix_tup (pv 3) (pe_int) (fun _ _ => rfl))) pa_nil))) (pa_cons (pe_tup (pa_cons (pv 3) pa_nil)) (pa_cons (pe_tup (pa_cons (pe_callTy call_str_int (by rfl) n_str (by decide +kernel) (pa_cons (pe_ix ix_tup (pv 3) (pe_int) (fun _ _ => rfl)) pa_nil)) (pa_cons (pe_int) pa_nil))) (pa_cons (pe_tup pa_nil) pa_nil))))))))))
    (Evl.pss_cut (ps_if (pt_cmpR (op_neD hr.units) (pe_lc (own := [("value", 11)]) (g := gName 11) rfl sc__law_pair_right.nd (pi_list (pv 9)) (blkOk_by (N := ["box", "raw", "more", "one", "other", "top", "bottom", "cross", "written", "values", "texts", "value", "turn", "text"]) (sc := defScope s__law_pair_right) (by decide +kernel)) (fun _ _ _ _ _ => pg_name (i := 11) sc__law_pair_right.nd rfl (Or.inl rfl)) (fun _ _ _ _ _ => pts_one (pt_cmpR op_ne (pe_callB (id := "repr") (r := rRepr K) (cr_repr fr hr.units) (by rfl) n_repr (by decide +kernel) (pa_cons (pe_go C_is_ratio (hr.mono (by decide)) fr rfl (pa_cons (pv 11) pa_nil)) pa_nil)) (pe_callB (id := "repr") (r := rRepr K) (cr_repr fr hr.units) (by rfl) n_repr (by decide +kernel) (pa_cons (pe_go C__law_is (hr.mono (by decide)) fr rfl (pa_cons (pv 11) pa_nil)) pa_nil)) (nomark _))) (fun _ _ _ _ _ => pv 11)) (pe_lst pa_nil) (nomark _)) (pss_one (ps_ret (pe_bl))) pss_nil)
    (Evl.pss_cut (ps_setLc (i := 10) (own := [("turn", 12)]) (g := gName 12) (by rfl) sc__law_pair_right.nd rfl rfl (sw_true rfl rfl rfl (by decide +kernel)) (pi_range1 (by rfl) n_range (pa_cons (pe_int) pa_nil)) (blkOk_by (N := ["box", "raw", "more", "one", "other", "top", "bottom", "cross", "written", "values", "texts", "value", "turn", "text"]) (sc := defScope s__law_pair_right) (by decide +kernel)) (fun _ _ _ _ _ => pg_name (i := 12) sc__law_pair_right.nd rfl (Or.inl rfl)) (fun _ _ _ _ _ => pts_nil) (fun _ _ _ _ _ => pe_go C__law_string (hr.mono (by decide)) fr rfl (pa_cons (pv 0) (pa_cons (pv 3) pa_nil))))
    (Evl.pss_cut (ps_if (pt_cmpR (op_neD hr.units) (pe_lc (own := [("text", 13)]) (g := gName 13) rfl sc__law_pair_right.nd (pi_list (pv 10)) (blkOk_by (N := ["box", "raw", "more", "one", "other", "top", "bottom", "cross", "written", "values", "texts", "value", "turn", "text"]) (sc := defScope s__law_pair_right) (by decide +kernel)) (fun _ _ _ _ _ => pg_name (i := 13) sc__law_pair_right.nd rfl (Or.inl rfl)) (fun _ _ _ _ _ => pts_one (pt_cmpR (r := rNeD K) (op_neD hr.units) (pe_go C__law_told (hr.mono (by decide)) fr rfl (pa_cons (pv 13) pa_nil)) (pe_go C__law_reads (hr.mono (by decide)) fr rfl (pa_cons (pv 13) pa_nil)) (nomark _))) (fun _ _ _ _ _ => pv 13)) (pe_lst pa_nil) (nomark _)) (pss_one (ps_ret (pe_bl))) pss_nil)
    (pss_one (ps_ret (pe_cmpR (op_eqD hr.units) (pe_lc (own := [("value", 11)]) (g := gName 11) rfl sc__law_pair_right.nd (pi_tup (pe_tup (pa_cons (pe_non) (pa_cons (pe_ix ix_tup (pv 3) (pe_int) (fun _ _ => rfl)) (pa_cons (pe_bl) (pa_cons (pe_lst (pa_cons (pv 8) pa_nil)) (pa_cons (pv 3) pa_nil))))))) (blkOk_by (N := ["box", "raw", "more", "one", "other", "top", "bottom", "cross", "written", "values", "texts", "value", "turn", "text"]) (sc := defScope s__law_pair_right) (by decide +kernel)) (fun _ _ _ _ _ => pg_name (i := 11) sc__law_pair_right.nd rfl (Or.inl rfl)) (fun _ _ _ _ _ => pts_one (pt_cmpR op_notN (pe_go C__law_told (hr.mono (by decide)) fr rfl (pa_cons (pv 11) pa_nil)) (pe_non) (nomark _))) (fun _ _ _ _ _ => pv 11)) (pe_lst pa_nil) (nomark _))))))))))))))))))))), ?_⟩
    have big : (2 : Nat) ^ 40 < 2 ^ 190 := by decide
    have big2 : (2 : Nat) ^ 40 < 2 ^ 200 := by decide
    have c40 : ∀ i : Int, (-(2 ^ 40) < i ∧ i < 2 ^ 40) → i.natAbs < 2 ^ 40 := fun i h => by omega
    refine ⟨_, rfl, p, rfl, hb, fun tr H1 a b k1 b1 er ha hbb b0 => ?_⟩
    refine ⟨_, rfl, p, rfl, b1, fun tm H2 c d k2 b2 em hc hd d0 => ⟨_, _, rfl, ?_⟩⟩
    have er2 : H2 tr = some (.tup [.int a, .int b]) := by
      obtain ⟨_, _, _, e, _⟩ := b1
      exact Kept.tup k2 e er
    have k12 : Kept p H H2 := k1.trans k2
    clear k1 k2 b1 er
    have na := c40 a ha
    have nb := c40 b hbb
    have nc := c40 c hc
    have nd := c40 d hd
    refine ⟨_, rfl, tr, _, _, _, rfl, rfl, SqT.of er2, rfl, _, rfl, tr, _, _, _, rfl, rfl, SqT.of er2, rfl, a, b, rfl, b0, by omega, fun to H3 s3 eo => ?_⟩
    have em3 := s3 _ _ em
    refine ⟨_, rfl, tm, _, _, _, rfl, rfl, SqT.of em3, rfl, _, rfl, tm, _, _, _, rfl, rfl, SqT.of em3, rfl, c, d, rfl, d0, by omega, fun tt H4 s4 et => ?_⟩
    refine ⟨by show 2 ≤ sizeLine; decide, fun u hu => ?_⟩
    refine ⟨u, _, rfl, SqT.of upd_same, rfl, _, _, rfl, _, _, rfl, rfl, ?_⟩
    have s5 := same_new hu (.tup [.ref to, .ref tt])
    generalize upd H4 u (.tup [.ref to, .ref tt]) = H5 at s5 ⊢
    have s25 : Same H2 H5 := s3.trans (s4.trans s5)
    replace er2 := s25 _ _ er2
    replace em := s25 _ _ em
    replace eo := (s4.trans s5) _ _ eo
    replace et := s5 _ _ et
    have b5 := b2.mono s25
    have k5 : Kept p H H5 := k12.trans (Hb.Same.kept s25)
    clear s3 em3 s4 s5 s25 b2 k12 hu
    obtain ⟨x0, y0, y1⟩ := low_size (a := a) b0
    obtain ⟨z0, w0, w1⟩ := low_size (a := c) d0
    have hlow1 : ∀ e, lT a 1 = e → True := fun _ _ => trivial
    refine ⟨fun σ H6 => σ = [some (.ref p), some (.ref tr), some (.ref tm), some (.ref to), some (.ref tt), none, none, none, none, none, none, none, none, none] ∧ Same H5 H6, ?_, ?_⟩
    · refine ⟨_, rfl, tr, _, _, _, rfl, rfl, SqT.of er2, rfl, _, rfl, tr, _, _, _, rfl, rfl, SqT.of er2, rfl, a, b, rfl, b0, by omega, fun p1 H6 s6 e6 => ?_⟩
      have t1 : (lT a b).natAbs < 2 ^ 200 := by omega
      have t2 : (lB a b).natAbs < 2 ^ 200 := by omega
      refine ⟨_, _, rfl, dp_two e6, sh_tup t1 t2, rfl, dep_tup, shown_two t1 t2, ?_⟩
      refine ⟨_, rfl, _, _, rfl, dp_two (s6 _ _ eo), sh_tup t1 t2, rfl, dep_tup, shown_two t1 t2, ?_⟩
      refine ⟨rfl, _, rfl, str_same ?_⟩
      have em6 := s6 _ _ em
      refine ⟨_, rfl, tm, _, _, _, rfl, rfl, SqT.of em6, rfl, _, rfl, tm, _, _, _, rfl, rfl, SqT.of em6, rfl, c, d, rfl, d0, by omega, fun p2 H7 s7 e7 => ?_⟩
      refine ⟨_, rfl, ne_tup e7 (s7 _ _ (s6 _ _ et)) rfl rfl ⟨_, rfl, iteF ?_⟩⟩
      have er7 := s7 _ _ (s6 _ _ er2)
      refine ⟨_, rfl, tr, _, _, _, rfl, rfl, SqT.of er7, rfl, a, 1, rfl, by decide, by decide, fun p3 H8 s8 e8 => ?_⟩
      refine ⟨_, rfl, tr, _, _, _, rfl, rfl, SqT.of (s8 _ _ er7), rfl, by show 2 ≤ sizeLine; decide, fun u hu => ?_⟩
      refine ne_tup (same_new hu _ _ _ e8) upd_same (low_one a).1 (low_one a).2 ⟨_, rfl, iteF ⟨rfl, ?_⟩⟩
      exact s6.trans (s7.trans (s8.trans (same_new hu _)))
    · rintro σ H6 ⟨rfl, s6⟩
      replace er2 := s6 _ _ er2
      replace em := s6 _ _ em
      replace eo := s6 _ _ eo
      replace et := s6 _ _ et
      replace b5 := b5.mono s6
      replace k5 := k5.trans (Hb.Same.kept s6)
      clear s6
      generalize lT a b = X at *
      generalize lB a b = Y at *
      generalize lT c d = Z at *
      generalize lB c d = W at *
      have X2 : X.natAbs < 2 ^ 40 := by omega
      have Y2 : Y.natAbs < 2 ^ 40 := by omega
      have Z2 : Z.natAbs < 2 ^ 40 := by omega
      have W2 : W.natAbs < 2 ^ 40 := by omega
      have hb : ∀ i : Int, i.natAbs < 2 ^ 40 → (-(2 ^ 60) < i ∧ i < 2 ^ 60) := fun i h => by omega
      have hb4 : ∀ i : Int, i.natAbs < 2 ^ 40 → (-(2 ^ 64) < i ∧ i < 2 ^ 64) := fun i h => by omega
      refine ⟨_, rfl, to, _, _, _, rfl, rfl, SqT.of eo, rfl, _, rfl, tt, _, _, _, rfl, rfl, SqT.of et, rfl, _, _, rfl, rfl, .inl (by omega), ?_⟩
      refine ⟨_, rfl, to, _, _, _, rfl, rfl, SqT.of eo, rfl, _, rfl, tt, _, _, _, rfl, rfl, SqT.of et, rfl, _, _, rfl, rfl, .inl (by omega), _, _, rfl, ?_⟩
      refine ⟨_, rfl, tt, _, _, _, rfl, rfl, SqT.of et, rfl, _, rfl, to, _, _, _, rfl, rfl, SqT.of eo, rfl, _, _, rfl, rfl, .inl (by omega), ?_⟩
      have YW0 : 0 < Y * W := Int.mul_pos y0 w0
      have YW1 := mul_small Y2 W2
      have l80 : (2 : Nat) ^ 80 < 2 ^ 190 := by decide
      have bX := hb X X2
      have bY := hb Y Y2
      have bZ := hb Z Z2
      have bW := hb W W2
      let S : L2.St := [some (.ref p), some (.ref tr), some (.ref tm), some (.ref to), some (.ref tt), some (.int (X * W)), some (.int (Y * W)), some (.int (Z * Y)), none, none, none, none, none, none]
      refine ⟨fun σ H7 => σ = S ∧ Same H6 H7, ?_, ?_⟩
      · refine ⟨_, rfl, _, rfl, _, _, X, Y, Z, W, rfl, ⟨to, rfl, eo⟩, ⟨tt, rfl, et⟩, bX, bY, bZ, bW, by show Y * W ≠ 0; omega, by show (Y * W).natAbs < _; omega, fun p1 H7 s7 e7 => ?_⟩
        refine ⟨_, rfl, _, rfl, _, _, rfl, rfl, _, rfl, _, _, rfl, by omega, by omega, fun p2 H8 s8 e8 => ?_⟩
        refine ne_tup (s8 _ _ e7) e8 rfl rfl ⟨_, rfl, iteF ?_⟩
        have sa := s7.trans s8
        refine ⟨_, rfl, _, rfl, _, _, X, Y, Z, W, rfl, ⟨to, rfl, sa _ _ eo⟩, ⟨tt, rfl, sa _ _ et⟩, bX, bY, bZ, bW, by show Y * W ≠ 0; omega, by show (Y * W).natAbs < _; omega, fun p1 H9 s9 e9 => ?_⟩
        refine ⟨_, rfl, _, rfl, _, _, rfl, rfl, _, rfl, _, _, rfl, by omega, by omega, fun p2 H10 s10 e10 => ?_⟩
        exact ne_tup (s10 _ _ e9) e10 rfl rfl ⟨_, rfl, iteF ⟨rfl, sa.trans (s9.trans s10)⟩⟩
      rintro σ H7 ⟨rfl, s7⟩
      replace eo := s7 _ _ eo
      replace et := s7 _ _ et
      replace er2 := s7 _ _ er2
      replace em := s7 _ _ em
      replace b5 := b5.mono s7
      replace k5 := k5.trans (Hb.Same.kept s7)
      clear s7
      refine ⟨fun σ H8 => σ = S ∧ Same H7 H8, ?_, ?_⟩
      · refine ⟨_, rfl, _, rfl, _, _, X, Y, Z, W, rfl, ⟨to, rfl, eo⟩, ⟨tt, rfl, et⟩, bX, bY, bZ, bW, by show Y * W ≠ 0; omega, by show (Y * W).natAbs < _; omega, fun p1 H8 s8 e8 => ?_⟩
        refine ⟨_, rfl, to, _, _, _, rfl, rfl, SqT.of (s8 _ _ eo), rfl, _, rfl, tt, _, _, _, rfl, rfl, SqT.of (s8 _ _ et), rfl, _, _, rfl, rfl, .inl (by omega), _, rfl, _, _, rfl, by omega, by omega, fun p2 H9 s9 e9 => ?_⟩
        exact ne_tup (s9 _ _ e8) e9 rfl rfl ⟨_, rfl, iteF ⟨rfl, s8.trans s9⟩⟩
      rintro σ H8 ⟨rfl, s8⟩
      replace eo := s8 _ _ eo
      replace et := s8 _ _ et
      replace er2 := s8 _ _ er2
      replace em := s8 _ _ em
      replace b5 := b5.mono s8
      replace k5 := k5.trans (Hb.Same.kept s8)
      clear s8
      have e2 : y_middle X Y Z W = 2 * (Y * W) := Int.mul_assoc 2 Y W
      refine ⟨fun σ H9 => σ = S ∧ Same H8 H9, ?_, ?_⟩
      · refine ⟨_, rfl, _, rfl, _, _, X, Y, Z, W, rfl, ⟨to, rfl, eo⟩, ⟨tt, rfl, et⟩, bX, bY, bZ, bW, by rw [e2]; omega, by rw [e2]; omega, fun p1 H9 s9 e9 => ?_⟩
        rw [e2] at e9
        refine ⟨_, rfl, _, rfl, _, _, rfl, rfl, _, rfl, _, _, rfl, rfl, .inl ⟨by decide, by decide⟩, _, _, rfl, by omega, by omega, fun p2 H10 s10 e10 => ?_⟩
        exact ne_tup (s10 _ _ e9) e10 rfl rfl ⟨_, rfl, iteF ⟨rfl, s9.trans s10⟩⟩
      rintro σ H9 ⟨rfl, s9⟩
      replace eo := s9 _ _ eo
      replace et := s9 _ _ et
      replace er2 := s9 _ _ er2
      replace em := s9 _ _ em
      replace b5 := b5.mono s9
      replace k5 := k5.trans (Hb.Same.kept s9)
      clear s9
      have e3 : y_over X Y Z W = Z * Y := Int.mul_comm Y Z
      have ZY1 := mul_small Z2 Y2
      refine ⟨fun σ H10 => σ = S ∧ Same H9 H10, ?_, ?_⟩
      · refine ⟨_, rfl, tt, _, _, _, rfl, rfl, SqT.of et, rfl, rfl, _, rfl, ?_⟩
        refine iteN (fun cc => ?_) (fun cc => iteF ⟨rfl, Evl.Ex.refl _⟩)
        have z0 : Z ≠ 0 := fun z => cc (congrArg V.int z)
        have zy0 : Z * Y ≠ 0 := Int.mul_ne_zero z0 (by omega)
        refine ⟨_, rfl, _, rfl, _, _, X, Y, Z, W, rfl, ⟨to, rfl, eo⟩, ⟨tt, rfl, et⟩, bX, bY, bZ, bW, by rw [e3]; exact zy0, by rw [e3]; omega, fun p1 H10 s10 e10 => ?_⟩
        rw [e3] at e10
        refine ⟨_, rfl, _, rfl, _, _, rfl, zy0, by omega, fun p2 H11 s11 e11 => ?_⟩
        exact ne_tup (s11 _ _ e10) e11 rfl rfl ⟨_, rfl, iteF ⟨rfl, s10.trans s11⟩⟩
      rintro σ H10 ⟨rfl, s10⟩
      replace eo := s10 _ _ eo
      replace et := s10 _ _ et
      replace er2 := s10 _ _ er2
      replace em := s10 _ _ em
      replace b5 := b5.mono s10
      replace k5 := k5.trans (Hb.Same.kept s10)
      clear s10
      refine ⟨fun σ H11 => σ = S ∧ H11 = H10, ?_, ?_⟩
      · have sg1 : ∀ i : Int, i.sign.natAbs < 2 ^ 200 := fun i => by
          have : i.sign.natAbs ≤ 1 := by
            rcases Int.lt_trichotomy i 0 with z | z | z
            · rw [Int.sign_eq_neg_one_of_neg z]; decide
            · rw [z]; decide
            · rw [Int.sign_eq_one_of_pos z]; decide
          omega
        refine ⟨_, rfl, _, rfl, _, _, X, Y, Z, W, rfl, ⟨to, rfl, eo⟩, ⟨tt, rfl, et⟩, bX, bZ, ?_⟩
        refine ⟨_, _, rfl, .int _, sh_int (sg1 _), rfl, dep0, len_int (sg1 _), ?_⟩
        refine ⟨_, rfl, _, rfl, _, _, rfl, rfl, _, rfl, _, _, rfl, .int _, sh_int (sg1 _), rfl, dep0, len_int (sg1 _), ?_⟩
        refine ⟨rfl, _, rfl, str_same ?_⟩
        refine ⟨_, rfl, _, rfl, _, _, X, Y, X, Y, rfl, ⟨to, rfl, eo⟩, ⟨to, rfl, eo⟩, bX, bX, rfl, _, rfl, ?_⟩
        rw [Int.sub_self]
        exact iteF ⟨rfl, rfl⟩
      rintro σ H11 ⟨rfl, rfl⟩
      obtain ⟨r1, r2, r3⟩ := rText_ok (a := X) (b := Y) (by omega) (by omega)
      have hline : ∀ {n : Nat}, n ≤ 10000 → n ≤ sizeLine := fun h => Nat.le_trans h (by decide)
      have X3 : X.natAbs < 2 ^ 200 := by omega
      have Y3 : Y.natAbs < 2 ^ 200 := by omega
      obtain ⟨a1, a2⟩ := tlen X3
      obtain ⟨b1, b2⟩ := tlen Y3
      have s47 : Str.ofString "/" = c1 47 := by rfl
      have l47 : (c1 47).length = 1 := rfl
      let S8 : Str → L2.St := fun x => [some (.ref p), some (.ref tr), some (.ref tm), some (.ref to), some (.ref tt), some (.int (X * W)), some (.int (Y * W)), some (.int (Z * Y)), some (.str x), none, none, none, none, none]
      refine ⟨fun σ H12 => σ = S8 (rText X Y) ∧ H12 = H11, ?_, ?_⟩
      · refine ⟨_, rfl, to, _, _, _, rfl, rfl, SqT.of eo, rfl, rfl, _, rfl, ?_⟩
        unfold rText
        refine iteD (fun c => ?_) (fun c => ?_)
        · rw [if_pos (V.int.inj c)]
          exact ⟨_, rfl, to, _, _, _, rfl, rfl, SqT.of eo, rfl, X, rfl, a1, rfl, rfl⟩
        · rw [if_neg (fun z => c (congrArg V.int z))]
          rw [s47]
          refine ⟨_, rfl, to, _, _, _, rfl, rfl, SqT.of eo, rfl, X, rfl, a1, _, _, rfl, rfl, ?_, _, rfl, to, _, _, _, rfl, rfl, SqT.of eo, rfl, Y, rfl, b1, _, _, rfl, rfl, ?_, rfl, rfl⟩
          · exact hline (by rw [l47]; omega)
          · exact hline (by rw [len_app, l47]; omega)
      rintro σ H12 ⟨rfl, rfl⟩
      have hx10 : (rText X Y).length ≤ 10000 := by omega
      refine ⟨fun σ H13 => σ = S8 (rText X Y) ∧ Same H12 H13, ?_, ?_⟩
      · refine ⟨_, rfl, _, X, Y, rfl, ⟨to, rfl, eo⟩, X3, Y3, _, rfl, rfl, _, rfl, str_same ?_⟩
        refine ⟨_, rfl, _, _, rfl, .str _, (fun y e => by cases e; exact hx10), fun u1 H13 s13 o1 => ?_⟩
        refine ⟨_, rfl, _, rfl, hx10, r1, fun u2 H14 s14 o2 => ?_⟩
        obtain ⟨d, g1, g2, g3, g4⟩ := ne_opt (K := K) (o1.mono s14) o2
        refine ⟨d, d, g1, g2, g3, g3, _, rfl, ?_⟩
        rw [g4]
        exact iteF ⟨rfl, s13.trans s14⟩
      generalize rText X Y = x at *
      rintro σ H13 ⟨rfl, s13⟩
      replace eo := s13 _ _ eo
      replace et := s13 _ _ et
      replace er2 := s13 _ _ er2
      replace b5 := b5.mono s13
      replace k5 := k5.trans (Hb.Same.kept s13)
      clear s13
      have eo0 := eo
      refine ⟨_, rfl, _, rfl, to, _, rfl, .inr (SqT.of eo), fun l1 hl1 => ?_⟩
      have s14 := same_new hl1 (.lst [.int X, .int Y])
      have el1 : (upd H13 l1 (.lst [.int X, .int Y])) l1 = some (.lst [.int X, .int Y]) := upd_same
      generalize upd H13 l1 (.lst [.int X, .int Y]) = H14 at s14 el1 ⊢
      replace eo := s14 _ _ eo
      refine ⟨_, rfl, _, rfl, to, _, _, _, rfl, rfl, SqT.of eo, rfl, by show 2 ≤ sizeLine; decide, fun u1 hu1 => ?_⟩
      have s15 := same_new hu1 (.tup [.int X, .bl true])
      have eu1 : (upd H14 u1 (.tup [.int X, .bl true])) u1 = some (.tup [.int X, .bl true]) := upd_same
      generalize upd H14 u1 (.tup [.int X, .bl true]) = H15 at s15 eu1 ⊢
      replace eo := s15 _ _ eo
      refine ⟨by show 2 ≤ sizeLine; decide, fun u2 hu2 => ?_⟩
      have s16 := same_new hu2 (.tup [.bl false, .int 1])
      have eu2 : (upd H15 u2 (.tup [.bl false, .int 1])) u2 = some (.tup [.bl false, .int 1]) := upd_same
      generalize upd H15 u2 (.tup [.bl false, .int 1]) = H16 at s16 eu2 ⊢
      replace eo := s16 _ _ eo
      refine ⟨_, rfl, to, _, _, _, rfl, rfl, SqT.of eo, rfl, by show 2 ≤ sizeLine; decide, fun u3 hu3 => ?_⟩
      have s17 := same_new hu3 (.tup [.int X, .int 0])
      have eu3 : (upd H16 u3 (.tup [.int X, .int 0])) u3 = some (.tup [.int X, .int 0]) := upd_same
      generalize upd H16 u3 (.tup [.int X, .int 0]) = H17 at s17 eu3 ⊢
      replace eo := s17 _ _ eo
      refine ⟨_, rfl, to, _, _, _, rfl, rfl, SqT.of eo, rfl, _, rfl, to, _, _, _, rfl, rfl, SqT.of eo, rfl, _, _, rfl, rfl, by show 2 ≤ sizeLine; decide, fun u4 hu4 => ?_⟩
      have s18 := same_new hu4 (.tup [.int X, .int (0 - Y)])
      have eu4 : (upd H17 u4 (.tup [.int X, .int (0 - Y)])) u4 = some (.tup [.int X, .int (0 - Y)]) := upd_same
      generalize upd H17 u4 (.tup [.int X, .int (0 - Y)]) = H18 at s18 eu4 ⊢
      replace eo := s18 _ _ eo
      refine ⟨_, rfl, to, _, _, _, rfl, rfl, SqT.of eo, rfl, _, rfl, to, _, _, _, rfl, rfl, SqT.of eo, rfl, by show 3 ≤ sizeLine; decide, fun u5 hu5 => ?_⟩
      have s19 := same_new hu5 (.tup [.int X, .int Y, .int 1])
      have eu5 : (upd H18 u5 (.tup [.int X, .int Y, .int 1])) u5 = some (.tup [.int X, .int Y, .int 1]) := upd_same
      generalize upd H18 u5 (.tup [.int X, .int Y, .int 1]) = H19 at s19 eu5 ⊢
      replace eo := s19 _ _ eo
      refine ⟨by show 8 ≤ sizeLine; decide, fun v1 hv1 => ?_⟩
      have s20 := same_new hv1 (.lst [.ref to, .ref l1, .ref tr, .ref u1, .ref u2, .ref u3, .ref u4, .ref u5])
      have ev1 : (upd H19 v1 (.lst [.ref to, .ref l1, .ref tr, .ref u1, .ref u2, .ref u3, .ref u4, .ref u5])) v1 = some (.lst [.ref to, .ref l1, .ref tr, .ref u1, .ref u2, .ref u3, .ref u4, .ref u5]) := upd_same
      generalize upd H19 v1 (.lst [.ref to, .ref l1, .ref tr, .ref u1, .ref u2, .ref u3, .ref u4, .ref u5]) = H20 at s20 ev1 ⊢
      replace eo := s20 _ _ eo
      let S9 : Str → V → L2.St := fun x v => [some (.ref p), some (.ref tr), some (.ref tm), some (.ref to), some (.ref tt), some (.int (X * W)), some (.int (Y * W)), some (.int (Z * Y)), some (.str x), some v, none, none, none, none]
      refine ⟨fun σ H30 => ∃ (v : Addr) (xs : List V) (ds : List PyData), σ = S9 x (.ref v) ∧ H30 v = some (.lst xs) ∧ DpAll K H30 xs ds ∧ (∀ d ∈ ds, SeqAt.shaped d = true) ∧ Same H13 H30, ?_, ?_⟩
      · refine ⟨_, rfl, _, rfl, to, _, _, _, rfl, rfl, SqT.of eo, rfl, _, rfl, _, rfl, to, _, _, _, rfl, rfl, SqT.of eo, rfl, _, _, rfl, rfl, .inl ⟨by decide, by decide⟩, _, rfl, to, _, _, _, rfl, rfl, SqT.of eo, rfl, _, _, rfl, rfl, .inl ⟨by decide, by decide⟩, by show 2 ≤ sizeLine; decide, fun u6 hu6 => ?_⟩
        have s21 := same_new hu6 (.tup [.int (2 * X), .int (2 * Y)])
        have eu6 : (upd H20 u6 (.tup [.int (2 * X), .int (2 * Y)])) u6 = some (.tup [.int (2 * X), .int (2 * Y)]) := upd_same
        generalize upd H20 u6 (.tup [.int (2 * X), .int (2 * Y)]) = H21 at s21 eu6 ⊢
        replace eo := s21 _ _ eo
        refine ⟨_, rfl, by show 1 ≤ sizeLine; decide, fun u7 hu7 => ?_⟩
        have s22 := same_new hu7 (.tup [.ref to])
        have eu7 : (upd H21 u7 (.tup [.ref to])) u7 = some (.tup [.ref to]) := upd_same
        generalize upd H21 u7 (.tup [.ref to]) = H22 at s22 eu7 ⊢
        replace eo := s22 _ _ eo
        refine ⟨_, rfl, to, _, _, _, rfl, rfl, SqT.of eo, rfl, X, rfl, a1, by show 2 ≤ sizeLine; decide, fun u8 hu8 => ?_⟩
        have s23 := same_new hu8 (.tup [.str (Str.ofString (toString X)), .int 1])
        have eu8 : (upd H22 u8 (.tup [.str (Str.ofString (toString X)), .int 1])) u8 = some (.tup [.str (Str.ofString (toString X)), .int 1]) := upd_same
        generalize upd H22 u8 (.tup [.str (Str.ofString (toString X)), .int 1]) = H23 at s23 eu8 ⊢
        replace eo := s23 _ _ eo
        refine ⟨by show 0 ≤ sizeLine; decide, fun u9 hu9 => ?_⟩
        have s24 := same_new hu9 (.tup [])
        have eu9 : (upd H23 u9 (.tup [])) u9 = some (.tup []) := upd_same
        generalize upd H23 u9 (.tup []) = H24 at s24 eu9 ⊢
        replace eo := s24 _ _ eo
        refine ⟨by show 7 ≤ sizeLine; decide, fun v2 hv2 => ?_⟩
        have s25 := same_new hv2 (.lst [.non, .int X, .str x, .ref u6, .ref u7, .ref u8, .ref u9])
        have ev2 : (upd H24 v2 (.lst [.non, .int X, .str x, .ref u6, .ref u7, .ref u8, .ref u9])) v2 = some (.lst [.non, .int X, .str x, .ref u6, .ref u7, .ref u8, .ref u9]) := upd_same
        generalize upd H24 v2 (.lst [.non, .int X, .str x, .ref u6, .ref u7, .ref u8, .ref u9]) = H25 at s25 ev2 ⊢
        replace eo := s25 _ _ eo
        refine ⟨v1, v2, _, _, rfl, rfl, ((s21.trans (s22.trans (s23.trans (s24.trans s25))))) _ _ ev1, ev2, by show 15 ≤ sizeLine; decide, fun v3 hv3 => ?_⟩
        have sv := same_new hv3 (.lst ([.ref to, .ref l1, .ref tr, .ref u1, .ref u2, .ref u3, .ref u4, .ref u5] ++ [.non, .int X, .str x, .ref u6, .ref u7, .ref u8, .ref u9]))
        have fl1 := sv _ _ (((s15.trans (s16.trans (s17.trans (s18.trans (s19.trans (s20.trans (s21.trans (s22.trans (s23.trans (s24.trans s25))))))))))) _ _ el1)
        have fu1 := sv _ _ (((s16.trans (s17.trans (s18.trans (s19.trans (s20.trans (s21.trans (s22.trans (s23.trans (s24.trans s25)))))))))) _ _ eu1)
        have fu2 := sv _ _ (((s17.trans (s18.trans (s19.trans (s20.trans (s21.trans (s22.trans (s23.trans (s24.trans s25))))))))) _ _ eu2)
        have fu3 := sv _ _ (((s18.trans (s19.trans (s20.trans (s21.trans (s22.trans (s23.trans (s24.trans s25)))))))) _ _ eu3)
        have fu4 := sv _ _ (((s19.trans (s20.trans (s21.trans (s22.trans (s23.trans (s24.trans s25))))))) _ _ eu4)
        have fu5 := sv _ _ (((s20.trans (s21.trans (s22.trans (s23.trans (s24.trans s25)))))) _ _ eu5)
        have fu6 := sv _ _ (((s22.trans (s23.trans (s24.trans s25)))) _ _ eu6)
        have fu7 := sv _ _ (((s23.trans (s24.trans s25))) _ _ eu7)
        have fu8 := sv _ _ (((s24.trans s25)) _ _ eu8)
        have fu9 := sv _ _ ((s25) _ _ eu9)
        have ftr := sv _ _ (((s14.trans (s15.trans (s16.trans (s17.trans (s18.trans (s19.trans (s20.trans (s21.trans (s22.trans (s23.trans (s24.trans s25)))))))))))) _ _ er2)
        have fto := sv _ _ eo
        refine ⟨v3, [.ref to, .ref l1, .ref tr, .ref u1, .ref u2, .ref u3, .ref u4, .ref u5] ++ [.non, .int X, .str x, .ref u6, .ref u7, .ref u8, .ref u9], [.tuple [.int X, .int Y], .list [.int X, .int Y], .tuple [.int a, .int b], .tuple [.int X, .bool true], .tuple [.bool false, .int 1], .tuple [.int X, .int 0], .tuple [.int X, .int (0 - Y)], .tuple [.int X, .int Y, .int 1], .none, .int X, .str x, .tuple [.int (2 * X), .int (2 * Y)], .tuple [.tuple [.int X, .int Y]], .tuple [.str (Str.ofString (toString X)), .int 1], .tuple []], rfl, upd_same, (.cons (dp_two fto) (.cons (.lst (SqL.of fl1) (.cons (.int X) (.cons (.int Y) .nil))) (.cons (dp_two ftr) (.cons (.tup (SqT.of fu1) (.cons (.int X) (.cons (.bl true) .nil))) (.cons (.tup (SqT.of fu2) (.cons (.bl false) (.cons (.int 1) .nil))) (.cons (dp_two fu3) (.cons (dp_two fu4) (.cons (.tup (SqT.of fu5) (.cons (.int X) (.cons (.int Y) (.cons (.int 1) .nil)))) (.cons (.non) (.cons (.int X) (.cons (.str x) (.cons (dp_two fu6) (.cons (.tup (SqT.of fu7) (.cons (dp_two fto) .nil)) (.cons (.tup (SqT.of fu8) (.cons (.str _) (.cons (.int 1) .nil))) (.cons (.tup (SqT.of fu9) .nil) .nil))))))))))))))), ?_, ((s14.trans (s15.trans (s16.trans (s17.trans (s18.trans (s19.trans (s20.trans (s21.trans (s22.trans (s23.trans (s24.trans s25)))))))))))).trans sv⟩
        intro d hd
        repeat (first | (rcases List.mem_cons.mp hd with rfl | hd; first | rfl | exact sh_str r1 | exact sh_si (okS_of _)) | cases hd)
      rintro σ H30 ⟨v3, xs, ds, rfl, ev3, hds, hsh, s30⟩
      replace eo := s30 _ _ eo0
      replace b5 := b5.mono s30
      replace k5 := k5.trans (Hb.Same.kept s30)
      clear s30
      refine ⟨fun σ H31 => σ = S9 x (.ref v3) ∧ Same H30 H31, ?_, ?_⟩
      · refine ⟨_, rfl, v3, rfl, ⟨_, SqL.of ev3⟩, fun D hD => ?_⟩
        refine lc_list (xs := xs) (fun i H' => Same H30 H' ∧ H' D = some (.lst [])) ?_ (fun i H' _ h => SqL.of (h.1 _ _ ev3)) ?_ ?_
        · exact ⟨same_new hD _, upd_same⟩
        · rintro i y H' hi ⟨h1, h2⟩
          obtain ⟨d, hdm, hdy⟩ := dps_get hds hi
          refine ⟨rfl, _, rfl, y, d, rfl, dp_same h1 _ _ hdy, _, _, rfl, .bl _, rfl, rfl, dep0, len_bl _, ?_⟩
          refine ⟨_, rfl, y, d, rfl, dp_same h1 _ _ hdy, hsh d hdm, fun H2 s2 => ?_⟩
          exact ⟨_, _, rfl, .bl _, rfl, rfl, dep0, len_bl _, rfl, _, rfl, str_same ⟨h1.trans s2, s2 _ _ h2⟩⟩
        · rintro H' ⟨h1, h2⟩
          refine ⟨by show 0 ≤ sizeLine; exact Nat.zero_le _, fun l hl => ?_⟩
          have s3 := same_new hl (.lst [])
          refine ⟨.list [], .list [], .lst (SqL.of (s3 _ _ h2)) .nil, .lst (SqL.of upd_same) .nil, rfl, rfl, _, rfl, ?_⟩
          rw [eqv_nil]
          exact iteF ⟨rfl, h1.trans s3⟩
      rintro σ H31 ⟨rfl, s31⟩
      replace eo := s31 _ _ eo
      replace b5 := b5.mono s31
      replace k5 := k5.trans (Hb.Same.kept s31)
      clear s31 hds hsh
      let S10 : V → L2.St := fun v => [some (.ref p), some (.ref tr), some (.ref tm), some (.ref to), some (.ref tt), some (.int (X * W)), some (.int (Y * W)), some (.int (Z * Y)), some (.str x), some (.ref v3), some v, none, none, none]
      have eoK : ∀ {H1 H2 : Hp}, Kept p H1 H2 → BoxAt H1 p → H1 to = some (.tup [.int X, .int Y]) → H2 to = some (.tup [.int X, .int Y]) := fun k b e => by
        obtain ⟨_, _, _, e2, _⟩ := b
        exact Kept.tup k e2 e
      refine ⟨fun σ H32 => ∃ (D : Addr) (ys : List Str), σ = S10 (.ref D) ∧ H32 D = some (.lst (ys.map V.str)) ∧ (∀ y ∈ ys, y.length ≤ 1000 ∧ okS y) ∧ Kept p H H32 ∧ H32 to = some (.tup [.int X, .int Y]), ?_, ?_⟩
      · refine ⟨6, rfl, by decide, by decide, fun D hD => ?_⟩
        have hDp : D ≠ p := box_ne b5 hD
        refine lc_range (lo := 0) (n := 6) (fun i H' => ∃ ys : List Str, ys.length = i ∧ (∀ y ∈ ys, y.length ≤ 1000 ∧ okS y) ∧ H' D = some (.lst (ys.map V.str)) ∧ Kept p H31 H' ∧ BoxAt H' p ∧ H' to = some (.tup [.int X, .int Y])) ?_ ?_ ?_
        · exact ⟨[], rfl, (by intro y hy; cases hy), upd_same, Hb.Same.kept (same_new hD _), b5.mono (same_new hD _), same_new hD _ _ _ eo⟩
        · rintro i H' hi ⟨ys, yl, yo, h1, k1, b1', e1'⟩
          refine ⟨rfl, _, rfl, _, rfl, p, _, X, Y, rfl, b1', ⟨to, rfl, e1'⟩, X3, Y3, fun z H2 z1 z2 k2 b2' => ?_⟩
          have h2 := k2 D _ h1 hDp
          refine ⟨_, h2, ?_, ys ++ [z], ?_, ?_, ?_, ?_, ?_, ?_⟩
          · rw [List.length_map, yl]
            exact Nat.lt_of_lt_of_le hi (by decide)
          · rw [List.length_append, yl]; rfl
          · intro u hu
            rcases List.mem_append.mp hu with t | t
            · exact yo u t
            · rw [List.mem_singleton.mp t]; exact ⟨z1, z2⟩
          · rw [upd_same, List.map_append]; rfl
          · intro c o hc hne
            have hcD : c ≠ D := fun t => by rw [t, hD] at hc; cases hc
            rw [upd_ne hcD]
            exact k2 c o (k1 c o hc hne) hne
          · obtain ⟨g, s', n', e6, r6⟩ := b2'
            exact ⟨g, s', n', by rw [upd_ne (Ne.symm hDp)]; exact e6, r6⟩
          · have := eoK k2 b1' e1'
            rw [upd_ne (ne_of this h2 (by intro t; cases t))]
            exact this
        · rintro H' ⟨ys, yl, yo, h1, k1, b1', e1'⟩
          exact ⟨D, ys, rfl, h1, yo, k5.trans k1, e1'⟩
      rintro σ H32 ⟨D, ys, rfl, h1, yo, k32, e32⟩
      refine ⟨fun σ H33 => σ = S10 (.ref D) ∧ Same H32 H33, ?_, ?_⟩
      · refine ⟨_, rfl, D, rfl, ⟨_, SqL.of h1⟩, fun D2 hD2 => ?_⟩
        refine lc_list (xs := ys.map V.str) (fun i H' => Same H32 H' ∧ H' D2 = some (.lst [])) ?_ (fun i H' _ h => SqL.of (h.1 _ _ h1)) ?_ ?_
        · exact ⟨same_new hD2 _, upd_same⟩
        · rintro i y H' hi ⟨g1, g2⟩
          rw [List.getElem?_map] at hi
          obtain ⟨z, hz, e⟩ := Option.map_eq_some_iff.mp hi
          subst e
          obtain ⟨z1, z2⟩ := yo z (List.mem_of_getElem? hz)
          refine ⟨rfl, _, rfl, _, .str z, rfl, .str _, (fun y e => by cases e; omega), fun u1 H13 s13 o1 => ?_⟩
          refine ⟨_, rfl, z, rfl, by omega, z2, fun u2 H14 s14 o2 => ?_⟩
          obtain ⟨d, q1, q2, q3, q4⟩ := ne_opt (K := K) (o1.mono s14) o2
          refine ⟨d, d, q1, q2, q3, q3, _, rfl, ?_⟩
          rw [q4]
          exact iteF ⟨g1.trans (s13.trans s14), (s13.trans s14) _ _ g2⟩
        · rintro H' ⟨g1, g2⟩
          refine ⟨by show 0 ≤ sizeLine; exact Nat.zero_le _, fun l hl => ?_⟩
          have s3 := same_new hl (.lst [])
          refine ⟨.list [], .list [], .lst (SqL.of (s3 _ _ g2)) .nil, .lst (SqL.of upd_same) .nil, rfl, rfl, _, rfl, ?_⟩
          rw [eqv_nil]
          exact iteF ⟨rfl, g1.trans s3⟩
      rintro σ H33 ⟨rfl, s33⟩
      replace e32 := s33 _ _ e32
      replace k32 := k32.trans (Hb.Same.kept s33)
      clear s33
      refine ⟨_, rfl, to, _, _, _, rfl, rfl, SqT.of e32, rfl, _, rfl, by show 1 ≤ sizeLine; decide, fun l hl => ?_⟩
      have sl := same_new hl (.lst [.str x])
      have el : (upd H33 l (.lst [.str x])) l = some (.lst [.str x]) := upd_same
      generalize upd H33 l (.lst [.str x]) = H34 at sl el ⊢
      replace e32 := sl _ _ e32
      refine ⟨_, rfl, by show 5 ≤ sizeLine; decide, fun u hu => ?_⟩
      have su := same_new hu (.tup [.non, .int X, .bl true, .ref l, .ref to])
      have eu : (upd H34 u (.tup [.non, .int X, .bl true, .ref l, .ref to])) u = some (.tup [.non, .int X, .bl true, .ref l, .ref to]) := upd_same
      generalize upd H34 u (.tup [.non, .int X, .bl true, .ref l, .ref to]) = H35 at su eu ⊢
      replace e32 := su _ _ e32
      replace el := su _ _ el
      have k35 : Kept p H H35 := k32.trans (Hb.Same.kept (sl.trans su))
      have hds : DpAll K H35 [.non, .int X, .bl true, .ref l, .ref to] [.none, .int X, .bool true, .list [.str x], .tuple [.int X, .int Y]] := .cons .non (.cons (.int X) (.cons (.bl true) (.cons (.lst (SqL.of el) (.cons (.str x) .nil)) (.cons (dp_two e32) .nil))))
      refine ⟨u, rfl, ⟨_, SqT.of eu⟩, fun D2 hD2 => ?_⟩
      refine lc_tup (xs := [.non, .int X, .bl true, .ref l, .ref to]) (fun i H' => Same H35 H' ∧ H' D2 = some (.lst [])) ?_ (fun i H' _ h => SqT.of (h.1 _ _ eu)) ?_ ?_
      · exact ⟨same_new hD2 _, upd_same⟩
      · rintro i y H' hi ⟨g1, g2⟩
        obtain ⟨d, hdm, hdy⟩ := dps_get hds hi
        have hno : rrd d = none ∧ ∀ x, d ≠ .str x := by
          rcases List.mem_cons.mp hdm with rfl | hdm
          · exact ⟨rfl, fun x e => by cases e⟩
          rcases List.mem_cons.mp hdm with rfl | hdm
          · exact ⟨rfl, fun x e => by cases e⟩
          rcases List.mem_cons.mp hdm with rfl | hdm
          · exact ⟨rfl, fun x e => by cases e⟩
          rcases List.mem_cons.mp hdm with rfl | hdm
          · exact ⟨rfl, fun x e => by cases e⟩
          rcases List.mem_cons.mp hdm with rfl | hdm
          · exact ⟨rfl, fun x e => by cases e⟩
          cases hdm
        refine ⟨rfl, _, rfl, y, d, rfl, dp_same g1 _ _ hdy, fun z e => absurd e (hno.2 z), fun u1 H13 s13 o1 => ?_⟩
        rw [hno.1] at o1
        obtain rfl : u1 = .non := o1
        refine ⟨rfl, _, rfl, ?_⟩
        refine iteF ⟨g1.trans s13, s13 _ _ g2⟩
      · rintro H' ⟨g1, g2⟩
        refine ⟨by show 0 ≤ sizeLine; exact Nat.zero_le _, fun l hl => ?_⟩
        have s3 := same_new hl (.lst [])
        refine ⟨.list [], .list [], .lst (SqL.of (s3 _ _ g2)) .nil, .lst (SqL.of upd_same) .nil, rfl, rfl, ?_⟩
        rw [eqv_nil]
        exact q _ (k35.trans (Hb.Same.kept (g1.trans s3)))
end
end Ka

namespace Ka
open PySem PySem.Spec PyProof.Rows L2 Hb Gu Tx Xb
section
variable {P : Program} {w : World} {K : PySem.W.Frag} {mg : Str → Option Value} {base : Heap}
/-! ### law -/
abbrev s_law : Stmt := top 35
theorem sc_law : FnScope ["script"] ["script"] (defScope s_law) := ⟨rfl, rfl, rfl, by decide +kernel, rfl, by decide +kernel, by decide +kernel⟩
def spLaw (K : PySem.W.Frag) : Sp := fun vs H Q _ => ∃ (a : Addr) (ns : List Int), vs = [.ref a] ∧ SqL K H a (ns.map V.int) ∧ ns.length ≤ 63 ∧ ∀ H', Q (.bl true) H'
theorem sql_kept {H H1 H2 : Hp} {a p : Addr} {xs : List V} (h : SqL K H a xs) (hp : H p = none) (s : Same H H1) (k : Kept p H1 H2) : SqL K H2 a xs := by
  have ne : ∀ {o}, H a = some o → a ≠ p := fun e z => by rw [z, hp] at e; cases e
  rcases h with (e | ⟨o, e⟩) | ⟨o, its, n, e, r⟩
  · exact .inl (.inl (k _ _ (s _ _ e) (ne e)))
  · exact .inl (.inr ⟨o, k _ _ (s _ _ e) (ne e)⟩)
  · exact .inr ⟨o, its, n, e, r⟩
theorem ok_law {f : Addr} {fd : FuncData} (F : Fun K "law" "law" s_law f fd) (C__law_box : Cg P w K mg base CX0 "_law_box" ["script", "k"] [] 1 (spBox K)) (C__law_pair_right : Cg P w K mg base CX0 "_law_pair_right" ["box"] [] 5 spPair) : FnG P w K mg base CX0 6 f fd ["script"] (spLaw K) := by
  refine go_ok F sc_law (fun vs H Q E h => ?_) (fun cdv A outer s H vs Q E hr fr h => ?_)
  · obtain ⟨_, _, rfl, _⟩ := h
    rfl
  · obtain ⟨a, ns, rfl, hS, h63, q⟩ := h
    refine ⟨_, (pss_one (ps_ret (pe_and (pe_go C__law_pair_right (hr.mono (by decide)) fr rfl (pa_cons (pe_go C__law_box (hr.mono (by decide)) fr rfl (pa_cons (pv 0) (pa_cons (pe_int) pa_nil))) pa_nil)) (pe_one (pe_go C__law_pair_right (hr.mono (by decide)) fr rfl (pa_cons (pe_go C__law_box (hr.mono (by decide)) fr rfl (pa_cons (pv 0) (pa_cons (pe_int) pa_nil))) pa_nil)))))), ?_⟩
    refine ⟨_, rfl, a, ns, 0, rfl, ⟨by decide, by decide⟩, hS, h63, fun p H1 hp s1 b1 => ?_⟩
    refine ⟨p, rfl, b1, fun H2 k2 => ⟨true, rfl, iteT ?_⟩⟩
    refine ⟨_, rfl, a, ns, 1, rfl, ⟨by decide, by decide⟩, sql_kept hS hp s1 k2, h63, fun p3 H3 hp3 s3 b3 => ?_⟩
    exact ⟨p3, rfl, b3, fun H4 k4 => q H4⟩
end
end Ka

namespace Ka
open PySem PySem.Spec PyProof.Rows L2 Hb Gu Tx Xb
theorem all_mk {l : PySem.W.OpenLaw} {w : World} {K : PySem.W.Frag} {h : Heap} {mg : Str → Option Value} {fa f0 f1 f2 f3 f4 f5 f6 f7 f8 f9 f10 f11 f12 f13 f14 f15 f16 f17 f18 f19 f20 f21 f22 f23 f24 f25 f26 f27 : Addr} (X : K.In h) (G : h.Ns mainGlobals mg) (hfa : mg "law" = some (.ref fa)) {C B fI N : Addr} {nm q : Str} {bs : List Value} {sn : List Str} {sub : List Value} {ab : Bool} {col : Option Bool} {dd : Option Addr} {m0 m1 m2 m3 m5 : Option Value} {ocI dcI pmI cdI ctI : Value} {odI anI : Option Addr} {slI : Array (Option Value)} {tk1 tk9 : Tok}
    {od0 an0 od1 an1 od2 an2 od3 an3 od4 an4 od5 an5 od6 an6 od7 an7 od8 an8 od9 an9 od10 an10 od11 an11 od12 an12 od13 an13 od14 an14 od15 an15 od16 an16 od17 an17 od18 an18 od19 an19 od20 an20 od21 an21 od22 an22 od23 an23 od24 an24 od25 an25 od26 an26 od27 an27 : Option Addr} {sl0 sl1 sl2 sl3 sl4 sl5 sl6 sl7 sl8 sl9 sl10 sl11 sl12 sl13 sl14 sl15 sl16 sl17 sl18 sl19 sl20 sl21 sl22 sl23 sl24 sl25 sl26 sl27 : Array (Option Value)} {oc0 kV0 dc0 pm0 cd0 ct0 oc1 kV1 dc1 pm1 cd1 ct1 oc2 kV2 dc2 pm2 cd2 ct2 oc3 kV3 dc3 pm3 cd3 ct3 oc4 kV4 dc4 pm4 cd4 ct4 oc5 kV5 dc5 pm5 cd5 ct5 oc6 kV6 dc6 pm6 cd6 ct6 oc7 kV7 dc7 pm7 cd7 ct7 oc8 kV8 dc8 pm8 cd8 ct8 oc9 kV9 dc9 pm9 cd9 ct9 oc10 kV10 dc10 pm10 cd10 ct10 oc11 kV11 dc11 pm11 cd11 ct11 oc12 kV12 dc12 pm12 cd12 ct12 oc13 kV13 dc13 pm13 cd13 ct13 oc14 kV14 dc14 pm14 cd14 ct14 oc15 kV15 dc15 pm15 cd15 ct15 oc16 kV16 dc16 pm16 cd16 ct16 oc17 kV17 dc17 pm17 cd17 ct17 oc18 kV18 dc18 pm18 cd18 ct18 oc19 kV19 dc19 pm19 cd19 ct19 oc20 kV20 dc20 pm20 cd20 ct20 oc21 kV21 dc21 pm21 cd21 ct21 oc22 kV22 dc22 pm22 cd22 ct22 oc23 kV23 dc23 pm23 cd23 ct23 oc24 kV24 dc24 pm24 cd24 ct24 oc25 kV25 dc25 pm25 cd25 ct25 oc26 kV26 dc26 pm26 cd26 ct26 oc27 kV27 dc27 pm27 cd27 ct27 : Value}
    (a0 : PySem.W.nsIn K mainGlobals "is_integer" = some (some (.ref f0))) (l0 : K.lookup f0 = some ⟨oc0, od0, .func (PySem.W.fnOf "is_integer" "is_integer" (defArgs s_is_integer) (defBody s_is_integer) (defScope s_is_integer) .none kV0 dc0 pm0 an0 cd0 ct0), sl0⟩) (c0 : PySem.W.codeIn K cd0 "is_integer" = true) (k0 : PySem.W.keepIn K (.ref f0) = true)
    (a1 : PySem.W.nsIn K mainGlobals "sign_of" = some (some (.ref f1))) (l1 : K.lookup f1 = some ⟨oc1, od1, .func (PySem.W.fnOf "sign_of" "sign_of" (defArgs s_sign_of) (defBody s_sign_of) (defScope s_sign_of) .none kV1 dc1 pm1 an1 cd1 ct1), sl1⟩) (c1 : PySem.W.codeIn K cd1 "sign_of" = true) (k1 : PySem.W.keepIn K (.ref f1) = true)
    (a2 : PySem.W.nsIn K mainGlobals "read_integer" = some (some (.ref f2))) (l2 : K.lookup f2 = some ⟨oc2, od2, .func (PySem.W.fnOf "read_integer" "read_integer" (defArgs s_read_integer) (defBody s_read_integer) (defScope s_read_integer) .none kV2 dc2 pm2 an2 cd2 ct2), sl2⟩) (c2 : PySem.W.codeIn K cd2 "read_integer" = true) (k2 : PySem.W.keepIn K (.ref f2) = true)
    {T3 : Addr} {oT3 : Obj} {nT3 : Nat} (t3 : K.lookup T3 = some oT3) (u3 : oT3.data = .seq ([.int 1 tk1] : List Value).toArray nT3)
    (a3 : PySem.W.nsIn K mainGlobals "ratio_by" = some (some (.ref f3))) (l3 : K.lookup f3 = some ⟨oc3, od3, .func (PySem.W.fnOf "ratio_by" "ratio_by" (defArgs s_ratio_by) (defBody s_ratio_by) (defScope s_ratio_by) (.ref T3) kV3 dc3 pm3 an3 cd3 ct3), sl3⟩) (c3 : PySem.W.codeIn K cd3 "ratio_by" = true) (k3 : PySem.W.keepIn K (.ref f3) = true)
    (a4 : PySem.W.nsIn K mainGlobals "is_ratio" = some (some (.ref f4))) (l4 : K.lookup f4 = some ⟨oc4, od4, .func (PySem.W.fnOf "is_ratio" "is_ratio" (defArgs s_is_ratio) (defBody s_is_ratio) (defScope s_is_ratio) .none kV4 dc4 pm4 an4 cd4 ct4), sl4⟩) (c4 : PySem.W.codeIn K cd4 "is_ratio" = true) (k4 : PySem.W.keepIn K (.ref f4) = true)
    (a5 : PySem.W.nsIn K mainGlobals "ratio_order" = some (some (.ref f5))) (l5 : K.lookup f5 = some ⟨oc5, od5, .func (PySem.W.fnOf "ratio_order" "ratio_order" (defArgs s_ratio_order) (defBody s_ratio_order) (defScope s_ratio_order) .none kV5 dc5 pm5 an5 cd5 ct5), sl5⟩) (c5 : PySem.W.codeIn K cd5 "ratio_order" = true) (k5 : PySem.W.keepIn K (.ref f5) = true)
    (a6 : PySem.W.nsIn K mainGlobals "ratio_plus" = some (some (.ref f6))) (l6 : K.lookup f6 = some ⟨oc6, od6, .func (PySem.W.fnOf "ratio_plus" "ratio_plus" (defArgs s_ratio_plus) (defBody s_ratio_plus) (defScope s_ratio_plus) .none kV6 dc6 pm6 an6 cd6 ct6), sl6⟩) (c6 : PySem.W.codeIn K cd6 "ratio_plus" = true) (k6 : PySem.W.keepIn K (.ref f6) = true)
    (a7 : PySem.W.nsIn K mainGlobals "ratio_minus" = some (some (.ref f7))) (l7 : K.lookup f7 = some ⟨oc7, od7, .func (PySem.W.fnOf "ratio_minus" "ratio_minus" (defArgs s_ratio_minus) (defBody s_ratio_minus) (defScope s_ratio_minus) .none kV7 dc7 pm7 an7 cd7 ct7), sl7⟩) (c7 : PySem.W.codeIn K cd7 "ratio_minus" = true) (k7 : PySem.W.keepIn K (.ref f7) = true)
    (a8 : PySem.W.nsIn K mainGlobals "ratio_times" = some (some (.ref f8))) (l8 : K.lookup f8 = some ⟨oc8, od8, .func (PySem.W.fnOf "ratio_times" "ratio_times" (defArgs s_ratio_times) (defBody s_ratio_times) (defScope s_ratio_times) .none kV8 dc8 pm8 an8 cd8 ct8), sl8⟩) (c8 : PySem.W.codeIn K cd8 "ratio_times" = true) (k8 : PySem.W.keepIn K (.ref f8) = true)
    (a9 : PySem.W.nsIn K mainGlobals "ratio_over" = some (some (.ref f9))) (l9 : K.lookup f9 = some ⟨oc9, od9, .func (PySem.W.fnOf "ratio_over" "ratio_over" (defArgs s_ratio_over) (defBody s_ratio_over) (defScope s_ratio_over) .none kV9 dc9 pm9 an9 cd9 ct9), sl9⟩) (c9 : PySem.W.codeIn K cd9 "ratio_over" = true) (k9 : PySem.W.keepIn K (.ref f9) = true)
    (a10 : PySem.W.nsIn K mainGlobals "middle_ratio" = some (some (.ref f10))) (l10 : K.lookup f10 = some ⟨oc10, od10, .func (PySem.W.fnOf "middle_ratio" "middle_ratio" (defArgs s_middle_ratio) (defBody s_middle_ratio) (defScope s_middle_ratio) .none kV10 dc10 pm10 an10 cd10 ct10), sl10⟩) (c10 : PySem.W.codeIn K cd10 "middle_ratio" = true) (k10 : PySem.W.keepIn K (.ref f10) = true)
    (a11 : PySem.W.nsIn K mainGlobals "ratio_text" = some (some (.ref f11))) (l11 : K.lookup f11 = some ⟨oc11, od11, .func (PySem.W.fnOf "ratio_text" "ratio_text" (defArgs s_ratio_text) (defBody s_ratio_text) (defScope s_ratio_text) .none kV11 dc11 pm11 an11 cd11 ct11), sl11⟩) (c11 : PySem.W.codeIn K cd11 "ratio_text" = true) (k11 : PySem.W.keepIn K (.ref f11) = true)
    (a12 : PySem.W.nsIn K mainGlobals "read_ratio" = some (some (.ref f12))) (l12 : K.lookup f12 = some ⟨oc12, od12, .func (PySem.W.fnOf "read_ratio" "read_ratio" (defArgs s_read_ratio) (defBody s_read_ratio) (defScope s_read_ratio) .none kV12 dc12 pm12 an12 cd12 ct12), sl12⟩) (c12 : PySem.W.codeIn K cd12 "read_ratio" = true) (k12 : PySem.W.keepIn K (.ref f12) = true)
    (a13 : PySem.W.nsIn K mainGlobals "_law_box" = some (some (.ref f13))) (l13 : K.lookup f13 = some ⟨oc13, od13, .func (PySem.W.fnOf "_law_box" "_law_box" (defArgs s__law_box) (defBody s__law_box) (defScope s__law_box) .none kV13 dc13 pm13 an13 cd13 ct13), sl13⟩) (c13 : PySem.W.codeIn K cd13 "_law_box" = true) (k13 : PySem.W.keepIn K (.ref f13) = true)
    (a14 : PySem.W.nsIn K mainGlobals "_law_take" = some (some (.ref f14))) (l14 : K.lookup f14 = some ⟨oc14, od14, .func (PySem.W.fnOf "_law_take" "_law_take" (defArgs s__law_take) (defBody s__law_take) (defScope s__law_take) .none kV14 dc14 pm14 an14 cd14 ct14), sl14⟩) (c14 : PySem.W.codeIn K cd14 "_law_take" = true) (k14 : PySem.W.keepIn K (.ref f14) = true)
    (a15 : PySem.W.nsIn K mainGlobals "_law_pick" = some (some (.ref f15))) (l15 : K.lookup f15 = some ⟨oc15, od15, .func (PySem.W.fnOf "_law_pick" "_law_pick" (defArgs s__law_pick) (defBody s__law_pick) (defScope s__law_pick) .none kV15 dc15 pm15 an15 cd15 ct15), sl15⟩) (c15 : PySem.W.codeIn K cd15 "_law_pick" = true) (k15 : PySem.W.keepIn K (.ref f15) = true)
    (a16 : PySem.W.nsIn K mainGlobals "_law_sign" = some (some (.ref f16))) (l16 : K.lookup f16 = some ⟨oc16, od16, .func (PySem.W.fnOf "_law_sign" "_law_sign" (defArgs s__law_sign) (defBody s__law_sign) (defScope s__law_sign) .none kV16 dc16 pm16 an16 cd16 ct16), sl16⟩) (c16 : PySem.W.codeIn K cd16 "_law_sign" = true) (k16 : PySem.W.keepIn K (.ref f16) = true)
    (a17 : PySem.W.nsIn K mainGlobals "_law_divisor" = some (some (.ref f17))) (l17 : K.lookup f17 = some ⟨oc17, od17, .func (PySem.W.fnOf "_law_divisor" "_law_divisor" (defArgs s__law_divisor) (defBody s__law_divisor) (defScope s__law_divisor) .none kV17 dc17 pm17 an17 cd17 ct17), sl17⟩) (c17 : PySem.W.codeIn K cd17 "_law_divisor" = true) (k17 : PySem.W.keepIn K (.ref f17) = true)
    (a18 : PySem.W.nsIn K mainGlobals "_law_low" = some (some (.ref f18))) (l18 : K.lookup f18 = some ⟨oc18, od18, .func (PySem.W.fnOf "_law_low" "_law_low" (defArgs s__law_low) (defBody s__law_low) (defScope s__law_low) .none kV18 dc18 pm18 an18 cd18 ct18), sl18⟩) (c18 : PySem.W.codeIn K cd18 "_law_low" = true) (k18 : PySem.W.keepIn K (.ref f18) = true)
    (a19 : PySem.W.nsIn K mainGlobals "_law_integer" = some (some (.ref f19))) (l19 : K.lookup f19 = some ⟨oc19, od19, .func (PySem.W.fnOf "_law_integer" "_law_integer" (defArgs s__law_integer) (defBody s__law_integer) (defScope s__law_integer) .none kV19 dc19 pm19 an19 cd19 ct19), sl19⟩) (c19 : PySem.W.codeIn K cd19 "_law_integer" = true) (k19 : PySem.W.keepIn K (.ref f19) = true)
    (a20 : PySem.W.nsIn K mainGlobals "_law_drawn" = some (some (.ref f20))) (l20 : K.lookup f20 = some ⟨oc20, od20, .func (PySem.W.fnOf "_law_drawn" "_law_drawn" (defArgs s__law_drawn) (defBody s__law_drawn) (defScope s__law_drawn) .none kV20 dc20 pm20 an20 cd20 ct20), sl20⟩) (c20 : PySem.W.codeIn K cd20 "_law_drawn" = true) (k20 : PySem.W.keepIn K (.ref f20) = true)
    (a21 : PySem.W.nsIn K mainGlobals "_law_part" = some (some (.ref f21))) (l21 : K.lookup f21 = some ⟨oc21, od21, .func (PySem.W.fnOf "_law_part" "_law_part" (defArgs s__law_part) (defBody s__law_part) (defScope s__law_part) .none kV21 dc21 pm21 an21 cd21 ct21), sl21⟩) (c21 : PySem.W.codeIn K cd21 "_law_part" = true) (k21 : PySem.W.keepIn K (.ref f21) = true)
    (a22 : PySem.W.nsIn K mainGlobals "_law_reads" = some (some (.ref f22))) (l22 : K.lookup f22 = some ⟨oc22, od22, .func (PySem.W.fnOf "_law_reads" "_law_reads" (defArgs s__law_reads) (defBody s__law_reads) (defScope s__law_reads) .none kV22 dc22 pm22 an22 cd22 ct22), sl22⟩) (c22 : PySem.W.codeIn K cd22 "_law_reads" = true) (k22 : PySem.W.keepIn K (.ref f22) = true)
    (a23 : PySem.W.nsIn K mainGlobals "_law_told" = some (some (.ref f23))) (l23 : K.lookup f23 = some ⟨oc23, od23, .func (PySem.W.fnOf "_law_told" "_law_told" (defArgs s__law_told) (defBody s__law_told) (defScope s__law_told) .none kV23 dc23 pm23 an23 cd23 ct23), sl23⟩) (c23 : PySem.W.codeIn K cd23 "_law_told" = true) (k23 : PySem.W.keepIn K (.ref f23) = true)
    (a24 : PySem.W.nsIn K mainGlobals "_law_string" = some (some (.ref f24))) (l24 : K.lookup f24 = some ⟨oc24, od24, .func (PySem.W.fnOf "_law_string" "_law_string" (defArgs s__law_string) (defBody s__law_string) (defScope s__law_string) .none kV24 dc24 pm24 an24 cd24 ct24), sl24⟩) (c24 : PySem.W.codeIn K cd24 "_law_string" = true) (k24 : PySem.W.keepIn K (.ref f24) = true)
    (a25 : PySem.W.nsIn K mainGlobals "_law_is" = some (some (.ref f25))) (l25 : K.lookup f25 = some ⟨oc25, od25, .func (PySem.W.fnOf "_law_is" "_law_is" (defArgs s__law_is) (defBody s__law_is) (defScope s__law_is) .none kV25 dc25 pm25 an25 cd25 ct25), sl25⟩) (c25 : PySem.W.codeIn K cd25 "_law_is" = true) (k25 : PySem.W.keepIn K (.ref f25) = true)
    (a26 : PySem.W.nsIn K mainGlobals "_law_pair_right" = some (some (.ref f26))) (l26 : K.lookup f26 = some ⟨oc26, od26, .func (PySem.W.fnOf "_law_pair_right" "_law_pair_right" (defArgs s__law_pair_right) (defBody s__law_pair_right) (defScope s__law_pair_right) .none kV26 dc26 pm26 an26 cd26 ct26), sl26⟩) (c26 : PySem.W.codeIn K cd26 "_law_pair_right" = true) (k26 : PySem.W.keepIn K (.ref f26) = true)
    (a27 : PySem.W.nsIn K mainGlobals "law" = some (some (.ref f27))) (l27 : K.lookup f27 = some ⟨oc27, od27, .func (PySem.W.fnOf "law" "law" (defArgs s_law) (defBody s_law) (defScope s_law) .none kV27 dc27 pm27 an27 cd27 ct27), sl27⟩) (c27 : PySem.W.codeIn K cd27 "law" = true) (k27 : PySem.W.keepIn K (.ref f27) = true)
    (z_len : PySem.W.nsIn K mainGlobals "len" = some none)
    (z_int : PySem.W.nsIn K mainGlobals "int" = some none)
    (z_abs : PySem.W.nsIn K mainGlobals "abs" = some none)
    (z_range : PySem.W.nsIn K mainGlobals "range" = some none)
    (z_bool : PySem.W.nsIn K mainGlobals "bool" = some none)
    (z_str : PySem.W.nsIn K mainGlobals "str" = some none)
    (z_tuple : PySem.W.nsIn K mainGlobals "tuple" = some none)
    (z_list : PySem.W.nsIn K mainGlobals "list" = some none)
    (z_repr : PySem.W.nsIn K mainGlobals "repr" = some none)
    (z_isinstance : PySem.W.nsIn K mainGlobals "isinstance" = some none)
    (z_ValueError : PySem.W.nsIn K mainGlobals "ValueError" = some none)
    (g_FIGURES : PySem.W.nsIn K mainGlobals "FIGURES" = some (some (.int 9 tk9)))
    (g_gcd : PySem.W.nsIn K mainGlobals "gcd" = some (some (.builtin "math.gcd")))
    (aC : PySem.W.nsIn K mainGlobals "InvalidText" = some (some (.ref C)))
    (aB : PySem.W.nsIn K mainGlobals "BellError" = some (some (.ref B)))
    (xL : K.lookup C = some (PySem.excClassObj nm q C N bs [.ref B, .type "Exception", .type "BaseException", .type "object"] true sn sub ab col dd m0 m1 m2 m3 m5 "Exception.__new__"))
    (sa : PySem.W.findIn K (.ref C) "__setattr__" = some (some (.builtin "object.__setattr__")))
    (ga : PySem.W.findIn K (.ref C) "__getattribute__" = some (some (.builtin "BaseException.__getattribute__")))
    (gg : PySem.W.findIn K (.ref C) "__getattr__" = some none)
    (nb : PySem.W.findIn K (.ref C) "at" = some none)
    (aI : PySem.W.findIn K (.ref C) "__init__" = some (some (.ref fI)))
    (tI : PySem.W.typeIn K (.ref fI) = some (.type "function"))
    (lI : K.lookup fI = some ⟨ocI, odI, .func (PySem.W.fnOf "__init__" "InvalidText.__init__" (Xb.iA ⟨7, 17, 7, 21⟩ ⟨7, 23, 7, 25⟩) (Xb.iB ⟨8, 8, 8, 12⟩ ⟨8, 8, 8, 15⟩ ⟨8, 18, 8, 20⟩ ⟨8, 8, 8, 20⟩) Xb.iS .none .none dcI pmI anI cdI ctI), slI⟩)
    (cI : PySem.W.codeIn K cdI "InvalidText.__init__" = true)
    (kC : PySem.W.keepIn K (.ref C) = true)
    (eC : PySem.W.subIn K (.ref C) (.type "BaseException") = some true)
    (tC : PySem.W.typeIn K (.ref C) = some (.type "type"))
    (hC : PySem.W.hasDictIn K C = true)
    (iC : (PySem.W.clsIn K C).isSome = true)
    (sC : PySem.W.subIn K (.ref C) (.ref C) = some true)
    (x1 : PySem.W.findIn K (.ref C) "__class__" = some (some (.builtin "object.__class__")))
    (x2 : PySem.W.specialIn K (.builtin "object.__class__") "__get__" = some (some (.builtin "getset_descriptor.__get__")))
    (x3 : PySem.W.takesIn K (.builtin "object.__class__") = some true)
    (x4 : PySem.W.mroIn K C (.type "object") = some true)
    (kB : PySem.W.kitOne K (.ref C) (.ref B) = some true)
    (kV : PySem.W.kitOne K (.ref C) (.type "ValueError") = some false)
    : ∃ fd : FuncData, (∀ (s : Shared) (v : Value), BindsTo s fd ⟨[v], []⟩ [("script", v)]) ∧ ∀ base : Heap, K.In base → base.Ns mainGlobals mg → FnG l.prog w K mg base CX0 6 fa fd ["script"] (spLaw K) := by
  have e := hfa.symm.trans (PySem.W.mg_of X G a27)
  cases e
  have F0 := fun_mk (st := s_is_integer) l0 c0 k0
  have b0 := F0.binds (ps := ["value"]) fun _ _ _ _ _ _ us hl => match us, hl with | [_], _ => rfl
  have F1 := fun_mk (st := s_sign_of) l1 c1 k1
  have b1 := F1.binds (ps := ["integer"]) fun _ _ _ _ _ _ us hl => match us, hl with | [_], _ => rfl
  have F2 := fun_mk (st := s_read_integer) l2 c2 k2
  have b2 := F2.binds (ps := ["word"]) fun _ _ _ _ _ _ us hl => match us, hl with | [_], _ => rfl
  have F4 := fun_mk (st := s_is_ratio) l4 c4 k4
  have b4 := F4.binds (ps := ["value"]) fun _ _ _ _ _ _ us hl => match us, hl with | [_], _ => rfl
  have F5 := fun_mk (st := s_ratio_order) l5 c5 k5
  have b5 := F5.binds (ps := ["one", "other"]) fun _ _ _ _ _ _ us hl => match us, hl with | [_, _], _ => rfl
  have F6 := fun_mk (st := s_ratio_plus) l6 c6 k6
  have b6 := F6.binds (ps := ["one", "other"]) fun _ _ _ _ _ _ us hl => match us, hl with | [_, _], _ => rfl
  have F7 := fun_mk (st := s_ratio_minus) l7 c7 k7
  have b7 := F7.binds (ps := ["one", "other"]) fun _ _ _ _ _ _ us hl => match us, hl with | [_, _], _ => rfl
  have F8 := fun_mk (st := s_ratio_times) l8 c8 k8
  have b8 := F8.binds (ps := ["one", "other"]) fun _ _ _ _ _ _ us hl => match us, hl with | [_, _], _ => rfl
  have F9 := fun_mk (st := s_ratio_over) l9 c9 k9
  have b9 := F9.binds (ps := ["one", "other"]) fun _ _ _ _ _ _ us hl => match us, hl with | [_, _], _ => rfl
  have F10 := fun_mk (st := s_middle_ratio) l10 c10 k10
  have b10 := F10.binds (ps := ["one", "other"]) fun _ _ _ _ _ _ us hl => match us, hl with | [_, _], _ => rfl
  have F11 := fun_mk (st := s_ratio_text) l11 c11 k11
  have b11 := F11.binds (ps := ["one"]) fun _ _ _ _ _ _ us hl => match us, hl with | [_], _ => rfl
  have F12 := fun_mk (st := s_read_ratio) l12 c12 k12
  have b12 := F12.binds (ps := ["text"]) fun _ _ _ _ _ _ us hl => match us, hl with | [_], _ => rfl
  have F13 := fun_mk (st := s__law_box) l13 c13 k13
  have b13 := F13.binds (ps := ["script", "k"]) fun _ _ _ _ _ _ us hl => match us, hl with | [_, _], _ => rfl
  have F14 := fun_mk (st := s__law_take) l14 c14 k14
  have b14 := F14.binds (ps := ["box", "many"]) fun _ _ _ _ _ _ us hl => match us, hl with | [_, _], _ => rfl
  have F15 := fun_mk (st := s__law_pick) l15 c15 k15
  have b15 := F15.binds (ps := ["box", "some"]) fun _ _ _ _ _ _ us hl => match us, hl with | [_, _], _ => rfl
  have F16 := fun_mk (st := s__law_sign) l16 c16 k16
  have b16 := F16.binds (ps := ["number"]) fun _ _ _ _ _ _ us hl => match us, hl with | [_], _ => rfl
  have F17 := fun_mk (st := s__law_divisor) l17 c17 k17
  have b17 := F17.binds (ps := ["one", "other"]) fun _ _ _ _ _ _ us hl => match us, hl with | [_, _], _ => rfl
  have F18 := fun_mk (st := s__law_low) l18 c18 k18
  have b18 := F18.binds (ps := ["top", "bottom"]) fun _ _ _ _ _ _ us hl => match us, hl with | [_, _], _ => rfl
  have F19 := fun_mk (st := s__law_integer) l19 c19 k19
  have b19 := F19.binds (ps := ["box"]) fun _ _ _ _ _ _ us hl => match us, hl with | [_], _ => rfl
  have F20 := fun_mk (st := s__law_drawn) l20 c20 k20
  have b20 := F20.binds (ps := ["box"]) fun _ _ _ _ _ _ us hl => match us, hl with | [_], _ => rfl
  have F21 := fun_mk (st := s__law_part) l21 c21 k21
  have b21 := F21.binds (ps := ["text"]) fun _ _ _ _ _ _ us hl => match us, hl with | [_], _ => rfl
  have F22 := fun_mk (st := s__law_reads) l22 c22 k22
  have b22 := F22.binds (ps := ["text"]) fun _ _ _ _ _ _ us hl => match us, hl with | [_], _ => rfl
  have F23 := fun_mk (st := s__law_told) l23 c23 k23
  have b23 := F23.binds (ps := ["text"]) fun _ _ _ _ _ _ us hl => match us, hl with | [_], _ => rfl
  have F24 := fun_mk (st := s__law_string) l24 c24 k24
  have b24 := F24.binds (ps := ["box", "one"]) fun _ _ _ _ _ _ us hl => match us, hl with | [_, _], _ => rfl
  have F25 := fun_mk (st := s__law_is) l25 c25 k25
  have b25 := F25.binds (ps := ["value"]) fun _ _ _ _ _ _ us hl => match us, hl with | [_], _ => rfl
  have F26 := fun_mk (st := s__law_pair_right) l26 c26 k26
  have b26 := F26.binds (ps := ["box"]) fun _ _ _ _ _ _ us hl => match us, hl with | [_], _ => rfl
  have F27 := fun_mk (st := s_law) l27 c27 k27
  have n_len := PySem.W.mg_none_of X G z_len
  have n_int := PySem.W.mg_none_of X G z_int
  have n_abs := PySem.W.mg_none_of X G z_abs
  have n_range := PySem.W.mg_none_of X G z_range
  have n_bool := PySem.W.mg_none_of X G z_bool
  have n_str := PySem.W.mg_none_of X G z_str
  have n_tuple := PySem.W.mg_none_of X G z_tuple
  have n_list := PySem.W.mg_none_of X G z_list
  have n_repr := PySem.W.mg_none_of X G z_repr
  have n_isinstance := PySem.W.mg_none_of X G z_isinstance
  have n_ValueError := PySem.W.mg_none_of X G z_ValueError
  refine ⟨PySem.W.fnOf "law" "law" (defArgs s_law) (defBody s_law) (defScope s_law) .none kV27 dc27 pm27 an27 cd27 ct27, fun s v => .of_eq rfl, fun base _ _ => ?_⟩
  have T : ErrC K mg "InvalidText" C fI := { gC := PySem.W.mg_of X G aC, cls := ⟨nm, q, N, bs, _, sn, sub, ab, col, dd, m0, m1, m2, m3, m5, xL, rfl⟩, sa := sa, ga := ga, gg := gg, noN := nb, iC := aI, tC := tI, kC := kC, exC := eC, tyC := tC, hdC := hC, te := PySem.W.exm_ref eC hC tC sC, fn := ⟨_, _, _, _, _, _, _, _, _, _, _, _, _, _, _, lI, cI⟩ }
  have TI : IsC K C := ⟨iC, ga, gg, eC, x1, x2, x3, x4⟩
  have gB := PySem.W.mg_of X G aB
  have C_is_integer : Cg l.prog w K mg base CX0 "is_integer" ["value"] [] 1 (spIsI K) := ⟨_, _, [], ok_isI F0 n_isinstance n_int n_bool, PySem.W.mg_of X G a0, k0, b0, .nil⟩
  have C_sign_of : Cg l.prog w K mg base CX0 "sign_of" ["integer"] [] 1 spSign := ⟨_, _, [], ok_sign F1, PySem.W.mg_of X G a1, k1, b1, .nil⟩
  have C_read_integer : Cg l.prog w K mg base CX0 "read_integer" ["word"] [] 1 spWord := ⟨_, _, [], ok_word F2 n_len n_int (PySem.W.mg_of X G g_FIGURES), PySem.W.mg_of X G a2, k2, b2, .nil⟩
  have gg_gcd := PySem.W.mg_of X G g_gcd
  have FS : FunD K "ratio_by" "ratio_by" (defArgs s_ratio_by) (defBody s_ratio_by) (defScope s_ratio_by) [.int 1] [] _ _ := ⟨⟨_, _, _, _, _, _, _, _, _, _, rfl, l3, c3, .inr ⟨by decide, _, _, _, _, rfl, t3, u3, .cons ⟨_, rfl⟩ .nil⟩, .inl rfl⟩, k3⟩
  have GS := ok_by (P := l.prog) (w := w) (mg := mg) (base := base) FS gg_gcd
  obtain ⟨d2, v2, B2⟩ := FS.binds1 (ps := ["top", "bottom"]) 2 1 (by decide) rfl fun T kV doc pm an cdv ct us its h1 h2 => match us, its, h1, h2 with | [_, _], [_], _, _ => ⟨_, rfl, rfl⟩
  obtain ⟨d1, v1, B1⟩ := FS.binds1 (ps := ["top", "bottom"]) 1 0 (by decide) rfl fun T kV doc pm an cdv ct us its h1 h2 => match us, its, h1, h2 with | [_], [_], _, _ => ⟨_, rfl, rfl⟩
  have C_ratio_by : Cg l.prog w K mg base CX0 "ratio_by" ["top", "bottom"] [] 1 spBy := ⟨_, _, _, GS, PySem.W.mg_of X G a3, k3, B2, v2⟩
  have C_ratio_by1 : Cg l.prog w K mg base CX0 "ratio_by" ["top", "bottom"] [.int 1] 1 spBy := ⟨_, _, _, GS, PySem.W.mg_of X G a3, k3, B1, v1⟩
  have C_is_ratio : Cg l.prog w K mg base CX0 "is_ratio" ["value"] [] 2 (spRatQ K) := ⟨_, _, [], ok_ratQ F4 C_is_integer n_isinstance n_tuple n_len gg_gcd, PySem.W.mg_of X G a4, k4, b4, .nil⟩
  have C_ratio_order : Cg l.prog w K mg base CX0 "ratio_order" ["one", "other"] [] 2 spOrder := ⟨_, _, [], ok_order F5 C_sign_of, PySem.W.mg_of X G a5, k5, b5, .nil⟩
  have C_ratio_plus : Cg l.prog w K mg base CX0 "ratio_plus" ["one", "other"] [] 2 (spOp x_plus y_plus) := ⟨_, _, [], ok_plus F6 C_ratio_by, PySem.W.mg_of X G a6, k6, b6, .nil⟩
  have C_ratio_minus : Cg l.prog w K mg base CX0 "ratio_minus" ["one", "other"] [] 2 (spOp x_minus y_minus) := ⟨_, _, [], ok_minus F7 C_ratio_by, PySem.W.mg_of X G a7, k7, b7, .nil⟩
  have C_ratio_times : Cg l.prog w K mg base CX0 "ratio_times" ["one", "other"] [] 2 (spOp x_times y_times) := ⟨_, _, [], ok_times F8 C_ratio_by, PySem.W.mg_of X G a8, k8, b8, .nil⟩
  have C_ratio_over : Cg l.prog w K mg base CX0 "ratio_over" ["one", "other"] [] 2 (spOp x_over y_over) := ⟨_, _, [], ok_over F9 C_ratio_by, PySem.W.mg_of X G a9, k9, b9, .nil⟩
  have C_middle_ratio : Cg l.prog w K mg base CX0 "middle_ratio" ["one", "other"] [] 2 (spOp x_middle y_middle) := ⟨_, _, [], ok_middle F10 C_ratio_by, PySem.W.mg_of X G a10, k10, b10, .nil⟩
  have C_ratio_text : Cg l.prog w K mg base CX0 "ratio_text" ["one"] [] 1 spText := ⟨_, _, [], ok_text F11 n_str, PySem.W.mg_of X G a11, k11, b11, .nil⟩
  have C_read_ratio : Cg l.prog w K mg base (L2.CX l.prog w) "read_ratio" ["text"] [] 3 (spRead K C) := ⟨_, _, [], ok_read F12 T C_read_integer C_is_ratio n_isinstance n_str n_len, PySem.W.mg_of X G a12, k12, b12, .nil⟩
  have C__law_box : Cg l.prog w K mg base CX0 "_law_box" ["script", "k"] [] 1 (spBox K) := ⟨_, _, [], ok_box F13 n_int n_len n_abs, PySem.W.mg_of X G a13, k13, b13, .nil⟩
  have C__law_take : Cg l.prog w K mg base CX0 "_law_take" ["box", "many"] [] 1 spTake := ⟨_, _, [], ok_take F14 n_int, PySem.W.mg_of X G a14, k14, b14, .nil⟩
  have C__law_pick : Cg l.prog w K mg base CX0 "_law_pick" ["box", "some"] [] 2 spPick := ⟨_, _, [], ok_pick F15 C__law_take n_len, PySem.W.mg_of X G a15, k15, b15, .nil⟩
  have C__law_sign : Cg l.prog w K mg base CX0 "_law_sign" ["number"] [] 1 spSign := ⟨_, _, [], ok_lsign F16 n_int, PySem.W.mg_of X G a16, k16, b16, .nil⟩
  have C__law_divisor : Cg l.prog w K mg base CX0 "_law_divisor" ["one", "other"] [] 1 spDiv := ⟨_, _, [], ok_div F17 n_int n_abs, PySem.W.mg_of X G a17, k17, b17, .nil⟩
  have C__law_low : Cg l.prog w K mg base CX0 "_law_low" ["top", "bottom"] [] 2 spBy := ⟨_, _, [], ok_low F18 C__law_divisor, PySem.W.mg_of X G a18, k18, b18, .nil⟩
  have C__law_integer : Cg l.prog w K mg base CX0 "_law_integer" ["box"] [] 3 spInteger := ⟨_, _, [], ok_integer F19 C__law_take C__law_pick, PySem.W.mg_of X G a19, k19, b19, .nil⟩
  have C__law_drawn : Cg l.prog w K mg base CX0 "_law_drawn" ["box"] [] 4 spDrawn := ⟨_, _, [], ok_drawn F20 C__law_integer C__law_take, PySem.W.mg_of X G a20, k20, b20, .nil⟩
  have C__law_part : Cg l.prog w K mg base CX0 "_law_part" ["text"] [] 1 spPart := ⟨_, _, [], ok_part F21 n_len n_int, PySem.W.mg_of X G a21, k21, b21, .nil⟩
  have C__law_reads : Cg l.prog w K mg base CX0 "_law_reads" ["text"] [] 2 spReads := ⟨_, _, [], ok_reads F22 C__law_part C__law_divisor, PySem.W.mg_of X G a22, k22, b22, .nil⟩
  have C__law_told : Cg l.prog w K mg base CX0 "_law_told" ["text"] [] 4 (spTold K) := ⟨_, _, [], ok_told F23 T TI gB kB kV C_read_ratio n_isinstance n_ValueError, PySem.W.mg_of X G a23, k23, b23, .nil⟩
  have C__law_string : Cg l.prog w K mg base CX0 "_law_string" ["box", "one"] [] 3 spString := ⟨_, _, [], ok_string F24 C__law_take C__law_pick n_len n_str n_range, PySem.W.mg_of X G a24, k24, b24, .nil⟩
  have C__law_is : Cg l.prog w K mg base CX0 "_law_is" ["value"] [] 2 (spIs K) := ⟨_, _, [], ok_is F25 C__law_divisor n_isinstance n_tuple n_len n_int n_bool, PySem.W.mg_of X G a25, k25, b25, .nil⟩
  have C__law_pair_right : Cg l.prog w K mg base CX0 "_law_pair_right" ["box"] [] 5 spPair := ⟨_, _, [], ok_pair F26 C_ratio_by C_ratio_by1 C__law_drawn C__law_low C_ratio_plus C_ratio_minus C_ratio_times C_ratio_over C_middle_ratio C_ratio_order C__law_sign C_ratio_text C__law_told C__law_reads C_is_ratio C__law_is C__law_string n_repr n_str n_list n_range, PySem.W.mg_of X G a26, k26, b26, .nil⟩
  exact ok_law F27 C__law_box C__law_pair_right
theorem walk {l : PySem.W.OpenLaw} {q : Program} {loose : List Str} {XP : (Str → Option Value) → Heap → Prop} {YP : World → Heap → Prop} {d : DefRec} {K : Params → PySem.W.Frag} (hn : l.most = some 63) (hdf : d.params.defaults = [])
    (hY : ∀ (w : World) (h : Heap), YP w h → (K w.params).In h)
    (F : ∀ (w : World) (mg : Str → Option Value) (fa : Addr) (h : Heap), (K w.params).In h → h.Ns mainGlobals mg → mg d.name = some (.ref fa) →
      ∃ fd : FuncData, (∀ (s : Shared) (u : Value), BindsTo s fd ⟨[u], []⟩ [("script", u)]) ∧ ∀ base : Heap, (K w.params).In base → base.Ns mainGlobals mg → FnG l.prog w (K w.params) mg base CX0 6 fa fd ["script"] (spLaw (K w.params))) :
    PySem.W.WalkO q loose XP YP l.row.toRowW d [] (fun f vs => PySem.call f vs) :=
  Gu.walk_go (n := 63) (k := 6) (x := "script") (sp := fun w => spLaw (K w.params)) hn (by decide) hdf ⟨rfl, by decide, by decide⟩ hY F (fun _ _ a ns hl hS => ⟨a, ns, rfl, hS, hl, fun _ => rfl⟩)
end Ka
open PySem PySem.W PyProof.Rows
set_option maxRecDepth 100000 in
set_option maxHeartbeats 0 in
theorem PySem.Challenge.cw_curvebells_k01_ratios_reckoned_told_and_holds : PySem.Challenge.rw_curvebells_k01_ratios_reckoned_told_and.Holds := by
  w_on; o_law; k_head; (case hw => w_witness2)
  k_fill
  refine Ka.walk (l := PySem.Challenge.rw_curvebells_k01_ratios_reckoned_told_and) rfl rfl (fun w h Y => PySem.W.kIn_of Y) ?F
  case F =>
    intro w mg fa h KX G hmg
    refine' Ka.all_mk KX G hmg ?a0 ?l0 ?c0 ?k0 ?a1 ?l1 ?c1 ?k1 ?a2 ?l2 ?c2 ?k2 ?t3 ?u3 ?a3 ?l3 ?c3 ?k3 ?a4 ?l4 ?c4 ?k4 ?a5 ?l5 ?c5 ?k5 ?a6 ?l6 ?c6 ?k6 ?a7 ?l7 ?c7 ?k7 ?a8 ?l8 ?c8 ?k8 ?a9 ?l9 ?c9 ?k9 ?a10 ?l10 ?c10 ?k10 ?a11 ?l11 ?c11 ?k11 ?a12 ?l12 ?c12 ?k12 ?a13 ?l13 ?c13 ?k13 ?a14 ?l14 ?c14 ?k14 ?a15 ?l15 ?c15 ?k15 ?a16 ?l16 ?c16 ?k16 ?a17 ?l17 ?c17 ?k17 ?a18 ?l18 ?c18 ?k18 ?a19 ?l19 ?c19 ?k19 ?a20 ?l20 ?c20 ?k20 ?a21 ?l21 ?c21 ?k21 ?a22 ?l22 ?c22 ?k22 ?a23 ?l23 ?c23 ?k23 ?a24 ?l24 ?c24 ?k24 ?a25 ?l25 ?c25 ?k25 ?a26 ?l26 ?c26 ?k26 ?a27 ?l27 ?c27 ?k27 ?z_len ?z_int ?z_abs ?z_range ?z_bool ?z_str ?z_tuple ?z_list ?z_repr ?z_isinstance ?z_ValueError ?g_FIGURES ?g_gcd ?aC ?aB ?xL ?sa ?ga ?gg ?nb ?aI ?tI ?lI ?cI ?kC ?eC ?tC ?hC ?iC ?sC ?x1 ?x2 ?x3 ?x4 ?kB ?kV
    (case a0 => k_is); (case l0 => k_is); (case c0 => k_is); (case k0 => k_is)
    (case a1 => k_is); (case l1 => k_is); (case c1 => k_is); (case k1 => k_is)
    (case a2 => k_is); (case l2 => k_is); (case c2 => k_is); (case k2 => k_is)
    (case a3 => k_is); (case l3 => k_is); (case c3 => k_is); (case k3 => k_is); (case t3 => k_is)
    (case u3 => rfl)
    (case a4 => k_is); (case l4 => k_is); (case c4 => k_is); (case k4 => k_is)
    (case a5 => k_is); (case l5 => k_is); (case c5 => k_is); (case k5 => k_is)
    (case a6 => k_is); (case l6 => k_is); (case c6 => k_is); (case k6 => k_is)
    (case a7 => k_is); (case l7 => k_is); (case c7 => k_is); (case k7 => k_is)
    (case a8 => k_is); (case l8 => k_is); (case c8 => k_is); (case k8 => k_is)
    (case a9 => k_is); (case l9 => k_is); (case c9 => k_is); (case k9 => k_is)
    (case a10 => k_is); (case l10 => k_is); (case c10 => k_is); (case k10 => k_is)
    (case a11 => k_is); (case l11 => k_is); (case c11 => k_is); (case k11 => k_is)
    (case a12 => k_is); (case l12 => k_is); (case c12 => k_is); (case k12 => k_is)
    (case a13 => k_is); (case l13 => k_is); (case c13 => k_is); (case k13 => k_is)
    (case a14 => k_is); (case l14 => k_is); (case c14 => k_is); (case k14 => k_is)
    (case a15 => k_is); (case l15 => k_is); (case c15 => k_is); (case k15 => k_is)
    (case a16 => k_is); (case l16 => k_is); (case c16 => k_is); (case k16 => k_is)
    (case a17 => k_is); (case l17 => k_is); (case c17 => k_is); (case k17 => k_is)
    (case a18 => k_is); (case l18 => k_is); (case c18 => k_is); (case k18 => k_is)
    (case a19 => k_is); (case l19 => k_is); (case c19 => k_is); (case k19 => k_is)
    (case a20 => k_is); (case l20 => k_is); (case c20 => k_is); (case k20 => k_is)
    (case a21 => k_is); (case l21 => k_is); (case c21 => k_is); (case k21 => k_is)
    (case a22 => k_is); (case l22 => k_is); (case c22 => k_is); (case k22 => k_is)
    (case a23 => k_is); (case l23 => k_is); (case c23 => k_is); (case k23 => k_is)
    (case a24 => k_is); (case l24 => k_is); (case c24 => k_is); (case k24 => k_is)
    (case a25 => k_is); (case l25 => k_is); (case c25 => k_is); (case k25 => k_is)
    (case a26 => k_is); (case l26 => k_is); (case c26 => k_is); (case k26 => k_is)
    (case a27 => k_is); (case l27 => k_is); (case c27 => k_is); (case k27 => k_is)
    (case z_len => k_is); (case z_int => k_is); (case z_abs => k_is); (case z_range => k_is); (case z_bool => k_is); (case z_str => k_is); (case z_tuple => k_is); (case z_list => k_is); (case z_repr => k_is); (case z_isinstance => k_is); (case z_ValueError => k_is)
    (case g_FIGURES => k_is); (case g_gcd => k_is)
    (case aC => k_is)
    (case aB => k_is)
    (case xL => k_is)
    (case sa => k_is)
    (case ga => k_is)
    (case gg => k_is)
    (case nb => k_is)
    (case aI => k_is)
    (case tI => k_is)
    (case lI => k_is)
    (case cI => k_is)
    (case kC => k_is)
    (case eC => k_is)
    (case tC => k_is)
    (case hC => k_is)
    (case iC => show PySem.W.isClsIn _ _ = true; k_is)
    (case sC => first | rfl | k_is)
    (case x1 => k_is)
    (case x2 => k_is)
    (case x3 => k_is)
    (case x4 => k_is)
    (case kB => kit_is)
    (case kV => kit_is)
