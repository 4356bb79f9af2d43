import PyProof.Rows.All
import Wide.All
import OpenK.AllK
import Wide.FinOn
import HandS.ForMost
import HandS.Wide
import HandS.Defaults
import HandS.Evl
import PySem.Challenge.RW_curvebells_k02_the_simplest_ratio_betwee
set_option Elab.async false
set_option linter.all false
set_option maxRecDepth 100000
set_option maxHeartbeats 4000000
namespace Hb
open PySem PySem.Spec PyProof.Rows L2
/-! ### heaps -/
theorem same_new {H : Hp} {p : Addr} (h : H p = none) (o : HO) : Same H (upd H p o) := fun b u q => by
  rw [upd_ne (ne_of_none q h)]
  exact q
/-- a new object -/
theorem new_at {H : Hp} {p : Addr} {o : HO} {G : Hp → Prop} (h : H p = none) (k : ∀ H', Same H H' → H' p = some o → G H') : G (upd H p o) := k _ (same_new h o) upd_same
/-- a new tuple, a new list as the value of a display -/
theorem tup_at {H : Hp} {xs : List V} {Q : VK} (hl : xs.length ≤ 1000) (k : ∀ p H', H p = none → Same H H' → H' p = some (.tup xs) → Q (.ref p) H') : xs.length ≤ sizeLine ∧ ∀ p, H p = none → Q (.ref p) (upd H p (.tup xs)) :=
  ⟨Nat.le_trans hl (by decide), fun p hp => k p _ hp (same_new hp _) upd_same⟩
theorem lst_at {H : Hp} {xs : List V} {Q : VK} (hl : xs.length ≤ 1000) (k : ∀ p H', H p = none → Same H H' → H' p = some (.lst xs) → Q (.ref p) H') : xs.length ≤ sizeLine ∧ ∀ p, H p = none → Q (.ref p) (upd H p (.lst xs)) :=
  ⟨Nat.le_trans hl (by decide), fun p hp => k p _ hp (same_new hp _) upd_same⟩
/-- all but the object at p is as it was -/
def Kept (p : Addr) (H H' : Hp) : Prop := ∀ b o, H b = some o → b ≠ p → H' b = some o
theorem Same.kept {H H' : Hp} {p : Addr} (h : Same H H') : Kept p H H' := fun b o e _ => h b o e
theorem Kept.refl (p : Addr) (H : Hp) : Kept p H H := fun _ _ h _ => h
theorem Kept.trans {p : Addr} {H H1 H2 : Hp} (a : Kept p H H1) (b : Kept p H1 H2) : Kept p H H2 := fun c o h n => b c o (a c o h n) n
theorem kept_upd {p : Addr} {H : Hp} {o : HO} : Kept p H (upd H p o) := fun b u e n => by rw [upd_ne n]; exact e
/-- a tuple stays where the list at p changes -/
theorem Kept.tup {p t : Addr} {H H' : Hp} {xs ys : List V} (k : Kept p H H') (hp : H p = some (.lst ys)) (h : H t = some (.tup xs)) : H' t = some (.tup xs) := k t _ h (ne_of h hp (by intro z; cases z))

/-! ### tests -/
theorem iteD {c A B : Prop} [Decidable c] (h1 : c → A) (h2 : ¬ c → B) : if decide c = true then A else B := by
  by_cases h : c
  · rw [decide_eq_true h]
    exact iteT (h1 h)
  · rw [decide_eq_false h]
    exact iteF (h2 h)
theorem iteN {c A B : Prop} [Decidable c] (h1 : ¬ c → A) (h2 : c → B) : if (!decide c) = true then A else B := by
  by_cases h : c
  · rw [decide_eq_true h]
    exact iteF (h2 h)
  · rw [decide_eq_false h]
    exact iteT (h1 h)
theorem divw {i j : Int} (h0 : 0 < j) (h : j < 2 ^ 100) : CDivW i j := wide_div (b := 100) h0 (by omega) (by decide) (by decide)

/-! ### the defs of a text, by their promises -/
structure Cl (P : Program) (w : World) (K : PySem.W.Frag) (mg : Str → Option Value) (base : Heap) (x : Str) (ps : List Str) (dvs : List V) (lv : Nat) (sp : Sp) : Prop where
  ex : ∃ (f : Addr) (fd : FuncData) (ds : List Value), FnOk P w K mg base CX0 lv f fd ps sp ∧ mg x = some (.ref f) ∧ PySem.W.keepIn K (.ref f) = true ∧ Binds K fd ps ds ∧ Vals dvs ds
section
variable {X : Cx} {ps : List Str} {dvs : List V} {lv : Nat} {sp : Sp} {x : Str} {p pos : Pos} {e : Expr} {es : List Expr} {t : TA}
theorem pe_use (C : Cl X.prog X.w X.K X.mg X.base x ps dvs lv sp) (hr : Room lv X.A) (hg : Gl X x) (ha : PA X (e :: es) t) (hdb : (x == ("__debug__" : Str)) = false := by decide)
    (he : starEach (e :: es) X.env = (false, eval e X.env) :: starEach es X.env := by rfl) (hpl : (backTo pos (starEach es X.env)).any (·.1) = false := by rfl) : PE X (.Call (.Name x p) (e :: es) [] pos) (tCall sp dvs E0 t) := by
  obtain ⟨f, fd, ds, F, hm, hk, hb, hd⟩ := C.ex
  exact pe_call F hr hg hm hk hb hd pass0 ha hdb he hpl
theorem pe_use0 (C : Cl X.prog X.w X.K X.mg X.base x ps dvs lv sp) (hr : Room lv X.A) (hg : Gl X x) (hdb : (x == ("__debug__" : Str)) = false := by decide) : PE X (.Call (.Name x p) [] [] pos) (tCall sp dvs E0 tNil) := by
  obtain ⟨f, fd, ds, F, hm, hk, hb, hd⟩ := C.ex
  exact pe_call0 F hr hg hm hk hb hd pass0 hdb
end
/-- f(k = v, ..) without a value by place -/
structure ClK (P : Program) (w : World) (K : PySem.W.Frag) (mg : Str → Option Value) (base : Heap) (x : Str) (ps : List Str) (n : Nat) (ks : List Str) (gV : List V → List V → List V) (lv : Nat) (sp : Sp) : Prop where
  ex : ∃ (f : Addr) (fd : FuncData) (g : List Value → List Value → List Value), FnOk P w K mg base CX0 lv f fd ps sp ∧ mg x = some (.ref f) ∧ PySem.W.keepIn K (.ref f) = true ∧ KBn K fd ps n ks g gV
section
variable {X : Cx} {ps ks : List Str} {n : Nat} {gV : List V → List V → List V} {lv : Nat} {sp : Sp} {x : Str} {p pos : Pos} {e : Expr} {es : List Expr} {t tk : TA} {kws : List Keyword}
theorem pe_useK0 (C : ClK X.prog X.w X.K X.mg X.base x ps 0 ks gV lv sp) (hr : Room lv X.A) (hg : Gl X x) (hkw : PK X kws tk) (hall : (backToKw pos (keywordEach kws X.env)).all (·.1.isSome) = true := by rfl) (hks : (backToKw pos (keywordEach kws X.env)).filterMap (·.1) = ks := by rfl)
    (hdb : (x == ("__debug__" : Str)) = false := by decide) (hpl : ((backTo pos (starEach [] X.env)).any (·.1) || (backToKw pos (keywordEach kws X.env)).any (·.1.isNone)) = false := by rfl) :
    PE X (.Call (.Name x p) [] kws pos) (tCallN 0 ks.length sp gV E0 tNil tk) := by
  obtain ⟨f, fd, g, F, hm, hk, hb⟩ := C.ex
  refine ⟨fun pins s σ H Q I h => ?_⟩
  refine wpAny_Call_Name_kw (ld_glob I hg hm ?_ hdb)
  refine PySem.W.callWith_KW0 (h₀ := X.base) I.ok.mod.kin hk hall ?_ hpl
  refine thn (hkw.run pos pins s σ H _ I h) fun ws s2 ⟨zs, H2, I2, rz, l1, l2, q2⟩ => ⟨I2.kIn, ?_⟩
  rw [hks]
  exact run_fnN (us := []) (vs := []) F hr hb pass0 I2 .nil rz rfl l2 q2
theorem pe_useK (C : ClK X.prog X.w X.K X.mg X.base x ps n ks gV lv sp) (hr : Room lv X.A) (hg : Gl X x) (ha : PA X (e :: es) t) (hkw : PK X kws tk) (hall : (backToKw pos (keywordEach kws X.env)).all (·.1.isSome) = true := by rfl)
    (hks : (backToKw pos (keywordEach kws X.env)).filterMap (·.1) = ks := by rfl)
    (hdb : (x == ("__debug__" : Str)) = false := by decide) (he : starEach (e :: es) X.env = (false, eval e X.env) :: starEach es X.env := by rfl)
    (hpl : ((backTo pos (starEach (e :: es) X.env)).any (·.1) || (backToKw pos (keywordEach kws X.env)).any (·.1.isNone)) = false := by rfl) :
    PE X (.Call (.Name x p) (e :: es) kws pos) (tCallN n ks.length sp gV E0 t tk) := by
  obtain ⟨f, fd, g, F, hm, hk, hb⟩ := C.ex
  exact pe_callN F hr hg hm hk hb pass0 ha hkw hall hks hdb he hpl
end
/-- positional and keyword arguments that fill all parameters of a def with defaults -/
theorem kb_full {K : PySem.W.Frag} {x qual : Str} {params : Arguments} {body : List Stmt} {scope : Scope} {dvs : List V} {f : Addr} {fd : FuncData} {ps : List Str} (F : FunD K x qual params body scope dvs [] f fd) (n : Nat) (ks : List Str) (g : {α : Type} → List α → List α → List α → List α) (hd : dvs ≠ [])
    (hrel : ∀ {vs ds zs : List V} {us its ws : List Value}, Vals vs us → Vals ds its → Vals zs ws → Vals (g vs ds zs) (g us its ws))
    (h : ∀ (T : Addr) (kV doc pm : Value) (an : Option Addr) (cdv ct : Value) (us its ws : List Value), us.length = n → its.length = dvs.length → ws.length = ks.length →
      ∃ k, bindArgs (PySem.W.fnOf x qual params body scope (.ref T) kV doc pm an cdv ct) ⟨us, ks.zip ws⟩ = seqItems? (.ref T) >>= k ∧ k (some its.toArray) = pure (ps.zip (g us its ws))) :
    ∃ its : List Value, KBn K fd ps n ks (fun us ws => g us its ws) (fun vs zs => g vs dvs zs) := by
  obtain ⟨oc, od, dV, kV, doc, pm, an, cdv, ct, osl, rfl, lk, hcd, hD, hK⟩ := F.ex
  rcases hD with ⟨e, _⟩ | ⟨_, T, o, its, m, rfl, lT, oT, rT⟩
  · exact absurd e hd
  · refine ⟨its, ⟨fun s us ws X l1 l2 => ?_, fun r1 r2 => hrel r1 rT r2⟩⟩
    obtain ⟨k, e1, e2⟩ := h T kV doc pm an cdv ct us its ws l1 rT.length.symm l2
    refine BindsTo.of_looks fun M => ?_
    rw [e1]
    exact looks_items X lT oT (.of_pure e2)
end Hb

/-! mathematics of k02 -/
namespace Kb
def Bt (lo hi : Option (Int × Int)) (p q : Int) : Prop := (∀ a b, lo = some (a, b) → a * q < p * b) ∧ (∀ c d, hi = some (c, d) → p * d < c * q)
structure Mn (lo hi : Option (Int × Int)) (T B : Int) : Prop where
  pos : 0 < B
  top : 0 < T
  bt : Bt lo hi T B
  least : ∀ p q, 0 < q → Bt lo hi p q → B ≤ q ∧ T ≤ p

theorem lt_of_mul {a b c : Int} (h : a * c < b * c) (hc : 0 < c) : a < b := Int.lt_of_mul_lt_mul_right h (Int.le_of_lt hc)

theorem mn_base {a b w : Int} {hi : Option (Int × Int)} (ha : 0 ≤ a) (hb : 0 < b) (hw : w = a / b) (hh : ∀ c d, hi = some (c, d) → (w + 1) * d < c) : Mn (some (a, b)) hi (w + 1) 1 := by
  have e := Int.mul_ediv_add_emod a b
  have m0 := Int.emod_nonneg a (show b ≠ 0 by omega)
  have m1 := Int.emod_lt_of_pos a hb
  rw [← hw] at e
  have w0 : 0 ≤ w := by rw [hw]; exact Int.ediv_nonneg ha (Int.le_of_lt hb)
  refine ⟨by omega, by omega, ⟨fun a' b' h => ?_, fun c d h => ?_⟩, fun p q hq h => ?_⟩
  · cases h
    grind
  · have := hh c d h
    omega
  · have h1 := h.1 a b rfl
    have h2 : w * q < p := by
      refine lt_of_mul (c := b) ?_ hb
      have h3 : 0 ≤ (a % b) * q := Int.mul_nonneg m0 (Int.le_of_lt hq)
      have h4 : w * q * b = a * q - (a % b) * q := by rw [show a * q = (b * w + a % b) * q by rw [e]]; grind
      omega
    have h3 : w ≤ w * q := by
      have := Int.mul_le_mul_of_nonneg_left (show (1 : Int) ≤ q by omega) w0
      omega
    omega

/-- one turn of the continued fraction -/
theorem mn_step {a b c d w r0 r1 : Int} {T B : Int} {hi : Option (Int × Int)} (ha : 0 ≤ a) (hb : 0 < b) (hd : 0 < d) (hlt : a * d < c * b) (w0 : 0 ≤ w) (e0 : r0 = a - w * b) (e1 : r1 = c - w * d) (p0 : 0 ≤ r0)
    (hhi : hi = if r0 = 0 then none else some (b, r0)) (h : Mn (some (d, r1)) hi T B) : Mn (some (a, b)) (some (c, d)) (w * T + B) T := by
  have hB := h.pos
  have hT := h.top
  have b1 := h.bt.1 d r1 rfl
  have b2 : T * r0 < b * B := by
    by_cases z : r0 = 0
    · rw [z, Int.mul_zero]
      exact Int.mul_pos hb hB
    · rw [if_neg z] at hhi
      exact h.bt.2 b r0 hhi
  refine ⟨hT, ?_, ⟨fun a' b' q => ?_, fun c' d' q => ?_⟩, fun p q hq hbt => ?_⟩
  · have := Int.mul_nonneg w0 (Int.le_of_lt hT)
    omega
  · cases q
    rw [e0] at b2
    have x1 : T * (a - w * b) = T * a - w * T * b := by grind
    have x2 : (w * T + B) * b = w * T * b + b * B := by grind
    have x3 : a * T = T * a := by grind
    omega
  · cases q
    rw [e1] at b1
    have x1 : T * (c - w * d) = c * T - w * T * d := by grind
    have x2 : (w * T + B) * d = w * T * d + d * B := by grind
    omega
  · have h1 := hbt.1 a b rfl
    have h2 := hbt.2 c d rfl
    have r1b : r0 * q < (p - w * q) * b := by
      rw [e0]
      have x1 : (a - w * b) * q = a * q - w * q * b := by grind
      have x2 : (p - w * q) * b = p * b - w * q * b := by grind
      omega
    have rp : 0 < p - w * q := by
      refine lt_of_mul (c := b) ?_ hb
      have := Int.mul_nonneg p0 (Int.le_of_lt hq)
      omega
    have r2b : (p - w * q) * d < q * r1 := by
      rw [e1]
      have x1 : (p - w * q) * d = p * d - w * q * d := by grind
      have x2 : q * (c - w * d) = c * q - w * q * d := by grind
      omega
    have l := h.least q (p - w * q) rp ⟨fun a' b' z => ?_, fun c' d' z => ?_⟩
    · refine ⟨l.2, ?_⟩
      have := Int.mul_le_mul_of_nonneg_left l.2 w0
      omega
    · cases z
      rw [Int.mul_comm d]
      exact r2b
    · by_cases z0 : r0 = 0
      · rw [hhi, if_pos z0] at z
        cases z
      · rw [hhi, if_neg z0] at z
        cases z
        have x1 : q * r0 = r0 * q := by grind
        have x2 : b * (p - w * q) = (p - w * q) * b := by grind
        omega

/-! ### the best one -/
def less (o : Int × Int) : Int × Int := (-o.1, o.2)
def Best (lo hi : Option (Int × Int)) : Option (Int × Int) → Prop
  | none => ∃ a b c d, lo = some (a, b) ∧ hi = some (c, d) ∧ c * b ≤ a * d
  | some (t, b) => 0 < b ∧ Bt lo hi t b ∧ ∀ p q, 0 < q → Bt lo hi p q → b ≤ q ∧ (q = b → t.natAbs ≤ p.natAbs)
def Pos (o : Option (Int × Int)) : Prop := ∀ a b, o = some (a, b) → 0 < b
theorem mul_lt {a b c : Int} (h : a < b) (hc : 0 < c) : a * c < b * c := Int.mul_lt_mul_of_pos_right h hc
theorem bt_lt {a b c d p q : Int} (hb : 0 < b) (hd : 0 < d) (hq : 0 < q) (h : Bt (some (a, b)) (some (c, d)) p q) : a * d < c * b := by
  have h1 := mul_lt (h.1 a b rfl) hd
  have h2 := mul_lt (h.2 c d rfl) hb
  refine lt_of_mul (c := q) ?_ hq
  have x1 : a * d * q = a * q * d := by grind
  have x2 : c * b * q = c * q * b := by grind
  have x3 : p * b * d = p * d * b := by grind
  omega
theorem Best.one {lo hi r s : Option (Int × Int)} (pl : Pos lo) (ph : Pos hi) (h : Best lo hi r) (k : Best lo hi s) : r = s := by
  match r, s with
  | none, none => rfl
  | none, some (t, b) =>
    obtain ⟨a, b', c, d, rfl, rfl, l⟩ := h
    have := bt_lt (pl _ _ rfl) (ph _ _ rfl) k.1 k.2.1
    omega
  | some (t, b), none =>
    obtain ⟨a, b', c, d, rfl, rfl, l⟩ := k
    have := bt_lt (pl _ _ rfl) (ph _ _ rfl) h.1 h.2.1
    omega
  | some (t, b), some (u, e) =>
    obtain ⟨h1, h2, h3⟩ := h
    obtain ⟨k1, k2, k3⟩ := k
    have x := h3 u e k1 k2
    have y := k3 t b h1 h2
    have eb : b = e := by omega
    subst eb
    have n1 := x.2 rfl
    have n2 := y.2 rfl
    by_cases z : t = u
    · rw [z]
    · have tu : u = -t := by omega
      subst tu
      have t0 : t ≠ 0 := by omega
      have m := h3 0 b h1 ⟨fun a' b' q => ?_, fun c' d' q => ?_⟩
      · have := m.2 rfl
        omega
      · have a1 := h2.1 a' b' q
        have a2 := k2.1 a' b' q
        have x1 : -t * b' = -(t * b') := by grind
        omega
      · have a1 := h2.2 c' d' q
        have a2 := k2.2 c' d' q
        have x1 : -t * d' = -(t * d') := by grind
        omega
theorem Mn.best {lo hi : Option (Int × Int)} {T B : Int} (h : Mn lo hi T B) : Best lo hi (some (T, B)) := by
  refine ⟨h.pos, h.bt, fun p q hq hb => ?_⟩
  have l := h.least p q hq hb
  have := h.top
  exact ⟨l.1, fun _ => by omega⟩
theorem bt_less {lo hi : Option (Int × Int)} {p q : Int} (h : Bt lo hi p q) : Bt (hi.map less) (lo.map less) (-p) q := by
  refine ⟨fun a b e => ?_, fun c d e => ?_⟩
  · cases hi with
    | none => cases e
    | some o =>
      cases e
      have := h.2 o.1 o.2 rfl
      show -o.1 * q < -p * o.2
      have x1 : -o.1 * q = -(o.1 * q) := by grind
      have x2 : -p * o.2 = -(p * o.2) := by grind
      omega
  · cases lo with
    | none => cases e
    | some o =>
      cases e
      have := h.1 o.1 o.2 rfl
      show -p * o.2 < -o.1 * q
      have x1 : -o.1 * q = -(o.1 * q) := by grind
      have x2 : -p * o.2 = -(p * o.2) := by grind
      omega
theorem less_less (o : Option (Int × Int)) : (o.map less).map less = o := by
  cases o with
  | none => rfl
  | some x => simp [less]
theorem Best.less {lo hi r : Option (Int × Int)} (h : Best lo hi r) : Best (hi.map less) (lo.map less) (r.map less) := by
  match r with
  | none =>
    obtain ⟨a, b, c, d, rfl, rfl, l⟩ := h
    refine ⟨-c, d, -a, b, rfl, rfl, ?_⟩
    have x1 : -a * d = -(a * d) := by grind
    have x2 : -c * b = -(c * b) := by grind
    omega
  | some (t, b) =>
    obtain ⟨h1, h2, h3⟩ := h
    refine ⟨h1, bt_less h2, fun p q hq hb => ?_⟩
    have hb' := bt_less hb
    rw [less_less, less_less] at hb'
    have := h3 (-p) q hq hb'
    exact ⟨this.1, fun e => by have := this.2 e; show (-t).natAbs ≤ p.natAbs; omega⟩
theorem best_nought {lo hi : Option (Int × Int)} (h : Bt lo hi 0 1) : Best lo hi (some (0, 1)) := ⟨by omega, h, fun p q hq _ => ⟨by omega, fun _ => Nat.zero_le _⟩⟩
/-- neighbours: the sum of tops by the sum of bottoms -/
theorem best_near {a b c d : Int} (hb : 0 < b) (hd : 0 < d) (h : c * b - a * d = 1) : Best (some (a, b)) (some (c, d)) (some (a + c, b + d)) := by
  refine ⟨by omega, ⟨fun a' b' e => ?_, fun c' d' e => ?_⟩, fun p q hq hbt => ?_⟩
  · cases e
    have x1 : a * (b + d) = a * b + a * d := by grind
    have x2 : (a + c) * b = a * b + c * b := by grind
    omega
  · cases e
    have x1 : c * (b + d) = c * b + c * d := by grind
    have x2 : (a + c) * d = a * d + c * d := by grind
    omega
  · have h1 := hbt.1 a b rfl
    have h2 := hbt.2 c d rfl
    -- x, y from 1 on
    have eq : q = b * (c * q - p * d) + d * (p * b - a * q) := by
      have z : q * (c * b - a * d) = b * (c * q - p * d) + d * (p * b - a * q) := by grind
      rw [h, Int.mul_one] at z
      exact z
    have ep : p = a * (c * q - p * d) + c * (p * b - a * q) := by
      have z : p * (c * b - a * d) = a * (c * q - p * d) + c * (p * b - a * q) := by grind
      rw [h, Int.mul_one] at z
      exact z
    have hx : 1 ≤ p * b - a * q := by omega
    have hy : 1 ≤ c * q - p * d := by omega
    generalize p * b - a * q = x at *
    generalize c * q - p * d = y at *
    have l1 := Int.mul_le_mul_of_nonneg_left hy (Int.le_of_lt hb)
    have l2 := Int.mul_le_mul_of_nonneg_left hx (Int.le_of_lt hd)
    refine ⟨by omega, fun e => ?_⟩
    -- q = b + d: then x = y = 1
    have y1 : y = 1 := by
      by_cases g : y = 1
      · exact g
      · have := Int.mul_le_mul_of_nonneg_left (show 2 ≤ y by omega) (Int.le_of_lt hb)
        omega
    have x1 : x = 1 := by
      by_cases g : x = 1
      · exact g
      · have := Int.mul_le_mul_of_nonneg_left (show 2 ≤ x by omega) (Int.le_of_lt hd)
        omega
    rw [y1, x1] at ep
    have : p = a + c := by omega
    rw [this]
    exact Nat.le_refl _
end Kb

namespace Kb
open PySem PySem.Spec PyProof.Rows L2 Hb
def top (i : Nat) : Stmt := PySem.Challenge.pw_curvebells_k02_the_simplest_ratio_betwee.main.body.getD i (.Pass ⟨0, 0, 0, 0⟩)
local macro_rules | `(tactic| walk_at "sd") => `(tactic| (first
  | decide
  | exact ⟨by decide, by decide⟩
  | exact Or.inl ⟨by decide, by decide⟩
  | exact Or.inr ⟨by decide, by decide⟩
  | exact divw (by omega) (by omega)
  | exact Or.inl ⟨by omega, by omega⟩
  | exact Or.inr ⟨by omega, by omega⟩
  | (show (0 : Int) < _; omega)))
local macro_rules | `(tactic| walk_at "sq") => `(tactic| (first | exact SqT.of (by assumption) | exact SqL.of (by assumption)))
local macro_rules | `(tactic| walk_at "rd") => `(tactic| repeat (first
  | refine ⟨_, rfl, ?_⟩
  | refine ⟨_, _, rfl, rfl, (by walk_at "sd"), ?_⟩
  | refine ⟨_, _, rfl, rfl, ?_⟩
  | refine ⟨_, _, _, _, rfl, rfl, (by walk_at "sq"), rfl, ?_⟩
  | refine ⟨_, _, rfl, ?_⟩
  | refine ⟨rfl, ?_⟩))
section
variable {P : Program} {w : World} {K : PySem.W.Frag} {mg : Str → Option Value} {base : Heap}
abbrev s_sign_of : Stmt := top 1
theorem sc_sign_of : FnScope ["integer"] ["integer"] (defScope s_sign_of) := ⟨rfl, rfl, rfl, by decide +kernel, rfl, by decide +kernel, by decide +kernel⟩
def spSign : Sp := fun vs H Q _ => ∃ i : Int, vs = [.int i] ∧ Q (.int i.sign) H
theorem ok_sign {f : Addr} {fd : FuncData} (F : Fun K "sign_of" "sign_of" s_sign_of f fd) : FnOk P w K mg base CX0 1 f fd ["integer"] spSign := by
  refine F.ok sc_sign_of (fun vs H Q E h => ?_) (fun cdv A outer s H vs Q E hr h => ?_)
  · obtain ⟨i, rfl, _⟩ := h
    rfl
  · obtain ⟨i, rfl, q⟩ := h
    refine ⟨_, (pss_cons (ps_if (pt_cmpR op_gt (pv 0) (pe_int) (nomark _)) (pss_one (ps_ret (pe_int))) pss_nil)
    (pss_cons (ps_if (pt_cmpR op_lt (pv 0) (pe_int) (nomark _)) (pss_one (ps_ret (pe_un un_neg (pe_int)))) pss_nil)
    (pss_one (ps_ret (pe_int))))), ?_⟩
    walk_at "rd"
    refine iteD (fun c => ?_) (fun c => ?_)
    · rw [Int.sign_eq_one_of_pos c] at q
      exact q
    · walk_at "rd"
      refine iteD (fun c2 => ?_) (fun c2 => ?_)
      · walk_at "rd"
        rw [Int.sign_eq_neg_one_of_neg c2] at q
        exact q
      · rw [show i = 0 by omega] at q
        exact q
abbrev s_less_ratio : Stmt := top 5
theorem sc_less_ratio : FnScope ["one"] ["one"] (defScope s_less_ratio) := ⟨rfl, rfl, rfl, by decide +kernel, rfl, by decide +kernel, by decide +kernel⟩
/-- v is a ratio of the heap -/
def IsR (H : Hp) (v : V) (o : Int × Int) : Prop := ∃ t, v = .ref t ∧ H t = some (.tup [.int o.1, .int o.2])
def IsO (H : Hp) (v : V) : Option (Int × Int) → Prop
  | none => v = .non
  | some o => IsR H v o
theorem IsR.mono {H H' : Hp} {v : V} {o : Int × Int} (s : Same H H') (h : IsR H v o) : IsR H' v o := let ⟨t, e, g⟩ := h; ⟨t, e, s _ _ g⟩
theorem IsO.mono {H H' : Hp} {v : V} {o : Option (Int × Int)} (s : Same H H') (h : IsO H v o) : IsO H' v o := by
  cases o with
  | none => exact h
  | some o => exact IsR.mono s h
def spLess : Sp := fun vs H Q _ => ∃ (v : V) (a b : Int), vs = [v] ∧ IsR H v (a, b) ∧ ∀ p H', Same H H' → H' p = some (.tup [.int (-a), .int b]) → Q (.ref p) H'
theorem ok_less {f : Addr} {fd : FuncData} (F : Fun K "less_ratio" "less_ratio" s_less_ratio f fd) : FnOk P w K mg base CX0 1 f fd ["one"] spLess := by
  refine F.ok sc_less_ratio (fun vs H Q E h => ?_) (fun cdv A outer s H vs Q E hr h => ?_)
  · obtain ⟨i, _, _, rfl, _⟩ := h
    rfl
  · obtain ⟨_, a, b, rfl, ⟨t, rfl, ht⟩, q⟩ := h
    replace ht : H t = some (.tup [.int a, .int b]) := ht
    refine ⟨_, (pss_one (ps_ret (pe_tup (pa_cons (pe_un un_neg (pe_ix ix_tup (pv 0) (pe_int) (fun _ _ => rfl))) (pa_cons (pe_ix ix_tup (pv 0) (pe_int) (fun _ _ => rfl)) pa_nil))))), ?_⟩
    walk_at "rd"
    exact tup_at (by show 2 ≤ 1000; decide) fun p H' _ s e => q p H' s e
abbrev s_turned_ratio : Stmt := top 7
theorem sc_turned_ratio : FnScope ["one", "whole", "rest"] ["one", "whole"] (defScope s_turned_ratio) := ⟨rfl, rfl, rfl, by decide +kernel, rfl, by decide +kernel, by decide +kernel⟩
def spTurned : Sp := fun vs H Q _ => ∃ (v : V) (a b n : Int), vs = [v, .int n] ∧ IsR H v (a, b) ∧ (-(2 ^ 62) < n ∧ n < 2 ^ 62) ∧ (a - n * b = 0 → Q .non H) ∧ ∀ p H', Same H H' → a - n * b ≠ 0 → H' p = some (.tup [.int b, .int (a - n * b)]) → Q (.ref p) H'
theorem ok_turned {f : Addr} {fd : FuncData} (F : Fun K "turned_ratio" "turned_ratio" s_turned_ratio f fd) : FnOk P w K mg base CX0 1 f fd ["one", "whole"] spTurned := by
  refine F.ok sc_turned_ratio (fun vs H Q E h => ?_) (fun cdv A outer s H vs Q E hr h => ?_)
  · obtain ⟨i, _, _, _, rfl, _⟩ := h
    rfl
  · obtain ⟨_, a, b, n, rfl, ⟨t, rfl, ht⟩, hn, q0, q⟩ := h
    replace ht : H t = some (.tup [.int a, .int b]) := ht
    refine ⟨_, (pss_cons (ps_set (i := 2) sc_turned_ratio.nd rfl (Or.inl rfl) (pe_op op_sub (pe_ix ix_tup (pv 0) (pe_int) (fun _ _ => rfl)) (pe_op op_mul (pv 1) (pe_ix ix_tup (pv 0) (pe_int) (fun _ _ => rfl)))))
    (pss_cons (ps_if (pt_cmpR op_eq (pv 2) (pe_int) (nomark _)) (pss_one (ps_ret (pe_non))) pss_nil)
    (pss_one (ps_ret (pe_tup (pa_cons (pe_ix ix_tup (pv 0) (pe_int) (fun _ _ => rfl)) (pa_cons (pv 2) pa_nil))))))), ?_⟩
    walk_at "rd"
    refine iteD (fun c => ?_) (fun c => ?_)
    · exact q0 (V.int.inj c)
    · walk_at "rd"
      exact tup_at (by show 2 ≤ 1000; decide) fun p H' _ s e => q p H' s (fun z => c (congrArg V.int z)) e

abbrev s_ratio_order : Stmt := top 3
theorem sc_ratio_order : FnScope ["one", "other"] ["one", "other"] (defScope s_ratio_order) := ⟨rfl, rfl, rfl, by decide +kernel, rfl, by decide +kernel, by decide +kernel⟩
def spOrder : Sp := fun vs H Q _ => ∃ (v u : V) (a b c d : Int), vs = [v, u] ∧ IsR H v (a, b) ∧ IsR H u (c, d) ∧ (-(2 ^ 62) < a ∧ a < 2 ^ 62) ∧ (-(2 ^ 62) < c ∧ c < 2 ^ 62) ∧ Q (.int (a * d - c * b).sign) H
theorem ok_order {f : Addr} {fd : FuncData} (F : Fun K "ratio_order" "ratio_order" s_ratio_order f fd) (C_sign_of : Cl P w K mg base "sign_of" ["integer"] [] 1 spSign) : FnOk P w K mg base CX0 2 f fd ["one", "other"] spOrder := by
  refine F.ok sc_ratio_order (fun vs H Q E h => ?_) (fun cdv A outer s H vs Q E hr h => ?_)
  · obtain ⟨i, _, _, _, _, _, rfl, _⟩ := h
    rfl
  · obtain ⟨_, _, a, b, c, d, rfl, ⟨t, rfl, ht⟩, ⟨t', rfl, ht'⟩, ba, bc, q⟩ := h
    replace ht : H t = some (.tup [.int a, .int b]) := ht
    replace ht' : H t' = some (.tup [.int c, .int d]) := ht'
    refine ⟨_, (pss_one (ps_ret (pe_use C_sign_of (hr.mono (by decide)) rfl (pa_cons (pe_op op_sub (pe_op op_mul (pe_ix ix_tup (pv 0) (pe_int) (fun _ _ => rfl)) (pe_ix ix_tup (pv 1) (pe_int) (fun _ _ => rfl))) (pe_op op_mul (pe_ix ix_tup (pv 1) (pe_int) (fun _ _ => rfl)) (pe_ix ix_tup (pv 0) (pe_int) (fun _ _ => rfl)))) pa_nil)))), ?_⟩
    walk_at "rd"
    exact q
/-! ### simplest_above -/
def bot : Option (Int × Int) → Int
  | none => 0
  | some o => o.2
def back (ws : List Int) (tb : Int × Int) : Int × Int := ws.foldr (fun w tb => (w * tb.1 + tb.2, tb.1)) tb
theorem back_one (ws : List Int) (w T B : Int) : back (ws ++ [w]) (T, B) = back ws (w * T + B, T) := by
  unfold back
  rw [List.foldr_append]
  rfl
theorem IsR.upd {H : Hp} {v : V} {o : Int × Int} {l : Addr} {xs ys : List V} (h : IsR H v o) (hl : H l = some (.lst xs)) : IsR (upd H l (.lst ys)) v o := by
  obtain ⟨t, e, g⟩ := h
  exact ⟨t, e, by rw [upd_ne (ne_of g hl (by intro z; cases z))]; exact g⟩
theorem IsO.upd {H : Hp} {v : V} {o : Option (Int × Int)} {l : Addr} {xs ys : List V} (h : IsO H v o) (hl : H l = some (.lst xs)) : IsO (upd H l (.lst ys)) v o := by
  cases o with
  | none => exact h
  | some o => exact IsR.upd h hl
abbrev s_simplest_above : Stmt := top 6
theorem sc_simplest_above : FnScope ["low", "high", "wholes", "whole", "top", "bottom"] ["low", "high"] (defScope s_simplest_above) := ⟨rfl, rfl, rfl, by decide +kernel, rfl, by decide +kernel, by decide +kernel⟩
def spAbove : Sp := fun vs H Q _ => ∃ (v u : V) (a b : Int) (hi : Option (Int × Int)), vs = [v, u] ∧ IsR H v (a, b) ∧ IsO H u hi ∧ (0 ≤ a ∧ a < 2 ^ 60) ∧ (0 < b ∧ b < 2 ^ 60) ∧ (∀ c d, hi = some (c, d) → 0 < d ∧ d < 2 ^ 60 ∧ a * d < c * b) ∧ b + bot hi ≤ 8000000 ∧
  ∀ p H' T B, Same H H' → H' p = some (.tup [.int T, .int B]) → Mn (some (a, b)) hi T B → Q (.ref p) H'
/-- between two turns -/
structure Lp (H0 H : Hp) (l : Addr) (v u : V) (a b w : Int) (hi lo0 hi0 : Option (Int × Int)) (ws : List Int) : Prop where
  iv : IsR H v (a, b)
  iu : IsO H u hi
  il : H l = some (.lst (ws.map V.int))
  ha : 0 ≤ a ∧ a < 2 ^ 60
  hb : 0 < b ∧ b < 2 ^ 60
  hw : w = a / b
  hh : ∀ c d, hi = some (c, d) → 0 < d ∧ d < 2 ^ 60 ∧ a * d < c * b
  hm : (ws.length : Int) + (b + bot hi) ≤ 8000000
  hs : ∀ x ∈ ws, 0 ≤ x ∧ x < 2 ^ 60
  sm : Same H0 H
  go : ∀ T B, Mn (some (a, b)) hi T B → Mn lo0 hi0 (back ws (T, B)).1 (back ws (T, B)).2
theorem bot_nn {hi : Option (Int × Int)} {a b : Int} (h : ∀ c d, hi = some (c, d) → 0 < d ∧ d < 2 ^ 60 ∧ a * d < c * b) : 0 ≤ bot hi := by
  cases hi with
  | none => exact Int.le_refl 0
  | some o =>
    have := (h o.1 o.2 rfl).1
    show 0 ≤ o.2
    omega
theorem whole_lt {a b : Int} (ha : 0 ≤ a ∧ a < 2 ^ 60) (hb : 0 < b) : 0 ≤ a / b ∧ a / b < 2 ^ 60 := by
  have h1 := Int.ediv_nonneg ha.1 (Int.le_of_lt hb)
  have h2 := Int.ediv_le_self b ha.1
  omega
theorem Lp.low {H0 H : Hp} {l : Addr} {v u : V} {a b w c d : Int} {lo0 hi0 : Option (Int × Int)} {ws : List Int} (L : Lp H0 H l v u a b w (some (c, d)) lo0 hi0 ws) : 0 ≤ a - w * b ∧ a - w * b < b ∧ 0 < c - w * d := by
  obtain ⟨hd, hd2, hlt⟩ := L.hh c d rfl
  have e := Int.mul_ediv_add_emod a b
  have m0 := Int.emod_nonneg a (show b ≠ 0 by have := L.hb.1; omega)
  have m1 := Int.emod_lt_of_pos a L.hb.1
  rw [← L.hw] at e
  have x1 : w * b = b * w := Int.mul_comm _ _
  refine ⟨by omega, by omega, ?_⟩
  have : w * d * b < c * b := by
    have x2 : w * d * b = w * b * d := by grind
    have x3 : w * b * d ≤ a * d := Int.mul_le_mul_of_nonneg_right (by omega) (Int.le_of_lt hd)
    omega
  have := lt_of_mul this L.hb.1
  omega
def nxt (a b w : Int) : Option (Int × Int) := if a - w * b = 0 then none else some (b, a - w * b)
theorem Lp.next {H0 H H3 : Hp} {l p1 : Addr} {v u u3 : V} {a b w c d : Int} {lo0 hi0 : Option (Int × Int)} {ws : List Int} (L : Lp H0 H l v u a b w (some (c, d)) lo0 hi0 ws) (le : c ≤ (w + 1) * d)
    (e1 : H3 p1 = some (.tup [.int d, .int (c - w * d)])) (iu : IsO H3 u3 (nxt a b w)) (il : H3 l = some (.lst ((ws ++ [w]).map V.int))) (sm : Same H0 H3) :
    Lp H0 H3 l (.ref p1) u3 d (c - w * d) (d / (c - w * d)) (nxt a b w) lo0 hi0 (ws ++ [w]) ∧ ((c - w * d) + bot (nxt a b w)).toNat < (b + bot (some (c, d))).toNat := by
  obtain ⟨hd, hd2, hlt⟩ := L.hh c d rfl
  obtain ⟨r0, r1, r2⟩ := L.low
  have hw := L.hw ▸ whole_lt L.ha L.hb.1
  have hb := L.hb
  have x1 : (w + 1) * d = w * d + d := by grind
  have eb : bot (nxt a b w) = a - w * b := by
    unfold nxt
    by_cases z : a - w * b = 0
    · rw [if_pos z, z]; rfl
    · rw [if_neg z]; rfl
  have lt : (c - w * d) + bot (nxt a b w) < b + d := by rw [eb]; omega
  have hm := L.hm
  have hm2 : (ws.length : Int) + (b + d) ≤ 8000000 := hm
  refine ⟨⟨⟨p1, rfl, e1⟩, iu, il, ⟨by omega, by omega⟩, ⟨by omega, by omega⟩, rfl, fun c' d' z => ?_, ?_, fun x hx => ?_, sm, fun T B h => ?_⟩, ?_⟩
  · unfold nxt at z
    by_cases z0 : a - w * b = 0
    · rw [if_pos z0] at z
      cases z
    · rw [if_neg z0] at z
      cases z
      refine ⟨by omega, by omega, ?_⟩
      have x2 : d * (a - w * b) = a * d - w * b * d := by grind
      have x3 : b * (c - w * d) = c * b - w * b * d := by grind
      omega
  · rw [List.length_append, List.length_singleton]
    omega
  · rcases List.mem_append.mp hx with hx | hx
    · exact L.hs x hx
    · rw [List.mem_singleton.mp hx]
      exact hw
  · rw [back_one]
    exact L.go _ _ (mn_step L.ha.1 L.hb.1 hd hlt hw.1 rfl rfl r0 rfl h)
  · show _ < (b + d).toNat
    omega
theorem ok_above {f : Addr} {fd : FuncData} (F : Fun K "simplest_above" "simplest_above" s_simplest_above f fd) (C_turned_ratio : Cl P w K mg base "turned_ratio" ["one", "whole"] [] 1 spTurned) (n_rev : mg "reversed" = none) : FnOk P w K mg base CX0 2 f fd ["low", "high"] spAbove := by
  refine F.ok sc_simplest_above (fun vs H Q E h => ?_) (fun cdv A outer s H vs Q E hr h => ?_)
  · obtain ⟨_, _, _, _, _, rfl, _⟩ := h
    rfl
  · obtain ⟨v, u, a, b, hi, rfl, iv, iu, ha, hb, hh, hm, q⟩ := h
    refine ⟨_, (pss_cons (ps_set (i := 2) sc_simplest_above.nd rfl (Or.inl rfl) (pe_lst pa_nil))
    (pss_cons (ps_set (i := 3) sc_simplest_above.nd rfl (Or.inl rfl) (pe_op op_fdivW (pe_ix ix_tup (pv 0) (pe_int) (fun _ _ => rfl)) (pe_ix ix_tup (pv 0) (pe_int) (fun _ _ => rfl))))
    (Evl.pss_cut (ps_while PassesOwn.never (PW.pt (pw_and (pt_cmpR op_notN (pv 1) (pe_non) (nomark _)) (pw_and1 (pt_cmpR op_ge (pe_op op_mul (pe_op op_add (pv 3) (pe_int)) (pe_ix ix_tup (pv 1) (pe_int) (fun _ _ => rfl))) (pe_ix ix_tup (pv 1) (pe_int) (fun _ _ => rfl)) (nomark _)))))
      (pss_cons (ps_expr (pe_bm PySem.F.plainAttrs_list PySem.F.slot_list_append PySem.F.type_list_append mt_append (pv 2) (pa_cons (pv 3) pa_nil)))
    (pss_cons (ps_par (i := 0) (j := 1) (by rfl) sc_simplest_above.nd rfl rfl (by decide) rfl rfl (pa_cons (pe_use C_turned_ratio (hr.mono (by decide)) rfl (pa_cons (pv 1) (pa_cons (pv 3) pa_nil))) (pa_cons (pe_use C_turned_ratio (hr.mono (by decide)) rfl (pa_cons (pv 0) (pa_cons (pv 3) pa_nil))) pa_nil)) (by rfl))
    (pss_one (ps_set (i := 3) sc_simplest_above.nd rfl (Or.inl rfl) (pe_op op_fdivW (pe_ix ix_tup (pv 0) (pe_int) (fun _ _ => rfl)) (pe_ix ix_tup (pv 0) (pe_int) (fun _ _ => rfl))))))))
    (pss_cons (ps_par (i := 4) (j := 5) (by rfl) sc_simplest_above.nd rfl rfl (by decide) rfl rfl (pa_cons (pe_op op_add (pv 3) (pe_int)) (pa_cons (pe_int) pa_nil)) (by rfl))
    (Evl.pss_cut (ps_for PassesOwn.never rfl (pi_reversed (by rfl) n_rev (pa_cons (pv 2) pa_nil)) (pg_name (i := 3) sc_simplest_above.nd rfl (Or.inl rfl))
      (pss_one (ps_par (i := 4) (j := 5) (by rfl) sc_simplest_above.nd rfl rfl (by decide) rfl rfl (pa_cons (pe_op op_add (pe_op op_mul (pv 3) (pv 4)) (pv 5)) (pa_cons (pv 4) pa_nil)) (by rfl))))
    (pss_one (ps_ret (pe_tup (pa_cons (pv 4) (pa_cons (pv 5) pa_nil)))))))))), ?_⟩
    refine ⟨by show 0 ≤ sizeLine; decide, fun l l0 => ?_⟩
    have s1 := same_new l0 (.lst [])
    have el : (upd H l (.lst [])) l = some (.lst []) := upd_same
    generalize upd H l (.lst []) = H1 at s1 el ⊢
    obtain ⟨t, rfl, ht⟩ := id iv
    have ht1 : H1 t = some (.tup [.int a, .int b]) := s1 _ _ ht
    walk_at "rd"
    -- the while loop
    refine ⟨fun σ H' => ∃ (v' u' : V) (n : Int) (ws : List Int), σ = [some v', some u', some (.ref l), some (.int n), none, none] ∧ H' l = some (.lst (ws.map V.int)) ∧ Same H H' ∧ (∀ x ∈ ws, 0 ≤ x ∧ x < 2 ^ 60) ∧ (0 ≤ n ∧ n < 2 ^ 60) ∧ Mn (some (a, b)) hi (back ws (n + 1, 1)).1 (back ws (n + 1, 1)).2,
      ⟨fun m σ H' => ∃ (v' u' : V) (a' b' n : Int) (hi' : Option (Int × Int)) (ws : List Int), σ = [some v', some u', some (.ref l), some (.int n), none, none] ∧ m = (b' + bot hi').toNat ∧ Lp H H' l v' u' a' b' n hi' (some (a, b)) hi ws, ⟨_, _, _, a, b, _, hi, [], rfl, rfl, ⟨t, rfl, ht1⟩, iu.mono s1, el, ha, hb, rfl, hh, by simpa using hm, by simp, s1, fun T B h => h⟩, ?_⟩, ?_⟩
    · rintro m σ H' ⟨v', u', a', b', n, hi', ws, rfl, rfl, L⟩
      obtain ⟨t', rfl, ht'⟩ := id L.iv
      replace ht' : H' t' = some (.tup [.int a', .int b']) := ht'
      have hn : 0 ≤ n ∧ n < 2 ^ 60 := by rw [L.hw]; exact whole_lt L.ha L.hb.1
      walk_at "rd"
      cases hi' with
      | none =>
        obtain rfl : u' = .non := L.iu
        refine iteN (fun c => absurd rfl c) (fun _ => ?_)
        refine iteF ?_
        refine ⟨_, _, n, ws, rfl, L.il, L.sm, L.hs, hn, L.go _ _ (mn_base L.ha.1 L.hb.1 L.hw fun c d e => by cases e)⟩
      | some o =>
        obtain ⟨c, d⟩ := o
        obtain ⟨t2, rfl, ht2⟩ := id L.iu
        replace ht2 : H' t2 = some (.tup [.int c, .int d]) := ht2
        obtain ⟨hd, hd2, hlt⟩ := L.hh c d rfl
        refine iteN (fun _ => ?_) (fun c => by cases c)
        walk_at "rd"
        refine iteD (fun le => ?_) (fun le => ?_)
        · obtain ⟨r0, r1, r2⟩ := L.low
          have hlen : (ws.map V.int).length < sizeLine := by
            have h1 := L.hm
            have h2 : (ws.length : Int) + (b' + d) ≤ 8000000 := h1
            have h3 := L.hb.1
            rw [List.length_map]
            exact Nat.lt_of_le_of_lt (show ws.length ≤ 8000000 by omega) (by decide)
          have x1 : (n + 1) * d = n * d + d := by grind
          refine ⟨_, fun _ _ h => h, ?_⟩
          refine ⟨_, rfl, .inl ⟨rfl, _, SqL.of L.il⟩, _, rfl, l, _, _, rfl, rfl, L.il, hlen, ?_⟩
          have f1 : IsR (upd H' l (.lst (ws.map V.int ++ [.int n]))) (.ref t') (a', b') := L.iv.upd L.il
          have f2 : IsR (upd H' l (.lst (ws.map V.int ++ [.int n]))) (.ref t2) (c, d) := IsR.upd L.iu L.il
          have f3 : (upd H' l (.lst (ws.map V.int ++ [.int n]))) l = some (.lst ((ws ++ [n]).map V.int)) := by rw [upd_same, List.map_append]; rfl
          have f4 : Same H (upd H' l (.lst (ws.map V.int ++ [.int n]))) := fun x o e => by
            rw [upd_ne (ne_of_none e l0)]
            exact L.sm _ _ e
          generalize upd H' l (.lst (ws.map V.int ++ [.int n])) = H2 at f1 f2 f3 f4 ⊢
          refine ⟨_, rfl, _, rfl, _, c, d, n, rfl, f2, ⟨by omega, by omega⟩, fun z => by omega, fun p1 H3 s3 _ e3 => ?_⟩
          have sd : ∀ H4 p4, Same H3 H4 → IsO H4 p4 (nxt a' b' n) → Lp H H4 l (.ref p1) p4 d (c - n * d) (d / (c - n * d)) (nxt a' b' n) (some (a, b)) hi (ws ++ [n]) ∧ ((c - n * d) + bot (nxt a' b' n)).toNat < (b' + bot (some (c, d))).toNat := fun H4 p4 s4 e4 =>
            L.next le (s4 _ _ e3) e4 (s4 _ _ (s3 _ _ f3)) (f4.trans (s3.trans s4))
          refine ⟨_, rfl, _, rfl, _, a', b', n, rfl, f1.mono s3, ⟨by omega, by omega⟩, fun z => ?_, fun p2 H4 s4 nz e4 => ?_⟩
          · have en : nxt a' b' n = none := by unfold nxt; rw [if_pos z]
            obtain ⟨L2, lt⟩ := sd H3 .non (Same.refl _) (by rw [en]; rfl)
            walk_at "rd"
            exact ⟨_, lt, .ref p1, .non, _, _, _, _, _, rfl, rfl, L2⟩
          · have en : nxt a' b' n = some (b', a' - n * b') := by unfold nxt; rw [if_neg nz]
            obtain ⟨L2, lt⟩ := sd H4 (.ref p2) s4 (by rw [en]; exact ⟨p2, rfl, e4⟩)
            have e3' := s4 _ _ e3
            walk_at "rd"
            exact ⟨_, lt, .ref p1, .ref p2, _, _, _, _, _, rfl, rfl, L2⟩
        · refine ⟨_, _, n, ws, rfl, L.il, L.sm, L.hs, hn, L.go _ _ (mn_base L.ha.1 L.hb.1 L.hw fun c2 d2 e => ?_)⟩
          cases e
          exact Int.not_le.mp le
    · rintro σ H' ⟨v', u', n, ws, rfl, il, sm, hs, hn, hM⟩
      walk_at "rd"
      refine ⟨fun σ H2 => ∃ (v2 u2 : V) (x : Option V), σ = [some v2, some u2, some (.ref l), x, some (.int (back ws (n + 1, 1)).1), some (.int (back ws (n + 1, 1)).2)] ∧ Same H H2, ?_, ?_⟩
      · refine ⟨_, rfl, l, _, rfl, SqL.of il, fun i m σ H2 => i + m = ws.length ∧ ∃ (v2 u2 : V) (x : Option V) (T B : Int), σ = [some v2, some u2, some (.ref l), x, some (.int T), some (.int B)] ∧ H2 = H' ∧ back (ws.take m) (T, B) = back ws (n + 1, 1),
          ⟨ws.length, by omega, _, _, _, _, _, rfl, rfl, by rw [List.take_length]⟩, ?_⟩
        rintro i m σ H2 ⟨em, v2, u2, x, T, B, rfl, rfl, eb⟩
        rw [List.length_map]
        cases m with
        | zero =>
          refine .inl ⟨by show ws.length ≤ i; omega, v2, u2, x, ?_, sm⟩
          rw [← eb]
          rfl
        | succ m =>
          have hm : m < ws.length := by omega
          have g : (ws.map V.int)[ws.length - 1 - i]? = some (.int ws[m]) := by
            rw [List.getElem?_map, show ws.length - 1 - i = m by omega, List.getElem?_eq_getElem hm]
            rfl
          refine .inr ⟨⟨by omega, _, _, SqL.of il, g⟩, _, fun _ _ h => h, ?_⟩
          rintro y H3 ⟨rfl, fy⟩
          have ey : y = .int ws[m] := Option.some.inj ((fy _ (SqL.of il)).symm.trans g)
          subst ey
          have hx := hs ws[m] (List.getElem_mem hm)
          have hx1 : -(2 ^ 64) < ws[m] ∧ ws[m] < 2 ^ 64 := ⟨by omega, by omega⟩
          refine ⟨_, rfl, _, rfl, _, _, rfl, rfl, Or.inl hx1, _, rfl, _, _, rfl, rfl, _, rfl, _, _, rfl, m, Nat.lt_succ_self m, by omega, v2, u2, _, _, _, rfl, rfl, ?_⟩
          rw [← eb, List.take_add_one, List.getElem?_eq_getElem hm]
          exact (back_one _ _ _ _).symm
      · rintro σ H2 ⟨v2, u2, x, rfl, s2⟩
        walk_at "rd"
        refine ⟨by show 2 ≤ sizeLine; decide, fun p hp => ?_⟩
        exact q p _ _ _ (s2.trans (same_new hp _)) upd_same hM

/-! ### simplest_ratio -/
def negQ : Option (Int × Int) → Bool
  | none => true
  | some o => decide (o.1 < 0)
def posQ : Option (Int × Int) → Bool
  | none => true
  | some o => decide (0 < o.1)
def rIsN : R2 := fun x y H Q => y = .non ∧ Q (.bl (decide (x = .non))) H
def rNoN : R2 := fun x y H Q => y = .non ∧ Q (.bl (!decide (x = .non))) H
theorem t_neg {i : Nat} {σ : L2.St} {H : Hp} {v : V} {o : Option (Int × Int)} {Q : Bool → Hp → Prop} (hv : σ[i]? = some (some v)) (h : IsO H v o) (q : Q (negQ o) H) :
    tOr (tTest (tOp rIsN (tVar i) (tC .non))) (tTest (tOp (rI0 fun i j => .bl (decide (i < j))) (tOp (rIxT K) (tVar i) (tC (.int 0))) (tC (.int 0)))) σ H Q := by
  refine ⟨_, hv, rfl, _, rfl, ?_⟩
  cases o with
  | none =>
    obtain rfl : v = .non := h
    exact iteD (fun _ => q) (fun c => absurd rfl c)
  | some o =>
    obtain ⟨t, rfl, ht⟩ := h
    refine iteD (fun c => by cases c) (fun _ => ?_)
    refine ⟨_, hv, _, _, _, _, rfl, rfl, SqT.of ht, rfl, _, _, rfl, rfl, _, rfl, ?_⟩
    exact q
theorem t_pos {i : Nat} {σ : L2.St} {H : Hp} {v : V} {o : Option (Int × Int)} {Q : Bool → Hp → Prop} (hv : σ[i]? = some (some v)) (h : IsO H v o) (q : Q (posQ o) H) :
    tOr (tTest (tOp rIsN (tVar i) (tC .non))) (tTest (tOp (rI0 fun i j => .bl (decide (j < i))) (tOp (rIxT K) (tVar i) (tC (.int 0))) (tC (.int 0)))) σ H Q := by
  refine ⟨_, hv, rfl, _, rfl, ?_⟩
  cases o with
  | none =>
    obtain rfl : v = .non := h
    exact iteD (fun _ => q) (fun c => absurd rfl c)
  | some o =>
    obtain ⟨t, rfl, ht⟩ := h
    refine iteD (fun c => by cases c) (fun _ => ?_)
    refine ⟨_, hv, _, _, _, _, rfl, rfl, SqT.of ht, rfl, _, _, rfl, rfl, _, rfl, ?_⟩
    exact q
def Okr (o : Option (Int × Int)) : Prop := ∀ a b, o = some (a, b) → (-(2 ^ 60) < a ∧ a < 2 ^ 60) ∧ (0 < b ∧ b < 2 ^ 60)
theorem Okr.pos {o : Option (Int × Int)} (h : Okr o) : Pos o := fun a b e => (h a b e).2.1
theorem Okr.less {o : Option (Int × Int)} (h : Okr o) : Okr (o.map less) := fun a b e => by
  cases o with
  | none => cases e
  | some x =>
    cases e
    have := h x.1 x.2 rfl
    show (-(2 ^ 60) < -x.1 ∧ -x.1 < 2 ^ 60) ∧ 0 < x.2 ∧ x.2 < 2 ^ 60
    omega
abbrev s_simplest_ratio : Stmt := top 4
theorem sc_simplest_ratio : FnScope ["low", "high", "top", "bottom"] ["low", "high"] (defScope s_simplest_ratio) := ⟨rfl, rfl, rfl, by decide +kernel, rfl, by decide +kernel, by decide +kernel⟩
def spSimplest : Sp := fun vs H Q _ => ∃ (v u : V) (lo hi : Option (Int × Int)), vs = [v, u] ∧ IsO H v lo ∧ IsO H u hi ∧ Okr lo ∧ Okr hi ∧ bot lo + bot hi ≤ 8000000 ∧ ∀ H' r v', Same H H' → IsO H' v' r → Best lo hi r → Q v' H'
theorem bot_map (o : Option (Int × Int)) : bot (o.map less) = bot o := by
  cases o <;> rfl
theorem ok_simplest {f : Addr} {fd : FuncData} (F : FunD K "simplest_ratio" "simplest_ratio" (defArgs s_simplest_ratio) (defBody s_simplest_ratio) (defScope s_simplest_ratio) [.non, .non] [] f fd) (C_ratio_order : Cl P w K mg base "ratio_order" ["one", "other"] [] 2 spOrder)
    (C_simplest_above : Cl P w K mg base "simplest_above" ["low", "high"] [] 2 spAbove) (C_less_ratio : Cl P w K mg base "less_ratio" ["one"] [] 1 spLess) : FnOk P w K mg base CX0 3 f fd ["low", "high"] spSimplest := by
  refine F.ok sc_simplest_ratio (fun vs H Q E h => ?_) (fun cdv A outer s H vs Q E hr h => ?_)
  · obtain ⟨_, _, _, _, rfl, _⟩ := h
    rfl
  · obtain ⟨v, u, lo, hi, rfl, iv, iu, ol, oh, hb, q⟩ := h
    refine ⟨_, (PSs.nox (Evl.pss_cut (ps_if (PW.pt (pw_and (pt_cmpR (r := rNoN) op_notN (pv 0) (pe_non) (nomark _)) (pw_and (pt_cmpR (r := rNoN) op_notN (pv 1) (pe_non) (nomark _)) (pw_and1 (pt_cmpR op_ge (pe_use C_ratio_order (hr.mono (by decide)) rfl (pa_cons (pv 0) (pa_cons (pv 1) pa_nil))) (pe_int) (nomark _)))))) (pss_one (ps_ret (pe_non))) pss_nil)
    (Evl.pss_cut (ps_if (PW.pt (pw_and (PW.pt (pw_or (pt_cmpR (r := rIsN) op_isN (pv 0) (pe_non) (nomark _)) (pw_or1 (pt_cmpR op_lt (pe_ix ix_tup (pv 0) (pe_int) (fun _ _ => rfl)) (pe_int) (nomark _))))) (pw_and1 (PW.pt (pw_or (pt_cmpR (r := rIsN) op_isN (pv 1) (pe_non) (nomark _)) (pw_or1 (pt_cmpR op_gt (pe_ix ix_tup (pv 1) (pe_int) (fun _ _ => rfl)) (pe_int) (nomark _)))))))) (pss_one (ps_ret (pe_tup (pa_cons (pe_int) (pa_cons (pe_int) pa_nil))))) pss_nil)
    (pss_cons (ps_if (PW.pt (pw_or (pt_cmpR (r := rIsN) op_isN (pv 1) (pe_non) (nomark _)) (pw_or1 (pt_cmpR op_gt (pe_ix ix_tup (pv 1) (pe_int) (fun _ _ => rfl)) (pe_int) (nomark _))))) (pss_one (ps_ret (pe_use C_simplest_above (hr.mono (by decide)) rfl (pa_cons (pv 0) (pa_cons (pv 1) pa_nil))))) pss_nil)
    (pss_cons (ps_asg (pe_use C_simplest_above (hr.mono (by decide)) rfl (pa_cons (pe_use C_less_ratio (hr.mono (by decide)) rfl (pa_cons (pv 1) pa_nil)) (pa_cons (pe_ifExp (pt_cmpR (r := rIsN) op_isN (pv 0) (pe_non) (nomark _)) (pe_non) (pe_use C_less_ratio (hr.mono (by decide)) rfl (pa_cons (pv 0) pa_nil))) pa_nil))) (pg_tup rfl (pgs_cons (pg_name (i := 2) sc_simplest_ratio.nd rfl (Or.inl rfl)) (pgs_cons (pg_name (i := 3) sc_simplest_ratio.nd rfl (Or.inl rfl)) pgs_nil))))
    (pss_one (ps_ret (pe_tup (pa_cons (pe_un un_neg (pv 2)) (pa_cons (pv 3) pa_nil)))))))))), ?_⟩
    refine ⟨fun σ H' => σ = [some v, some u, none, none] ∧ H' = H ∧ (∀ a b c d, lo = some (a, b) → hi = some (c, d) → a * d < c * b), ?_, ?_⟩
    · refine ⟨_, rfl, rfl, _, rfl, ?_⟩
      cases lo with
      | none =>
        obtain rfl : v = .non := iv
        refine iteN (fun c => absurd rfl c) (fun _ => iteF ⟨rfl, rfl, fun _ _ _ _ e => by cases e⟩)
      | some o =>
        obtain ⟨a, b⟩ := o
        obtain ⟨t, rfl, ht⟩ := id iv
        refine iteN (fun _ => ?_) (fun c => by cases c)
        refine ⟨_, rfl, rfl, _, rfl, ?_⟩
        cases hi with
        | none =>
          obtain rfl : u = .non := iu
          refine iteN (fun c => absurd rfl c) (fun _ => iteF ⟨rfl, rfl, fun _ _ _ _ _ e => by cases e⟩)
        | some o2 =>
          obtain ⟨c, d⟩ := o2
          obtain ⟨t2, rfl, ht2⟩ := id iu
          refine iteN (fun _ => ?_) (fun c => by cases c)
          have o1 := ol a b rfl
          have o2 := oh c d rfl
          refine ⟨_, rfl, _, rfl, .ref t, .ref t2, a, b, c, d, rfl, iv, iu, ⟨by omega, by omega⟩, ⟨by omega, by omega⟩, _, _, rfl, rfl, _, rfl, ?_⟩
          refine iteD (fun ge => ?_) (fun lt => ?_)
          · refine q H none .non (Same.refl H) rfl ⟨a, b, c, d, rfl, rfl, ?_⟩
            rcases Int.lt_or_le (a * d - c * b) 0 with z | z
            · rw [Int.sign_eq_neg_one_of_neg z] at ge
              omega
            · omega
          · refine ⟨rfl, rfl, fun a' b' c' d' e1 e2 => ?_⟩
            cases e1
            cases e2
            rcases Int.lt_or_le (a * d - c * b) 0 with z | z
            · omega
            · by_cases z0 : a * d - c * b = 0
              · rw [z0] at lt
                exact absurd (by decide : (0 : Int) ≤ Int.sign 0) lt
              · rw [Int.sign_eq_one_of_pos (by omega)] at lt
                omega
    · rintro σ H' ⟨rfl, rfl, hlt⟩
      refine ⟨fun σ H2 => σ = [some v, some u, none, none] ∧ H2 = H' ∧ ¬ (negQ lo = true ∧ posQ hi = true), ?_, ?_⟩
      · refine t_neg rfl iv ?_
        cases en : negQ lo with
        | false => exact iteF (iteF ⟨rfl, rfl, fun z => by cases z.1⟩)
        | true =>
          refine iteT (t_pos rfl iu ?_)
          cases ep : posQ hi with
          | false => exact iteF ⟨rfl, rfl, fun z => by cases z.2⟩
          | true =>
            refine iteT ⟨by show 2 ≤ sizeLine; decide, fun p hp => ?_⟩
            refine q _ (some (0, 1)) _ (same_new hp _) ⟨p, rfl, upd_same⟩ (best_nought ⟨fun a b e => ?_, fun c d e => ?_⟩)
            · subst e
              have : a < 0 := of_decide_eq_true en
              omega
            · subst e
              have : 0 < c := of_decide_eq_true ep
              omega
      · rintro σ H2 ⟨rfl, rfl, hn⟩
        refine t_pos rfl iu ?_
        cases ep : posQ hi with
        | true =>
          have en : negQ lo = false := by
            cases z : negQ lo with
            | false => rfl
            | true => exact absurd ⟨z, ep⟩ hn
          cases lo with
          | none => cases en
          | some o =>
            obtain ⟨a, b⟩ := o
            have a0 : ¬ a < 0 := of_decide_eq_false en
            have o1 := ol a b rfl
            refine iteT ⟨_, rfl, _, rfl, v, u, a, b, hi, rfl, iv, iu, ⟨by omega, o1.1.2⟩, o1.2, fun c d e => ⟨(oh c d e).2.1, (oh c d e).2.2, hlt a b c d rfl e⟩, hb, fun p H' T B s e M => ?_⟩
            exact q H' (some (T, B)) (.ref p) s ⟨p, rfl, e⟩ M.best
        | false =>
          cases hi with
          | none => cases ep
          | some o =>
            obtain ⟨c, d⟩ := o
            have c0 : ¬ 0 < c := of_decide_eq_false ep
            have o2 := oh c d rfl
            refine iteF ⟨_, rfl, u, c, d, rfl, iu, fun p H3 s3 e3 => ?_⟩
            refine ⟨_, rfl, rfl, _, rfl, ?_⟩
            -- what follows, for the low one turned about
            have f5 : ∀ a' b', lo.map less = some (a', b') → 0 < b' ∧ b' < 2 ^ 60 ∧ -c * b' < a' * d := by
              intro a' b' e
              cases lo with
              | none => cases e
              | some o =>
                obtain ⟨a, b⟩ := o
                cases e
                have o1 := ol a b rfl
                refine ⟨o1.2.1, o1.2.2, ?_⟩
                have h := hlt a b c d rfl rfl
                show -c * b < -a * d
                have x1 : -c * b = -(c * b) := by grind
                have x2 : -a * d = -(a * d) := by grind
                omega
            have f6 : d + bot (lo.map less) ≤ 8000000 := by
              rw [bot_map]
              have : bot lo + d ≤ 8000000 := hb
              omega
            have f7 : ∀ T B, Mn (some (-c, d)) (lo.map less) T B → Best lo (some (c, d)) (some (-T, B)) := by
              intro T B M
              have z := M.best.less
              rw [less_less] at z
              have e2 : ((some (-c, d)).map less : Option (Int × Int)) = some (c, d) := by simp [less]
              rw [e2] at z
              exact z
            cases lo with
            | none =>
              obtain rfl : v = .non := iv
              refine iteD (fun _ => ?_) (fun c => absurd rfl c)
              refine ⟨.ref p, .non, -c, d, none, rfl, ⟨p, rfl, e3⟩, rfl, ⟨by omega, by omega⟩, o2.2, f5, f6, fun p' H5 T B s5 e5 M => ?_⟩
              have hB := f7 T B M
              refine ⟨p', _, rfl, SqT.of e5, rfl, _, _, rfl, _, _, rfl, rfl, _, rfl, _, rfl, _, rfl, by show 2 ≤ sizeLine; decide, fun p6 hp6 => ?_⟩
              exact q _ (some (-T, B)) _ (s3.trans (s5.trans (same_new hp6 _))) ⟨p6, rfl, upd_same⟩ hB
            | some o =>
              obtain ⟨a, b⟩ := o
              obtain ⟨t, rfl, ht⟩ := id iv
              refine iteD (fun c => by cases c) (fun _ => ?_)
              refine ⟨_, rfl, .ref t, a, b, rfl, iv.mono s3, fun p4 H4 s4 e4 => ?_⟩
              refine ⟨.ref p, .ref p4, -c, d, some (-a, b), rfl, ⟨p, rfl, s4 _ _ e3⟩, ⟨p4, rfl, e4⟩, ⟨by omega, by omega⟩, o2.2, f5, f6, fun p' H5 T B s5 e5 M => ?_⟩
              have hB := f7 T B M
              refine ⟨p', _, rfl, SqT.of e5, rfl, _, _, rfl, _, _, rfl, rfl, _, rfl, _, rfl, _, rfl, by show 2 ≤ sizeLine; decide, fun p6 hp6 => ?_⟩
              exact q _ (some (-T, B)) _ (s3.trans (s4.trans (s5.trans (same_new hp6 _)))) ⟨p6, rfl, upd_same⟩ hB
end
end Kb

namespace Kb
open PySem PySem.Spec PyProof.Rows L2 Hb
local macro_rules | `(tactic| walk_at "sd") => `(tactic| (first
  | decide
  | exact ⟨by decide, by decide⟩
  | exact ⟨by decide, by decide, by decide⟩
  | exact Or.inl ⟨by decide, by decide⟩
  | exact Or.inr ⟨by decide, by decide⟩
  | exact divw (by decide) (by decide)
  | exact divw (by omega) (by omega)
  | exact Or.inl ⟨by omega, by omega⟩
  | exact Or.inr ⟨by omega, by omega⟩
  | (show (0 : Int) < _; omega)))
local macro_rules | `(tactic| walk_at "sq") => `(tactic| (first | exact SqT.of (by assumption) | exact SqL.of (by assumption) | exact SqL.of upd_same | assumption))
local macro_rules | `(tactic| walk_at "rd") => `(tactic| repeat (first
  | refine ⟨_, rfl, ?_⟩
  | refine ⟨_, _, rfl, rfl, (by walk_at "sd"), ?_⟩
  | refine ⟨_, _, rfl, rfl, ?_⟩
  | refine ⟨_, _, _, _, rfl, rfl, (by walk_at "sq"), rfl, ?_⟩
  | refine ⟨_, _, _, _, rfl, rfl, (by first | assumption | exact upd_same), rfl, ?_⟩
  | refine ⟨_, _, rfl, Or.inl (by walk_at "sq"), ?_⟩
  | refine ⟨_, _, rfl, ?_⟩
  | refine Or.inl ⟨_, rfl, ?_⟩
  | refine ⟨rfl, ?_⟩))
section
variable {P : Program} {w : World} {K : PySem.W.Frag} {mg : Str → Option Value} {base : Heap}
def BoxAt (H : Hp) (p : Addr) : Prop := ∃ g s n : Int, H p = some (.lst [.int g, .int s, .int n]) ∧ 0 ≤ g ∧ (0 ≤ s ∧ s < 2 ^ 40) ∧ 0 ≤ n
/-! ### _law_take -/
abbrev s__law_take : Stmt := top 10
theorem sc__law_take : FnScope ["box", "many", "digit", "raw"] ["box", "many"] (defScope s__law_take) := ⟨rfl, rfl, rfl, by decide +kernel, rfl, by decide +kernel, by decide +kernel⟩
def spTake : Sp := fun vs H Q _ => ∃ (p : Addr) (many : Int), vs = [.ref p, .int many] ∧ (1 ≤ many ∧ many < 2 ^ 30) ∧ BoxAt H p ∧ ∀ d H', 0 ≤ d → d < many → Kept p H H' → BoxAt H' p → Q (.int d) H'
theorem ok_take {f : Addr} {fd : FuncData} (F : Fun K "_law_take" "_law_take" s__law_take f fd) (n_int : mg "int" = none) : FnOk P w K mg base CX0 1 f fd ["box", "many"] spTake := by
  refine F.ok sc__law_take (fun vs H Q E h => ?_) (fun cdv A outer s H vs Q E hr h => ?_)
  · obtain ⟨_, _, rfl, _⟩ := h
    rfl
  · obtain ⟨p, many, rfl, hm, ⟨g, s, n, hp, g0, s0, n0⟩, q⟩ := h
    refine ⟨_, (pss_cons (ps_if (pt_cmpR op_gt (pe_ix ix_list (pv 0) (pe_int) (fun _ _ => rfl)) (pe_int) (nomark _)) (pss_cons (ps_set (i := 2) sc__law_take.nd rfl (Or.inl rfl) (pe_op op_mod (pe_callTy call_int1 (by rfl) n_int (by decide +kernel) (pa_cons (pe_ix ix_list (pv 0) (pe_int) (fun _ _ => rfl)) pa_nil)) (pv 1)))
    (pss_cons (ps_asg (pe_op op_fdivW (pe_ix ix_list (pv 0) (pe_int) (fun _ _ => rfl)) (pv 1)) (pg_sub (pv 0) (pe_int) set_list))
    (pss_one (ps_ret (pv 2))))) pss_nil)
    (pss_cons (ps_asg (pe_op op_add (pe_ix ix_list (pv 0) (pe_int) (fun _ _ => rfl)) (pe_int)) (pg_sub (pv 0) (pe_int) set_list))
    (pss_cons (ps_set (i := 3) sc__law_take.nd rfl (Or.inl rfl) (pe_op op_mod (pe_callTy call_int1 (by rfl) n_int (by decide +kernel) (pa_cons (pe_op op_add (pe_op op_mul (pe_op op_add (pe_ix ix_list (pv 0) (pe_int) (fun _ _ => rfl)) (pe_op op_mul (pe_int) (pe_ix ix_list (pv 0) (pe_int) (fun _ _ => rfl)))) (pe_int)) (pe_int)) pa_nil)) (pe_int)))
    (pss_cons (ps_asg (pe_op op_add (pe_op op_mod (pe_callTy call_int1 (by rfl) n_int (by decide +kernel) (pa_cons (pe_op op_add (pe_op op_mul (pv 3) (pe_int)) (pe_int)) pa_nil)) (pe_int)) (pe_int)) (pg_sub (pv 0) (pe_int) set_list))
    (pss_one (ps_ret (pe_op op_mod (pe_callTy call_int1 (by rfl) n_int (by decide +kernel) (pa_cons (pe_op op_fdivW (pe_op op_add (pe_op op_mul (pv 3) (pe_int)) (pe_ix ix_list (pv 0) (pe_int) (fun _ _ => rfl))) (pe_int)) pa_nil)) (pv 1)))))))), ?_⟩
    walk_at "rd"
    refine iteD (fun c => ?_) (fun c => ?_)
    · walk_at "rd"
      exact q _ _ (Int.emod_nonneg _ (by omega)) (Int.emod_lt_of_pos _ (by omega)) kept_upd ⟨_, _, _, upd_same, Int.ediv_nonneg g0 (by omega), s0, n0⟩
    · walk_at "rd"
      refine q _ _ (Int.emod_nonneg _ (by omega)) (Int.emod_lt_of_pos _ (by omega)) (kept_upd.trans kept_upd) ⟨_, _, _, upd_same, g0, ⟨?_, ?_⟩, by omega⟩ <;> omega
/-! ### _law_box -/
abbrev s__law_box : Stmt := top 9
theorem sc__law_box : FnScope ["script", "k", "cell"] ["script", "k"] (defScope s__law_box) := ⟨rfl, rfl, rfl, by decide +kernel, rfl, by decide +kernel, by decide +kernel⟩
def spBox (K : PySem.W.Frag) : Sp := fun vs H Q _ => ∃ (a : Addr) (ns : List Int) (k : Int), vs = [.ref a, .int k] ∧ (0 ≤ k ∧ k ≤ 100) ∧ SqL K H a (ns.map V.int) ∧ ns.length ≤ 63 ∧ ∀ p H', H p = none → Same H H' → BoxAt H' p → Q (.ref p) H'
theorem at_map {ns : List Int} {k : Int} (h0 : 0 ≤ k) (h : k < (ns.length : Int)) : ∃ v : Int, atI (ns.map V.int) k = some (.int v) := by
  have hk : k.toNat < ns.length := by omega
  have ek : k = ((k.toNat : Nat) : Int) := by omega
  have q : atI (ns.map V.int) ((k.toNat : Nat) : Int) = some (.int ns[k.toNat]) := atI_nat (by rw [List.getElem?_map, List.getElem?_eq_getElem hk] <;> rfl)
  rw [← ek] at q
  exact ⟨_, q⟩
theorem abs_nn (i : Int) : 0 ≤ (if i < 0 then -i else i) := by
  by_cases h : i < 0
  · rw [if_pos h]; omega
  · rw [if_neg h]; omega
theorem ok_box {f : Addr} {fd : FuncData} (F : Fun K "_law_box" "_law_box" s__law_box f fd) (n_int : mg "int" = none) (n_len : mg "len" = none) (n_abs : mg "abs" = none) : FnOk P w K mg base CX0 1 f fd ["script", "k"] (spBox K) := by
  refine F.ok sc__law_box (fun vs H Q E h => ?_) (fun cdv A outer s H vs Q E hr h => ?_)
  · obtain ⟨_, _, _, rfl, _⟩ := h
    rfl
  · obtain ⟨a, ns, k, rfl, hk, hS, hl, q⟩ := h
    refine ⟨_, (pss_cons (ps_set (i := 2) sc__law_box.nd rfl (Or.inl rfl) (pe_op op_add (pe_op op_mul (pe_int) (pv 1)) (pe_int)))
    (Evl.pss_cut (ps_if (pt_cmpR op_lt (pv 1) (pe_callB call_len_seq (by rfl) n_len PySem.boot_len (pa_cons (pv 0) pa_nil)) (nomark _)) (pss_one (ps_set (i := 2) sc__law_box.nd rfl (Or.inl rfl) (pe_callB call_abs (by rfl) n_abs (by decide +kernel) (pa_cons (pe_ix ix_list (pv 0) (pv 1) (fun _ _ => rfl)) pa_nil)))) (pss_one (ps_if (pt_cmpR op_gt (pe_callB call_len_seq (by rfl) n_len PySem.boot_len (pa_cons (pv 0) pa_nil)) (pe_int) (nomark _)) (pss_one (ps_set (i := 2) sc__law_box.nd rfl (Or.inl rfl) (pe_op op_add (pv 2) (pe_op op_mul (pe_op op_mod (pe_callTy call_int1 (by rfl) n_int (by decide +kernel) (pa_cons (pe_callB call_abs (by rfl) n_abs (by decide +kernel) (pa_cons (pe_ix ix_list (pv 0) (pe_op op_mod (pe_callTy call_int1 (by rfl) n_int (by decide +kernel) (pa_cons (pv 1) pa_nil)) (pe_callB call_len_seq (by rfl) n_len PySem.boot_len (pa_cons (pv 0) pa_nil))) (fun _ _ => rfl)) pa_nil)) pa_nil)) (pe_int)) (pe_int))))) pss_nil)))
    (pss_one (ps_ret (pe_lst (pa_cons (pe_ix ix_list (pe_lst (pa_cons (pe_int) (pa_cons (pv 2) pa_nil))) (pe_callTy call_int1 (by rfl) n_int (by decide +kernel) (pa_cons (pe_cmpR op_ge (pv 2) (pe_op op_pow (pe_int) (pe_int)) (nomark _)) pa_nil)) (fun _ _ => rfl)) (pa_cons (pe_op op_add (pe_op op_mod (pe_callTy call_int1 (by rfl) n_int (by decide +kernel) (pa_cons (pe_op op_add (pe_op op_mul (pe_op op_mod (pe_callTy call_int1 (by rfl) n_int (by decide +kernel) (pa_cons (pv 2) pa_nil)) (pe_int)) (pe_int)) (pe_op op_mul (pe_int) (pv 1))) pa_nil)) (pe_int)) (pe_int)) (pa_cons (pe_int) pa_nil)))))))), ?_⟩
    walk_at "rd"
    refine ⟨fun σ H' => ∃ c : Int, σ = [some (.ref a), some (.int k), some (.int c)] ∧ H' = H ∧ 0 ≤ c, ?_, ?_⟩
    · walk_at "rd"
      rw [List.length_map]
      refine iteD (fun c => ?_) (fun c => ?_)
      · obtain ⟨v, hv⟩ := at_map hk.1 c
        refine ⟨_, rfl, _, rfl, _, _, _, _, rfl, rfl, hS, hv, _, rfl, _, rfl, rfl, abs_nn v⟩
      · walk_at "rd"
        refine iteD (fun c2 => ?_) (fun c2 => ?_)
        · rw [List.length_map] at c2
          obtain ⟨v, hv⟩ := at_map (ns := ns) (k := k % (ns.length : Int)) (Int.emod_nonneg _ (by omega)) (Int.emod_lt_of_pos _ (by omega))
          refine ⟨_, rfl, _, rfl, _, rfl, .inl ⟨_, rfl, _, rfl, _, _, rfl, .inl hS, _, _, rfl, rfl, ?_, _, _, _, V.int v, rfl, rfl, hS, ?_, ?_⟩⟩
          · rw [List.length_map]; exact c2
          · rw [List.length_map]; exact hv
          · walk_at "rd"
            have := Int.emod_nonneg (if v < 0 then -v else v) (show (2147483629 : Int) ≠ 0 by decide)
            omega
        · exact ⟨_, rfl, rfl, by omega⟩
    · rintro σ H' ⟨c, rfl, rfl, hc⟩
      walk_at "rd"
      refine ⟨by show 2 ≤ sizeLine; decide, fun l hl => ?_⟩
      have sl := same_new hl (.lst [.int 0, .int c])
      have el : (upd H' l (.lst [.int 0, .int c])) l = some (.lst [.int 0, .int c]) := upd_same
      generalize upd H' l (.lst [.int 0, .int c]) = H2 at sl el ⊢
      refine ⟨_, rfl, _, _, rfl, rfl, ⟨by decide, by decide, by decide⟩, _, _, rfl, rfl, .inr ⟨_, rfl, ?_⟩⟩
      have fin : ∀ g : Int, 0 ≤ g → ∀ p, H2 p = none → Q (.ref p) (upd H2 p (.lst [.int g, .int ((c % 2147483629 * 48271 + 39191 * k) % 2147483629 + 1), .int 0])) := fun g g0 p hp =>
        q p _ (Evl.fresh_back sl hp) (sl.trans (same_new hp _)) ⟨g, _, _, upd_same, g0, ⟨by omega, by omega⟩, by decide⟩
      cases e : decide ((10 : Int) ^ (18 : Int).toNat ≤ c) with
      | true =>
        refine ⟨l, _, _, _, rfl, rfl, SqL.of el, rfl, ?_⟩
        walk_at "rd"
        exact ⟨by show 3 ≤ sizeLine; decide, fun p hp => fin c hc p hp⟩
      | false =>
        refine ⟨l, _, _, _, rfl, rfl, SqL.of el, rfl, ?_⟩
        walk_at "rd"
        exact ⟨by show 3 ≤ sizeLine; decide, fun p hp => fin 0 (by decide) p hp⟩

/-! ### _law_divisor, _law_low, _law_ratio -/
abbrev s__law_divisor : Stmt := top 11
theorem sc__law_divisor : FnScope ["one", "other"] ["one", "other"] (defScope s__law_divisor) := ⟨rfl, rfl, rfl, by decide +kernel, rfl, by decide +kernel, by decide +kernel⟩
def spDiv : Sp := fun vs H Q _ => ∃ a b : Int, vs = [.int a, .int b] ∧ Q (.int (Int.gcd a b : Nat)) H
theorem abs_eq (i : Int) : (if i < 0 then -i else i) = (i.natAbs : Int) := by
  by_cases h : i < 0
  · rw [if_pos h]; omega
  · rw [if_neg h]; omega
theorem ok_div {f : Addr} {fd : FuncData} (F : Fun K "_law_divisor" "_law_divisor" s__law_divisor f fd) (n_int : mg "int" = none) (n_abs : mg "abs" = none) : FnOk P w K mg base CX0 1 f fd ["one", "other"] spDiv := by
  refine F.ok sc__law_divisor (fun vs H Q E h => ?_) (fun cdv A outer s H vs Q E hr h => ?_)
  · obtain ⟨_, _, rfl, _⟩ := h
    rfl
  · obtain ⟨a, b, rfl, q⟩ := h
    refine ⟨_, (pss_cons (ps_par (i := 0) (j := 1) (by rfl) sc__law_divisor.nd rfl rfl (by decide) rfl rfl (pa_cons (pe_callB call_abs (by rfl) n_abs (by decide +kernel) (pa_cons (pv 0) pa_nil)) (pa_cons (pe_callB call_abs (by rfl) n_abs (by decide +kernel) (pa_cons (pv 1) pa_nil)) pa_nil)) (by rfl))
    (pss_cons (ps_while PassesOwn.never (pt_cmpR op_gt (pv 1) (pe_int) (nomark _))
      (pss_one (ps_par (i := 0) (j := 1) (by rfl) sc__law_divisor.nd rfl rfl (by decide) rfl rfl (pa_cons (pv 1) (pa_cons (pe_op op_mod (pe_callTy call_int1 (by rfl) n_int (by decide +kernel) (pa_cons (pv 0) pa_nil)) (pv 1)) pa_nil)) (by rfl))))
    (pss_one (ps_ret (pv 0))))), ?_⟩
    refine ⟨_, rfl, _, rfl, _, rfl, _, rfl, _, _, rfl, ?_⟩
    rw [abs_eq, abs_eq]
    refine ⟨fun m σ H' => ∃ x y : Nat, σ = [some (.int (x : Int)), some (.int (y : Int))] ∧ H' = H ∧ m = y ∧ Nat.gcd x y = Int.gcd a b, ⟨_, a.natAbs, b.natAbs, rfl, rfl, rfl, rfl⟩, ?_⟩
    rintro m σ H' ⟨x, y, rfl, rfl, rfl, e⟩
    walk_at "rd"
    refine iteD (fun c => ?_) (fun c => ?_)
    · refine ⟨_, fun _ _ h => h, ?_⟩
      refine ⟨_, rfl, _, rfl, .inl ⟨_, rfl, _, rfl, _, _, rfl, rfl, c, _, _, rfl, x % m, Nat.mod_lt _ (by omega), m, x % m, ?_, rfl, rfl, ?_⟩⟩
      · show [some (V.int (m : Int)), some (V.int ((x : Int) % (m : Int)))] = _
        rw [← Int.natCast_emod]
      · rw [← e, Nat.gcd_comm x m, Nat.gcd_rec m x, Nat.gcd_comm]
    · have m0 : m = 0 := by omega
      subst m0
      rw [Nat.gcd_zero_right] at e
      walk_at "rd"
      rw [e]
      exact q
abbrev s__law_low : Stmt := top 12
theorem sc__law_low : FnScope ["top", "bottom", "shared"] ["top", "bottom"] (defScope s__law_low) := ⟨rfl, rfl, rfl, by decide +kernel, rfl, by decide +kernel, by decide +kernel⟩
def spLow : Sp := fun vs H Q _ => ∃ a b : Int, vs = [.int a, .int b] ∧ (-(2 ^ 40) < a ∧ a < 2 ^ 40) ∧ (0 < b ∧ b < 2 ^ 40) ∧ ∀ p H' x y, Same H H' → H' p = some (.tup [.int x, .int y]) → x.natAbs ≤ a.natAbs → (0 < y ∧ y ≤ b) → Q (.ref p) H'
theorem low_fact {a b : Int} (hb : 0 < b) : 0 < (Int.gcd a b : Int) ∧ (Int.gcd a b : Int) ≤ b ∧ (a / (Int.gcd a b : Int)).natAbs ≤ a.natAbs ∧ 0 < b / (Int.gcd a b : Int) ∧ b / (Int.gcd a b : Int) ≤ b := by
  have g0 : 0 < Int.gcd a b := Int.gcd_pos_of_ne_zero_right _ (by omega)
  have g1 : (0 : Int) < (Int.gcd a b : Int) := by omega
  have g2 : (Int.gcd a b : Int) ≤ b := Int.le_of_dvd hb (Int.gcd_dvd_right a b)
  refine ⟨g1, g2, ?_, Int.ediv_pos_of_pos_of_dvd hb (Int.le_of_lt g1) (Int.gcd_dvd_right a b), Int.ediv_le_self _ (Int.le_of_lt hb)⟩
  rw [Int.natAbs_ediv_of_dvd (Int.gcd_dvd_left a b)]
  exact Nat.div_le_self _ _
theorem ok_low {f : Addr} {fd : FuncData} (F : Fun K "_law_low" "_law_low" s__law_low f fd) (C__law_divisor : Cl P w K mg base "_law_divisor" ["one", "other"] [] 1 spDiv) : FnOk P w K mg base CX0 2 f fd ["top", "bottom"] spLow := by
  refine F.ok sc__law_low (fun vs H Q E h => ?_) (fun cdv A outer s H vs Q E hr h => ?_)
  · obtain ⟨_, _, rfl, _⟩ := h
    rfl
  · obtain ⟨a, b, rfl, ha, hb, q⟩ := h
    refine ⟨_, (pss_cons (ps_set (i := 2) sc__law_low.nd rfl (Or.inl rfl) (pe_use C__law_divisor (hr.mono (by decide)) rfl (pa_cons (pv 0) (pa_cons (pv 1) pa_nil))))
    (pss_cons (ps_if (pt_cmpR op_lt (pv 1) (pe_int) (nomark _)) (pss_one (ps_set (i := 2) sc__law_low.nd rfl (Or.inl rfl) (pe_op op_sub (pe_int) (pv 2)))) pss_nil)
    (pss_one (ps_ret (pe_tup (pa_cons (pe_op op_fdivW (pv 0) (pv 2)) (pa_cons (pe_op op_fdivW (pv 1) (pv 2)) pa_nil))))))), ?_⟩
    obtain ⟨g1, g2, g3, g4, g5⟩ := low_fact (a := a) hb.1
    refine ⟨_, rfl, _, rfl, a, b, rfl, _, rfl, _, _, rfl, rfl, _, rfl, ?_⟩
    refine iteD (fun c => by omega) (fun c => ?_)
    generalize (Int.gcd a b : Int) = g at *
    walk_at "rd"
    exact ⟨by show 2 ≤ sizeLine; decide, fun p hp => q p _ _ _ (same_new hp _) upd_same g3 ⟨g4, g5⟩⟩
abbrev s__law_ratio : Stmt := top 13
theorem sc__law_ratio : FnScope ["box"] ["box"] (defScope s__law_ratio) := ⟨rfl, rfl, rfl, by decide +kernel, rfl, by decide +kernel, by decide +kernel⟩
def spRatio : Sp := fun vs H Q _ => ∃ p : Addr, vs = [.ref p] ∧ BoxAt H p ∧ ∀ t H' x y, Kept p H H' → BoxAt H' p → H' t = some (.tup [.int x, .int y]) → x.natAbs ≤ 120 → (0 < y ∧ y ≤ 40) → Q (.ref t) H'
theorem BoxAt.mono {H H' : Hp} {p : Addr} (h : BoxAt H p) (s : Same H H') : BoxAt H' p := by
  obtain ⟨g, s', n, e, r⟩ := h
  exact ⟨g, s', n, s _ _ e, r⟩
theorem ok_ratio {f : Addr} {fd : FuncData} (F : Fun K "_law_ratio" "_law_ratio" s__law_ratio f fd) (C__law_low : Cl P w K mg base "_law_low" ["top", "bottom"] [] 2 spLow) (C__law_take : Cl P w K mg base "_law_take" ["box", "many"] [] 1 spTake) : FnOk P w K mg base CX0 3 f fd ["box"] spRatio := by
  refine F.ok sc__law_ratio (fun vs H Q E h => ?_) (fun cdv A outer s H vs Q E hr h => ?_)
  · obtain ⟨_, rfl, _⟩ := h
    rfl
  · obtain ⟨p, rfl, hp, q⟩ := h
    refine ⟨_, (pss_one (ps_ret (pe_use C__law_low (hr.mono (by decide)) rfl (pa_cons (pe_op op_sub (pe_use C__law_take (hr.mono (by decide)) rfl (pa_cons (pv 0) (pa_cons (pe_int) pa_nil))) (pe_int)) (pa_cons (pe_op op_add (pe_int) (pe_use C__law_take (hr.mono (by decide)) rfl (pa_cons (pv 0) (pa_cons (pe_int) pa_nil)))) pa_nil))))), ?_⟩
    refine ⟨_, rfl, p, _, rfl, ⟨by decide, by decide⟩, hp, fun d H1 d0 d1 k1 b1 => ?_⟩
    refine ⟨_, _, rfl, rfl, _, rfl, p, _, rfl, ⟨by decide, by decide⟩, b1, fun e H2 e0 e1 k2 b2 => ?_⟩
    refine ⟨_, _, rfl, rfl, _, _, rfl, ⟨by omega, by omega⟩, ⟨by omega, by omega⟩, fun t H3 x y s3 e3 hx hy => ?_⟩
    exact q t H3 x y (k1.trans (k2.trans (Hb.Same.kept s3))) (b2.mono s3) e3 (by omega) (by omega)
abbrev s__law_first : Stmt := top 14
theorem sc__law_first : FnScope ["bottom", "under"] ["bottom", "under"] (defScope s__law_first) := ⟨rfl, rfl, rfl, by decide +kernel, rfl, by decide +kernel, by decide +kernel⟩
def spFirst : Sp := fun vs H Q _ => ∃ (n a b : Int) (v : V), vs = [.int n, v] ∧ IsR H v (a, b) ∧ (-(2 ^ 60) < a ∧ a < 2 ^ 60) ∧ (0 < b ∧ b < 2 ^ 60) ∧ Q (.int (a * n / b + 1)) H
theorem ok_first {f : Addr} {fd : FuncData} (F : Fun K "_law_first" "_law_first" s__law_first f fd) : FnOk P w K mg base CX0 1 f fd ["bottom", "under"] spFirst := by
  refine F.ok sc__law_first (fun vs H Q E h => ?_) (fun cdv A outer s H vs Q E hr h => ?_)
  · obtain ⟨_, _, _, _, rfl, _⟩ := h
    rfl
  · obtain ⟨n, a, b, _, rfl, ⟨t, rfl, ht⟩, ha, hb, q⟩ := h
    replace ht : H t = some (.tup [.int a, .int b]) := ht
    refine ⟨_, (pss_one (ps_ret (pe_op op_add (pe_op op_fdivW (pe_op op_mul (pe_ix ix_tup (pv 1) (pe_int) (fun _ _ => rfl)) (pv 0)) (pe_ix ix_tup (pv 1) (pe_int) (fun _ _ => rfl))) (pe_int)))), ?_⟩
    walk_at "rd"
    exact q
abbrev s__law_last : Stmt := top 15
theorem sc__law_last : FnScope ["bottom", "over"] ["bottom", "over"] (defScope s__law_last) := ⟨rfl, rfl, rfl, by decide +kernel, rfl, by decide +kernel, by decide +kernel⟩
def spLast : Sp := fun vs H Q _ => ∃ (n a b : Int) (v : V), vs = [.int n, v] ∧ IsR H v (a, b) ∧ (-(2 ^ 60) < a ∧ a < 2 ^ 60) ∧ (0 < b ∧ b < 2 ^ 60) ∧ Q (.int ((a * n - 1) / b)) H
theorem ok_last {f : Addr} {fd : FuncData} (F : Fun K "_law_last" "_law_last" s__law_last f fd) : FnOk P w K mg base CX0 1 f fd ["bottom", "over"] spLast := by
  refine F.ok sc__law_last (fun vs H Q E h => ?_) (fun cdv A outer s H vs Q E hr h => ?_)
  · obtain ⟨_, _, _, _, rfl, _⟩ := h
    rfl
  · obtain ⟨n, a, b, _, rfl, ⟨t, rfl, ht⟩, ha, hb, q⟩ := h
    replace ht : H t = some (.tup [.int a, .int b]) := ht
    refine ⟨_, (pss_one (ps_ret (pe_op op_fdivW (pe_op op_sub (pe_op op_mul (pe_ix ix_tup (pv 1) (pe_int) (fun _ _ => rfl)) (pv 0)) (pe_int)) (pe_ix ix_tup (pv 1) (pe_int) (fun _ _ => rfl))))), ?_⟩
    walk_at "rd"
    exact q
end
end Kb

namespace Kb
open PySem PySem.Spec PyProof.Rows L2 Hb
/-! ### the mathematics of _law_due -/
def fO (lo : Option (Int × Int)) (n : Int) : Option Int := lo.map fun o => o.1 * n / o.2 + 1
def lO (hi : Option (Int × Int)) (n : Int) : Option Int := hi.map fun o => (o.1 * n - 1) / o.2
theorem bt_iff {lo hi : Option (Int × Int)} (pl : Pos lo) (ph : Pos hi) (n p : Int) : Bt lo hi p n ↔ (∀ f, fO lo n = some f → f ≤ p) ∧ (∀ l, lO hi n = some l → p ≤ l) := by
  constructor
  · intro h
    refine ⟨fun f e => ?_, fun l e => ?_⟩
    · cases lo with
      | none => cases e
      | some o =>
        cases e
        have h1 := h.1 o.1 o.2 rfl
        have := (Int.ediv_lt_iff_lt_mul (pl o.1 o.2 rfl)).mpr h1
        show o.1 * n / o.2 + 1 ≤ p
        omega
    · cases hi with
      | none => cases e
      | some o =>
        cases e
        have h1 := h.2 o.1 o.2 rfl
        exact (Int.le_ediv_iff_mul_le (ph o.1 o.2 rfl)).mpr (by omega)
  · intro h
    refine ⟨fun a b e => ?_, fun c d e => ?_⟩
    · subst e
      have h1 := h.1 _ rfl
      refine (Int.ediv_lt_iff_lt_mul (pl a b rfl)).mp ?_
      have : a * n / b + 1 ≤ p := h1
      omega
    · subst e
      have h1 := h.2 _ rfl
      have := (Int.le_ediv_iff_mul_le (ph c d rfl)).mp (show p ≤ (c * n - 1) / d from h1)
      omega
def anyQ : Option Int → Option Int → Bool
  | some f, some l => decide (f ≤ l)
  | _, _ => true
def leQ : Option Int → Bool
  | none => true
  | some f => decide (f ≤ 0)
def geQ : Option Int → Bool
  | none => true
  | some l => decide (0 ≤ l)
def inQ (x y : Option Int) : Bool := leQ x && geQ y
def gtQ : Option Int → Bool
  | none => false
  | some f => decide (0 < f)
/-- what the turn at n hands back -/
def res (lo hi : Option (Int × Int)) (n : Int) : Option (Int × Int) :=
  if inQ (fO lo n) (lO hi n) = true then some (0, 1) else if gtQ (fO lo n) = true then (fO lo n).map (·, n) else (lO hi n).map (·, n)
theorem no_bt {lo hi : Option (Int × Int)} (pl : Pos lo) (ph : Pos hi) {n : Int} (h : anyQ (fO lo n) (lO hi n) = false) (p : Int) : ¬ Bt lo hi p n := by
  intro hb
  obtain ⟨h1, h2⟩ := (bt_iff pl ph n p).mp hb
  cases ef : fO lo n with
  | none => rw [ef] at h; cases h
  | some f =>
    cases el : lO hi n with
    | none => rw [ef, el] at h; cases h
    | some l =>
      rw [ef, el] at h
      have : ¬ f ≤ l := of_decide_eq_false h
      have a1 := h1 f ef
      have a2 := h2 l el
      omega
theorem res_best {lo hi : Option (Int × Int)} (pl : Pos lo) (ph : Pos hi) {n : Int} (hn : 0 < n) (hno : ∀ q, 0 < q → q < n → ∀ p, ¬ Bt lo hi p q) (h : anyQ (fO lo n) (lO hi n) = true) : Best lo hi (res lo hi n) ∧ ∃ x, res lo hi n = some x := by
  have iff := fun p => bt_iff pl ph n p
  have low : ∀ {p q}, 0 < q → Bt lo hi p q → n ≤ q := fun {p q} hq hb => by
    rcases Int.lt_or_le q n with z | z
    · exact absurd hb (hno q hq z p)
    · exact z
  unfold res
  by_cases hin : inQ (fO lo n) (lO hi n) = true
  · rw [if_pos hin]
    refine ⟨best_nought ?_, _, rfl⟩
    unfold inQ at hin
    rw [Bool.and_eq_true] at hin
    have hb : Bt lo hi 0 n := (iff 0).mpr ⟨fun f e => by
      rw [e] at hin
      exact of_decide_eq_true hin.1, fun l e => by
      rw [e] at hin
      exact of_decide_eq_true hin.2⟩
    refine ⟨fun a b e => ?_, fun c d e => ?_⟩
    · have := hb.1 a b e
      have z : a * n < 0 * n := by omega
      have := lt_of_mul z hn
      omega
    · have := hb.2 c d e
      have z : 0 * n < c * n := by omega
      have := lt_of_mul z hn
      omega
  · rw [if_neg hin]
    by_cases hg : gtQ (fO lo n) = true
    · rw [if_pos hg]
      cases ef : fO lo n with
      | none => rw [ef] at hg; cases hg
      | some f =>
        rw [ef] at hg
        have f0 : 0 < f := of_decide_eq_true hg
        refine ⟨⟨hn, (iff f).mpr ⟨fun f' e => ?_, fun l e => ?_⟩, fun p q hq hb => ⟨low hq hb, fun e => ?_⟩⟩, _, rfl⟩
        · rw [ef] at e
          cases e
          exact Int.le_refl _
        · rw [ef, e] at h
          exact of_decide_eq_true h
        · subst e
          have := ((iff p).mp hb).1 f ef
          omega
    · rw [if_neg hg]
      -- so the last one is below 0
      have hneg : ∃ l, lO hi n = some l ∧ l < 0 := by
        cases el : lO hi n with
        | none =>
          exfalso
          apply hin
          unfold inQ
          rw [el]
          cases ef : fO lo n with
          | none => rfl
          | some f =>
            rw [ef] at hg
            have f0 : ¬ 0 < f := fun z => hg (decide_eq_true z)
            show (decide (f ≤ 0) && true) = true
            rw [decide_eq_true (show f ≤ 0 by omega)]
            rfl
        | some l =>
          refine ⟨l, rfl, ?_⟩
          rcases Int.lt_or_le l 0 with z | z
          · exact z
          · exfalso
            apply hin
            unfold inQ
            rw [el]
            cases ef : fO lo n with
            | none =>
              show (true && decide (0 ≤ l)) = true
              rw [decide_eq_true z]
              rfl
            | some f =>
              rw [ef] at hg
              have f0 : ¬ 0 < f := fun z => hg (decide_eq_true z)
              show (decide (f ≤ 0) && decide (0 ≤ l)) = true
              rw [decide_eq_true (show f ≤ 0 by omega), decide_eq_true z]
              rfl
      obtain ⟨l, el, l0⟩ := hneg
      rw [el]
      refine ⟨⟨hn, (iff l).mpr ⟨fun f e => ?_, fun l' e => ?_⟩, fun p q hq hb => ⟨low hq hb, fun e => ?_⟩⟩, _, rfl⟩
      · rw [e, el] at h
        exact of_decide_eq_true h
      · rw [el] at e
        cases e
        exact Int.le_refl _
      · subst e
        have := ((iff p).mp hb).2 l el
        omega
theorem any_one {lo hi : Option (Int × Int)} {n : Int} (h : lo = none ∨ hi = none) : anyQ (fO lo n) (lO hi n) = true := by
  rcases h with rfl | rfl
  · rfl
  · cases lo <;> rfl
theorem med_bt {a b c d : Int} (h : a * d < c * b) : Bt (some (a, b)) (some (c, d)) (a + c) (b + d) := by
  refine ⟨fun a' b' e => ?_, fun c' d' e => ?_⟩
  · cases e
    have x1 : a * (b + d) = a * b + a * d := by grind
    have x2 : (a + c) * b = a * b + c * b := by grind
    omega
  · cases e
    have x1 : c * (b + d) = c * b + c * d := by grind
    have x2 : (a + c) * d = a * d + c * d := by grind
    omega
section
variable {P : Program} {w : World} {K : PySem.W.Frag} {mg : Str → Option Value} {base : Heap}
def vO : Option Int → V
  | none => .non
  | some i => .int i
theorem t_any {i j : Nat} {σ : L2.St} {H : Hp} {x y : Option Int} {Q : Bool → Hp → Prop} (hx : σ[i]? = some (some (vO x))) (hy : σ[j]? = some (some (vO y))) (q : Q (anyQ x y) H) :
    tOr (tTest (tOp rIsN (tVar i) (tC .non))) (tOr (tTest (tOp rIsN (tVar j) (tC .non))) (tTest (tOp (rI0 fun i j => .bl (decide (i ≤ j))) (tVar i) (tVar j)))) σ H Q := by
  refine ⟨_, hx, rfl, _, rfl, ?_⟩
  cases x with
  | none => exact iteD (fun _ => q) (fun c => absurd rfl c)
  | some f =>
    refine iteD (fun c => by cases c) (fun _ => ?_)
    refine ⟨_, hy, rfl, _, rfl, ?_⟩
    cases y with
    | none => exact iteD (fun _ => q) (fun c => absurd rfl c)
    | some l =>
      refine iteD (fun c => by cases c) (fun _ => ?_)
      exact ⟨_, hx, _, hy, _, _, rfl, rfl, _, rfl, q⟩
theorem t_in {i j : Nat} {σ : L2.St} {H : Hp} {x y : Option Int} {Q : Bool → Hp → Prop} (hx : σ[i]? = some (some (vO x))) (hy : σ[j]? = some (some (vO y))) (q : Q (inQ x y) H) :
    tAnd (tOr (tTest (tOp rIsN (tVar i) (tC .non))) (tTest (tOp (rI0 fun i j => .bl (decide (i ≤ j))) (tVar i) (tC (.int 0))))) (tOr (tTest (tOp rIsN (tVar j) (tC .non))) (tTest (tOp (rI0 fun i j => .bl (decide (j ≤ i))) (tVar j) (tC (.int 0))))) σ H Q := by
  have snd : Q (geQ y) H → tOr (tTest (tOp rIsN (tVar j) (tC .non))) (tTest (tOp (rI0 fun i j => .bl (decide (j ≤ i))) (tVar j) (tC (.int 0)))) σ H Q := by
    intro q
    refine ⟨_, hy, rfl, _, rfl, ?_⟩
    cases y with
    | none => exact iteD (fun _ => q) (fun c => absurd rfl c)
    | some l =>
      refine iteD (fun c => by cases c) (fun _ => ?_)
      exact ⟨_, hy, _, _, rfl, rfl, _, rfl, q⟩
  refine ⟨_, hx, rfl, _, rfl, ?_⟩
  cases x with
  | none => exact iteD (fun _ => iteT (snd q)) (fun c => absurd rfl c)
  | some f =>
    refine iteD (fun c => by cases c) (fun _ => ?_)
    refine ⟨_, hx, _, _, rfl, rfl, _, rfl, ?_⟩
    cases e : decide (f ≤ 0) with
    | false =>
      refine iteF ?_
      have z : inQ (some f) y = false := by
        unfold inQ
        show (decide (f ≤ 0) && _) = false
        rw [e]
        rfl
      rw [z] at q
      exact q
    | true =>
      refine iteT (snd ?_)
      have z : inQ (some f) y = (geQ y) := by
        unfold inQ
        show (decide (f ≤ 0) && _) = _
        rw [e]
        rfl
      rw [z] at q
      exact q
theorem t_gt {i : Nat} {σ : L2.St} {H : Hp} {x : Option Int} {Q : Bool → Hp → Prop} (hx : σ[i]? = some (some (vO x))) (q : Q (gtQ x) H) :
    tAnd (tTest (tOp rNoN (tVar i) (tC .non))) (tTest (tOp (rI0 fun i j => .bl (decide (j < i))) (tVar i) (tC (.int 0)))) σ H Q := by
  refine ⟨_, hx, rfl, _, rfl, ?_⟩
  cases x with
  | none =>
    refine iteN (fun c => absurd rfl c) (fun _ => ?_)
    exact q
  | some f =>
    refine iteN (fun _ => ?_) (fun c => by cases c)
    exact ⟨_, hx, _, _, rfl, rfl, _, rfl, q⟩
abbrev s__law_due : Stmt := top 16
theorem sc__law_due : FnScope ["under", "over", "most", "bottom", "first", "last"] ["under", "over"] (defScope s__law_due) := ⟨rfl, rfl, rfl, by decide +kernel, rfl, by decide +kernel, by decide +kernel⟩
theorem ok_due {f : Addr} {fd : FuncData} (F : Fun K "_law_due" "_law_due" s__law_due f fd) (C__law_first : Cl P w K mg base "_law_first" ["bottom", "under"] [] 1 spFirst) (C__law_last : Cl P w K mg base "_law_last" ["bottom", "over"] [] 1 spLast) (n_range : mg "range" = none) : FnOk P w K mg base CX0 2 f fd ["under", "over"] spSimplest := by
  refine F.ok sc__law_due (fun vs H Q E h => ?_) (fun cdv A outer s H vs Q E hr h => ?_)
  · obtain ⟨_, _, _, _, rfl, _⟩ := h
    rfl
  · obtain ⟨v, u, lo, hi, rfl, iv, iu, ol, oh, hb, q⟩ := h
    refine ⟨_, (pss_cons (ps_set (i := 2) sc__law_due.nd rfl (Or.inl rfl) (pe_int))
    (Evl.pss_cut (ps_if (PW.pt (pw_and (pt_cmpR (r := rNoN) op_notN (pv 0) (pe_non) (nomark _)) (pw_and1 (pt_cmpR (r := rNoN) op_notN (pv 1) (pe_non) (nomark _))))) (pss_cons (ps_if (pt_cmpR op_ge (pe_op op_mul (pe_ix ix_tup (pv 0) (pe_int) (fun _ _ => rfl)) (pe_ix ix_tup (pv 1) (pe_int) (fun _ _ => rfl))) (pe_op op_mul (pe_ix ix_tup (pv 1) (pe_int) (fun _ _ => rfl)) (pe_ix ix_tup (pv 0) (pe_int) (fun _ _ => rfl))) (nomark _)) (pss_one (ps_ret (pe_non))) pss_nil)
    (pss_one (ps_set (i := 2) sc__law_due.nd rfl (Or.inl rfl) (pe_op op_add (pe_ix ix_tup (pv 0) (pe_int) (fun _ _ => rfl)) (pe_ix ix_tup (pv 1) (pe_int) (fun _ _ => rfl)))))) pss_nil)
    (pss_cons (ps_for PassesOwn.never rfl (pi_range2 (by rfl) n_range (pa_cons (pe_int) (pa_cons (pe_op op_add (pv 2) (pe_int)) pa_nil))) (pg_name (i := 3) sc__law_due.nd rfl (Or.inl rfl))
      (pss_cons (ps_set (i := 4) sc__law_due.nd rfl (Or.inl rfl) (pe_ifExp (pt_cmpR (r := rIsN) op_isN (pv 0) (pe_non) (nomark _)) (pe_non) (pe_use C__law_first (hr.mono (by decide)) rfl (pa_cons (pv 3) (pa_cons (pv 0) pa_nil)))))
    (pss_cons (ps_set (i := 5) sc__law_due.nd rfl (Or.inl rfl) (pe_ifExp (pt_cmpR (r := rIsN) op_isN (pv 1) (pe_non) (nomark _)) (pe_non) (pe_use C__law_last (hr.mono (by decide)) rfl (pa_cons (pv 3) (pa_cons (pv 1) pa_nil)))))
    (pss_one (ps_if (PW.pt (pw_or (pt_cmpR (r := rIsN) op_isN (pv 4) (pe_non) (nomark _)) (pw_or (pt_cmpR (r := rIsN) op_isN (pv 5) (pe_non) (nomark _)) (pw_or1 (pt_cmpR op_le (pv 4) (pv 5) (nomark _)))))) (pss_cons (ps_if (PW.pt (pw_and (PW.pt (pw_or (pt_cmpR (r := rIsN) op_isN (pv 4) (pe_non) (nomark _)) (pw_or1 (pt_cmpR op_le (pv 4) (pe_int) (nomark _))))) (pw_and1 (PW.pt (pw_or (pt_cmpR (r := rIsN) op_isN (pv 5) (pe_non) (nomark _)) (pw_or1 (pt_cmpR op_ge (pv 5) (pe_int) (nomark _)))))))) (pss_one (ps_ret (pe_tup (pa_cons (pe_int) (pa_cons (pe_int) pa_nil))))) pss_nil)
    (pss_one (ps_ret (pe_ifExp (PW.pt (pw_and (pt_cmpR (r := rNoN) op_notN (pv 4) (pe_non) (nomark _)) (pw_and1 (pt_cmpR op_gt (pv 4) (pe_int) (nomark _))))) (pe_tup (pa_cons (pv 4) (pa_cons (pv 3) pa_nil))) (pe_tup (pa_cons (pv 5) (pa_cons (pv 3) pa_nil))))))) pss_nil)))))
    (pss_one (ps_ret (pe_non)))))), ?_⟩
    refine ⟨fun σ H' => ∃ most : Int, σ = [some v, some u, some (.int most), none, none, none] ∧ H' = H ∧ (1 ≤ most ∧ most ≤ 8000000) ∧ ((lo = none ∨ hi = none) ∨ ∃ a b c d, lo = some (a, b) ∧ hi = some (c, d) ∧ a * d < c * b ∧ most = b + d), ?_, ?_⟩
    · refine ⟨_, rfl, rfl, _, rfl, ?_⟩
      cases lo with
      | none =>
        obtain rfl : v = .non := iv
        refine iteN (fun c => absurd rfl c) (fun _ => ?_)
        exact iteF ⟨1, rfl, rfl, by decide, .inl (.inl rfl)⟩
      | some o =>
        obtain ⟨a, b⟩ := o
        obtain ⟨t, rfl, ht⟩ := id iv
        replace ht : H t = some (.tup [.int a, .int b]) := ht
        refine iteN (fun _ => ?_) (fun c => by cases c)
        refine ⟨_, rfl, rfl, _, rfl, ?_⟩
        cases hi with
        | none =>
          obtain rfl : u = .non := iu
          refine iteN (fun c => absurd rfl c) (fun _ => ?_)
          exact ⟨1, rfl, rfl, by decide, .inl (.inr rfl)⟩
        | some o2 =>
          obtain ⟨c, d⟩ := o2
          obtain ⟨t2, rfl, ht2⟩ := id iu
          replace ht2 : H t2 = some (.tup [.int c, .int d]) := ht2
          refine iteN (fun _ => ?_) (fun c => by cases c)
          have o1 := ol a b rfl
          have o2 := oh c d rfl
          have hb2 : b + d ≤ 8000000 := hb
          refine ⟨_, rfl, _, _, _, _, rfl, rfl, SqT.of ht, rfl, _, rfl, _, _, _, _, rfl, rfl, SqT.of ht2, rfl, _, _, rfl, rfl, Or.inl ⟨by omega, by omega⟩, _, rfl, _, _, _, _, rfl, rfl, SqT.of ht2, rfl, _, rfl, _, _, _, _, rfl, rfl, SqT.of ht, rfl, _, _, rfl, rfl, Or.inl ⟨by omega, by omega⟩, _, _, rfl, rfl, _, rfl, ?_⟩
          refine iteD (fun ge => ?_) (fun lt => ?_)
          · exact q H none .non (Same.refl H) rfl ⟨a, b, c, d, rfl, rfl, ge⟩
          · refine ⟨_, rfl, _, _, _, _, rfl, rfl, SqT.of ht, rfl, _, rfl, _, _, _, _, rfl, rfl, SqT.of ht2, rfl, _, _, rfl, rfl, ?_⟩
            exact ⟨b + d, rfl, rfl, ⟨by omega, by omega⟩, .inr ⟨a, b, c, d, rfl, rfl, by omega, rfl⟩⟩
    · rintro σ H' ⟨most, rfl, rfl, hm, hcase⟩
      refine ⟨_, rfl, _, _, rfl, rfl, 1, most + 1, rfl, ⟨by decide, by decide, by omega, by omega⟩, ?_⟩
      refine for_range (lo := 1) (n := (most + 1 - 1).toNat) (fun i σ H2 => ∃ x3 x4 x5 : Option V, σ = [some v, some u, some (.int most), x3, x4, x5] ∧ H2 = H' ∧ ∀ q', 0 < q' → q' < 1 + (i : Int) → ∀ p, ¬ Bt lo hi p q') ⟨_, _, _, rfl, rfl, fun q' h1 h2 => by omega⟩ ?_ ?_
      · rintro i σ H2 hi' ⟨x3, x4, x5, rfl, rfl, hno⟩
        -- first, last
        have n0 : 0 < 1 + (i : Int) := by omega
        generalize hn : 1 + (i : Int) = n at *
        have first : ∀ Q4 : V → Hp → Prop, Q4 (vO (fO lo n)) H2 → tIf (tTest (tOp rIsN (tVar 0) (tC .non))) (tC .non) (tCall spFirst [] E0 (tCons (tVar 3) (tCons (tVar 0) tNil))) [some v, some u, some (.int most), some (.int n), x4, x5] H2 Q4 := by
          intro Q4 q4
          refine ⟨_, rfl, rfl, _, rfl, ?_⟩
          cases lo with
          | none =>
            obtain rfl : v = .non := iv
            exact iteD (fun _ => q4) (fun c => absurd rfl c)
          | some o =>
            obtain ⟨t, rfl, ht⟩ := id iv
            have o1 := ol o.1 o.2 rfl
            refine iteD (fun c => by cases c) (fun _ => ?_)
            exact ⟨_, rfl, _, rfl, n, o.1, o.2, _, rfl, iv, o1.1, o1.2, q4⟩
        have last : ∀ (x4 : Option V) (Q4 : V → Hp → Prop), Q4 (vO (lO hi n)) H2 → tIf (tTest (tOp rIsN (tVar 1) (tC .non))) (tC .non) (tCall spLast [] E0 (tCons (tVar 3) (tCons (tVar 1) tNil))) [some v, some u, some (.int most), some (.int n), x4, x5] H2 Q4 := by
          intro x4 Q4 q4
          refine ⟨_, rfl, rfl, _, rfl, ?_⟩
          cases hi with
          | none =>
            obtain rfl : u = .non := iu
            exact iteD (fun _ => q4) (fun c => absurd rfl c)
          | some o =>
            obtain ⟨t, rfl, ht⟩ := id iu
            have o1 := oh o.1 o.2 rfl
            refine iteD (fun c => by cases c) (fun _ => ?_)
            exact ⟨_, rfl, _, rfl, n, o.1, o.2, _, rfl, iu, o1.1, o1.2, q4⟩
        refine first _ (last _ _ (t_any (x := fO lo n) (y := lO hi n) rfl rfl ?_))
        cases ha : anyQ (fO lo n) (lO hi n) with
        | false =>
          refine iteF ⟨_, _, _, rfl, rfl, fun q' h1 h2 p => ?_⟩
          by_cases e : q' = n
          · rw [e]
            exact no_bt ol.pos oh.pos ha p
          · exact hno q' h1 (by omega) p
        | true =>
          obtain ⟨hB, xx, ex⟩ := res_best ol.pos oh.pos n0 hno ha
          refine iteT (t_in (x := fO lo n) (y := lO hi n) rfl rfl ?_)
          unfold res at hB ex
          cases e1 : inQ (fO lo n) (lO hi n) with
          | true =>
            rw [if_pos e1] at hB
            refine iteT ⟨by show 2 ≤ sizeLine; decide, fun p hp => ?_⟩
            exact q _ (some (0, 1)) _ (same_new hp _) ⟨p, rfl, upd_same⟩ hB
          | false =>
            have e1' : ¬ inQ (fO lo n) (lO hi n) = true := by rw [e1]; decide
            rw [if_neg e1'] at hB ex
            refine iteF (t_gt (x := fO lo n) rfl ?_)
            cases e2 : gtQ (fO lo n) with
            | true =>
              rw [if_pos e2] at hB ex
              cases ef : fO lo n with
              | none => rw [ef] at ex; cases ex
              | some f =>
                rw [ef] at hB
                refine iteT ⟨_, rfl, _, rfl, by show 2 ≤ sizeLine; decide, fun p hp => ?_⟩
                refine q _ (some (f, n)) _ (same_new hp _) ⟨p, rfl, ?_⟩ hB
                rw [upd_same]
                rfl
            | false =>
              have e2' : ¬ gtQ (fO lo n) = true := by rw [e2]; decide
              rw [if_neg e2'] at hB ex
              cases el : lO hi n with
              | none => rw [el] at ex; cases ex
              | some l =>
                rw [el] at hB
                refine iteF ⟨_, rfl, _, rfl, by show 2 ≤ sizeLine; decide, fun p hp => ?_⟩
                refine q _ (some (l, n)) _ (same_new hp _) ⟨p, rfl, ?_⟩ hB
                rw [upd_same]
                rfl
      · rintro σ H2 ⟨x3, x4, x5, rfl, rfl, hno⟩
        exfalso
        rcases hcase with h | ⟨a, b, c, d, rfl, rfl, hlt, rfl⟩
        · have ha : anyQ (fO lo 1) (lO hi 1) = true := any_one h
          obtain ⟨hB, ⟨t, b⟩, ex⟩ := res_best (n := 1) ol.pos oh.pos (by decide) (fun q' h1 h2 => by omega) ha
          have : ∃ p, Bt lo hi p 1 := by
            rcases h with rfl | rfl
            · cases hi with
              | none => exact ⟨0, ⟨(fun _ _ e => by cases e), (fun _ _ e => by cases e)⟩⟩
              | some o => exact ⟨_, (bt_iff ol.pos oh.pos 1 _).mpr ⟨fun f e => (by cases e), fun l e => Int.le_of_eq (Option.some.inj e)⟩⟩
            · cases lo with
              | none => exact ⟨0, ⟨(fun _ _ e => by cases e), (fun _ _ e => by cases e)⟩⟩
              | some o => exact ⟨_, (bt_iff ol.pos oh.pos 1 _).mpr ⟨fun f e => Int.le_of_eq (Option.some.inj e).symm, fun l e => (by cases e)⟩⟩
          obtain ⟨p, hp⟩ := this
          exact hno 1 (by decide) (by omega) p hp
        · exact hno (b + d) (by omega) (by omega) (a + c) (med_bt hlt)
end
end Kb

namespace Kb
open PySem PySem.Spec PyProof.Rows L2 Hb
local macro_rules | `(tactic| walk_at "sd") => `(tactic| (first
  | decide
  | exact ⟨by decide, by decide⟩
  | exact Or.inl ⟨by decide, by decide⟩
  | exact Or.inr ⟨by decide, by decide⟩
  | exact Or.inl ⟨by omega, by omega⟩
  | exact Or.inr ⟨by omega, by omega⟩
  | (show (0 : Int) < _; omega)))
local macro_rules | `(tactic| walk_at "sq") => `(tactic| (first | exact SqT.of (by assumption) | exact SqL.of (by assumption) | exact SqL.of upd_same | assumption))
local macro_rules | `(tactic| walk_at "rd") => `(tactic| repeat (first
  | refine ⟨_, rfl, ?_⟩
  | refine ⟨_, _, rfl, rfl, (by walk_at "sd"), ?_⟩
  | refine ⟨_, _, rfl, rfl, ?_⟩
  | refine ⟨_, _, _, _, rfl, rfl, (by walk_at "sq"), rfl, ?_⟩
  | refine ⟨_, _, rfl, ?_⟩
  | refine ⟨rfl, ?_⟩))
section
variable {P : Program} {w : World} {K : PySem.W.Frag} {mg : Str → Option Value} {base : Heap}
theorem IsR.kept {p : Addr} {H H' : Hp} {v : V} {o : Int × Int} (k : Kept p H H') (hp : BoxAt H p) (h : IsR H v o) : IsR H' v o := by
  obtain ⟨g, s, n, e, _⟩ := hp
  obtain ⟨t, e2, h⟩ := h
  exact ⟨t, e2, k.tup e h⟩
theorem IsO.kept {p : Addr} {H H' : Hp} {v : V} {o : Option (Int × Int)} (k : Kept p H H') (hp : BoxAt H p) (h : IsO H v o) : IsO H' v o := by
  cases o with
  | none => exact h
  | some o => exact IsR.kept k hp h
theorem BoxAt.kept {p r : Addr} {H H' : Hp} (k : Kept p H H') (ne : r ≠ p) (h : BoxAt H r) : BoxAt H' r := by
  obtain ⟨g, s', n, e, q⟩ := h
  exact ⟨g, s', n, k _ _ e ne, q⟩
/-! ### _law_steps -/
def fb : Nat → Int × Int
  | 0 => (1, 2)
  | n + 1 => ((fb n).2, (fb n).1 + (fb n).2)
theorem fb_le (i : Nat) (h : i ≤ 30) : (fb i).2 ≤ 4000000 := by
  have : ∀ j : _root_.Fin 31, (fb j.val).2 ≤ 4000000 := by decide
  exact this ⟨i, by omega⟩
structure Nr (i : Nat) (a b c d : Int) : Prop where
  b0 : 0 < b
  d0 : 0 < d
  one : c * b - a * d = 1
  b1 : b ≤ (fb i).1
  d1 : d ≤ (fb i).1
  s1 : b + d ≤ (fb i).2
  al : -6 * b ≤ a ∧ a ≤ 7 * b
  cl : -6 * d ≤ c ∧ c ≤ 7 * d
theorem Nr.under {i : Nat} {a b c d : Int} (h : Nr i a b c d) : Nr (i + 1) (a + c) (b + d) c d := by
  have ⟨b0, d0, one, b1, d1, s1, al, cl⟩ := h
  refine ⟨by omega, d0, ?_, s1, ?_, ?_, by omega, cl⟩
  · have x1 : c * (b + d) = c * b + c * d := by grind
    have x2 : (a + c) * d = a * d + c * d := by grind
    omega
  · show d ≤ (fb i).2; omega
  · show b + d + d ≤ (fb i).1 + (fb i).2; omega
theorem Nr.over {i : Nat} {a b c d : Int} (h : Nr i a b c d) : Nr (i + 1) a b (a + c) (b + d) := by
  have ⟨b0, d0, one, b1, d1, s1, al, cl⟩ := h
  refine ⟨b0, by omega, ?_, ?_, s1, ?_, al, by omega⟩
  · have x1 : (a + c) * b = a * b + c * b := by grind
    have x2 : a * (b + d) = a * b + a * d := by grind
    omega
  · show b ≤ (fb i).2; omega
  · show b + (b + d) ≤ (fb i).1 + (fb i).2; omega
abbrev s__law_steps : Stmt := top 17
theorem sc__law_steps : FnScope ["box", "whole", "under", "over", "turn", "middle"] ["box"] (defScope s__law_steps) := ⟨rfl, rfl, rfl, by decide +kernel, rfl, by decide +kernel, by decide +kernel⟩
def spSteps : Sp := fun vs H Q _ => ∃ p : Addr, vs = [.ref p] ∧ BoxAt H p ∧ ∀ r H' v u m a b c d, Kept p H H' → BoxAt H' p → H' r = some (.tup [v, u, m]) → IsR H' v (a, b) → IsR H' u (c, d) → IsR H' m (a + c, b + d) → (∃ i, i ≤ 30 ∧ Nr i a b c d) → Q (.ref r) H'
theorem ok_steps {f : Addr} {fd : FuncData} (F : Fun K "_law_steps" "_law_steps" s__law_steps f fd) (C__law_take : Cl P w K mg base "_law_take" ["box", "many"] [] 1 spTake) (n_range : mg "range" = none) : FnOk P w K mg base CX0 2 f fd ["box"] spSteps := by
  refine F.ok sc__law_steps (fun vs H Q E h => ?_) (fun cdv A outer s H vs Q E hr h => ?_)
  · obtain ⟨_, rfl, _⟩ := h
    rfl
  · obtain ⟨p, rfl, hp, q⟩ := h
    refine ⟨_, (pss_cons (ps_set (i := 1) sc__law_steps.nd rfl (Or.inl rfl) (pe_op op_sub (pe_use C__law_take (hr.mono (by decide)) rfl (pa_cons (pv 0) (pa_cons (pe_int) pa_nil))) (pe_int)))
    (pss_cons (ps_par (i := 2) (j := 3) (by rfl) sc__law_steps.nd rfl rfl (by decide) rfl rfl (pa_cons (pe_tup (pa_cons (pv 1) (pa_cons (pe_int) pa_nil))) (pa_cons (pe_tup (pa_cons (pe_op op_add (pv 1) (pe_int)) (pa_cons (pe_int) pa_nil))) pa_nil)) (by rfl))
    (pss_cons (ps_for PassesOwn.never rfl (pi_range1 (by rfl) n_range (pa_cons (pe_use C__law_take (hr.mono (by decide)) rfl (pa_cons (pv 0) (pa_cons (pe_int) pa_nil))) pa_nil)) (pg_name (i := 4) sc__law_steps.nd rfl (Or.inl rfl))
      (pss_cons (ps_set (i := 5) sc__law_steps.nd rfl (Or.inl rfl) (pe_tup (pa_cons (pe_op op_add (pe_ix ix_tup (pv 2) (pe_int) (fun _ _ => rfl)) (pe_ix ix_tup (pv 3) (pe_int) (fun _ _ => rfl))) (pa_cons (pe_op op_add (pe_ix ix_tup (pv 2) (pe_int) (fun _ _ => rfl)) (pe_ix ix_tup (pv 3) (pe_int) (fun _ _ => rfl))) pa_nil))))
    (pss_one (ps_if (pt_cmpR op_eq (pe_use C__law_take (hr.mono (by decide)) rfl (pa_cons (pv 0) (pa_cons (pe_int) pa_nil))) (pe_int) (nomark _)) (pss_one (ps_set (i := 2) sc__law_steps.nd rfl (Or.inl rfl) (pv 5))) (pss_one (ps_set (i := 3) sc__law_steps.nd rfl (Or.inl rfl) (pv 5)))))))
    (pss_one (ps_ret (pe_tup (pa_cons (pv 2) (pa_cons (pv 3) (pa_cons (pe_tup (pa_cons (pe_op op_add (pe_ix ix_tup (pv 2) (pe_int) (fun _ _ => rfl)) (pe_ix ix_tup (pv 3) (pe_int) (fun _ _ => rfl))) (pa_cons (pe_op op_add (pe_ix ix_tup (pv 2) (pe_int) (fun _ _ => rfl)) (pe_ix ix_tup (pv 3) (pe_int) (fun _ _ => rfl))) pa_nil))) pa_nil))))))))), ?_⟩
    refine ⟨_, rfl, p, _, rfl, ⟨by decide, by decide⟩, hp, fun d0 H1 l0 l1 k1 b1 => ?_⟩
    walk_at "rd"
    refine ⟨by show 2 ≤ sizeLine; decide, fun t1 ht1 => ?_⟩
    have s2 := same_new ht1 (.tup [.int (d0 - 6), .int 1])
    have e2 : (upd H1 t1 (.tup [.int (d0 - 6), .int 1])) t1 = some (.tup [.int (d0 - 6), .int 1]) := upd_same
    generalize upd H1 t1 (.tup [.int (d0 - 6), .int 1]) = H2 at s2 e2 ⊢
    walk_at "rd"
    refine ⟨by show 2 ≤ sizeLine; decide, fun t2 ht2 => ?_⟩
    have s3 := same_new ht2 (.tup [.int (d0 - 6 + 1), .int 1])
    have e3 : (upd H2 t2 (.tup [.int (d0 - 6 + 1), .int 1])) t2 = some (.tup [.int (d0 - 6 + 1), .int 1]) := upd_same
    generalize upd H2 t2 (.tup [.int (d0 - 6 + 1), .int 1]) = H3 at s3 e3 ⊢
    have b3 : BoxAt H3 p := (b1.mono s2).mono s3
    have k3 : Kept p H H3 := k1.trans ((Hb.Same.kept s2).trans (Hb.Same.kept s3))
    walk_at "rd"
    refine ⟨⟨by decide, by decide⟩, b3, fun n H4 n0 n1 k4 b4 => ?_⟩
    refine ⟨_, rfl, by omega, by omega, ?_⟩
    refine for_range (lo := 0) (n := n.toNat) (fun i σ H' => ∃ (v u : V) (x4 x5 : Option V) (a b c d : Int), σ = [some (.ref p), some (.int (d0 - 6)), some v, some u, x4, x5] ∧ Kept p H H' ∧ BoxAt H' p ∧ IsR H' v (a, b) ∧ IsR H' u (c, d) ∧ Nr i a b c d)
      ⟨.ref t1, .ref t2, _, _, d0 - 6, 1, d0 - 6 + 1, 1, rfl, k3.trans k4, b4, IsR.kept k4 b3 ⟨t1, rfl, s3 _ _ e2⟩, IsR.kept k4 b3 ⟨t2, rfl, e3⟩, ⟨by decide, by decide, by omega, by decide, by decide, by decide, by omega, by omega⟩⟩ ?_ ?_
    · rintro i σ H' hi ⟨v, u, x4, x5, a, b, c, d, rfl, k, bx, ⟨tv, rfl, hv⟩, ⟨tu, rfl, hu⟩, N⟩
      replace hv : H' tv = some (.tup [.int a, .int b]) := hv
      replace hu : H' tu = some (.tup [.int c, .int d]) := hu
      walk_at "rd"
      refine ⟨by show 2 ≤ sizeLine; decide, fun t5 ht5 => ?_⟩
      have s5 := same_new ht5 (.tup [.int (a + c), .int (b + d)])
      have e5 : (upd H' t5 (.tup [.int (a + c), .int (b + d)])) t5 = some (.tup [.int (a + c), .int (b + d)]) := upd_same
      generalize upd H' t5 (.tup [.int (a + c), .int (b + d)]) = H5 at s5 e5 ⊢
      have b5 := bx.mono s5
      refine ⟨_, rfl, p, _, rfl, ⟨by decide, by decide⟩, b5, fun n H6 n0 n1 k6 b6 => ?_⟩
      have kk : Kept p H H6 := k.trans ((Hb.Same.kept s5).trans k6)
      have i1 : IsR H6 (.ref tv) (a, b) := IsR.kept k6 b5 ⟨tv, rfl, s5 _ _ hv⟩
      have i2 : IsR H6 (.ref tu) (c, d) := IsR.kept k6 b5 ⟨tu, rfl, s5 _ _ hu⟩
      have i3 : IsR H6 (.ref t5) (a + c, b + d) := IsR.kept k6 b5 ⟨t5, rfl, e5⟩
      walk_at "rd"
      refine iteD (fun _ => ?_) (fun _ => ?_)
      · walk_at "rd"
        exact ⟨.ref t5, .ref tu, _, _, a + c, b + d, c, d, rfl, kk, b6, i3, i2, N.under⟩
      · walk_at "rd"
        exact ⟨.ref tv, .ref t5, _, _, a, b, a + c, b + d, rfl, kk, b6, i1, i3, N.over⟩
    · rintro σ H' ⟨v, u, x4, x5, a, b, c, d, rfl, k, bx, ⟨tv, rfl, hv⟩, ⟨tu, rfl, hu⟩, N⟩
      replace hv : H' tv = some (.tup [.int a, .int b]) := hv
      replace hu : H' tu = some (.tup [.int c, .int d]) := hu
      walk_at "rd"
      refine ⟨by show 2 ≤ sizeLine; decide, fun t5 ht5 => ?_⟩
      have s5 := same_new ht5 (.tup [.int (a + c), .int (b + d)])
      have e5 : (upd H' t5 (.tup [.int (a + c), .int (b + d)])) t5 = some (.tup [.int (a + c), .int (b + d)]) := upd_same
      generalize upd H' t5 (.tup [.int (a + c), .int (b + d)]) = H5 at s5 e5 ⊢
      refine ⟨by show 3 ≤ sizeLine; decide, fun r hr' => ?_⟩
      have s6 := same_new hr' (.tup [.ref tv, .ref tu, .ref t5])
      exact q r _ (.ref tv) (.ref tu) (.ref t5) a b c d (k.trans ((Hb.Same.kept s5).trans (Hb.Same.kept s6))) ((bx.mono s5).mono s6) upd_same ⟨tv, rfl, s6 _ _ (s5 _ _ hv)⟩ ⟨tu, rfl, s6 _ _ (s5 _ _ hu)⟩ ⟨t5, rfl, s6 _ _ e5⟩ ⟨n.toNat, by omega, N⟩
end
end Kb

namespace Kb
open PySem PySem.Spec PyProof.Rows L2 Hb
section
variable {P : Program} {w : World} {K : PySem.W.Frag} {mg : Str → Option Value} {base : Heap}
def dO : Option (Int × Int) → PyData
  | none => .none
  | some o => .tuple [.int o.1, .int o.2]
theorem dO_dp {H : Hp} {v : V} {o : Option (Int × Int)} (h : IsO H v o) : Dp K H v (dO o) := by
  cases o with
  | none =>
    obtain rfl : v = .non := h
    exact .non
  | some o =>
    obtain ⟨t, rfl, e⟩ := h
    exact .tup (SqT.of e) (.cons (.int _) (.cons (.int _) .nil))
theorem dO_sh (o : Option (Int × Int)) : SeqAt.shaped (dO o) = true := by cases o <;> rfl
theorem dO_rf (o : Option (Int × Int)) : PyData.eqv (dO o) (dO o) = true := SeqAt.eqv_refl _ (by cases o <;> rfl)
theorem ne_same {H : Hp} {v u : V} {o : Option (Int × Int)} {Q : VK} (hv : IsO H v o) (hu : IsO H u o) (q : Q (.bl false) H) : rNeD K v u H Q := by
  refine ⟨dO o, dO o, dO_dp hv, dO_dp hu, dO_sh o, dO_sh o, ?_⟩
  rw [dO_rf]
  exact q
theorem eq_same {H : Hp} {v u : V} {o : Option (Int × Int)} {Q : VK} (hv : IsO H v o) (hu : IsO H u o) (q : Q (.bl true) H) : rEqD K v u H Q := by
  refine ⟨dO o, dO o, dO_dp hv, dO_dp hu, dO_sh o, dO_sh o, ?_⟩
  rw [dO_rf]
  exact q
def Sm (o : Option (Int × Int)) : Prop := ∀ a b, o = some (a, b) → (-1000 ≤ a ∧ a ≤ 1000) ∧ (0 < b ∧ b ≤ 1000)
theorem Sm.okr {o : Option (Int × Int)} (h : Sm o) : Okr o := fun a b e => by have := h a b e; omega
theorem Sm.bot {o : Option (Int × Int)} (h : Sm o) : bot o ≤ 1000 := by
  cases o with
  | none => decide
  | some o => exact (h o.1 o.2 rfl).2.2
def Sn (o : Option (Int × Int)) : Prop := ∀ a b, o = some (a, b) → (-300 ≤ a ∧ a ≤ 300) ∧ (0 < b ∧ b ≤ 300)
theorem Sn.sm {o : Option (Int × Int)} (h : Sn o) : Sm o := fun a b e => by have := h a b e; omega
/-- the law's slots: both boxes, two values -/
def L1 (a p1 p2 : Addr) (σ : L2.St) (H : Hp) (v u : V) (f : Option V) (due : Option V) : Prop := (∃ x3 x8 x9 : Option V, σ = [some (.ref a), some (.ref p1), some (.ref p2), x3, some v, some u, f, due, x8, x9]) ∧ BoxAt H p1 ∧ BoxAt H p2
def L0 (a p1 p2 : Addr) (σ : L2.St) (H : Hp) : Prop := (∃ x3 x4 x5 x6 x7 x8 x9 : Option V, σ = [some (.ref a), some (.ref p1), some (.ref p2), x3, x4, x5, x6, x7, x8, x9]) ∧ BoxAt H p1 ∧ BoxAt H p2
abbrev s_law : Stmt := top 18
theorem sc_law : FnScope ["script", "box", "more", "turn", "one", "other", "form", "due", "under", "over"] ["script"] (defScope s_law) := ⟨rfl, rfl, rfl, by decide +kernel, rfl, by decide +kernel, by decide +kernel⟩
def spLaw (K : PySem.W.Frag) : Sp := fun vs H Q _ => ∃ (a : Addr) (ns : List Int), vs = [.ref a] ∧ SqL K H a (ns.map V.int) ∧ ns.length ≤ 63 ∧ ∀ H', Q (.bl true) H'
def gK {α : Type} (_ _ zs : List α) : List α := match zs with
  | [h, l] => [l, h]
  | zs => zs
theorem Kept.box {p q : Addr} {H H' : Hp} (k : Kept p H H') (ne : q ≠ p) (h : BoxAt H q) : BoxAt H' q := BoxAt.kept k ne h
theorem ok_law {f : Addr} {fd : FuncData} (F : Fun K "law" "law" s_law f fd)
    (C__law_box : Cl P w K mg base "_law_box" ["script", "k"] [] 1 (spBox K)) (C__law_take : Cl P w K mg base "_law_take" ["box", "many"] [] 1 spTake) (C__law_low : Cl P w K mg base "_law_low" ["top", "bottom"] [] 2 spLow) (C__law_ratio : Cl P w K mg base "_law_ratio" ["box"] [] 3 spRatio)
    (C__law_due : Cl P w K mg base "_law_due" ["under", "over"] [] 2 spSimplest) (C__law_steps : Cl P w K mg base "_law_steps" ["box"] [] 2 spSteps) (C_ratio_order : Cl P w K mg base "ratio_order" ["one", "other"] [] 2 spOrder)
    (C_simplest_ratio : Cl P w K mg base "simplest_ratio" ["low", "high"] [] 3 spSimplest) (C_simplest0 : Cl P w K mg base "simplest_ratio" ["low", "high"] [.non, .non] 3 spSimplest)
    (C_simplestK : ClK P w K mg base "simplest_ratio" ["low", "high"] 0 ["high", "low"] (fun vs zs => gK vs [.non, .non] zs) 3 spSimplest) (n_range : mg "range" = none) : FnOk P w K mg base CX0 4 f fd ["script"] (spLaw K) := by
  refine F.ok sc_law (fun vs H Q E h => ?_) (fun cdv A outer s H vs Q E hr h => ?_)
  · obtain ⟨_, _, rfl, _⟩ := h
    rfl
  · obtain ⟨a, ns, rfl, hS, h63, q⟩ := h
    refine ⟨_, (pss_cons (ps_par (i := 1) (j := 2) (by rfl) sc_law.nd rfl rfl (by decide) rfl rfl (pa_cons (pe_use C__law_box (hr.mono (by decide)) rfl (pa_cons (pv 0) (pa_cons (pe_int) pa_nil))) (pa_cons (pe_use C__law_box (hr.mono (by decide)) rfl (pa_cons (pv 0) (pa_cons (pe_int) pa_nil))) pa_nil)) (by rfl))
    (Evl.pss_cut (ps_for PassesOwn.never rfl (pi_range1 (by rfl) n_range (pa_cons (pe_int) pa_nil)) (pg_name (i := 3) sc_law.nd rfl (Or.inl rfl))
      (pss_cons (ps_par (i := 4) (j := 5) (by rfl) sc_law.nd rfl rfl (by decide) rfl rfl (pa_cons (pe_use C__law_ratio (hr.mono (by decide)) rfl (pa_cons (pv 1) pa_nil)) (pa_cons (pe_use C__law_ratio (hr.mono (by decide)) rfl (pa_cons (pv 1) pa_nil)) pa_nil)) (by rfl))
    (pss_cons (ps_set (i := 6) sc_law.nd rfl (Or.inl rfl) (pe_use C__law_take (hr.mono (by decide)) rfl (pa_cons (pv 1) (pa_cons (pe_int) pa_nil))))
    (Evl.pss_cut (ps_if (PW.pt (pw_and (pt_cmpR op_lt (pv 6) (pe_int) (nomark _)) (pw_and1 (pt_cmpR op_gt (pe_op op_mul (pe_ix ix_tup (pv 4) (pe_int) (fun _ _ => rfl)) (pe_ix ix_tup (pv 5) (pe_int) (fun _ _ => rfl))) (pe_op op_mul (pe_ix ix_tup (pv 5) (pe_int) (fun _ _ => rfl)) (pe_ix ix_tup (pv 4) (pe_int) (fun _ _ => rfl))) (nomark _))))) (pss_one (ps_par (i := 4) (j := 5) (by rfl) sc_law.nd rfl rfl (by decide) rfl rfl (pa_cons (pv 5) (pa_cons (pv 4) pa_nil)) (by rfl))) pss_nil)
    (Evl.pss_cut (ps_if (pt_cmpR op_eq (pv 6) (pe_int) (nomark _)) (pss_one (ps_set (i := 5) sc_law.nd rfl (Or.inl rfl) (pe_use C__law_low (hr.mono (by decide)) rfl (pa_cons (pe_op op_add (pe_op op_mul (pe_ix ix_tup (pv 4) (pe_int) (fun _ _ => rfl)) (pe_int)) (pe_int)) (pa_cons (pe_op op_mul (pe_ix ix_tup (pv 4) (pe_int) (fun _ _ => rfl)) (pe_int)) pa_nil))))) pss_nil)
    (Evl.pss_cut (ps_if (pt_cmpR op_eq (pv 6) (pe_int) (nomark _)) (pss_one (ps_set (i := 4) sc_law.nd rfl (Or.inl rfl) (pe_non))) pss_nil)
    (Evl.pss_cut (ps_if (pt_cmpR op_eq (pv 6) (pe_int) (nomark _)) (pss_one (ps_set (i := 5) sc_law.nd rfl (Or.inl rfl) (pe_non))) pss_nil)
    (pss_cons (ps_set (i := 7) sc_law.nd rfl (Or.inl rfl) (pe_use C__law_due (hr.mono (by decide)) rfl (pa_cons (pv 4) (pa_cons (pv 5) pa_nil))))
    (pss_cons (ps_if (pt_cmpR (op_neD hr.units) (pe_use C_simplest_ratio (hr.mono (by decide)) rfl (pa_cons (pv 4) (pa_cons (pv 5) pa_nil))) (pv 7) (nomark _)) (pss_one (ps_ret (pe_bl))) pss_nil)
    (pss_one (ps_if (PW.pt (pw_and (pt_cmpR (r := rIsN) op_isN (pv 7) (pe_non) (nomark _)) (pw_and1 (pt_cmpR op_lt (pe_use C_ratio_order (hr.mono (by decide)) rfl (pa_cons (pv 4) (pa_cons (pv 5) pa_nil))) (pe_int) (nomark _))))) (pss_one (ps_ret (pe_bl))) pss_nil)))))))))))
    (Evl.pss_cut (ps_for PassesOwn.never rfl (pi_range1 (by rfl) n_range (pa_cons (pe_int) pa_nil)) (pg_name (i := 3) sc_law.nd rfl (Or.inl rfl))
      (pss_cons (ps_asg (pe_use C__law_steps (hr.mono (by decide)) rfl (pa_cons (pv 2) pa_nil)) (pg_tup rfl (pgs_cons (pg_name (i := 8) sc_law.nd rfl (Or.inl rfl)) (pgs_cons (pg_name (i := 9) sc_law.nd rfl (Or.inl rfl)) (pgs_cons (pg_name (i := 7) sc_law.nd rfl (Or.inl rfl)) pgs_nil)))))
    (pss_cons (ps_if (PW.pt (pw_or (pt_cmpR (op_neD hr.units) (pe_use C_simplest_ratio (hr.mono (by decide)) rfl (pa_cons (pv 8) (pa_cons (pv 9) pa_nil))) (pv 7) (nomark _)) (pw_or1 (pt_cmpR (op_neD hr.units) (pe_useK0 C_simplestK (hr.mono (by decide)) rfl (pk_cons (pv 9) (pk_cons (pv 8) pk_nil))) (pv 7) (nomark _))))) (pss_one (ps_ret (pe_bl))) pss_nil)
    (pss_cons (ps_if (PW.pt (pw_or (pt_cmpR (r := rNoN) op_notN (pe_use C_simplest_ratio (hr.mono (by decide)) rfl (pa_cons (pv 9) (pa_cons (pv 8) pa_nil))) (pe_non) (nomark _)) (pw_or1 (pt_cmpR (r := rNoN) op_notN (pe_use C_simplest_ratio (hr.mono (by decide)) rfl (pa_cons (pv 8) (pa_cons (pv 8) pa_nil))) (pe_non) (nomark _))))) (pss_one (ps_ret (pe_bl))) pss_nil)
    (pss_one (ps_if (pt_cmpR (op_neD hr.units) (pe_use C_simplest_ratio (hr.mono (by decide)) rfl (pa_cons (pe_tup (pa_cons (pe_op op_sub (pe_int) (pe_ix ix_tup (pv 9) (pe_int) (fun _ _ => rfl))) (pa_cons (pe_ix ix_tup (pv 9) (pe_int) (fun _ _ => rfl)) pa_nil))) (pa_cons (pe_tup (pa_cons (pe_op op_sub (pe_int) (pe_ix ix_tup (pv 8) (pe_int) (fun _ _ => rfl))) (pa_cons (pe_ix ix_tup (pv 8) (pe_int) (fun _ _ => rfl)) pa_nil))) pa_nil))) (pe_tup (pa_cons (pe_op op_sub (pe_int) (pe_ix ix_tup (pv 7) (pe_int) (fun _ _ => rfl))) (pa_cons (pe_ix ix_tup (pv 7) (pe_int) (fun _ _ => rfl)) pa_nil))) (nomark _)) (pss_one (ps_ret (pe_bl))) pss_nil))))))
    (pss_one (ps_ret (pe_cmpR (op_eqD hr.units) (pe_use0 C_simplest0 (hr.mono (by decide)) rfl) (pe_tup (pa_cons (pe_int) (pa_cons (pe_int) pa_nil))) (nomark _))))))), ?_⟩
    refine ⟨_, rfl, a, ns, 0, rfl, ⟨by decide, by decide⟩, hS, h63, fun p1 H1 n1 s1 b1 => ?_⟩
    refine ⟨_, rfl, a, ns, 1, rfl, ⟨by decide, by decide⟩, s1.seq hS, h63, fun p2 H2 n2 s2 b2 => ?_⟩
    have np : p2 ≠ p1 := fun z => by
      obtain ⟨g, s', n, e, _⟩ := b1
      rw [z, e] at n2
      cases n2
    refine ⟨_, _, rfl, ?_⟩
    have b1' := b1.mono s2
    refine ⟨L0 a p1 p2, ?_, ?_⟩
    · -- the first loop
      refine ⟨3, rfl, by decide, by decide, for_range (lo := 0) (n := (3 : Int).toNat) (fun _ => L0 a p1 p2) ⟨⟨_, _, _, _, _, _, _, rfl⟩, b1', b2⟩ ?_ (fun _ _ h => h)⟩
      rintro i σ H3 hi ⟨⟨x3, x4, x5, x6, x7, x8, x9, rfl⟩, c1, c2⟩
      refine ⟨_, rfl, p1, rfl, c1, fun t1 H4 x1 y1 k4 c4 e4 hx1 hy1 => ?_⟩
      refine ⟨_, rfl, p1, rfl, c4, fun t2 H5 x2 y2 k5 c5 e5 hx2 hy2 => ?_⟩
      have e4' : H5 t1 = some (.tup [.int x1, .int y1]) := by
        obtain ⟨_, h, g⟩ := IsR.kept (o := (x1, y1)) k5 c4 ⟨t1, rfl, e4⟩
        cases h
        exact g
      refine ⟨_, _, rfl, _, rfl, p1, 8, rfl, ⟨by decide, by decide⟩, c5, fun fm H6 f0 f1 k6 c6 => ?_⟩
      have i1 : IsR H6 (.ref t1) (x1, y1) := IsR.kept k6 c5 ⟨t1, rfl, e4'⟩
      have i2 : IsR H6 (.ref t2) (x2, y2) := IsR.kept k6 c5 ⟨t2, rfl, e5⟩
      have c6' : BoxAt H6 p2 := Kept.box k6 np (Kept.box k5 np (Kept.box k4 np c2))
      have hs1 : Sn (some (x1, y1)) := fun a b e => by cases e; omega
      have hs2 : Sn (some (x2, y2)) := fun a b e => by cases e; omega
      refine ⟨fun σ H => ∃ v u o1 o2, L1 a p1 p2 σ H v u (some (.int fm)) x7 ∧ IsR H v o1 ∧ IsR H u o2 ∧ Sn (some o1) ∧ Sn (some o2), ?_, ?_⟩
      · have stay : ∃ v u o1 o2, L1 a p1 p2 [some (.ref a), some (.ref p1), some (.ref p2), some (.int (0 + (i : Int))), some (.ref t1), some (.ref t2), some (.int fm), x7, x8, x9] H6 v u (some (.int fm)) x7 ∧ IsR H6 v o1 ∧ IsR H6 u o2 ∧ Sn (some o1) ∧ Sn (some o2) :=
          ⟨.ref t1, .ref t2, _, _, ⟨⟨_, _, _, rfl⟩, c6, c6'⟩, i1, i2, hs1, hs2⟩
        refine ⟨_, rfl, _, _, rfl, rfl, _, rfl, ?_⟩
        refine iteD (fun _ => ?_) (fun _ => stay)
        obtain ⟨_, h1, g1⟩ := id i1
        cases h1
        obtain ⟨_, h2, g2⟩ := id i2
        cases h2
        replace g1 : H6 t1 = some (.tup [.int x1, .int y1]) := g1
        replace g2 : H6 t2 = some (.tup [.int x2, .int y2]) := g2
        have a1 := hs1 x1 y1 rfl
        have a2 := hs2 x2 y2 rfl
        refine ⟨_, rfl, _, _, _, _, rfl, rfl, SqT.of g1, rfl, _, rfl, _, _, _, _, rfl, rfl, SqT.of g2, rfl, _, _, rfl, rfl, Or.inl ⟨by omega, by omega⟩, _, rfl, _, _, _, _, rfl, rfl, SqT.of g2, rfl, _, rfl, _, _, _, _, rfl, rfl, SqT.of g1, rfl, _, _, rfl, rfl, Or.inl ⟨by omega, by omega⟩, _, _, rfl, rfl, _, rfl, ?_⟩
        refine iteD (fun _ => ?_) (fun _ => stay)
        refine ⟨_, rfl, _, rfl, _, _, rfl, ?_⟩
        exact ⟨.ref t2, .ref t1, _, _, ⟨⟨_, _, _, rfl⟩, c6, c6'⟩, i2, i1, hs2, hs1⟩
      · rintro σ H7 ⟨v, u, ⟨x1, y1⟩, ⟨x2, y2⟩, ⟨⟨x3, x8, x9, rfl⟩, d1, d2⟩, j1, j2, hs1, hs2⟩
        refine ⟨fun σ H => ∃ v u o1 o2, L1 a p1 p2 σ H v u (some (.int fm)) x7 ∧ IsR H v o1 ∧ IsR H u o2 ∧ Sm (some o1) ∧ Sm (some o2), ?_, ?_⟩
        · refine ⟨_, rfl, rfl, _, rfl, ?_⟩
          refine iteD (fun _ => ?_) (fun _ => ⟨v, u, _, _, ⟨⟨_, _, _, rfl⟩, d1, d2⟩, j1, j2, hs1.sm, hs2.sm⟩)
          obtain ⟨t1, rfl, g1⟩ := id j1
          replace g1 : H7 t1 = some (.tup [.int x1, .int y1]) := g1
          have a1 := hs1 x1 y1 rfl
          refine ⟨_, rfl, _, _, _, _, rfl, rfl, SqT.of g1, rfl, _, _, rfl, rfl, Or.inl ⟨by omega, by omega⟩, _, _, rfl, rfl, _, rfl, _, _, _, _, rfl, rfl, SqT.of g1, rfl, _, _, rfl, rfl, Or.inl ⟨by omega, by omega⟩, x1 * 3 + 1, y1 * 3, rfl, ⟨by omega, by omega⟩, ⟨by omega, by omega⟩, fun t5 H8 x5 y5 s8 e8 hx hy => ?_⟩
          exact ⟨.ref t1, .ref t5, (x1, y1), (x5, y5), ⟨⟨_, _, _, rfl⟩, d1.mono s8, d2.mono s8⟩, ⟨t1, rfl, s8 _ _ g1⟩, ⟨t5, rfl, e8⟩, hs1.sm, fun a b e => by cases e; omega⟩
        · rintro σ H8 ⟨v, u, o1, o2, ⟨⟨x3, x8, x9, rfl⟩, d1, d2⟩, j1, j2, hs1, hs2⟩
          refine ⟨fun σ H => ∃ v u lo hi, L1 a p1 p2 σ H v u (some (.int fm)) x7 ∧ IsO H v lo ∧ IsO H u hi ∧ Sm lo ∧ Sm hi, ?_, ?_⟩
          · refine ⟨_, rfl, rfl, _, rfl, ?_⟩
            refine iteD (fun _ => ?_) (fun _ => ⟨v, u, some o1, some o2, ⟨⟨_, _, _, rfl⟩, d1, d2⟩, j1, j2, hs1, hs2⟩)
            exact ⟨.non, u, none, some o2, ⟨⟨_, _, _, rfl⟩, d1, d2⟩, rfl, j2, fun _ _ e => (by cases e), hs2⟩
          · rintro σ H9 ⟨v, u, lo, hi, ⟨⟨x3, x8, x9, rfl⟩, d1, d2⟩, j1, j2, hs1, hs2⟩
            refine ⟨fun σ H => ∃ v u lo hi, L1 a p1 p2 σ H v u (some (.int fm)) x7 ∧ IsO H v lo ∧ IsO H u hi ∧ Sm lo ∧ Sm hi, ?_, ?_⟩
            · refine ⟨_, rfl, rfl, _, rfl, ?_⟩
              refine iteD (fun _ => ?_) (fun _ => ⟨v, u, lo, hi, ⟨⟨_, _, _, rfl⟩, d1, d2⟩, j1, j2, hs1, hs2⟩)
              exact ⟨v, .non, lo, none, ⟨⟨_, _, _, rfl⟩, d1, d2⟩, j1, rfl, hs1, fun _ _ e => (by cases e)⟩
            · rintro σ Ha ⟨v, u, lo, hi, ⟨⟨x3, x8, x9, rfl⟩, d1, d2⟩, j1, j2, hs1, hs2⟩
              have hbt : bot lo + bot hi ≤ 8000000 := by have := hs1.bot; have := hs2.bot; omega
              refine ⟨_, rfl, _, rfl, v, u, lo, hi, rfl, j1, j2, hs1.okr, hs2.okr, hbt, fun Hb r vd sb ib hB => ?_⟩
              refine ⟨_, rfl, _, rfl, v, u, lo, hi, rfl, j1.mono sb, j2.mono sb, hs1.okr, hs2.okr, hbt, fun Hc r' vs sc ic hC => ?_⟩
              have er : r' = r := Best.one hs1.okr.pos hs2.okr.pos hC hB
              subst er
              refine ⟨_, rfl, ne_same ic (ib.mono sc) ⟨_, rfl, iteF ?_⟩⟩
              have endL : L0 a p1 p2 [some (.ref a), some (.ref p1), some (.ref p2), x3, some v, some u, some (.int fm), some vd, x8, x9] Hc := ⟨⟨_, _, _, _, _, _, _, rfl⟩, (d1.mono sb).mono sc, (d2.mono sb).mono sc⟩
              refine ⟨_, rfl, rfl, _, rfl, ?_⟩
              cases r' with
              | some o =>
                obtain ⟨t, rfl, _⟩ := id ib
                exact iteD (fun c => by cases c) (fun _ => endL)
              | none =>
                obtain rfl : vd = .non := ib
                obtain ⟨a1, b1, a2, b2, rfl, rfl, le⟩ := hB
                refine iteD (fun _ => ?_) (fun c => absurd rfl c)
                have q1 := hs1 a1 b1 rfl
                have q2 := hs2 a2 b2 rfl
                refine ⟨_, rfl, _, rfl, v, u, a1, b1, a2, b2, rfl, IsR.mono sc (IsR.mono sb j1), IsR.mono sc (IsR.mono sb j2), ⟨by omega, by omega⟩, ⟨by omega, by omega⟩, _, _, rfl, rfl, _, rfl, ?_⟩
                refine iteD (fun lt => ?_) (fun _ => endL)
                exfalso
                by_cases z0 : a1 * b2 - a2 * b1 = 0
                · rw [z0] at lt
                  exact absurd lt (by decide)
                · rw [Int.sign_eq_one_of_pos (by omega)] at lt
                  omega
    · rintro σ H3 ⟨⟨x3, x4, x5, x6, x7, x8, x9, rfl⟩, c1, c2⟩
      refine ⟨fun _ _ => True, ?_, ?_⟩
      · refine ⟨3, rfl, by decide, by decide, for_range (lo := 0) (n := (3 : Int).toNat) (fun _ => L0 a p1 p2) ⟨⟨_, _, _, _, _, _, _, rfl⟩, c1, c2⟩ ?_ (fun _ _ _ => trivial)⟩
        rintro i σ H4 hi ⟨⟨x3, x4, x5, x6, x7, x8, x9, rfl⟩, c1, c2⟩
        refine ⟨_, rfl, p2, rfl, c2, fun r H5 v u m xa xb xc xd k5 k5c er j1 j2 j3 hN => ?_⟩
        have c51 : BoxAt H5 p1 := Kept.box k5 np.symm c1
        obtain ⟨im, him, N⟩ := hN
        have n1 := fb_le im him
        have hb0 := N.b0
        have hd0 := N.d0
        have hs := N.s1
        have hal := N.al
        have hcl := N.cl
        have o1 : Okr (some (xa, xb)) := fun _ _ e => by cases e; omega
        have o2 : Okr (some (xc, xd)) := fun _ _ e => by cases e; omega
        have bt : bot (some (xa, xb)) + bot (some (xc, xd)) ≤ 8000000 := by show xb + xd ≤ 8000000; omega
        have bt' : bot (some (xc, xd)) + bot (some (xa, xb)) ≤ 8000000 := by show xd + xb ≤ 8000000; omega
        have bt2 : bot (some (xa, xb)) + bot (some (xa, xb)) ≤ 8000000 := by show xb + xb ≤ 8000000; omega
        have near : Best (some (xa, xb)) (some (xc, xd)) (some (xa + xc, xb + xd)) := best_near N.b0 N.d0 N.one
        refine ⟨r, _, rfl, SqT.of er, rfl, v, _, rfl, u, _, rfl, m, _, rfl, rfl, ?_⟩
        -- simplest_ratio(under, over) != due or simplest_ratio(high=over, low=under) != due
        refine ⟨_, rfl, _, rfl, v, u, some (xa, xb), some (xc, xd), rfl, j1, j2, o1, o2, bt, fun H6 r6 v6 s6 i6 h6 => ?_⟩
        have e6 := Best.one o1.pos o2.pos h6 near
        subst e6
        refine ⟨_, rfl, ne_same i6 (IsO.mono (o := some _) s6 j3) ⟨_, rfl, iteF ?_⟩⟩
        refine ⟨_, rfl, _, rfl, rfl, rfl, v, u, some (xa, xb), some (xc, xd), rfl, IsO.mono (o := some _) s6 j1, IsO.mono (o := some _) s6 j2, o1, o2, bt, fun H7 r7 v7 s7 i7 h7 => ?_⟩
        have e7 := Best.one o1.pos o2.pos h7 near
        subst e7
        refine ⟨_, rfl, ne_same i7 (IsO.mono (o := some _) (s6.trans s7) j3) ⟨_, rfl, iteF ?_⟩⟩
        -- the other way about, and twice the same: None
        have none1 : Best (some (xc, xd)) (some (xa, xb)) none := ⟨xc, xd, xa, xb, rfl, rfl, by have := N.one; omega⟩
        have none2 : Best (some (xa, xb)) (some (xa, xb)) none := ⟨xa, xb, xa, xb, rfl, rfl, Int.le_refl _⟩
        have s67 := s6.trans s7
        refine ⟨_, rfl, _, rfl, u, v, some (xc, xd), some (xa, xb), rfl, IsO.mono (o := some _) s67 j2, IsO.mono (o := some _) s67 j1, o2, o1, bt', fun H8 r8 v8 s8 i8 h8 => ?_⟩
        have e8 := Best.one o2.pos o1.pos h8 none1
        subst e8
        obtain rfl : v8 = .non := i8
        refine ⟨rfl, _, rfl, ?_⟩
        refine iteN (fun c => absurd rfl c) (fun _ => ?_)
        have s68 := s67.trans s8
        refine ⟨_, rfl, _, rfl, v, v, some (xa, xb), some (xa, xb), rfl, IsO.mono (o := some _) s68 j1, IsO.mono (o := some _) s68 j1, o1, o1, bt2, fun H9 r9 v9 s9 i9 h9 => ?_⟩
        have e9 := Best.one o1.pos o1.pos h9 none2
        subst e9
        obtain rfl : v9 = .non := i9
        refine ⟨rfl, _, rfl, ?_⟩
        refine iteN (fun c => absurd rfl c) (fun _ => ?_)
        have s69 := s68.trans s9
        -- below 0
        obtain ⟨tv, rfl, g1⟩ := IsR.mono s69 j1
        obtain ⟨tu, rfl, g2⟩ := IsR.mono s69 j2
        obtain ⟨tm, rfl, g3⟩ := IsR.mono s69 j3
        replace g1 : H9 tv = some (.tup [.int xa, .int xb]) := g1
        replace g2 : H9 tu = some (.tup [.int xc, .int xd]) := g2
        replace g3 : H9 tm = some (.tup [.int (xa + xc), .int (xb + xd)]) := g3
        refine ⟨_, rfl, _, _, _, _, rfl, rfl, SqT.of g2, rfl, _, _, rfl, rfl, _, rfl, _, _, _, _, rfl, rfl, SqT.of g2, rfl, by show 2 ≤ sizeLine; decide, fun ta hta => ?_⟩
        have sa := same_new hta (.tup [.int (0 - xc), .int xd])
        have ea : (upd H9 ta (.tup [.int (0 - xc), .int xd])) ta = some (.tup [.int (0 - xc), .int xd]) := upd_same
        generalize upd H9 ta (.tup [.int (0 - xc), .int xd]) = Ha at sa ea ⊢
        refine ⟨_, rfl, _, _, _, _, rfl, rfl, SqT.of (sa _ _ g1), rfl, _, _, rfl, rfl, _, rfl, _, _, _, _, rfl, rfl, SqT.of (sa _ _ g1), rfl, by show 2 ≤ sizeLine; decide, fun tb htb => ?_⟩
        have sb := same_new htb (.tup [.int (0 - xa), .int xb])
        have eb : (upd Ha tb (.tup [.int (0 - xa), .int xb])) tb = some (.tup [.int (0 - xa), .int xb]) := upd_same
        generalize upd Ha tb (.tup [.int (0 - xa), .int xb]) = Hb' at sb eb ⊢
        have m1 : Okr (some (0 - xc, xd)) := fun _ _ e => by cases e; omega
        have m2 : Okr (some (0 - xa, xb)) := fun _ _ e => by cases e; omega
        have near2 : Best (some (0 - xc, xd)) (some (0 - xa, xb)) (some (0 - (xa + xc), xb + xd)) := by
          have z := near.less
          have f : ∀ x y : Int, ((some (x, y)).map less : Option (Int × Int)) = some (0 - x, y) := fun x y => by
            show some (-x, y) = some (0 - x, y)
            rw [Int.zero_sub]
          rw [f, f, f] at z
          exact z
        refine ⟨.ref ta, .ref tb, some (0 - xc, xd), some (0 - xa, xb), rfl, ⟨ta, rfl, sb _ _ ea⟩, ⟨tb, rfl, eb⟩, m1, m2, bt', fun Hc rc vc sc ic hc => ?_⟩
        have ec := Best.one m1.pos m2.pos hc near2
        subst ec
        have g3c := sc _ _ (sb _ _ (sa _ _ g3))
        refine ⟨_, rfl, _, _, _, _, rfl, rfl, SqT.of g3c, rfl, _, _, rfl, rfl, _, rfl, _, _, _, _, rfl, rfl, SqT.of g3c, rfl, by show 2 ≤ sizeLine; decide, fun td htd => ?_⟩
        have sd := same_new htd (.tup [.int (0 - (xa + xc)), .int (xb + xd)])
        have ed : (upd Hc td (.tup [.int (0 - (xa + xc)), .int (xb + xd)])) td = some (.tup [.int (0 - (xa + xc)), .int (xb + xd)]) := upd_same
        generalize upd Hc td (.tup [.int (0 - (xa + xc)), .int (xb + xd)]) = Hd at sd ed ⊢
        refine ne_same (o := some (0 - (xa + xc), xb + xd)) (IsO.mono (o := some _) sd ic) ⟨td, rfl, ed⟩ ⟨_, rfl, iteF ?_⟩
        have sAll := s69.trans (sa.trans (sb.trans (sc.trans sd)))
        exact ⟨⟨_, _, _, _, _, _, _, rfl⟩, c51.mono sAll, k5c.mono sAll⟩
      · rintro σ H4 _
        have o0 : Okr none := fun _ _ e => by cases e
        refine ⟨.non, .non, none, none, rfl, rfl, rfl, o0, o0, by decide, fun H5 r5 v5 s5 i5 h5 => ?_⟩
        have e5 := Best.one o0.pos o0.pos h5 (best_nought (lo := none) (hi := none) ⟨fun _ _ e => (by cases e), fun _ _ e => (by cases e)⟩)
        subst e5
        refine ⟨by show 2 ≤ sizeLine; decide, fun tz htz => ?_⟩
        exact eq_same (o := some (0, 1)) (IsO.mono (o := some _) (same_new htz _) i5) ⟨tz, rfl, upd_same⟩ (q _)
end
end Kb

namespace Kb
open PySem PySem.Spec PyProof.Rows L2 Hb
theorem all_mk {l : PySem.W.OpenLaw} {w : World} {K : PySem.W.Frag} {h : Heap} {mg : Str → Option Value} {fa f0 f1 f2 f3 f4 f5 f6 f7 f8 f9 f10 f11 f12 f13 f14 f15 : Addr} (X : K.In h) (G : h.Ns mainGlobals mg) (hfa : mg "law" = some (.ref fa))
    {od0 an0 od1 an1 od2 an2 od3 an3 od4 an4 od5 an5 od6 an6 od7 an7 od8 an8 od9 an9 od10 an10 od11 an11 od12 an12 od13 an13 od14 an14 od15 an15 : Option Addr} {sl0 sl1 sl2 sl3 sl4 sl5 sl6 sl7 sl8 sl9 sl10 sl11 sl12 sl13 sl14 sl15 : Array (Option Value)} {oc0 kV0 dc0 pm0 cd0 ct0 oc1 kV1 dc1 pm1 cd1 ct1 oc2 kV2 dc2 pm2 cd2 ct2 oc3 kV3 dc3 pm3 cd3 ct3 oc4 kV4 dc4 pm4 cd4 ct4 oc5 kV5 dc5 pm5 cd5 ct5 oc6 kV6 dc6 pm6 cd6 ct6 oc7 kV7 dc7 pm7 cd7 ct7 oc8 kV8 dc8 pm8 cd8 ct8 oc9 kV9 dc9 pm9 cd9 ct9 oc10 kV10 dc10 pm10 cd10 ct10 oc11 kV11 dc11 pm11 cd11 ct11 oc12 kV12 dc12 pm12 cd12 ct12 oc13 kV13 dc13 pm13 cd13 ct13 oc14 kV14 dc14 pm14 cd14 ct14 oc15 kV15 dc15 pm15 cd15 ct15 : Value}
    (a0 : PySem.W.nsIn K mainGlobals "sign_of" = some (some (.ref f0))) (l0 : K.lookup f0 = some ⟨oc0, od0, .func (PySem.W.fnOf "sign_of" "sign_of" (defArgs s_sign_of) (defBody s_sign_of) (defScope s_sign_of) .none kV0 dc0 pm0 an0 cd0 ct0), sl0⟩) (c0 : PySem.W.codeIn K cd0 "sign_of" = true) (k0 : PySem.W.keepIn K (.ref f0) = true)
    (a1 : PySem.W.nsIn K mainGlobals "ratio_order" = some (some (.ref f1))) (l1 : K.lookup f1 = some ⟨oc1, od1, .func (PySem.W.fnOf "ratio_order" "ratio_order" (defArgs s_ratio_order) (defBody s_ratio_order) (defScope s_ratio_order) .none kV1 dc1 pm1 an1 cd1 ct1), sl1⟩) (c1 : PySem.W.codeIn K cd1 "ratio_order" = true) (k1 : PySem.W.keepIn K (.ref f1) = true)
    {T2 : Addr} {oT2 : Obj} {nT2 : Nat} (t2 : K.lookup T2 = some oT2) (u2 : oT2.data = .seq ([.none, .none] : List Value).toArray nT2)
    (a2 : PySem.W.nsIn K mainGlobals "simplest_ratio" = some (some (.ref f2))) (l2 : K.lookup f2 = some ⟨oc2, od2, .func (PySem.W.fnOf "simplest_ratio" "simplest_ratio" (defArgs s_simplest_ratio) (defBody s_simplest_ratio) (defScope s_simplest_ratio) (.ref T2) kV2 dc2 pm2 an2 cd2 ct2), sl2⟩) (c2 : PySem.W.codeIn K cd2 "simplest_ratio" = true) (k2 : PySem.W.keepIn K (.ref f2) = true)
    (a3 : PySem.W.nsIn K mainGlobals "less_ratio" = some (some (.ref f3))) (l3 : K.lookup f3 = some ⟨oc3, od3, .func (PySem.W.fnOf "less_ratio" "less_ratio" (defArgs s_less_ratio) (defBody s_less_ratio) (defScope s_less_ratio) .none kV3 dc3 pm3 an3 cd3 ct3), sl3⟩) (c3 : PySem.W.codeIn K cd3 "less_ratio" = true) (k3 : PySem.W.keepIn K (.ref f3) = true)
    (a4 : PySem.W.nsIn K mainGlobals "simplest_above" = some (some (.ref f4))) (l4 : K.lookup f4 = some ⟨oc4, od4, .func (PySem.W.fnOf "simplest_above" "simplest_above" (defArgs s_simplest_above) (defBody s_simplest_above) (defScope s_simplest_above) .none kV4 dc4 pm4 an4 cd4 ct4), sl4⟩) (c4 : PySem.W.codeIn K cd4 "simplest_above" = true) (k4 : PySem.W.keepIn K (.ref f4) = true)
    (a5 : PySem.W.nsIn K mainGlobals "turned_ratio" = some (some (.ref f5))) (l5 : K.lookup f5 = some ⟨oc5, od5, .func (PySem.W.fnOf "turned_ratio" "turned_ratio" (defArgs s_turned_ratio) (defBody s_turned_ratio) (defScope s_turned_ratio) .none kV5 dc5 pm5 an5 cd5 ct5), sl5⟩) (c5 : PySem.W.codeIn K cd5 "turned_ratio" = true) (k5 : PySem.W.keepIn K (.ref f5) = true)
    (a6 : PySem.W.nsIn K mainGlobals "_law_box" = some (some (.ref f6))) (l6 : K.lookup f6 = some ⟨oc6, od6, .func (PySem.W.fnOf "_law_box" "_law_box" (defArgs s__law_box) (defBody s__law_box) (defScope s__law_box) .none kV6 dc6 pm6 an6 cd6 ct6), sl6⟩) (c6 : PySem.W.codeIn K cd6 "_law_box" = true) (k6 : PySem.W.keepIn K (.ref f6) = true)
    (a7 : PySem.W.nsIn K mainGlobals "_law_take" = some (some (.ref f7))) (l7 : K.lookup f7 = some ⟨oc7, od7, .func (PySem.W.fnOf "_law_take" "_law_take" (defArgs s__law_take) (defBody s__law_take) (defScope s__law_take) .none kV7 dc7 pm7 an7 cd7 ct7), sl7⟩) (c7 : PySem.W.codeIn K cd7 "_law_take" = true) (k7 : PySem.W.keepIn K (.ref f7) = true)
    (a8 : PySem.W.nsIn K mainGlobals "_law_divisor" = some (some (.ref f8))) (l8 : K.lookup f8 = some ⟨oc8, od8, .func (PySem.W.fnOf "_law_divisor" "_law_divisor" (defArgs s__law_divisor) (defBody s__law_divisor) (defScope s__law_divisor) .none kV8 dc8 pm8 an8 cd8 ct8), sl8⟩) (c8 : PySem.W.codeIn K cd8 "_law_divisor" = true) (k8 : PySem.W.keepIn K (.ref f8) = true)
    (a9 : PySem.W.nsIn K mainGlobals "_law_low" = some (some (.ref f9))) (l9 : K.lookup f9 = some ⟨oc9, od9, .func (PySem.W.fnOf "_law_low" "_law_low" (defArgs s__law_low) (defBody s__law_low) (defScope s__law_low) .none kV9 dc9 pm9 an9 cd9 ct9), sl9⟩) (c9 : PySem.W.codeIn K cd9 "_law_low" = true) (k9 : PySem.W.keepIn K (.ref f9) = true)
    (a10 : PySem.W.nsIn K mainGlobals "_law_ratio" = some (some (.ref f10))) (l10 : K.lookup f10 = some ⟨oc10, od10, .func (PySem.W.fnOf "_law_ratio" "_law_ratio" (defArgs s__law_ratio) (defBody s__law_ratio) (defScope s__law_ratio) .none kV10 dc10 pm10 an10 cd10 ct10), sl10⟩) (c10 : PySem.W.codeIn K cd10 "_law_ratio" = true) (k10 : PySem.W.keepIn K (.ref f10) = true)
    (a11 : PySem.W.nsIn K mainGlobals "_law_first" = some (some (.ref f11))) (l11 : K.lookup f11 = some ⟨oc11, od11, .func (PySem.W.fnOf "_law_first" "_law_first" (defArgs s__law_first) (defBody s__law_first) (defScope s__law_first) .none kV11 dc11 pm11 an11 cd11 ct11), sl11⟩) (c11 : PySem.W.codeIn K cd11 "_law_first" = true) (k11 : PySem.W.keepIn K (.ref f11) = true)
    (a12 : PySem.W.nsIn K mainGlobals "_law_last" = some (some (.ref f12))) (l12 : K.lookup f12 = some ⟨oc12, od12, .func (PySem.W.fnOf "_law_last" "_law_last" (defArgs s__law_last) (defBody s__law_last) (defScope s__law_last) .none kV12 dc12 pm12 an12 cd12 ct12), sl12⟩) (c12 : PySem.W.codeIn K cd12 "_law_last" = true) (k12 : PySem.W.keepIn K (.ref f12) = true)
    (a13 : PySem.W.nsIn K mainGlobals "_law_due" = some (some (.ref f13))) (l13 : K.lookup f13 = some ⟨oc13, od13, .func (PySem.W.fnOf "_law_due" "_law_due" (defArgs s__law_due) (defBody s__law_due) (defScope s__law_due) .none kV13 dc13 pm13 an13 cd13 ct13), sl13⟩) (c13 : PySem.W.codeIn K cd13 "_law_due" = true) (k13 : PySem.W.keepIn K (.ref f13) = true)
    (a14 : PySem.W.nsIn K mainGlobals "_law_steps" = some (some (.ref f14))) (l14 : K.lookup f14 = some ⟨oc14, od14, .func (PySem.W.fnOf "_law_steps" "_law_steps" (defArgs s__law_steps) (defBody s__law_steps) (defScope s__law_steps) .none kV14 dc14 pm14 an14 cd14 ct14), sl14⟩) (c14 : PySem.W.codeIn K cd14 "_law_steps" = true) (k14 : PySem.W.keepIn K (.ref f14) = true)
    (a15 : PySem.W.nsIn K mainGlobals "law" = some (some (.ref f15))) (l15 : K.lookup f15 = some ⟨oc15, od15, .func (PySem.W.fnOf "law" "law" (defArgs s_law) (defBody s_law) (defScope s_law) .none kV15 dc15 pm15 an15 cd15 ct15), sl15⟩) (c15 : PySem.W.codeIn K cd15 "law" = true) (k15 : PySem.W.keepIn K (.ref f15) = true)
    (z_len : PySem.W.nsIn K mainGlobals "len" = some none)
    (z_int : PySem.W.nsIn K mainGlobals "int" = some none)
    (z_abs : PySem.W.nsIn K mainGlobals "abs" = some none)
    (z_range : PySem.W.nsIn K mainGlobals "range" = some none)
    (z_reversed : PySem.W.nsIn K mainGlobals "reversed" = some none)
    : ∃ fd : FuncData, (∀ (s : Shared) (v : Value), BindsTo s fd ⟨[v], []⟩ [("script", v)]) ∧ ∀ base : Heap, K.In base → base.Ns mainGlobals mg → FnOk l.prog w K mg base CX0 4 fa fd ["script"] (spLaw K) := by
  have e := hfa.symm.trans (PySem.W.mg_of X G a15)
  cases e
  have F0 := fun_mk (st := s_sign_of) l0 c0 k0
  have b0 := F0.binds (ps := ["integer"]) fun _ _ _ _ _ _ us hl => match us, hl with | [_], _ => rfl
  have F1 := fun_mk (st := s_ratio_order) l1 c1 k1
  have b1 := F1.binds (ps := ["one", "other"]) fun _ _ _ _ _ _ us hl => match us, hl with | [_, _], _ => rfl
  have F3 := fun_mk (st := s_less_ratio) l3 c3 k3
  have b3 := F3.binds (ps := ["one"]) fun _ _ _ _ _ _ us hl => match us, hl with | [_], _ => rfl
  have F4 := fun_mk (st := s_simplest_above) l4 c4 k4
  have b4 := F4.binds (ps := ["low", "high"]) fun _ _ _ _ _ _ us hl => match us, hl with | [_, _], _ => rfl
  have F5 := fun_mk (st := s_turned_ratio) l5 c5 k5
  have b5 := F5.binds (ps := ["one", "whole"]) fun _ _ _ _ _ _ us hl => match us, hl with | [_, _], _ => rfl
  have F6 := fun_mk (st := s__law_box) l6 c6 k6
  have b6 := F6.binds (ps := ["script", "k"]) fun _ _ _ _ _ _ us hl => match us, hl with | [_, _], _ => rfl
  have F7 := fun_mk (st := s__law_take) l7 c7 k7
  have b7 := F7.binds (ps := ["box", "many"]) fun _ _ _ _ _ _ us hl => match us, hl with | [_, _], _ => rfl
  have F8 := fun_mk (st := s__law_divisor) l8 c8 k8
  have b8 := F8.binds (ps := ["one", "other"]) fun _ _ _ _ _ _ us hl => match us, hl with | [_, _], _ => rfl
  have F9 := fun_mk (st := s__law_low) l9 c9 k9
  have b9 := F9.binds (ps := ["top", "bottom"]) fun _ _ _ _ _ _ us hl => match us, hl with | [_, _], _ => rfl
  have F10 := fun_mk (st := s__law_ratio) l10 c10 k10
  have b10 := F10.binds (ps := ["box"]) fun _ _ _ _ _ _ us hl => match us, hl with | [_], _ => rfl
  have F11 := fun_mk (st := s__law_first) l11 c11 k11
  have b11 := F11.binds (ps := ["bottom", "under"]) fun _ _ _ _ _ _ us hl => match us, hl with | [_, _], _ => rfl
  have F12 := fun_mk (st := s__law_last) l12 c12 k12
  have b12 := F12.binds (ps := ["bottom", "over"]) fun _ _ _ _ _ _ us hl => match us, hl with | [_, _], _ => rfl
  have F13 := fun_mk (st := s__law_due) l13 c13 k13
  have b13 := F13.binds (ps := ["under", "over"]) fun _ _ _ _ _ _ us hl => match us, hl with | [_, _], _ => rfl
  have F14 := fun_mk (st := s__law_steps) l14 c14 k14
  have b14 := F14.binds (ps := ["box"]) fun _ _ _ _ _ _ us hl => match us, hl with | [_], _ => rfl
  have F15 := fun_mk (st := s_law) l15 c15 k15
  have n_len := PySem.W.mg_none_of X G z_len
  have n_int := PySem.W.mg_none_of X G z_int
  have n_abs := PySem.W.mg_none_of X G z_abs
  have n_range := PySem.W.mg_none_of X G z_range
  have n_reversed := PySem.W.mg_none_of X G z_reversed
  refine ⟨PySem.W.fnOf "law" "law" (defArgs s_law) (defBody s_law) (defScope s_law) .none kV15 dc15 pm15 an15 cd15 ct15, fun s v => .of_eq rfl, fun base _ _ => ?_⟩
  have C_sign_of : Cl l.prog w K mg base "sign_of" ["integer"] [] 1 spSign := ⟨_, _, [], ok_sign F0, PySem.W.mg_of X G a0, k0, b0, .nil⟩
  have C_ratio_order : Cl l.prog w K mg base "ratio_order" ["one", "other"] [] 2 spOrder := ⟨_, _, [], ok_order F1 C_sign_of, PySem.W.mg_of X G a1, k1, b1, .nil⟩
  have C_less_ratio : Cl l.prog w K mg base "less_ratio" ["one"] [] 1 spLess := ⟨_, _, [], ok_less F3, PySem.W.mg_of X G a3, k3, b3, .nil⟩
  have C_turned_ratio : Cl l.prog w K mg base "turned_ratio" ["one", "whole"] [] 1 spTurned := ⟨_, _, [], ok_turned F5, PySem.W.mg_of X G a5, k5, b5, .nil⟩
  have C_simplest_above : Cl l.prog w K mg base "simplest_above" ["low", "high"] [] 2 spAbove := ⟨_, _, [], ok_above F4 C_turned_ratio n_reversed, PySem.W.mg_of X G a4, k4, b4, .nil⟩
  have FS : FunD K "simplest_ratio" "simplest_ratio" (defArgs s_simplest_ratio) (defBody s_simplest_ratio) (defScope s_simplest_ratio) [.non, .non] [] _ _ := ⟨⟨_, _, _, _, _, _, _, _, _, _, rfl, l2, c2, .inr ⟨by decide, _, _, _, _, rfl, t2, u2, .cons rfl (.cons rfl .nil)⟩, .inl rfl⟩, k2⟩
  have GS := ok_simplest (P := l.prog) (w := w) (mg := mg) (base := base) FS C_ratio_order C_simplest_above C_less_ratio
  obtain ⟨d2, v2, B2⟩ := FS.binds1 (ps := ["low", "high"]) 2 2 (by decide) rfl fun T kV doc pm an cdv ct us its h1 h2 => match us, its, h1, h2 with | [_, _], [_, _], _, _ => ⟨_, rfl, rfl⟩
  obtain ⟨d0, v0, B0⟩ := FS.binds1 (ps := ["low", "high"]) 0 0 (by decide) rfl fun T kV doc pm an cdv ct us its h1 h2 => match us, its, h1, h2 with | [], [_, _], _, _ => ⟨_, rfl, rfl⟩
  obtain ⟨iK, BK⟩ := kb_full (ps := ["low", "high"]) FS 0 ["high", "low"] (fun us ds zs => gK us ds zs) (by decide) (fun {vs ds zs us its ws} r1 r2 r3 => by cases r3 with | nil => exact .nil | cons x y => cases y with | nil => exact .cons x .nil | cons y z => cases z with | nil => exact .cons y (.cons x .nil) | cons z u => exact .cons x (.cons y (.cons z u))) fun T kV doc pm an cdv ct us its ws h1 h2 h3 => match us, its, ws, h1, h2, h3 with | [], [_, _], [_, _], _, _, _ => ⟨_, rfl, rfl⟩
  have C_simplest_ratio : Cl l.prog w K mg base "simplest_ratio" ["low", "high"] [] 3 spSimplest := ⟨_, _, _, GS, PySem.W.mg_of X G a2, k2, B2, v2⟩
  have C_simplest0 : Cl l.prog w K mg base "simplest_ratio" ["low", "high"] [.non, .non] 3 spSimplest := ⟨_, _, _, GS, PySem.W.mg_of X G a2, k2, B0, v0⟩
  have C_simplestK : ClK l.prog w K mg base "simplest_ratio" ["low", "high"] 0 ["high", "low"] (fun vs zs => gK vs [.non, .non] zs) 3 spSimplest := ⟨_, _, _, GS, PySem.W.mg_of X G a2, k2, BK⟩
  have C__law_box : Cl l.prog w K mg base "_law_box" ["script", "k"] [] 1 (spBox K) := ⟨_, _, [], ok_box F6 n_int n_len n_abs, PySem.W.mg_of X G a6, k6, b6, .nil⟩
  have C__law_take : Cl l.prog w K mg base "_law_take" ["box", "many"] [] 1 spTake := ⟨_, _, [], ok_take F7 n_int, PySem.W.mg_of X G a7, k7, b7, .nil⟩
  have C__law_divisor : Cl l.prog w K mg base "_law_divisor" ["one", "other"] [] 1 spDiv := ⟨_, _, [], ok_div F8 n_int n_abs, PySem.W.mg_of X G a8, k8, b8, .nil⟩
  have C__law_low : Cl l.prog w K mg base "_law_low" ["top", "bottom"] [] 2 spLow := ⟨_, _, [], ok_low F9 C__law_divisor, PySem.W.mg_of X G a9, k9, b9, .nil⟩
  have C__law_ratio : Cl l.prog w K mg base "_law_ratio" ["box"] [] 3 spRatio := ⟨_, _, [], ok_ratio F10 C__law_low C__law_take, PySem.W.mg_of X G a10, k10, b10, .nil⟩
  have C__law_first : Cl l.prog w K mg base "_law_first" ["bottom", "under"] [] 1 spFirst := ⟨_, _, [], ok_first F11, PySem.W.mg_of X G a11, k11, b11, .nil⟩
  have C__law_last : Cl l.prog w K mg base "_law_last" ["bottom", "over"] [] 1 spLast := ⟨_, _, [], ok_last F12, PySem.W.mg_of X G a12, k12, b12, .nil⟩
  have C__law_due : Cl l.prog w K mg base "_law_due" ["under", "over"] [] 2 spSimplest := ⟨_, _, [], ok_due F13 C__law_first C__law_last n_range, PySem.W.mg_of X G a13, k13, b13, .nil⟩
  have C__law_steps : Cl l.prog w K mg base "_law_steps" ["box"] [] 2 spSteps := ⟨_, _, [], ok_steps F14 C__law_take n_range, PySem.W.mg_of X G a14, k14, b14, .nil⟩
  exact ok_law F15 C__law_box C__law_take C__law_low C__law_ratio C__law_due C__law_steps C_ratio_order C_simplest_ratio C_simplest0 C_simplestK n_range
theorem walk {l : PySem.W.OpenLaw} {q : Program} {loose : List Str} {XP : (Str → Option Value) → Heap → Prop} {YP : World → Heap → Prop} {d : DefRec} {K : Params → PySem.W.Frag} (hn : l.most = some 63) (hdf : d.params.defaults = [])
    (hY : ∀ (w : World) (h : Heap), YP w h → (K w.params).In h)
    (F : ∀ (w : World) (mg : Str → Option Value) (fa : Addr) (h : Heap), (K w.params).In h → h.Ns mainGlobals mg → mg d.name = some (.ref fa) →
      ∃ fd : FuncData, (∀ (s : Shared) (u : Value), BindsTo s fd ⟨[u], []⟩ [("script", u)]) ∧ ∀ base : Heap, (K w.params).In base → base.Ns mainGlobals mg → FnOk l.prog w (K w.params) mg base CX0 4 fa fd ["script"] (spLaw (K w.params))) :
    PySem.W.WalkO q loose XP YP l.row.toRowW d [] (fun f vs => PySem.call f vs) :=
  L2.walk_of (n := 63) (k := 4) (x := "script") (CX := fun _ => CX0) (sp := fun w => spLaw (K w.params)) hn (by decide) hdf ⟨rfl, by decide, by decide⟩ hY F (fun _ _ a ns hl _ hS => ⟨a, ns, rfl, hS, hl, fun _ => rfl⟩) fun _ _ _ _ _ z => z
end Kb
open PySem PySem.W PyProof.Rows
set_option maxRecDepth 100000 in
set_option maxHeartbeats 0 in
theorem PySem.Challenge.cw_curvebells_k02_the_simplest_ratio_betwee_holds : PySem.Challenge.rw_curvebells_k02_the_simplest_ratio_betwee.Holds := by
  w_on; o_law; k_head; (case hw => w_witness2)
  k_fill
  refine Kb.walk (l := PySem.Challenge.rw_curvebells_k02_the_simplest_ratio_betwee) rfl rfl (fun w h Y => PySem.W.kIn_of Y) ?F
  case F =>
    intro w mg fa h KX G hmg
    refine' Kb.all_mk KX G hmg ?a0 ?l0 ?c0 ?k0 ?a1 ?l1 ?c1 ?k1 ?t2 ?u2 ?a2 ?l2 ?c2 ?k2 ?a3 ?l3 ?c3 ?k3 ?a4 ?l4 ?c4 ?k4 ?a5 ?l5 ?c5 ?k5 ?a6 ?l6 ?c6 ?k6 ?a7 ?l7 ?c7 ?k7 ?a8 ?l8 ?c8 ?k8 ?a9 ?l9 ?c9 ?k9 ?a10 ?l10 ?c10 ?k10 ?a11 ?l11 ?c11 ?k11 ?a12 ?l12 ?c12 ?k12 ?a13 ?l13 ?c13 ?k13 ?a14 ?l14 ?c14 ?k14 ?a15 ?l15 ?c15 ?k15 ?z_len ?z_int ?z_abs ?z_range ?z_reversed
    (case a0 => k_is); (case l0 => k_is); (case c0 => k_is); (case k0 => k_is)
    (case a1 => k_is); (case l1 => k_is); (case c1 => k_is); (case k1 => k_is)
    (case a2 => k_is); (case l2 => k_is); (case c2 => k_is); (case k2 => k_is); (case t2 => k_is)
    (case u2 => rfl)
    (case a3 => k_is); (case l3 => k_is); (case c3 => k_is); (case k3 => k_is)
    (case a4 => k_is); (case l4 => k_is); (case c4 => k_is); (case k4 => k_is)
    (case a5 => k_is); (case l5 => k_is); (case c5 => k_is); (case k5 => k_is)
    (case a6 => k_is); (case l6 => k_is); (case c6 => k_is); (case k6 => k_is)
    (case a7 => k_is); (case l7 => k_is); (case c7 => k_is); (case k7 => k_is)
    (case a8 => k_is); (case l8 => k_is); (case c8 => k_is); (case k8 => k_is)
    (case a9 => k_is); (case l9 => k_is); (case c9 => k_is); (case k9 => k_is)
    (case a10 => k_is); (case l10 => k_is); (case c10 => k_is); (case k10 => k_is)
    (case a11 => k_is); (case l11 => k_is); (case c11 => k_is); (case k11 => k_is)
    (case a12 => k_is); (case l12 => k_is); (case c12 => k_is); (case k12 => k_is)
    (case a13 => k_is); (case l13 => k_is); (case c13 => k_is); (case k13 => k_is)
    (case a14 => k_is); (case l14 => k_is); (case c14 => k_is); (case k14 => k_is)
    (case a15 => k_is); (case l15 => k_is); (case c15 => k_is); (case k15 => k_is)
    (case z_len => k_is); (case z_int => k_is); (case z_abs => k_is); (case z_range => k_is); (case z_reversed => k_is)
