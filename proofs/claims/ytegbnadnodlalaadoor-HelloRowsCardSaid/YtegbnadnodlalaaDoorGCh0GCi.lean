/- Points as the program keeps them (x, y, z, t): their sums and multiples as plain reckoning, and as points of the curve; a point's 32 bytes as a number. Which 32 bytes are a point: what the program's Decode and the reference's Read reckon, as numbers. -/
import Derived.Test.YtegbnadnodlalaaDoorGJm0GCg
import Derived.Test.YtegbnadnodlalaaDoorGNc
namespace Go.Proofs.YtegbnadnodlalaaDoor
namespace Ed
set_option maxHeartbeats 4000000
section
variable {n : Nat} [NeZero n]
theorem pm_cross (a b X1 Y1 X2 Y2 : Fin n) : (a*X1 + a*Y1)*(b*X2 + b*Y2) - (a*X1)*(b*X2) - (a*Y1)*(b*Y2) = (a*b)*(X1*Y2 + Y1*X2) := by grind
theorem pm_st (a b X1 Y1 X2 Y2 : Fin n) : (a*Y1)*(b*Y2) + (a*X1)*(b*X2) = (a*b)*(Y1*Y2 + X1*X2) := by grind
theorem pm_ux (a b d X1 Y1 X2 Y2 : Fin n) : a*b + d*((a*(X1*Y1))*(b*(X2*Y2))) = (a*b)*(1 + d*X1*X2*Y1*Y2) := by grind
theorem pm_uy (a b d X1 Y1 X2 Y2 : Fin n) : a*b - d*((a*(X1*Y1))*(b*(X2*Y2))) = (a*b)*(1 - d*X1*X2*Y1*Y2) := by grind
theorem pm_x {m c u v X : Fin n} (h : X*u = c) : (m*c)*(m*v) = (m*u)*(m*v)*X := by grind
theorem pm_y {m s u v Y : Fin n} (h : Y*v = s) : (m*s)*(m*u) = (m*u)*(m*v)*Y := by grind
theorem pm_t {m c s u v X Y : Fin n} (h : X*u = c) (h2 : Y*v = s) : (m*c)*(m*s) = (m*u)*(m*v)*(X*Y) := by grind
theorem neg_mul_l (a b : Fin n) : -(a*b) = a*(-b) := by grind
theorem neg_mul_t (a b c : Fin n) : -(a*(b*c)) = a*((-b)*c) := by grind
theorem inv_of {z u X : Fin n} (h : z*u = 1) : z*X*u = X := by grind
end
end Ed
open Go.RowKit Ed
structure P4 where
  x : Nat
  y : Nat
  z : Nat
  t : Nat
structure P4.Ok (s : P4) : Prop where
  x : s.x < pp
  y : s.y < pp
  z : s.z < pp
  t : s.t < pp
/-- Four numbers that are a point. -/
structure P4.Is (s : P4) (P : Pt dd) : Prop where
  ok : s.Ok
  z0 : F s.z ≠ 0
  x : F s.x = F s.z * P.x
  y : F s.y = F s.z * P.y
  t : F s.t = F s.z * (P.x * P.y)
def dN : Nat := 37095705934669439343138083508754565189542113879843219016388785533085940283555
theorem dN_lt : dN < pp := by rw [pp_eq]; decide +kernel
theorem F_dN : F dN = dd := by decide +kernel
def pXX (p q : P4) : Nat := fm p.x q.x
def pYY (p q : P4) : Nat := fm p.y q.y
def pZZ (p q : P4) : Nat := fm p.z q.z
def pDT (p q : P4) : Nat := fm dN (fm p.t q.t)
def pCr (p q : P4) : Nat := fs (fs (fm (fa p.x p.y) (fa q.x q.y)) (pXX p q)) (pYY p q)
def pSt (p q : P4) : Nat := fa (pYY p q) (pXX p q)
def pUx (p q : P4) : Nat := fa (pZZ p q) (pDT p q)
def pUy (p q : P4) : Nat := fs (pZZ p q) (pDT p q)
/-- The sum of two. -/
def padd (p q : P4) : P4 := ⟨fm (pCr p q) (pUy p q), fm (pSt p q) (pUx p q), fm (pUx p q) (pUy p q), fm (pCr p q) (pSt p q)⟩
theorem padd_ok (p q : P4) : (padd p q).Ok := ⟨fm_lt _ _, fm_lt _ _, fm_lt _ _, fm_lt _ _⟩
theorem padd_is {p q : P4} {P Q : Pt dd} (hp : p.Is P) (hq : q.Is Q) : (padd p q).Is (add ok P Q) := by
  have eXX : F (pXX p q) = (F p.z*P.x)*(F q.z*Q.x) := by unfold pXX; rw [F_fm, hp.x, hq.x]
  have eYY : F (pYY p q) = (F p.z*P.y)*(F q.z*Q.y) := by unfold pYY; rw [F_fm, hp.y, hq.y]
  have eZZ : F (pZZ p q) = F p.z*F q.z := by unfold pZZ; rw [F_fm]
  have eDT : F (pDT p q) = dd*((F p.z*(P.x*P.y))*(F q.z*(Q.x*Q.y))) := by unfold pDT; rw [F_fm, F_fm, hp.t, hq.t, F_dN]
  have eCr : F (pCr p q) = (F p.z*F q.z)*(P.x*Q.y + P.y*Q.x) := by
    unfold pCr
    rw [F_fs _ _ (show pYY p q < pp from fm_lt _ _), F_fs _ _ (show pXX p q < pp from fm_lt _ _), F_fm, F_fa, F_fa, hp.x, hp.y, hq.x, hq.y, eXX, eYY]
    exact pm_cross _ _ _ _ _ _
  have eSt : F (pSt p q) = (F p.z*F q.z)*(P.y*Q.y + P.x*Q.x) := by
    unfold pSt
    rw [F_fa, eXX, eYY]
    exact pm_st _ _ _ _ _ _
  have eUx : F (pUx p q) = (F p.z*F q.z)*(1 + dd*P.x*Q.x*P.y*Q.y) := by
    unfold pUx
    rw [F_fa, eZZ, eDT]
    exact pm_ux _ _ _ _ _ _ _
  have eUy : F (pUy p q) = (F p.z*F q.z)*(1 - dd*P.x*Q.x*P.y*Q.y) := by
    unfold pUy
    rw [F_fs _ _ (show pDT p q < pp from fm_lt _ _), eZZ, eDT]
    exact pm_uy _ _ _ _ _ _ _
  have hm := ok.mul_ne hp.z0 hq.z0
  have ax := add_x ok P Q
  have ay := add_y ok P Q
  have ez : F (padd p q).z = ((F p.z*F q.z)*(1 + dd*P.x*Q.x*P.y*Q.y))*((F p.z*F q.z)*(1 - dd*P.x*Q.x*P.y*Q.y)) := by
    show F (fm (pUx p q) (pUy p q)) = _
    rw [F_fm, eUx, eUy]
  refine ⟨padd_ok p q, ?_, ?_, ?_, ?_⟩
  · rw [ez]
    exact ok.mul_ne (ok.mul_ne hm (ok.full1 P.on Q.on)) (ok.mul_ne hm (ok.full2 P.on Q.on))
  · rw [ez]
    show F (fm (pCr p q) (pUy p q)) = _
    rw [F_fm, eCr, eUy]
    exact pm_x ax
  · rw [ez]
    show F (fm (pSt p q) (pUx p q)) = _
    rw [F_fm, eSt, eUx]
    exact pm_y ay
  · rw [ez]
    show F (fm (pCr p q) (pSt p q)) = _
    rw [F_fm, eCr, eSt]
    exact pm_t ax ay
/-- A point of an x and a y. -/
def pat (x y : Nat) : P4 := ⟨x, y, 1, fm x y⟩
theorem pat_is {x y : Nat} {P : Pt dd} (hx : x < pp) (hy : y < pp) (ex : F x = P.x) (ey : F y = P.y) : (pat x y).Is P := by
  refine ⟨⟨hx, hy, one_lt, fm_lt _ _⟩, ?_, ?_, ?_, ?_⟩
  · exact ok.one
  · show F x = F 1 * P.x
    rw [F_one, Fin.one_mul, ex]
  · show F y = F 1 * P.y
    rw [F_one, Fin.one_mul, ey]
  · show F (fm x y) = F 1 * (P.x * P.y)
    rw [F_one, Fin.one_mul, F_fm, ex, ey]
def pzero : P4 := pat 0 1
theorem pzero_is : pzero.Is (zero dd) := pat_is pp_pos one_lt rfl rfl
def bxN : Nat := 15112221349535400772501151409588531511454012693041857206046113283949847762202
def byN : Nat := 46316835694926478169428394003475163141307993866256225615783033603165251855960
theorem bxN_lt : bxN < pp := by rw [pp_eq]; decide +kernel
theorem byN_lt : byN < pp := by rw [pp_eq]; decide +kernel
def pbase : P4 := pat bxN byN
theorem pbase_is : pbase.Is bb := pat_is bxN_lt byN_lt (by decide +kernel) (by decide +kernel)
/-- The opposite. -/
def fneg (a : Nat) : Nat := (pp - a) % pp
theorem fneg_lt (a : Nat) : fneg a < pp := Nat.mod_lt _ pp_pos
theorem F_fneg (a : Nat) (h : a < pp) : F (fneg a) = - F a := by
  have h1 := F_fs 0 a h
  have e : fs 0 a = fneg a := by unfold fs fneg; rw [Nat.zero_add]
  rw [e, F_zero] at h1
  rw [h1]
  generalize F a = z
  grind
def pneg (p : P4) : P4 := ⟨fneg p.x, p.y, p.z, fneg p.t⟩
theorem pneg_is {p : P4} {P : Pt dd} (hp : p.Is P) : (pneg p).Is (neg P) := by
  refine ⟨⟨fneg_lt _, hp.ok.y, hp.ok.z, fneg_lt _⟩, hp.z0, ?_, hp.y, ?_⟩
  · show F (fneg p.x) = F p.z * (- P.x)
    rw [F_fneg _ hp.ok.x, hp.x]
    exact neg_mul_l _ _
  · show F (fneg p.t) = F p.z * ((- P.x) * P.y)
    rw [F_fneg _ hp.ok.t, hp.t]
    exact neg_mul_t _ _ _
/-- A number, and whether a bit is told: what Mul does behind so many rounds. -/
def pmul (k : Nat) (p : P4) : Nat → P4
  | 0 => pzero
  | i + 1 => if k / 2 ^ (255 - i) % 2 = 1 then padd (padd (pmul k p i) (pmul k p i)) p else padd (pmul k p i) (pmul k p i)
theorem pmul_is (k : Nat) (hk : k < 2 ^ 256) {p : P4} {P : Pt dd} (hp : p.Is P) : ∀ i, i ≤ 256 → (pmul k p i).Is (times ok (k / 2 ^ (256 - i)) P)
  | 0, _ => by
    rw [Nat.sub_zero, Nat.div_eq_of_lt hk]
    exact pzero_is
  | i + 1, h => by
    have ih := pmul_is k hk hp i (by omega)
    have e : k / 2 ^ (256 - i) = k / 2 ^ (255 - i) / 2 := by
      rw [show 256 - i = (255 - i) + 1 by omega, Nat.pow_succ, Nat.div_div_eq_div_mul]
    rw [show 256 - (i + 1) = 255 - i by omega]
    have ih2 := padd_is ih ih
    rw [e, times_even] at ih2
    unfold pmul
    generalize k / 2 ^ (255 - i) = u at *
    by_cases hb : u % 2 = 1
    · rw [if_pos hb]
      have := padd_is ih2 hp
      have e2 : add ok (times ok (2 * (u / 2)) P) P = times ok u P := by
        show times ok (2 * (u / 2) + 1) P = _
        congr 1
        omega
      rw [e2] at this
      exact this
    · rw [if_neg hb]
      rw [show 2 * (u / 2) = u by omega] at ih2
      exact ih2
/-- A point's 32 bytes, as a number. -/
def textN (P : Pt dd) : Nat := P.y.val + P.x.val % 2 * 57896044618658097711785492504343953926634992332820282019728792003956564819968
theorem pp_255 : pp < 57896044618658097711785492504343953926634992332820282019728792003956564819968 := by rw [pp_eq]; decide
theorem textN_mod (P : Pt dd) : textN P % 57896044618658097711785492504343953926634992332820282019728792003956564819968 = P.y.val := by
  have := pp_255
  have := P.y.isLt
  unfold textN
  omega
theorem textN_div (P : Pt dd) : textN P / 57896044618658097711785492504343953926634992332820282019728792003956564819968 = P.x.val % 2 := by
  have := pp_255
  have := P.y.isLt
  unfold textN
  omega
theorem textN_lt (P : Pt dd) : textN P < p256 := by
  have := pp_255
  have := P.y.isLt
  unfold textN p256
  omega
theorem textN_inj (P Q : Pt dd) (h : textN P = textN Q) : P = Q := by
  refine code_inj P Q ?_
  have h1 := textN_mod P
  have h2 := textN_mod Q
  have h3 := textN_div P
  have h4 := textN_div Q
  rw [h] at h1 h3
  unfold code
  omega
/-- What Encode reckons. -/
theorem enc_y {p : P4} {P : Pt dd} (hp : p.Is P) : fm p.y (pinv p.z) = P.y.val := by
  have h1 := finv_mul _ hp.z0
  have e : F (fm p.y (pinv p.z)) = P.y := by
    rw [F_fm, F_inv _ hp.ok.z, hp.y]
    exact inv_of h1
  have := congrArg Fin.val e
  rw [F_val (fm_lt _ _)] at this
  exact this
theorem enc_x {p : P4} {P : Pt dd} (hp : p.Is P) : fm p.x (pinv p.z) = P.x.val := by
  have h1 := finv_mul _ hp.z0
  have e : F (fm p.x (pinv p.z)) = P.x := by
    rw [F_fm, F_inv _ hp.ok.z, hp.x]
    exact inv_of h1
  have := congrArg Fin.val e
  rw [F_val (fm_lt _ _)] at this
  exact this
theorem F_inj2 {a b : Nat} (ha : a < pp) (hb : b < pp) (h : F a = F b) : a = b := by
  have := congrArg Fin.val h
  rw [F_val ha, F_val hb] at this
  exact this
end Go.Proofs.YtegbnadnodlalaaDoor
namespace Go.Proofs.YtegbnadnodlalaaDoor
namespace Ed
set_option maxHeartbeats 4000000
section
variable {n : Nat} [NeZero n]
theorem den_is (c d y : Fin n) (h : (c + 1)*d + c = 0) : (c + 1) - c*(y*y) = (c + 1)*(1 + d*y*y) := by grind
theorem on_of_root {c d x y : Fin n} (h : (c + 1)*d + c = 0) (e : x*x*((c + 1) - c*(y*y)) = (c + 1)*(y*y - 1)) : (y*y - x*x)*(c + 1) = (1 + d*x*x*y*y)*(c + 1) := by grind
theorem root_of_on {c d x y : Fin n} (h : (c + 1)*d + c = 0) (e : y*y - x*x = 1 + d*x*x*y*y) : x*x*((c + 1) - c*(y*y)) = (c + 1)*(y*y - 1) := by grind
end
end Ed
open Go.RowKit Ed
theorem den_any (y : Fin pp) : 1 + dd*y*y ≠ 0 := fun e => by
  by_cases hy : y = 0
  · rw [hy, Fin.mul_zero] at e
    exact ok.one (by rw [← e]; generalize (1 : Fin pp) = o; generalize (0 : Fin pp) = z; exact absurd hy (fun _ => by
      exact absurd e (by decide +kernel)))
  · have h1 := ok.hinv y hy
    refine ok.nsq (finv y) ?_
    generalize finv y = u at *
    generalize dd = d at *
    grind
theorem F_121666 : F 121666 = cc + 1 := by decide +kernel
theorem l121666 : 121666 < pp := by rw [pp_eq]; decide
theorem l121665 : 121665 < pp := by rw [pp_eq]; decide
/-- What the program asks a root of. -/
def dOv (Y : Nat) : Nat := fm 121666 (fs (fm Y Y) 1)
def dUn (Y : Nat) : Nat := fs 121666 (fm 121665 (fm Y Y))
theorem dOv_lt (Y : Nat) : dOv Y < pp := fm_lt _ _
theorem dUn_lt (Y : Nat) : dUn Y < pp := fs_lt _ _
theorem F_dOv (Y : Nat) : F (dOv Y) = (cc + 1)*(F Y*F Y - 1) := by
  unfold dOv
  rw [F_fm, F_fs _ _ one_lt, F_fm, F_121666, F_one]
theorem F_dUn (Y : Nat) : F (dUn Y) = (cc + 1) - cc*(F Y*F Y) := by
  unfold dUn
  rw [F_fs _ _ (fm_lt _ _), F_fm, F_fm, F_121666, F_c]
theorem dUn_ne (Y : Nat) : dUn Y ≠ 0 := fun e => by
  have h := congrArg F e
  rw [F_dUn, F_zero, den_is cc dd (F Y) cc_dd] at h
  exact ok.mul_ne cc_one (den_any (F Y)) h
theorem rOk_of_sq {X Y x : Nat} (hX : X < pp) (hY : Y < pp) (hy : Y ≠ 0) (h : x * x % pp * Y % pp = X) : rOk X Y = true := by
  by_cases h0 : X = 0
  · rw [h0]
    exact rOk_zero _
  · have hy' : Y % pp ≠ 0 := by rwa [Nat.mod_eq_of_lt hY]
    have hx' : X % pp ≠ 0 := by rwa [Nat.mod_eq_of_lt hX]
    have hx : x % pp ≠ 0 := fun e => h0 (by
      rw [← h, Nat.mul_mod x x, e, Nat.zero_mul, Nat.zero_mod, Nat.zero_mul, Nat.zero_mod])
    obtain ⟨Q, q, _⟩ := has_Q
    rw [unit_case q hX hx' hy']
    have hz : x * Y ^ 4 % pp ≠ 0 := not_zero hx (not_zero_pow hy' 4)
    have h4 := fermat4 q hz
    have key : ∀ Q, (x * Y ^ 4) ^ (4 * Q) % pp = 1 → (X * Y ^ 7) ^ (2 * Q) % pp = 1 := fun Q h5 => by
      have e2 : X * Y ^ 7 % pp = (x * Y ^ 4) ^ 2 % pp := by
        rw [← h]
        simp only [Nat.mod_mul_mod]
        congr 1
        rw [Nat.pow_two, show (7 : Nat) = 0 + 1 + 1 + 1 + 1 + 1 + 1 + 1 from rfl, show (4 : Nat) = 0 + 1 + 1 + 1 + 1 from rfl]
        simp only [Nat.pow_succ, Nat.pow_zero, Nat.one_mul, Nat.mul_assoc, Nat.mul_left_comm, Nat.mul_comm]
      rw [Nat.pow_mod, e2, ← Nat.pow_mod, ← Nat.pow_mul, show 2 * (2 * Q) = 4 * Q by omega]
      exact h5
    exact key Q h4
theorem y_of {P : Pt dd} {Y : Nat} (hy : P.y.val = Y) : F Y = P.y := by
  apply Fin.ext
  rw [F_val (by rw [← hy]; exact P.y.isLt), hy]
theorem x_of (a : Fin pp) : F a.val = a := by
  apply Fin.ext
  rw [F_val a.isLt]
theorem rOk_pt {Y : Nat} (P : Pt dd) (hy : P.y.val = Y) : rOk (dOv Y) (dUn Y) = true := by
  refine rOk_of_sq (x := P.x.val) (dOv_lt Y) (dUn_lt Y) (dUn_ne Y) ?_
  have e1 : fm (fm P.x.val P.x.val) (dUn Y) = dOv Y := by
    refine F_inj2 (fm_lt _ _) (dOv_lt Y) ?_
    rw [F_fm, F_fm, x_of, F_dUn, F_dOv, y_of hy]
    exact root_of_on cc_dd P.on
  exact e1
theorem rV_on {I Y : Nat} (hI : IOk I) (h : rOk (dOv Y) (dUn Y) = true) : On dd (F (rV I (dOv Y) (dUn Y))) (F Y) := by
  have h1 := rV_sq hI (dOv_lt Y) h
  generalize rV I (dOv Y) (dUn Y) = r at *
  have e1 : fm (fm r r) (dUn Y) = dOv Y := h1
  have e2 := congrArg F e1
  rw [F_fm, F_fm, F_dUn, F_dOv] at e2
  exact ok.cancel cc_one (on_of_root cc_dd e2)
theorem ptn_y {P : Pt dd} {N : Nat} (h : textN P = N) : P.y.val = N % 57896044618658097711785492504343953926634992332820282019728792003956564819968 := by
  rw [← h, textN_mod]
theorem ptn_x {P : Pt dd} {N : Nat} (h : textN P = N) : P.x.val % 2 = N / 57896044618658097711785492504343953926634992332820282019728792003956564819968 := by
  rw [← h, textN_div]
/-- One root is 0: then there is no odd one. -/
theorem none_odd {N Y : Nat} (hY : N % 57896044618658097711785492504343953926634992332820282019728792003956564819968 = Y) (ho : On dd (F 0) (F Y)) (h : N / 57896044618658097711785492504343953926634992332820282019728792003956564819968 = 1) (P : Pt dd) : textN P ≠ N := fun e => by
  have hy := y_of ((ptn_y e).trans hY)
  have hp := P.on
  unfold On at hp ho
  rw [hy] at ho
  have e1 : P.x*P.x = F 0*F 0 := ok.cancel (den_ne P) (same_sq hp ho)
  have e2 : P.x = 0 := by
    rw [F_zero, Fin.mul_zero] at e1
    exact (ok.dom e1).elim id id
  have h2 := ptn_x e
  rw [e2, h] at h2
  exact absurd h2 (by decide +kernel)
/-- A root, or its opposite: the one that is asked for. -/
def pick (x o : Nat) : Nat := if x % 2 = o then x else fneg x
theorem pick_lt {x : Nat} (hx : x < pp) (o : Nat) : pick x o < pp := by
  unfold pick
  split
  · exact hx
  · exact fneg_lt _
theorem fneg_odd {x : Nat} (hx : x < pp) (h0 : x ≠ 0) : fneg x % 2 = 1 - x % 2 := by
  have := pp_odd
  unfold fneg
  rw [Nat.mod_eq_of_lt (show pp - x < pp by omega)]
  omega
theorem neg_on {x y : Fin pp} (h : On dd x y) : On dd (-x) y := by
  unfold On at *
  generalize dd = d at *
  grind
theorem some_pt {N Y x : Nat} (hN : N < p256) (hY : N % 57896044618658097711785492504343953926634992332820282019728792003956564819968 = Y) (hyp : Y < pp) (hx : x < pp) (ho : On dd (F x) (F Y))
    (h : ¬ (x = 0 ∧ N / 57896044618658097711785492504343953926634992332820282019728792003956564819968 = 1)) :
    ∃ P : Pt dd, textN P = N ∧ F (pick x (N / 57896044618658097711785492504343953926634992332820282019728792003956564819968)) = P.x ∧ F Y = P.y := by
  have hd : N / 57896044618658097711785492504343953926634992332820282019728792003956564819968 < 2 := by unfold p256 at hN; omega
  have hon : On dd (F (pick x (N / 57896044618658097711785492504343953926634992332820282019728792003956564819968))) (F Y) := by
    unfold pick
    split
    · exact ho
    · rw [F_fneg x hx]
      exact neg_on ho
  refine ⟨⟨_, _, hon⟩, ?_, rfl, rfl⟩
  have h1 : pick x (N / 57896044618658097711785492504343953926634992332820282019728792003956564819968) % 2 = N / 57896044618658097711785492504343953926634992332820282019728792003956564819968 := by
    unfold pick
    split
    · assumption
    · next hne =>
      by_cases h0 : x = 0
      · have : N / 57896044618658097711785492504343953926634992332820282019728792003956564819968 ≠ 1 := fun e => h ⟨h0, e⟩
        rw [h0] at hne
        omega
      · rw [fneg_odd hx h0]
        omega
  show (F Y).val + (F (pick x (N / 57896044618658097711785492504343953926634992332820282019728792003956564819968))).val % 2 * 57896044618658097711785492504343953926634992332820282019728792003956564819968 = N
  rw [F_val hyp, F_val (pick_lt hx _), h1, ← hY]
  omega
/-! The reference's. -/
end Go.Proofs.YtegbnadnodlalaaDoor
