/- The base, its order; what two, and three, share. -/
import Derived.Test.YtgdhlafggdaipaaCd
namespace Go.Proofs.Ytgdhlafggdaipaa
open Go.RowKit Ed

def bx : Fin pp := ⟨15112221349535400772501151409588531511454012693041857206046113283949847762202, by rw [pp_eq]; decide +kernel⟩
def bY : Fin pp := ⟨46316835694926478169428394003475163141307993866256225615783033603165251855960, by rw [pp_eq]; decide +kernel⟩
def bb : Pt dd := ⟨bx, bY, by unfold On; decide +kernel⟩
def ell : Nat := 7237005577332262213973186563042994240857116359379907606001950938285454250989
theorem ell_pr : Nt.Pr ell := Nt.ell_prime
theorem base_u : F 9*(1 - bb.y) = 1 + bb.y := by decide +kernel
theorem base_n1 : 1 - bb.y ≠ 0 := by decide +kernel
theorem base_n2 : 1 + bb.y ≠ 0 := by decide +kernel
theorem nine_lt : 9 < pp := by rw [pp_eq]; decide
theorem one_lt : 1 < pp := by rw [pp_eq]; decide
theorem lad_ell : (lad ell 9 255).b = 0 := by decide +kernel
theorem dd_one : 1 + dd ≠ 0 := by decide +kernel
theorem sq0 {x e : Fin pp} (h : Ok pp dd ii finv) (y : Fin pp) (ho : On dd x y) (hy : y*y = 1) : x = 0 := by
  have e1 : x*x*(1 + dd) = 0 := by
    unfold On at ho
    generalize dd = d at *
    clear h
    grind
  rcases h.dom e1 with h2 | h2
  · exact (h.dom h2).elim id id
  · exact absurd h2 dd_one
theorem pt_one (P : Pt dd) (h : 1 - P.y = 0) : P = zero dd := by
  have hy : P.y = 1 := by
    generalize P.y = y at *
    grind
  refine Pt.same (sq0 (e := 0) ok P.y P.on ?_) hy
  rw [hy]
  exact Fin.mul_one _
theorem pt_opp (P : Pt dd) (h : 1 + P.y = 0) : add ok P P = zero dd := by
  have hy : P.y * P.y = 1 := by
    generalize P.y = y at *
    grind
  have hx := sq0 (e := 0) ok P.y P.on hy
  have : neg P = P := Pt.same (by show -P.x = P.x; rw [hx]; decide +kernel) rfl
  have h2 := add_neg ok P
  rw [this] at h2
  exact h2
theorem times_ell : times ok ell bb = zero dd := by
  obtain ⟨⟨l, hl, _, eb⟩, _⟩ := lad_rep ell 9 nine_lt (by decide +kernel) bb base_u base_n1 base_n2 255 (Nat.le_refl _)
  rw [Nat.sub_self, Nat.pow_zero, Nat.div_one, lad_ell] at eb
  refine pt_one _ ?_
  exact (ok.dom eb.symm).elim (fun e => absurd e hl) id
theorem bb_ne : bb ≠ zero dd := fun e => by
  have := congrArg Pt.y e
  exact absurd this (by decide +kernel)
theorem times_ne (m : Nat) (h : ¬ ell ∣ m) : times ok m bb ≠ zero dd := fun e => by
  have h1 := times_gcd ok bb ell m times_ell e
  have h2 : Nat.gcd ell m = 1 := Nt.Pr.coprime ell_pr h
  rw [h2, times_one] at h1
  exact bb_ne h1
theorem times_n1 (m : Nat) (h : ¬ ell ∣ m) : 1 - (times ok m bb).y ≠ 0 := fun e => times_ne m h (pt_one _ e)
theorem not_two : ¬ ell ∣ 2 := by decide +kernel
theorem times_n2 (m : Nat) (h : ¬ ell ∣ m) : 1 + (times ok m bb).y ≠ 0 := fun e => by
  have h1 := pt_opp _ e
  rw [← times_plus, show m + m = m * 2 by omega] at h1
  refine times_ne (m * 2) (fun hd => ?_) h1
  exact (ell_pr.dvd_mul hd).elim h not_two
theorem u_mul (P : Pt dd) (h : 1 - P.y ≠ 0) : uOf P * (1 - P.y) = 1 + P.y := by
  unfold uOf
  rw [Fin.mul_assoc, Fin.mul_comm (finv _), finv_mul _ h, Fin.mul_one]
theorem F_inj {a b : Nat} (ha : a < pp) (hb : b < pp) (h : F a = F b) : a = b := by
  have := congrArg Fin.val h
  rw [F_val ha, F_val hb] at this
  exact this
/-- The ladder from a multiple of the base on. -/
theorem lad_times (V m N : Nat) (hV : V < 2 ^ 255) (hm : ¬ ell ∣ m) (hN : N < pp) (hu : F N = uOf (times ok m bb)) : F (ladN V N) = uOf (times ok (m * V) bb) := by
  have h := ladN_u V N hN hV (times ok m bb) (by rw [hu]; exact u_mul _ (times_n1 m hm)) (times_n1 m hm) (times_n2 m hm)
  rw [h, times_times]
theorem lad_base (V : Nat) (hV : V < 2 ^ 255) : F (ladN V 9) = uOf (times ok V bb) := ladN_u V 9 nine_lt hV bb base_u base_n1 base_n2
theorem u_ne (m N : Nat) (hm : ¬ ell ∣ m) (hN : N < pp) (hu : F N = uOf (times ok m bb)) : N ≠ 0 := fun e => by
  have h := u_mul _ (times_n1 m hm)
  rw [← hu, e, F_zero, Fin.zero_mul] at h
  exact times_n2 m hm h.symm
/-- A secret as it is used: eight times a number that is no multiple of the order. -/
theorem leTo_mod8 (f : Nat → Nat) (h : f 0 % 8 = 0) : ∀ k, leTo f k % 8 = 0
  | 0 => rfl
  | k + 1 => by
    have ih := leTo_mod8 f h k
    unfold leTo
    rcases Nat.eq_zero_or_pos k with h0 | h0
    · subst h0
      rw [Nat.pow_zero, Nat.mul_one]
      omega
    · obtain ⟨j, rfl⟩ : ∃ j, k = j + 1 := ⟨k - 1, by omega⟩
      have : f (j + 1) * 256 ^ (j + 1) = 8 * (f (j + 1) * (32 * 256 ^ j)) := by
        rw [Nat.pow_succ, Nat.mul_comm (256 ^ j) 256, show (256 : Nat) = 8 * 32 by decide, Nat.mul_assoc 8 32, Nat.mul_left_comm]
      rw [this]
      omega
theorem clN_mod8 (n : Nat) : clN n % 8 = 0 := leTo_mod8 _ (by show (if 0 = 0 then _ else _) % 8 = 0; rw [if_pos rfl]; omega) 32
theorem clN_range (n : Nat) : 2 ^ 254 ≤ clN n ∧ clN n < 2 ^ 255 := by
  have hf := fun i => clF_lt (f := byteAt n) (fun i => Nat.mod_lt _ (by decide)) i
  have h1 := leTo_lt _ hf 31
  have h2 : clN n = leTo (clF (byteAt n)) 31 + clF (byteAt n) 31 * 256 ^ 31 := rfl
  have h3 : clF (byteAt n) 31 = byteAt n 31 % 64 + 64 := rfl
  rw [h2, h3]
  generalize leTo (clF (byteAt n)) 31 = a at *
  generalize byteAt n 31 = b at *
  clear h2 h3 hf
  simp only [Nat.reducePow] at *
  omega
theorem clN_ell (n : Nat) : ¬ ell ∣ clN n := fun hd => by
  obtain ⟨h1, h2⟩ := clN_range n
  have h3 := clN_mod8 n
  have h4 : clN n = 8 * (clN n / 8) := by omega
  rw [h4] at hd
  rcases ell_pr.dvd_mul hd with h5 | h5
  · exact absurd h5 (by decide +kernel)
  · generalize clN n = c at *
    have h6 := Nat.le_of_dvd (by simp only [Nat.reducePow] at h1; omega) h5
    unfold ell at h6
    simp only [Nat.reducePow] at h1 h2
    omega
theorem plN_same {N : Nat} (h : N < pp) : plN N = N := by
  have h2 : N < 57896044618658097711785492504343953926634992332820282019728792003956564819968 := Nat.lt_trans h (by rw [pp_eq]; decide)
  unfold plN
  rw [Nat.mod_eq_of_lt h2, Nat.mod_eq_of_lt h]
theorem ell_mul {a b : Nat} (ha : ¬ ell ∣ a) (hb : ¬ ell ∣ b) : ¬ ell ∣ a * b := fun h => (ell_pr.dvd_mul h).elim ha hb
/-- P5.2, as numbers. -/
theorem meets (a b : Nat) : ladN (clN a) (plN (ladN (clN b) 9)) = ladN (clN b) (plN (ladN (clN a) 9)) ∧ ladN (clN a) (plN (ladN (clN b) 9)) ≠ 0 := by
  have l1 := ladN_lt (clN a) 9
  have l2 := ladN_lt (clN b) 9
  have h1 := lad_times (clN a) (clN b) _ (clN_range a).2 (clN_ell b) l2 (lad_base _ (clN_range b).2)
  have h2 := lad_times (clN b) (clN a) _ (clN_range b).2 (clN_ell a) l1 (lad_base _ (clN_range a).2)
  rw [plN_same l1, plN_same l2]
  refine ⟨F_inj (ladN_lt _ _) (ladN_lt _ _) (by rw [h1, h2, Nat.mul_comm]), ?_⟩
  exact u_ne _ _ (ell_mul (clN_ell b) (clN_ell a)) (ladN_lt _ _) h1
theorem chain3 (a b c : Nat) : F (ladN (clN a) (plN (ladN (clN b) (plN (ladN (clN c) 9))))) = uOf (times ok (clN c * clN b * clN a) bb) := by
  have l1 := ladN_lt (clN c) 9
  have l2 := ladN_lt (clN b) (ladN (clN c) 9)
  rw [plN_same l1, plN_same l2]
  exact lad_times _ _ _ (clN_range a).2 (ell_mul (clN_ell c) (clN_ell b)) l2 (lad_times _ _ _ (clN_range b).2 (clN_ell c) l1 (lad_base _ (clN_range c).2))
theorem perm_a (x y z : Nat) : x * y * z = z * x * y := by simp only [Nat.mul_comm, Nat.mul_left_comm]
theorem perm_b (x y z : Nat) : x * y * z = y * z * x := by simp only [Nat.mul_comm, Nat.mul_left_comm]
theorem chains (a b c : Nat) : ladN (clN a) (plN (ladN (clN b) (plN (ladN (clN c) 9)))) = ladN (clN b) (plN (ladN (clN c) (plN (ladN (clN a) 9)))) ∧
    ladN (clN a) (plN (ladN (clN b) (plN (ladN (clN c) 9)))) = ladN (clN c) (plN (ladN (clN a) (plN (ladN (clN b) 9)))) := by
  refine ⟨F_inj (ladN_lt _ _) (ladN_lt _ _) ?_, F_inj (ladN_lt _ _) (ladN_lt _ _) ?_⟩
  · rw [chain3, chain3, perm_a]
  · rw [chain3, chain3, perm_b]
end Go.Proofs.Ytgdhlafggdaipaa
