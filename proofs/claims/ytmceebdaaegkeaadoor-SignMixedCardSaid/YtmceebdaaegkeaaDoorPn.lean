/- Contracts by points: what a law's walk takes (Mul, Base, Zero, Neg, Add); the reference's order. -/
import Derived.Test.YtmceebdaaegkeaaDoorPk
import Derived.Test.YtmceebdaaegkeaaDoorPj
import Derived.Test.YtmceebdaaegkeaaDoorCi
import Derived.Deep.MidRow
namespace Go.Proofs.YtmceebdaaegkeaaDoor
open Go.RowKit Ed

theorem mul_p (N : Nat) (p : P4) (P : Pt dd) (hN : N < p256) (hp : p.Is P) (w : World) (GD : Rng w 5 (Iv .u8 (keyOf dN))) :
    Calls Tryd.prog 25 #[Key (keyOf N), PV p] w fun e w' => ∃ q : P4, e = .returned (PV q) ∧ q.Is (times ok N P) ∧ Below w.heap.size w w' := by
  refine (cmul N p hN hp.ok w GD).mono ?_
  rintro e w' ⟨rfl, b⟩
  have h := pmul_is N (by rw [show (2 ^ 256 : Nat) = p256 by decide +kernel]; exact hN) hp 256 (Nat.le_refl _)
  rw [Nat.sub_self, Nat.pow_zero, Nat.div_one] at h
  exact ⟨_, rfl, h, b⟩
theorem base_p (w : World) (GX : Rng w 3 (Iv .u8 (keyOf bxN))) (GY : Rng w 4 (Iv .u8 (keyOf byN))) :
    Calls Tryd.prog 30 #[] w fun e w' => ∃ q : P4, e = .returned (PV q) ∧ q.Is bb ∧ Below w.heap.size w w' := by
  refine (cbase_v w GX GY).mono ?_
  rintro e w' ⟨rfl, b⟩
  exact ⟨_, rfl, pbase_is, b⟩
theorem zero_p (w : World) : Calls Tryd.prog 51 #[] w fun e w' => ∃ q : P4, e = .returned (PV q) ∧ q.Is (zero dd) ∧ Below w.heap.size w w' := by
  refine (czero_v w).mono ?_
  rintro e w' ⟨rfl, b⟩
  exact ⟨_, rfl, pzero_is, b⟩
theorem neg_p (p : P4) (P : Pt dd) (hp : p.Is P) (w : World) : Calls Tryd.prog 27 #[PV p] w fun e w' => ∃ q : P4, e = .returned (PV q) ∧ q.Is (neg P) ∧ Below w.heap.size w w' := by
  refine (cneg p hp.ok w).mono ?_
  rintro e w' ⟨rfl, b⟩
  exact ⟨_, rfl, pneg_is hp, b⟩
theorem add0_p (w : World) (GD : Rng w 5 (Iv .u8 (keyOf dN))) : Calls Tryd.prog 26 #[.slice none 0 0] w fun e w' => ∃ q : P4, e = .returned (PV q) ∧ q.Is (zero dd) ∧ Below w.heap.size w w' := by
  refine (cadd_nil w GD).mono ?_
  rintro e w' ⟨rfl, b⟩
  exact ⟨_, rfl, pzero_is, b⟩
theorem add1_p (p : P4) (P : Pt dd) (hp : p.Is P) (g : Nat) (w : World) (hg : Blk w g 41 (Pl [p])) (GD : Rng w 5 (Iv .u8 (keyOf dN))) :
    Calls Tryd.prog 26 #[.slice (some ⟨g, 0, none⟩) 1 1] w fun e w' => ∃ q : P4, e = .returned (PV q) ∧ q.Is P ∧ Below w.heap.size w w' := by
  refine (cadd [p] (fun q hq => by rw [List.mem_singleton.1 hq]; exact hp.ok) 1 g rfl (by decide) w hg GD).mono ?_
  rintro e w' ⟨rfl, b⟩
  have h := padd_is pzero_is hp
  rw [Ed.zero_add] at h
  exact ⟨_, rfl, h, b⟩
theorem add2_p (p q : P4) (P Q : Pt dd) (hp : p.Is P) (hq : q.Is Q) (g : Nat) (w : World) (hg : Blk w g 41 (Pl [p, q])) (GD : Rng w 5 (Iv .u8 (keyOf dN))) :
    Calls Tryd.prog 26 #[.slice (some ⟨g, 0, none⟩) 2 2] w fun e w' => ∃ s : P4, e = .returned (PV s) ∧ s.Is (add ok P Q) ∧ Below w.heap.size w w' := by
  refine (cadd [p, q] (fun r hr => by
    rcases List.mem_cons.1 hr with rfl | hr
    · exact hp.ok
    · rw [List.mem_singleton.1 hr]; exact hq.ok) 2 g rfl (by decide) w hg GD).mono ?_
  rintro e w' ⟨rfl, b⟩
  have h := padd_is (padd_is pzero_is hp) hq
  rw [Ed.zero_add] at h
  exact ⟨_, rfl, h, b⟩
theorem add3_p (p q r : P4) (P Q R : Pt dd) (hp : p.Is P) (hq : q.Is Q) (hr : r.Is R) (g : Nat) (w : World) (hg : Blk w g 41 (Pl [p, q, r])) (GD : Rng w 5 (Iv .u8 (keyOf dN))) :
    Calls Tryd.prog 26 #[.slice (some ⟨g, 0, none⟩) 3 3] w fun e w' => ∃ s : P4, e = .returned (PV s) ∧ s.Is (add ok (add ok P Q) R) ∧ Below w.heap.size w w' := by
  refine (cadd [p, q, r] (fun x hx => by
    rcases List.mem_cons.1 hx with rfl | hx
    · exact hp.ok
    · rcases List.mem_cons.1 hx with rfl | hx
      · exact hq.ok
      · rw [List.mem_singleton.1 hx]; exact hr.ok) 3 g rfl (by decide) w hg GD).mono ?_
  rintro e w' ⟨rfl, b⟩
  have h := padd_is (padd_is (padd_is pzero_is hp) hq) hr
  rw [Ed.zero_add] at h
  exact ⟨_, rfl, h, b⟩

/-! The order. -/
theorem ell_digits : ((List.range 16).map fun i => ((dAt ell i : Nat) : Int)) = [54253, 23797, 25370, 22546, 40150, 41719, 63966, 5342, 0, 0, 0, 0, 0, 0, 0, 4096] := by decide +kernel
theorem ell_256 : ell < 65536 ^ 16 := by decide +kernel
theorem ell_lt : ell < p256 := by decide +kernel
theorem dAt_high (v : Nat) (hv : v < 65536 ^ 16) (i : Nat) (h : 16 ≤ i) : dAt v i = 0 := by
  have : v < 65536 ^ i := Nat.lt_of_lt_of_le hv (Nat.pow_le_pow_right (by decide) h)
  unfold dAt
  rw [Nat.div_eq_of_lt this]
theorem rl_any (w : World) : Calls Tryd.prog 19 #[] w (RetSl w 16 (dAt ell)) := by
  go_enter Tryd.func19, Tryd.ntmps19
  go_wp2
  go_ret
  refine ⟨w.heap.size, 16, rfl, Sl.of_blk (t := 71) ?_ (dAt_lt ell) (dAt_high ell ell_256), Nat.le_refl _, ?_⟩
  · rw [ell_digits]
    exact Blk.new _ _ _
  · exact (Below.refl _ _).alloc (Nat.le_refl _) _
theorem rl_v (w : World) : Calls Tryd.prog 19 #[] w (RetL w ell) :=
  retL_ofSl (rl_any w) (by rw [d_num, Nat.mod_eq_of_lt ell_256]) (by decide)

end Go.Proofs.YtmceebdaaegkeaaDoor
/- Contracts on points by letters; Awake (printed by gencurve.py). -/
namespace Go.Proofs.YtmceebdaaegkeaaDoor
open Go.RowKit

open Ed
theorem pmul_is256 (N : Nat) (hN : N < p256) {p : P4} {P : Pt dd} (hp : p.Is P) : (pmul N p 256).Is (times ok N P) := by
  have h := pmul_is N (by rw [show (2 ^ 256 : Nat) = p256 by decide +kernel]; exact hN) hp 256 (Nat.le_refl _)
  rw [Nat.sub_self, Nat.pow_zero, Nat.div_one] at h
  exact h
theorem psum1 {p : P4} {P : Pt dd} (hp : p.Is P) : (psum [p]).Is P := by
  have h := padd_is pzero_is hp
  rw [Ed.zero_add] at h
  exact h
theorem psum2 {p q : P4} {P Q : Pt dd} (hp : p.Is P) (hq : q.Is Q) : (psum [p, q]).Is (add ok P Q) := by
  have h := padd_is (padd_is pzero_is hp) hq
  rw [Ed.zero_add] at h
  exact h
theorem psum3 {p q r : P4} {P Q R : Pt dd} (hp : p.Is P) (hq : q.Is Q) (hr : r.Is R) : (psum [p, q, r]).Is (add ok (add ok P Q) R) := by
  have h := padd_is (padd_is (padd_is pzero_is hp) hq) hr
  rw [Ed.zero_add] at h
  exact h
theorem mul_d (N : Nat) (p q : P4) (hN : N < p256) (hp : p.Ok) (hq : q = pmul N p 256) (w : World) (GD : Rng w 5 (Iv .u8 (keyOf dN))) :
    Calls Tryd.prog 25 #[Key (keyOf N), PV p] w fun e w' => e = .returned (PV q) ∧ Below w.heap.size w w' := hq ▸ cmul N p hN hp w GD
theorem neg_d (p q : P4) (hp : p.Ok) (hq : q = pneg p) (w : World) : Calls Tryd.prog 27 #[PV p] w fun e w' => e = .returned (PV q) ∧ Below w.heap.size w w' := hq ▸ cneg p hp w
theorem add_d1 (p s : P4) (hp : p.Ok) (g : Nat) (w : World) (hg : Blk w g 41 (Pl [p])) (GD : Rng w 5 (Iv .u8 (keyOf dN))) (hs : s = psum [p]) :
    Calls Tryd.prog 26 #[.slice (some ⟨g, 0, none⟩) 1 1] w fun e w' => e = .returned (PV s) ∧ Below w.heap.size w w' :=
  hs ▸ cadd [p] (fun q hq => by rw [List.mem_singleton.1 hq]; exact hp) 1 g rfl (by decide) w hg GD
theorem add_d2 (p q s : P4) (hp : p.Ok) (hq : q.Ok) (g : Nat) (w : World) (hg : Blk w g 41 (Pl [p, q])) (GD : Rng w 5 (Iv .u8 (keyOf dN))) (hs : s = psum [p, q]) :
    Calls Tryd.prog 26 #[.slice (some ⟨g, 0, none⟩) 2 2] w fun e w' => e = .returned (PV s) ∧ Below w.heap.size w w' :=
  hs ▸ cadd [p, q] (fun r hr => by
    rcases List.mem_cons.1 hr with rfl | hr
    · exact hp
    · rw [List.mem_singleton.1 hr]; exact hq) 2 g rfl (by decide) w hg GD
theorem add_d3 (p q r s : P4) (hp : p.Ok) (hq : q.Ok) (hr : r.Ok) (g : Nat) (w : World) (hg : Blk w g 41 (Pl [p, q, r])) (GD : Rng w 5 (Iv .u8 (keyOf dN))) (hs : s = psum [p, q, r]) :
    Calls Tryd.prog 26 #[.slice (some ⟨g, 0, none⟩) 3 3] w fun e w' => e = .returned (PV s) ∧ Below w.heap.size w w' :=
  hs ▸ cadd [p, q, r] (fun x hx => by
    rcases List.mem_cons.1 hx with rfl | hx
    · exact hp
    · rcases List.mem_cons.1 hx with rfl | hx
      · exact hq
      · rw [List.mem_singleton.1 hx]; exact hr) 3 g rfl (by decide) w hg GD
theorem text_base : byN = textN bb := by decide +kernel
theorem text_zero : 1 = textN (zero dd) := by decide +kernel
end Go.Proofs.YtmceebdaaegkeaaDoor
/- The mathematics of a signature: the second half is known by the point's equation. -/
namespace Go.Proofs.YtmceebdaaegkeaaDoor
open Go.RowKit Ed

theorem times_mod (m : Nat) : times ok (m % ell) bb = times ok m bb := by
  have h := times_plus ok (m % ell) bb (ell * (m / ell))
  rw [Nat.mod_add_div] at h
  rw [h, times_dvd bb ell (ell * (m / ell)) (Nat.dvd_mul_right _ _) times_ell, add_zero]
theorem bb_inj_le (a b : Nat) (hab : a ≤ b) (hb : b < ell) (h : times ok a bb = times ok b bb) : a = b := by
  have h1 := times_inj bb a b hab h
  have h2 : ell ∣ b - a := Decidable.byContradiction fun hn => times_ne (b - a) hn h1
  have h3 := Nat.eq_zero_of_dvd_of_lt h2 (by omega)
  omega
theorem bb_inj (a b : Nat) (ha : a < ell) (hb : b < ell) (h : times ok a bb = times ok b bb) : a = b := by
  rcases Nat.le_total a b with hab | hab
  · exact bb_inj_le a b hab hb h
  · exact (bb_inj_le b a hab ha h.symm).symm
theorem add_neg_r (X Y : Pt dd) : add ok (add ok X (neg Y)) Y = X := by
  rw [add_assoc, add_comm ok (neg Y) Y, add_neg, add_zero]
theorem add_r_neg (X Y : Pt dd) : add ok (add ok X Y) (neg Y) = X := by
  rw [add_assoc, add_neg, add_zero]
theorem sign_math (S r k a : Nat) (hS : S < ell) :
    textN (add ok (times ok S bb) (neg (times ok k (times ok a bb)))) = textN (times ok r bb) ↔ S = (k * a + r) % ell := by
  have e1 : times ok k (times ok a bb) = times ok (k * a) bb := by rw [Nat.mul_comm, times_times]
  have e2 : add ok (times ok r bb) (times ok (k * a) bb) = times ok ((k * a + r) % ell) bb := by
    rw [times_mod, Nat.add_comm, times_plus]
  constructor
  · intro h
    have h1 := textN_inj _ _ h
    have h2 := add_neg_r (times ok S bb) (times ok k (times ok a bb))
    rw [h1, e1, e2] at h2
    exact (bb_inj _ _ (Nat.mod_lt _ (by decide)) hS h2).symm
  · intro h
    have h2 := add_r_neg (times ok r bb) (times ok (k * a) bb)
    rw [e2, ← h, ← e1] at h2
    rw [h2]

end Go.Proofs.YtmceebdaaegkeaaDoor
/- Clamp: its contract, by number. -/
namespace Go.Proofs.YtmceebdaaegkeaaDoor
open Go.RowKit

/-- A secret's bytes as they are used. -/
def clF (f : Nat → Nat) (i : Nat) : Nat := if i = 0 then f 0 / 8 * 8 else if i = 31 then f 31 % 64 + 64 else f i
def clL (l : List Int) (f : Nat → Nat) : List Int := (l.set 0 ((f 0 / 8 * 8 : Nat) : Int)).set 31 ((f 31 % 64 + 64 : Nat) : Int)
theorem clL_bytes {l : List Int} {f : Nat → Nat} (hl : Bytes32 l f) : Bytes32 (clL l f) (clF f) := by
  refine ⟨by simp [clL, hl.len], fun i h => ?_, fun i => ?_⟩
  · have h32 : 31 < l.length := by rw [hl.len]; decide
    have h0 : 0 < l.length := by rw [hl.len]; decide
    unfold clF clL
    by_cases e : i = 0
    · subst e
      simp [List.getD, h0]
    · by_cases e2 : i = 31
      · subst e2
        simp [List.getD, h32]
      · rw [if_neg e, if_neg e2, ← hl.get i h]
        simp [List.getD, show ¬ 31 = i from fun x => e2 x.symm, show ¬ 0 = i from fun x => e x.symm]
  · unfold clF
    have := hl.lt i
    have := hl.lt 0
    have := hl.lt 31
    split
    · omega
    · split <;> omega
theorem byte_248 : ∀ n : Fin 256, bits .and .u8 (n.val : Int) 248 = ((n.val / 8 * 8 : Nat) : Int) := by decide +kernel
theorem byte_127_64 : ∀ n : Fin 256, bits .or .u8 (bits .and .u8 (n.val : Int) 127) 64 = ((n.val % 64 + 64 : Nat) : Int) := by decide +kernel

set_option maxHeartbeats 2000000 in
set_option maxRecDepth 100000 in
theorem clamp_any (l : List Int) (f : Nat → Nat) (hl : Bytes32 l f) (w : World) :
    Calls Tryd.prog 29 #[Key l] w fun e w' => e = .returned (Key (clL l f)) ∧ Below w.heap.size w w' := by
  have l0 := hl.lt 0
  have l31 := hl.lt 31
  have lc := (clL_bytes hl).len
  obtain ⟨v0, h0⟩ : ∃ v : Nat, v = f 0 / 8 * 8 := ⟨_, rfl⟩
  obtain ⟨v1, h1⟩ : ∃ v : Nat, v = f 31 % 64 + 64 := ⟨_, rfl⟩
  have e0 := byte_248 ⟨f 0, l0⟩
  simp only [← h0] at e0
  have e1 := byte_127_64 ⟨f 31, l31⟩
  simp only [← h1] at e1
  unfold clL at lc ⊢
  unfold Key
  rw [← h0, ← h1] at lc ⊢
  clear h0 h1
  go_enter Tryd.func29, Tryd.ntmps29
  go_upto_region 1 with fail
  generalize hW : World.alloc (World.alloc w _) _ = W
  have B0 : Below w.heap.size w W := hW ▸ ((Below.refl w.heap.size w).alloc (Nat.le_refl _) _).alloc (by simp) _
  have K0 : Blk W w.heap.size 23 (Iv .u8 l) := hW ▸ (Blk.new w _ _).alloc _
  have R0 : Blk W (w.heap.size + 1) 23 (Iv .u8 (List.replicate 32 0)) := hW ▸ Blk.new' (by simp) _ _
  clear hW
  have c0 : W.cell? ⟨w.heap.size, 0, none⟩ = some (.int .u8 ((f 0 : Nat) : Int)) := by
    rw [K0.cell, Iv_get _ _ _ (by rw [hl.len]; decide), hl.get 0 (by decide)]
  have f0 := K0.frozen 0
  go_upto_region 2 with fail
  have K1 := K0.set 0 (.int .u8 (v0 : Int))
  rw [Iv_set] at K1
  have R1 : Blk _ _ _ _ := R0.far (p := ⟨w.heap.size, 0, none⟩) (by simp) (.int .u8 (v0 : Int))
  have B1 := B0.setCell (p := ⟨w.heap.size, 0, none⟩) (Nat.le_refl _) (.int .u8 (v0 : Int))
  generalize W.setCell _ _ = V at *
  clear K0 R0 B0 c0 f0 e0
  have c1 : V.cell? ⟨w.heap.size, 31, none⟩ = some (.int .u8 ((f 31 : Nat) : Int)) := by
    rw [K1.cell, Iv_get _ _ _ (by rw [List.length_set, hl.len]; decide), ← hl.get 31 (by decide)]
    simp [List.getD]
  have f1 := K1.frozen 31
  go_upto_region 3 with fail
  have K2 := K1.set 31 (.int .u8 (v1 : Int))
  rw [Iv_set] at K2
  have R2 : Blk _ _ _ _ := R1.far (p := ⟨w.heap.size, 31, none⟩) (by simp) (.int .u8 (v1 : Int))
  have B2 := B1.setCell (p := ⟨w.heap.size, 31, none⟩) (Nat.le_refl _) (.int .u8 (v1 : Int))
  generalize V.setCell _ _ = U at *
  clear K1 R1 B1 c1 f1 e1
  go_wp2_with (first | (refine wpList_load_row rfl 23 _ rfl w.heap.size rfl 23 _ (0, 0) _ K2 Tryd.underlying23 rfl (info_key _ lc) ?_) | (refine wpList_store_row rfl 23 _ _ rfl (w.heap.size + 1) (Iv .u8 ((l.set 0 (v0 : Int)).set 31 (v1 : Int))) rfl rfl 23 _ R2 (info_key _ lc) (by rw [Iv_size, Iv_size, lc]; rfl) (Iv_one _ _) ?_))
  exact bodyPost_ret (results_cell_row rfl _ _ _ 23 _ (0, 0) _ rfl (R2.row _) Tryd.underlying23 rfl (info_key _ lc)) rfl ⟨rfl, below_setRow B2 (by omega) _⟩

/-- A secret as it is used, as a number. -/
def clN (n : Nat) : Nat := leTo (clF (byteAt n)) 32
theorem clF_lt {f : Nat → Nat} (hf : ∀ i, f i < 256) (i : Nat) : clF f i < 256 := by
  have := hf i
  have := hf 0
  have := hf 31
  unfold clF
  split
  · omega
  · split <;> omega
theorem clN_lt (n : Nat) : clN n < p256 := leTo_lt256 (clF_lt fun i => Nat.mod_lt _ (by decide))
theorem clamp_n (A : Nat) (w : World) : Calls Tryd.prog 29 #[Key (keyOf A)] w fun e w' => e = .returned (Key (keyOf (clN A))) ∧ Below w.heap.size w w' := by
  have h := clamp_any _ _ (keyOf_bytes A) w
  rw [key_of_bytes (clL_bytes (keyOf_bytes A))] at h
  exact h

end Go.Proofs.YtmceebdaaegkeaaDoor
