/- The contract of field.Power: to the power that 32 bytes say. The contract of field.Invert: to the power 2^255 - 21. The contract of Awake: the chapter's examples hold. An operation taken first, handed over as the list of the region's operations writes it. The document's long numbers (package of the reference): how one lies in memory; the contract of part, Num. Contracts of the reference's Less, Minus, Sum. -/
import Derived.Test.YtegbnadnodlalaaGreatDoorGFj0Lc
import Derived.Deep.RegionHeld3
namespace Go.Proofs.YtegbnadnodlalaaGreatDoor
open Go.RowKit
/-- a to the power e, modulo the prime. -/
def mpow (a e : Nat) : Nat := a ^ e % pp
theorem mpow_zero (a : Nat) : mpow a 0 = 1 := by
 unfold mpow
 rw [Nat.pow_zero, pp_eq]
theorem mpow_lt (a e : Nat) : mpow a e < pp := Nat.mod_lt _ pp_pos
theorem mpow_double (a e : Nat) : mpow a e * mpow a e % pp = mpow a (2 * e) := by
 unfold mpow
 rw [← Nat.mul_mod, ← Nat.pow_add]
 congr 2
 omega
theorem mpow_succ (a e : Nat) (ha : a < pp) : mpow a e * a % pp = mpow a (e + 1) := by
 unfold mpow
 rw [Nat.pow_succ, Nat.mul_mod (a ^ e) a, Nat.mod_eq_of_lt ha, Nat.mod_mul_mod]
theorem leTo_byte (f : Nat → Nat) (hf : ∀ i, f i < 256) : ∀ n i, i < n → leTo f n / 256 ^ i % 256 = f i
 | 0, i, h => by omega
 | n + 1, i, h => by
  by_cases hi : i < n
  ·
   have ih := leTo_byte f hf n i hi
   have e : f n * 256 ^ n = 256 ^ i * (256 * (f n * 256 ^ (n - i - 1))) := by
    have : (256 : Nat) ^ n = 256 ^ i * (256 * 256 ^ (n - i - 1)) := by
     rw [← Nat.pow_succ', ← Nat.pow_add]
     congr 1
     omega
    rw [this, Nat.mul_left_comm (f n), Nat.mul_left_comm (f n)]
   simp only [leTo]
   rw [e, Nat.add_mul_div_left _ _ (Nat.pow_pos (by decide)), Nat.add_mul_mod_self_left]
   exact ih
  ·
   have hin : i = n := by omega
   subst hin
   have h1 := leTo_lt f hf i
   simp only [leTo]
   rw [Nat.add_mul_div_right _ _ (Nat.pow_pos (by decide)), Nat.div_eq_of_lt h1, Nat.zero_add, Nat.mod_eq_of_lt (hf i)]
theorem leTo_bit (f : Nat → Nat) (hf : ∀ i, f i < 256) (n j : Nat) (h : j / 8 < n) : f (j / 8) / 2 ^ (j % 8) % 2 = leTo f n / 2 ^ j % 2 := by
 rw [← leTo_byte f hf n (j / 8) h]
 have e : (256 : Nat) = 2 ^ (j % 8) * 2 ^ (8 - j % 8) := by
  rw [← Nat.pow_add, show j % 8 + (8 - j % 8) = 8 by omega]
 have d : (2 : Nat) ∣ 2 ^ (8 - j % 8) := by
  have := Nat.pow_dvd_pow 2 (show 1 ≤ 8 - j % 8 by omega)
  simpa using this
 have h8 : (256 : Nat) ^ (j / 8) = 2 ^ (8 * (j / 8)) := by rw [Nat.pow_mul]
 rw [h8]
 conv => lhs; rw [e]
 rw [Nat.mod_mul_right_div_self, Nat.mod_mod_of_dvd _ d, Nat.div_div_eq_div_mul, ← Nat.pow_add]
 congr 3
 omega
/-- The next power. -/
theorem mpow_step (a v k : Nat) (ha : a < pp) (hk : k < 256) :
  swapped (v / 2 ^ (255 - k)) (mpow a (v / 2 ^ (256 - k)) * mpow a (v / 2 ^ (256 - k)) % pp) (mpow a (v / 2 ^ (256 - k)) * mpow a (v / 2 ^ (256 - k)) % pp * a % pp) = mpow a (v / 2 ^ (256 - (k + 1))) := by
 have e : 2 ^ (256 - k) = 2 ^ (255 - k) * 2 := by rw [← Nat.pow_succ]; congr 1; omega
 have h2 : v / 2 ^ (256 - k) = v / 2 ^ (255 - k) / 2 := by rw [e, Nat.div_div_eq_div_mul]
 have h3 : 256 - (k + 1) = 255 - k := by omega
 rw [mpow_double, mpow_succ _ _ ha, h3]
 unfold swapped
 rw [h2]
 split
 · congr 1; omega
 · congr 1; omega
theorem swapped_mod {s t : Nat} (h : s % 2 = t % 2) (a b : Nat) : swapped s a b = swapped t a b := by unfold swapped; rw [h]
structure PowW (a : Nat) (l : List Int) (f : Nat → Nat) (g : Nat) (w wr : World) (P : Nat) : Prop where
 x : Blk wr w.heap.size 83 (El_cells a)
 e : Blk wr (w.heap.size + 1) 23 (Iv .u8 l)
 r : Blk wr (w.heap.size + 1 + 1) 83 #[.int .u64 0, .int .u64 0, .int .u64 0, .int .u64 0, .int .u64 0]
 p : Blk wr g 83 (El_cells P)
 b : Below w.heap.size w wr
 g1 : w.heap.size + 1 + 1 < g
theorem PowW.below {a : Nat} {l : List Int} {f : Nat → Nat} {g : Nat} {w wr w1 : World} {P : Nat} (h : PowW a l f g w wr P) (hb : Below wr.heap.size wr w1) : PowW a l f g w w1 P :=
 ⟨h.x.below hb h.x.lt, h.e.below hb h.e.lt, h.r.below hb h.r.lt, h.p.below hb h.p.lt, h.b.trans (hb.mono h.b.size), h.g1⟩
theorem PowW.drew {a : Nat} {l : List Int} {f : Nat → Nat} {g : Nat} {w wr : World} {P : Nat} (h : PowW a l f g w wr P) : PowW a l f g w wr.drew P := ⟨h.x, h.e, h.r, h.p, below_drew h.b, h.g1⟩
theorem PowW.row {a : Nat} {l : List Int} {f : Nat → Nat} {g : Nat} {w wr : World} {P : Nat} (h : PowW a l f g w wr P) (Q : Nat) : PowW a l f g w (wr.setRow g (El_cells Q)) Q := by
 have := h.g1
 exact ⟨h.x.rowFar (by omega) _, h.e.rowFar (by omega) _, h.r.rowFar (by omega) _, h.p.row _, below_setRow h.b (by omega) _, h.g1⟩
theorem PowW.put5 {a : Nat} {l : List Int} {f : Nat → Nat} {g : Nat} {w wr : World} {P N : Nat} (h : PowW a l f g w wr P) {n0 n1 n2 n3 n4 : Int} (hn : El_cells N = #[.int .u64 n0, .int .u64 n1, .int .u64 n2, .int .u64 n3, .int .u64 n4]) :
  PowW a l f g w (World.set5 wr g (.int .u64 n0) (.int .u64 n1) (.int .u64 n2) (.int .u64 n3) (.int .u64 n4)) N := by
 have hg := h.g1
 refine ⟨h.x.far5 (by omega) _ _ _ _ _, h.e.far5 (by omega) _ _ _ _ _, h.r.far5 (by omega) _ _ _ _ _, ?_, below_set5 h.b (by omega) _ _ _ _ _, h.g1⟩
 rw [hn]
 have hp := h.p
 unfold El_cells at hp
 exact hp.set5 _ _ _ _ _
set_option maxHeartbeats 4000000 in
set_option maxRecDepth 100000 in
theorem power_any (a : Nat) (l : List Int) (f : Nat → Nat) (hl : Bytes32 l f) (w : World) (ha : a < pp) :
  Calls Tryz.prog 84 #[El a, Key l] w fun e w' => e = .returned (El (mpow a (leTo f 32))) ∧ Below w.heap.size w w' := by
 unfold El Key
 go_enter Tryz.func84, Tryz.ntmps84
 go_wp2_with fail
 refine (small_any 1 _ (by decide)).mono ?_
 rintro e w1 ⟨rfl, hb⟩
 have X1 : Blk w1 w.heap.size 83 (El_cells a) := Blk.below (((Blk.new w _ _).alloc _).alloc _) hb (by simp; omega)
 have E1 : Blk w1 (w.heap.size + 1) 23 (Iv .u8 l) := Blk.below ((Blk.new' (by simp) _ _).alloc _) hb (by simp)
 have R1 : Blk w1 (w.heap.size + 1 + 1) 83 #[.int .u64 0, .int .u64 0, .int .u64 0, .int .u64 0, .int .u64 0] := Blk.below (Blk.new' (by simp) _ _) hb (by simp)
 have B1 : Below w.heap.size w w1 := ((((Below.refl w.heap.size w).alloc (Nat.le_refl _) _).alloc (by simp) _).alloc (by simp; omega) _).trans (hb.mono (by simp; omega))
 have hg : w.heap.size + 1 + 1 < w1.heap.size := R1.lt
 clear hb
 unfold El
 go_wp2_with (refine wpList_store_row rfl 83 _ _ rfl w1.heap.size (El_cells 1) rfl rfl 83 _ (Blk.new w1 _ _) (info_El _) rfl (El_one _) ?_)
 generalize hW : World.setRow _ w1.heap.size (El_cells 1) = W
 have F0 : PowW a l f w1.heap.size w W (mpow a (leTo f 32 / 2 ^ (256 - 0))) := by
  have h0 : leTo f 32 / 2 ^ (256 - 0) = 0 := Nat.div_eq_of_lt (by have := leTo_lt f hl.lt 32; simpa using this)
  rw [h0, mpow_zero]
  subst hW
  exact ⟨(X1.alloc _).rowFar (by omega) _, (E1.alloc _).rowFar (by omega) _, (R1.alloc _).rowFar (by omega) _, (Blk.new w1 _ _).row _, below_setRow (B1.alloc B1.size _) B1.size _, hg⟩
 generalize w1.heap.size = g at *
 clear hW X1 E1 R1 B1 hg
 go_loopw [9] (fun i wr => ∃ k : Nat, k ≤ 256 ∧ i = .int .i64 k ∧ PowW a l f g w wr (mpow a (leTo f 32 / 2 ^ (256 - k)))) (fun i _ => 256 - (intOf i).toNat)
 case atStart => exact ⟨0, by omega, rfl, F0⟩
 case round =>
  obtain ⟨k, hk, rfl, F⟩ := hrel
  clear F0
  by_cases hlt : k < 256
  ·
   obtain ⟨P, hP⟩ : ∃ P, P = mpow a (leTo f 32 / 2 ^ (256 - k)) := ⟨_, rfl⟩
   have hstep := mpow_step a (leTo f 32) k ha hlt
   rw [← hP] at F hstep
   have hPlt : P < pp := hP ▸ mpow_lt _ _
   clear hP
   obtain ⟨N, hN⟩ : ∃ N, N = mpow a (leTo f 32 / 2 ^ (256 - (k + 1))) := ⟨_, rfl⟩
   rw [← hN] at hstep
   have HN := Lib.hid hN
   have HS := Lib.hid hstep
   clear hN hstep
   obtain ⟨j, hj⟩ : ∃ j, j = 255 - k := ⟨_, rfl⟩
   have i0 : (255 : Int) - (k : Int) = (j : Int) := by omega
   have HJ := Lib.hid hj
   clear hj
   have HP := F.p
   go_wp2_with (refine wpList_load_row rfl 83 _ rfl g rfl 83 _ (0, 0) _ HP Tryz.underlying83 rfl (info_El _) ?_)
   refine (mul_any P P _ hPlt hPlt).mono ?_
   rintro e w2 ⟨rfl, hb2⟩
   have F2 := F.below hb2
   have HP2 := F2.p
   clear hb2 HP F
   obtain ⟨P2, hP2⟩ : ∃ q, q = P * P % pp := ⟨_, rfl⟩
   have HP2e := Lib.hid hP2
   unfold El
   rw [← hP2]
   clear hP2
   go_wp2_with (refine wpList_store_row rfl 83 _ _ rfl g (El_cells P2) rfl rfl 83 _ HP2 (info_El _) rfl (El_one _) ?_)
   have F3 := F2.row P2
   clear F2 HP2
   generalize World.setRow w2 g (El_cells P2) = V at F3 ⊢
   have hP2lt : P2 < pp := by rw [HP2e.out]; exact Nat.mod_lt _ pp_pos
   obtain ⟨M, hMe⟩ : ∃ q, q = P2 * a % pp := ⟨_, rfl⟩
   have hMlt : M < pp := by rw [hMe]; exact Nat.mod_lt _ pp_pos
   have hj256 : j < 256 := by have := HJ.out; omega
   have hbyte := hl.lt (j / 8)
   have hslt : f (j / 8) / 2 ^ (j % 8) < 18446744073709551616 := Nat.lt_of_le_of_lt (Nat.div_le_self _ _) (by omega)
   have hN2 : swapped (f (j / 8) / 2 ^ (j % 8)) P2 M = N := by
    rw [swapped_mod (leTo_bit f hl.lt 32 j (by omega)), hMe, HP2e.out, HJ.out]
    exact HS.out
   have cM := fun W => mul_any P2 a W hP2lt ha
   have cS := fun W => swap_any (f (j / 8) / 2 ^ (j % 8)) P2 M W hslt hP2lt hMlt
   rw [← hMe] at cM
   rw [hN2] at cS
   generalize swapped (f (j / 8) / 2 ^ (j % 8)) M P2 = R at cS
   have hsc : ((f (j / 8) / 2 ^ (j % 8) : Nat) : Int) = ((f (j / 8) : Nat) : Int) / 2 ^ (j % 8) := by
    rw [Int.natCast_ediv, Int.natCast_pow]
    rfl
   rw [hsc] at cS
   obtain ⟨gx, ge, gr, gp, gB, gg⟩ := F3
   have H3 : Hid (PowW a l f g w V P2) := Lib.hid ⟨gx, ge, gr, gp, gB, gg⟩
   obtain ⟨x0, x1, x2, x3, x4, ex⟩ : ∃ x0 x1 x2 x3 x4 : Int, El_cells a = #[.int .u64 x0, .int .u64 x1, .int .u64 x2, .int .u64 x3, .int .u64 x4] := ⟨_, _, _, _, _, rfl⟩
   obtain ⟨p0, p1, p2, p3, p4, ep⟩ : ∃ x0 x1 x2 x3 x4 : Int, El_cells P2 = #[.int .u64 x0, .int .u64 x1, .int .u64 x2, .int .u64 x3, .int .u64 x4] := ⟨_, _, _, _, _, rfl⟩
   obtain ⟨m0, m1, m2, m3, m4, em⟩ : ∃ x0 x1 x2 x3 x4 : Int, El_cells M = #[.int .u64 x0, .int .u64 x1, .int .u64 x2, .int .u64 x3, .int .u64 x4] := ⟨_, _, _, _, _, rfl⟩
   obtain ⟨n0, n1, n2, n3, n4, en⟩ : ∃ x0 x1 x2 x3 x4 : Int, El_cells N = #[.int .u64 x0, .int .u64 x1, .int .u64 x2, .int .u64 x3, .int .u64 x4] := ⟨_, _, _, _, _, rfl⟩
   obtain ⟨o0, o1, o2, o3, o4, eo⟩ : ∃ x0 x1 x2 x3 x4 : Int, El_cells R = #[.int .u64 x0, .int .u64 x1, .int .u64 x2, .int .u64 x3, .int .u64 x4] := ⟨_, _, _, _, _, rfl⟩
   simp only [El, ex, ep, em, en, eo] at cM cS
   rw [ex] at gx
   rw [ep] at gp
   obtain ⟨cx0, cx1, cx2, cx3, cx4⟩ := gx.five
   obtain ⟨cp0, cp1, cp2, cp3, cp4⟩ := gp.five
   have ce : V.cell? ⟨w.heap.size + 1, j / 8, none⟩ = some (.int .u8 ((f (j / 8) : Nat) : Int)) := by
    rw [ge.cell, Iv_get _ _ _ (by rw [hl.len]; omega), hl.get (j / 8) (by omega)]
   have sx := gx.lt
   have se := ge.lt
   have sp := gp.lt
   have fp := gp.frozen
   have fp0 := fp 0; have fp1 := fp 1; have fp2 := fp 2; have fp3 := fp 3; have fp4 := fp 4
   have CM := Lib.hid cM
   have CS := Lib.hid cS
   have EN := Lib.hid en
   have j3 : IntKind.u64.wrap (((f (j / 8) : Nat) : Int) / 2 ^ (j % 8)) = ((f (j / 8) : Nat) : Int) / 2 ^ (j % 8) := by rw [← hsc, wraps_u64 _ (Int.natCast_nonneg _) (by omega)]
   clear cM cS en ex ep em eo gx ge gr gp gB gg fp hN2 hMe hsc
   have i1 : (0 : Int) ≤ (j : Int) := by omega
   have i2 : (j : Int) < 256 := by omega
   have i3 : (0 : Int) ≤ (j : Int) / 8 := by omega
   have i4 : (j : Int) / 8 < 32 := by omega
   have i5 : ((j : Int) / 8).toNat = j / 8 := by omega
   have i6 : IntKind.i64.wrap ((j : Int) / 8) = (j : Int) / 8 := by rw [IntKind.wrap_i64]; omega
   have i7 : IntKind.i64.wrap ((j : Int) % 8) = (j : Int) % 8 := by rw [IntKind.wrap_i64]; omega
   have i8 : (0 : Int) ≤ (j : Int) % 8 := by omega
   have i9 : ((j : Int)).tmod 8 = (j : Int) % 8 := Int.tmod_eq_emod_of_nonneg i1
   have j1 : ((j : Int) % 8).toNat = j % 8 := by omega
   have j2 : min (j % 8) 8 = j % 8 := by omega
   have dcx0 : (World.drew V).cell? ⟨w.heap.size, 0, none⟩ = _ := cx0
   have dcx1 : (World.drew V).cell? ⟨w.heap.size, 1, none⟩ = _ := cx1
   have dcx2 : (World.drew V).cell? ⟨w.heap.size, 2, none⟩ = _ := cx2
   have dcx3 : (World.drew V).cell? ⟨w.heap.size, 3, none⟩ = _ := cx3
   have dcx4 : (World.drew V).cell? ⟨w.heap.size, 4, none⟩ = _ := cx4
   have dcp0 : (World.drew V).cell? ⟨g, 0, none⟩ = _ := cp0
   have dcp1 : (World.drew V).cell? ⟨g, 1, none⟩ = _ := cp1
   have dcp2 : (World.drew V).cell? ⟨g, 2, none⟩ = _ := cp2
   have dcp3 : (World.drew V).cell? ⟨g, 3, none⟩ = _ := cp3
   have dcp4 : (World.drew V).cell? ⟨g, 4, none⟩ = _ := cp4
   have dce : (World.drew V).cell? ⟨w.heap.size + 1, j / 8, none⟩ = _ := ce
   have hS0 : (fun w' => w'.cell? ⟨w.heap.size, 0, none⟩ = some (.int .u64 x0) ∧ w'.cell? ⟨w.heap.size, 1, none⟩ = some (.int .u64 x1) ∧ w'.cell? ⟨w.heap.size, 2, none⟩ = some (.int .u64 x2) ∧ w'.cell? ⟨w.heap.size, 3, none⟩ = some (.int .u64 x3) ∧ w'.cell? ⟨w.heap.size, 4, none⟩ = some (.int .u64 x4) ∧ w'.cell? ⟨g, 0, none⟩ = some (.int .u64 p0) ∧ w'.cell? ⟨g, 1, none⟩ = some (.int .u64 p1) ∧ w'.cell? ⟨g, 2, none⟩ = some (.int .u64 p2) ∧ w'.cell? ⟨g, 3, none⟩ = some (.int .u64 p3) ∧ w'.cell? ⟨g, 4, none⟩ = some (.int .u64 p4) ∧ w'.cell? ⟨w.heap.size + 1, j / 8, none⟩ = some (.int .u8 ((f (j / 8) : Nat) : Int))) (World.drew V) := ⟨dcx0, dcx1, dcx2, dcx3, dcx4, dcp0, dcp1, dcp2, dcp3, dcp4, dce⟩
   refine wp_region_noPanic ?_
   refine wp_region_Z (S := (fun w' => w'.cell? ⟨w.heap.size, 0, none⟩ = some (.int .u64 x0) ∧ w'.cell? ⟨w.heap.size, 1, none⟩ = some (.int .u64 x1) ∧ w'.cell? ⟨w.heap.size, 2, none⟩ = some (.int .u64 x2) ∧ w'.cell? ⟨w.heap.size, 3, none⟩ = some (.int .u64 x3) ∧ w'.cell? ⟨w.heap.size, 4, none⟩ = some (.int .u64 x4) ∧ w'.cell? ⟨g, 0, none⟩ = some (.int .u64 p0) ∧ w'.cell? ⟨g, 1, none⟩ = some (.int .u64 p1) ∧ w'.cell? ⟨g, 2, none⟩ = some (.int .u64 p2) ∧ w'.cell? ⟨g, 3, none⟩ = some (.int .u64 p3) ∧ w'.cell? ⟨g, 4, none⟩ = some (.int .u64 p4) ∧ w'.cell? ⟨w.heap.size + 1, j / 8, none⟩ = some (.int .u8 ((f (j / 8) : Nat) : Int)))) 16 (by kernel_rfl) ?_
   refine wpAnyZ_take (i := 0) (v := ?_) rfl (by kernel_rfl) (by kernel_rfl) (by kernel_rfl) (by kernel_rfl) (by kernel_rfl) (fun _ _ _ h => h) (Or.inl ⟨by rfl, ?_⟩) hS0 ?_
   rotate_left
   ·
    intro w' hw'
    obtain ⟨s1, s2, s3, s4, s5, s6, s7, s8, s9, s10, s11⟩ := hw'
    go_simp
    try (with_reducible rfl)
   simp only [Act.put, List.setIfInBounds_toArray]
   refine wpAnyZ_take (i := 1) (v := ?_) rfl (by kernel_rfl) (by kernel_rfl) (by kernel_rfl) (by kernel_rfl) (by kernel_rfl) (fun _ _ _ h => h) (Or.inl ⟨by rfl, ?_⟩) hS0 ?_
   rotate_left
   ·
    intro w' hw'
    obtain ⟨s1, s2, s3, s4, s5, s6, s7, s8, s9, s10, s11⟩ := hw'
    go_simp
    try (with_reducible rfl)
   simp only [Act.put]
   refine wpAnyZ_take (i := 2) (v := ?_) rfl (by kernel_rfl) (by kernel_rfl) (by kernel_rfl) (by kernel_rfl) (by kernel_rfl) (fun _ _ _ h => h) (Or.inl ⟨by rfl, ?_⟩) hS0 ?_
   rotate_left
   ·
    intro w' hw'
    obtain ⟨s1, s2, s3, s4, s5, s6, s7, s8, s9, s10, s11⟩ := hw'
    go_simp
    try (with_reducible rfl)
   simp only [Act.put]
   refine wpAnyZ_take (i := 3) (v := ?_) rfl (by kernel_rfl) (by kernel_rfl) (by kernel_rfl) (by kernel_rfl) (by kernel_rfl) (fun _ _ _ h => h) (Or.inl ⟨by rfl, ?_⟩) hS0 ?_
   rotate_left
   ·
    intro w' hw'
    obtain ⟨s1, s2, s3, s4, s5, s6, s7, s8, s9, s10, s11⟩ := hw'
    go_simp
    try (with_reducible rfl)
   simp only [Act.put]
   refine wpAnyZ_take (i := 4) (v := ?_) rfl (by kernel_rfl) (by kernel_rfl) (by kernel_rfl) (by kernel_rfl) (by kernel_rfl) (fun _ _ _ h => h) (Or.inl ⟨by rfl, ?_⟩) hS0 ?_
   rotate_left
   ·
    intro w' hw'
    obtain ⟨s1, s2, s3, s4, s5, s6, s7, s8, s9, s10, s11⟩ := hw'
    go_simp
    try (with_reducible rfl)
   simp only [Act.put]
   refine wpAnyZ_take (i := 5) (v := ?_) rfl (by kernel_rfl) (by kernel_rfl) (by kernel_rfl) (by kernel_rfl) (by kernel_rfl) (fun _ _ _ h => h) (Or.inl ⟨by rfl, ?_⟩) hS0 ?_
   rotate_left
   ·
    intro w' hw'
    obtain ⟨s1, s2, s3, s4, s5, s6, s7, s8, s9, s10, s11⟩ := hw'
    go_simp
    try (with_reducible rfl)
   simp only [Act.put]
   refine wpAnyZ_take (i := 6) (v := ?_) rfl (by kernel_rfl) (by kernel_rfl) (by kernel_rfl) (by kernel_rfl) (by kernel_rfl) (fun _ _ _ h => h) (Or.inl ⟨by rfl, ?_⟩) hS0 ?_
   rotate_left
   ·
    intro w' hw'
    obtain ⟨s1, s2, s3, s4, s5, s6, s7, s8, s9, s10, s11⟩ := hw'
    go_simp
    try (with_reducible rfl)
   simp only [Act.put]
   refine wpAnyZ_take (i := 7) (v := ?_) rfl (by kernel_rfl) (by kernel_rfl) (by kernel_rfl) (by kernel_rfl) (by kernel_rfl) (fun _ _ _ h => h) (Or.inl ⟨by rfl, ?_⟩) hS0 ?_
   rotate_left
   ·
    intro w' hw'
    obtain ⟨s1, s2, s3, s4, s5, s6, s7, s8, s9, s10, s11⟩ := hw'
    go_simp
    try (with_reducible rfl)
   simp only [Act.put]
   refine wpAnyZ_take (i := 8) (v := ?_) rfl (by kernel_rfl) (by kernel_rfl) (by kernel_rfl) (by kernel_rfl) (by kernel_rfl) (fun _ _ _ h => h) (Or.inl ⟨by rfl, ?_⟩) hS0 ?_
   rotate_left
   ·
    intro w' hw'
    obtain ⟨s1, s2, s3, s4, s5, s6, s7, s8, s9, s10, s11⟩ := hw'
    go_simp
    try (with_reducible rfl)
   simp only [Act.put]
   refine wpAnyZ_take (i := 9) (v := ?_) rfl (by kernel_rfl) (by kernel_rfl) (by kernel_rfl) (by kernel_rfl) (by kernel_rfl) (fun _ _ _ h => h) (Or.inl ⟨by rfl, ?_⟩) hS0 ?_
   rotate_left
   ·
    intro w' hw'
    obtain ⟨s1, s2, s3, s4, s5, s6, s7, s8, s9, s10, s11⟩ := hw'
    go_simp
    try (with_reducible rfl)
   simp only [Act.put]
   refine wpAnyZ_take (i := 10) (v := ?_) rfl (by kernel_rfl) (by kernel_rfl) (by kernel_rfl) (by kernel_rfl) (by kernel_rfl) (fun _ _ _ h => h) (Or.inl ⟨by rfl, ?_⟩) hS0 ?_
   rotate_left
   ·
    intro w' hw'
    obtain ⟨s1, s2, s3, s4, s5, s6, s7, s8, s9, s10, s11⟩ := hw'
    go_simp
    try (with_reducible rfl)
   simp only [Act.put]
   refine wpAnyZ_one (i := 11) (by kernel_rfl) ?_
   unfold wpOp
   go_simp
   left
   refine (CM.out _).mono ?_
   rintro e w3 ⟨rfl, hb3⟩
   have hc3 : ∀ b o, b < V.heap.size → w3.cell? ⟨b, o, none⟩ = V.cell? ⟨b, o, none⟩ := fun b o h => hb3.cell (p := ⟨b, o, none⟩) h
   have hf3 : ∀ b o, b < V.heap.size → w3.frozen? ⟨b, o, none⟩ = V.frozen? ⟨b, o, none⟩ := fun b o h => hb3.frozen (p := ⟨b, o, none⟩) h
   have sx3 : w.heap.size < w3.heap.size := Nat.lt_of_lt_of_le sx hb3.size
   have se3 : w.heap.size + 1 < w3.heap.size := Nat.lt_of_lt_of_le se hb3.size
   have sp3 : g < w3.heap.size := Nat.lt_of_lt_of_le sp hb3.size
   refine ⟨⟨(hc3 _ _ sx).trans cx0, (hc3 _ _ sx).trans cx1, (hc3 _ _ sx).trans cx2, (hc3 _ _ sx).trans cx3, (hc3 _ _ sx).trans cx4, (hc3 _ _ sp).trans cp0, (hc3 _ _ sp).trans cp1, (hc3 _ _ sp).trans cp2, (hc3 _ _ sp).trans cp3, (hc3 _ _ sp).trans cp4, (hc3 _ _ se).trans ce⟩, ?_⟩
   refine wpAnyZ_one (i := 12) (by kernel_rfl) ?_
   unfold wpOp
   go_simp
   left
   refine (CS.out _).mono ?_
   rintro e w4 ⟨rfl, hb4⟩
   have hc4 : ∀ b o, b < w3.heap.size → w4.cell? ⟨b, o, none⟩ = w3.cell? ⟨b, o, none⟩ := fun b o h => hb4.cell (p := ⟨b, o, none⟩) h
   have hf4 : ∀ b o, b < w3.heap.size → w4.frozen? ⟨b, o, none⟩ = w3.frozen? ⟨b, o, none⟩ := fun b o h => hb4.frozen (p := ⟨b, o, none⟩) h
   have F5 : PowW a l f g w w4 P2 := (H3.out.drew.below hb3).below hb4
   have hS4 : (fun w' => w'.cell? ⟨w.heap.size, 0, none⟩ = some (.int .u64 x0) ∧ w'.cell? ⟨w.heap.size, 1, none⟩ = some (.int .u64 x1) ∧ w'.cell? ⟨w.heap.size, 2, none⟩ = some (.int .u64 x2) ∧ w'.cell? ⟨w.heap.size, 3, none⟩ = some (.int .u64 x3) ∧ w'.cell? ⟨w.heap.size, 4, none⟩ = some (.int .u64 x4) ∧ w'.cell? ⟨g, 0, none⟩ = some (.int .u64 p0) ∧ w'.cell? ⟨g, 1, none⟩ = some (.int .u64 p1) ∧ w'.cell? ⟨g, 2, none⟩ = some (.int .u64 p2) ∧ w'.cell? ⟨g, 3, none⟩ = some (.int .u64 p3) ∧ w'.cell? ⟨g, 4, none⟩ = some (.int .u64 p4) ∧ w'.cell? ⟨w.heap.size + 1, j / 8, none⟩ = some (.int .u8 ((f (j / 8) : Nat) : Int))) w4 := ⟨(hc4 _ _ sx3).trans ((hc3 _ _ sx).trans cx0), (hc4 _ _ sx3).trans ((hc3 _ _ sx).trans cx1), (hc4 _ _ sx3).trans ((hc3 _ _ sx).trans cx2), (hc4 _ _ sx3).trans ((hc3 _ _ sx).trans cx3), (hc4 _ _ sx3).trans ((hc3 _ _ sx).trans cx4), (hc4 _ _ sp3).trans ((hc3 _ _ sp).trans cp0), (hc4 _ _ sp3).trans ((hc3 _ _ sp).trans cp1), (hc4 _ _ sp3).trans ((hc3 _ _ sp).trans cp2), (hc4 _ _ sp3).trans ((hc3 _ _ sp).trans cp3), (hc4 _ _ sp3).trans ((hc3 _ _ sp).trans cp4), (hc4 _ _ se3).trans ((hc3 _ _ se).trans ce)⟩
   have t0 : w4.cell? ⟨g, 0, none⟩ = _ := (hc4 _ _ sp3).trans ((hc3 _ _ sp).trans cp0)
   have t1 : w4.cell? ⟨g, 1, none⟩ = _ := (hc4 _ _ sp3).trans ((hc3 _ _ sp).trans cp1)
   have t2 : w4.cell? ⟨g, 2, none⟩ = _ := (hc4 _ _ sp3).trans ((hc3 _ _ sp).trans cp2)
   have t3 : w4.cell? ⟨g, 3, none⟩ = _ := (hc4 _ _ sp3).trans ((hc3 _ _ sp).trans cp3)
   have t4 : w4.cell? ⟨g, 4, none⟩ = _ := (hc4 _ _ sp3).trans ((hc3 _ _ sp).trans cp4)
   have v0 : w4.frozen? ⟨g, 0, none⟩ = false := F5.p.frozen 0
   have v1 : w4.frozen? ⟨g, 1, none⟩ = false := F5.p.frozen 1
   have v2 : w4.frozen? ⟨g, 2, none⟩ = false := F5.p.frozen 2
   have v3 : w4.frozen? ⟨g, 3, none⟩ = false := F5.p.frozen 3
   have v4 : w4.frozen? ⟨g, 4, none⟩ = false := F5.p.frozen 4
   have HF5 := Lib.hid F5
   clear F5 H3 hc3 hf3 hc4 hf4 hb3 hb4 cx0 cx1 cx2 cx3 cx4 cp0 cp1 cp2 cp3 cp4 ce dcx0 dcx1 dcx2 dcx3 dcx4 dcp0 dcp1 dcp2 dcp3 dcp4 dce hS0 fp0 fp1 fp2 fp3 fp4 i0 i1 i2 i3 i4 i5 i6 i7 i8 i9 j1 j2 j3
   refine ⟨hS4, ?_⟩
   refine wpAnyZ_take (i := 13) (v := ?_) rfl (by kernel_rfl) (by kernel_rfl) (by kernel_rfl) (by kernel_rfl) (by kernel_rfl) (fun _ _ _ h => h) (Or.inl ⟨by rfl, ?_⟩) hS4 ?_
   rotate_left
   ·
    intro w' hw'
    obtain ⟨s1, s2, s3, s4, s5, s6, s7, s8, s9, s10, s11⟩ := hw'
    go_simp
    try (with_reducible rfl)
   simp only [Act.put]
   refine wpAnyZ_take (i := 14) (v := ?_) rfl (by kernel_rfl) (by kernel_rfl) (by kernel_rfl) (by kernel_rfl) (by kernel_rfl) (fun _ _ _ h => h) (Or.inl ⟨by rfl, ?_⟩) hS4 ?_
   rotate_left
   ·
    intro w' hw'
    obtain ⟨s1, s2, s3, s4, s5, s6, s7, s8, s9, s10, s11⟩ := hw'
    go_simp
    try (with_reducible rfl)
   simp only [Act.put]
   refine wpAnyZ_two (i := 15) (j := 16) (by kernel_rfl) ?_ ?_
   ·
    unfold wpOp
    go_simp
    left
    refine wpAnyZ_one (fuel := 0) (i := 16) (by kernel_rfl) ?_
    unfold wpOp
    go_simp
    left
    refine wpAnyZ_done (by kernel_rfl) (NoPanic.normal ?_) _
    go_wp2
    exact ⟨⟨k + 1, by omega, by go_num, HN.out ▸ HF5.out.put5 EN.out⟩, by simp [intOf]; omega⟩
   ·
    unfold wpOp
    go_simp
    left
    refine wpAnyZ_one (fuel := 0) (i := 15) (by kernel_rfl) ?_
    unfold wpOp
    go_simp
    left
    refine wpAnyZ_done (by kernel_rfl) (NoPanic.normal ?_) _
    go_wp2
    exact ⟨⟨k + 1, by omega, by go_num, HN.out ▸ HF5.out.put5 EN.out⟩, by simp [intOf]; omega⟩
  ·
   obtain rfl : k = 256 := by omega
   have HR := F.r
   have HP := F.p
   have HB := F.b
   rw [Nat.sub_self, Nat.pow_zero, Nat.div_one] at HP
   clear F
   obtain ⟨M, hM⟩ : ∃ M, M = mpow a (leTo f 32) := ⟨_, rfl⟩
   rw [← hM] at HP
   have HM := Lib.hid hM
   clear hM
   go_wp2_with (first | (refine wpList_load_row rfl 83 _ rfl g rfl 83 _ (0, 0) _ HP Tryz.underlying83 rfl (info_El _) ?_) | (refine wpList_store_row rfl 83 _ _ rfl (w.heap.size + 1 + 1) _ rfl rfl 83 _ HR (info_El _) rfl (El_one _) ?_))
   exact bodyPost_ret (results_cell_row rfl _ _ _ 83 _ (0, 0) _ rfl (HR.row _) Tryz.underlying83 rfl (info_El _)) rfl ⟨by rw [← HM.out], below_setRow HB (by omega) _⟩
end Go.Proofs.YtegbnadnodlalaaGreatDoor
namespace Go.Proofs.YtegbnadnodlalaaGreatDoor
open Go.RowKit
theorem ones_bytes (lo hi : Nat) (hlo : lo < 256) (hhi : hi < 256) : Bytes32 ((List.range 32).map fun i => ((onesOf lo hi i : Nat) : Int)) (onesOf lo hi) :=
 ⟨by simp, fun i h => by simp [h], fun i => by unfold onesOf; split <;> (try split) <;> omega⟩
theorem invert_exp : leTo (onesOf 235 127) 32 = 57896044618658097711785492504343953926634992332820282019728792003956564819947 := by decide +kernel
set_option maxHeartbeats 4000000 in
set_option maxRecDepth 100000 in
theorem invert_any (a : Nat) (w : World) (ha : a < pp) :
  Calls Tryz.prog 59 #[El a] w fun e w' => e = .returned (El (mpow a 57896044618658097711785492504343953926634992332820282019728792003956564819947)) ∧ Below w.heap.size w w' := by
 have cO := fun W => ones_any 235 127 W
 have cP := fun W => power_any a _ (onesOf 235 127) (ones_bytes 235 127 (by decide) (by decide)) W ha
 rw [invert_exp] at cP
 generalize (List.range 32).map (fun i => ((onesOf 235 127 i : Nat) : Int)) = l at cO cP
 obtain ⟨N, hN⟩ : ∃ N, N = mpow a 57896044618658097711785492504343953926634992332820282019728792003956564819947 := ⟨_, rfl⟩
 rw [← hN] at cP ⊢
 clear hN
 obtain ⟨x0, x1, x2, x3, x4, ex⟩ : ∃ x0 x1 x2 x3 x4 : Int, El_cells a = #[.int .u64 x0, .int .u64 x1, .int .u64 x2, .int .u64 x3, .int .u64 x4] := ⟨_, _, _, _, _, rfl⟩
 obtain ⟨n0, n1, n2, n3, n4, en⟩ : ∃ x0 x1 x2 x3 x4 : Int, El_cells N = #[.int .u64 x0, .int .u64 x1, .int .u64 x2, .int .u64 x3, .int .u64 x4] := ⟨_, _, _, _, _, rfl⟩
 unfold El at cP ⊢
 rw [ex, en] at cP
 rw [ex, en]
 have CP := Lib.hid cP
 have CO := Lib.hid cO
 clear cP cO ex en
 go_enter Tryz.func59, Tryz.ntmps59
 go_wp2
 generalize hW : World.alloc (World.alloc w _) _ = V
 have HX : Blk V w.heap.size 83 #[.int .u64 x0, .int .u64 x1, .int .u64 x2, .int .u64 x3, .int .u64 x4] := hW ▸ (Blk.new w _ _).alloc _
 have HR : Blk V (w.heap.size + 1) 83 #[.int .u64 0, .int .u64 0, .int .u64 0, .int .u64 0, .int .u64 0] := hW ▸ Blk.new' (by simp) _ _
 have HB : Below w.heap.size w V := hW ▸ ((Below.refl _ _).alloc (Nat.le_refl _) _).alloc (by simp) _
 clear hW
 refine wp_region_Z (S := fun w' => Five w' w.heap.size x0 x1 x2 x3 x4) 3 (by kernel_rfl) ?_
 refine wpAnyZ_take (i := 0) (v := ?_) rfl (by kernel_rfl) (by kernel_rfl) (by kernel_rfl) (by kernel_rfl) (by kernel_rfl) (fun _ _ _ h => h) (Or.inl ⟨by rfl, ?_⟩) HX.drew.five ?_
 rotate_left
 ·
  intro w' hw'
  obtain ⟨s1, s2, s3, s4, s5⟩ := hw'
  go_simp
  try (with_reducible rfl)
 simp only [Act.put, List.setIfInBounds_toArray]
 refine wpAnyZ_one (i := 1) (by kernel_rfl) ?_
 unfold wpOp
 go_simp
 left
 refine (CO.out _).mono ?_
 rintro e w3 ⟨rfl, hb3⟩
 have HX3 := HX.drew.below hb3 HX.drew.lt
 have HR3 := HR.drew.below hb3 HR.drew.lt
 have HB3 := (below_drew HB).trans (hb3.mono (below_drew HB).size)
 clear hb3 HX HR HB
 refine ⟨HX3.five, ?_⟩
 refine wpAnyZ_one (i := 2) (by kernel_rfl) ?_
 unfold wpOp
 unfold Key at *
 go_simp
 left
 refine (CP.out _).mono ?_
 rintro e w4 ⟨rfl, hb4⟩
 have HX4 := HX3.below hb4 HX3.lt
 have HR4 := HR3.below hb4 HR3.lt
 have HB4 := HB3.trans (hb4.mono HB3.size)
 clear hb4 HX3 HR3 HB3
 refine ⟨HX4.five, ?_⟩
 obtain ⟨t0, t1, t2, t3, t4⟩ := HR4.five
 have fr := HR4.frozen
 have v0 := fr 0; have v1 := fr 1; have v2 := fr 2; have v3 := fr 3; have v4 := fr 4
 clear fr
 refine wpAnyZ_one (fuel := 0) (i := 3) (by kernel_rfl) ?_
 unfold wpOp
 go_simp
 left
 refine wpAnyZ_done (by kernel_rfl) ?_ _
 go_wp2
 exact bodyPost_ret (results_cell_row rfl _ _ _ 83 _ (0, 0) _ rfl (HR4.set5 _ _ _ _ _) Tryz.underlying83 rfl (info_El N)) rfl ⟨rfl, below_set5 HB4 (by omega) _ _ _ _ _⟩
end Go.Proofs.YtegbnadnodlalaaGreatDoor
namespace Go.Proofs.YtegbnadnodlalaaGreatDoor
open Go.RowKit
structure AwakeW (w wr : World) (k : Nat) : Prop where
 key : Blk wr w.heap.size 23 (Iv .u8 (fill 32 (fun _ => 255) k))
 b : Below w.heap.size w wr
theorem AwakeW.step {w wr : World} {k : Nat} (h : AwakeW w wr k) : AwakeW w (wr.setCell ⟨w.heap.size, k, none⟩ (.int .u8 255)) (k + 1) := by
 refine ⟨?_, h.b.setCell (by simp) _⟩
 have := h.key.set k (.int .u8 255)
 rw [Iv_set, fill_set 32 (fun _ => 255) k] at this
 exact this
end Go.Proofs.YtegbnadnodlalaaGreatDoor
namespace Go.Proofs.YtegbnadnodlalaaGreatDoor
open Go.RowKit
theorem wpAnyZ_takeL {P : Program} {md : Region.Mode} {ops : Array Oper} {Q : Exit → Act → World → Prop} {S : World → Prop} {z : Nat} (i : Nat) {oi : Oper} {v : Value} {fuel : Nat} {listed : Array Bool} {a : Act} {w : World} (hi : ops.toList[i]? = some oi)
  (hs : Region.noSelect ops = true) (hf : Region.free md ops listed i = true) (hr : (Region.ready md ops listed).contains i = true) (hwz : (Region.waitsFor md ops z i && i != z) = true) (hlz : listed.getD z true = false)
  (hQ : ∀ c a w, Q (.panic c) (a.put oi.dst v) w → Q (.panic c) a w) (hy : YieldsIf P ops S oi v a) (hS : S w)
  (h : wpAnyZ P md ops Q S z fuel (listed.setIfInBounds i true) (a.put oi.dst v) w) : wpAnyZ P md ops Q S z (fuel + 1) listed a w :=
 wpAnyZ_take (by rw [← hi, Array.getElem?_toList]) hs hf hr hwz hlz hQ hy hS h
end Go.Proofs.YtegbnadnodlalaaGreatDoor
namespace Go.Proofs.YtegbnadnodlalaaGreatDoor
open Go.RowKit
/-- A long number in memory: n parts of 16 bits from the head of block g on, no part behind them. -/
structure Sl (w : World) (g n : Nat) (f : Nat → Nat) : Prop where
 cell : ∀ i, i < n → w.cell? ⟨g, i, none⟩ = some (.int .u32 ((f i : Nat) : Int))
 lt : ∀ i, f i < 65536
 high : ∀ i, n ≤ i → f i = 0
 blk : g < w.heap.size
def SlV (g n c : Nat) : Value := .slice (some ⟨g, 0, none⟩) n c
theorem Sl.below {w w1 : World} {g n : Nat} {f : Nat → Nat} (h : Sl w g n f) (hb : Below w.heap.size w w1) : Sl w1 g n f :=
 ⟨fun i hi => (hb.cell (p := ⟨g, i, none⟩) h.blk).trans (h.cell i hi), h.lt, h.high, Nat.lt_of_lt_of_le h.blk hb.size⟩
theorem Sl.drewN {w : World} {g n : Nat} {f : Nat → Nat} (h : Sl w g n f) (k : Nat) : Sl (w.drewN k) g n f := ⟨h.cell, h.lt, h.high, h.blk⟩
theorem Sl.drew {w : World} {g n : Nat} {f : Nat → Nat} (h : Sl w g n f) : Sl w.drew g n f := ⟨h.cell, h.lt, h.high, h.blk⟩
theorem Sl.of_blk {w : World} {g n : Nat} {t : TypeId} {f : Nat → Nat} (h : Blk w g t (Iv .u32 ((List.range n).map fun i => ((f i : Nat) : Int)))) (hf : ∀ i, f i < 65536) (hh : ∀ i, n ≤ i → f i = 0) : Sl w g n f :=
 ⟨fun i hi => by rw [h.cell, Iv_get _ _ _ (by simpa using hi)]; simp [hi], hf, hh, h.lt⟩
/-- The number of the first k parts. -/
def lv (f : Nat → Nat) : Nat → Nat
 | 0 => 0
 | k + 1 => lv f k + f k * 65536 ^ k
theorem lv_lt (f : Nat → Nat) (hf : ∀ i, f i < 65536) : ∀ k, lv f k < 65536 ^ k
 | 0 => by simp [lv]
 | k + 1 => by
  have ih := lv_lt f hf k
  have h := hf k
  have h2 : f k * 65536 ^ k ≤ 65535 * 65536 ^ k := Nat.mul_le_mul_right _ (by omega)
  have h3 : (65536 : Nat) ^ (k + 1) = 65536 * 65536 ^ k := by rw [Nat.pow_succ, Nat.mul_comm]
  simp only [lv]
  omega
structure PW (w wr : World) (k : Nat) : Prop where
 key : Blk wr w.heap.size 119 (Iv .u32 (fill 16 (fun _ => 65535) k))
 b : Below w.heap.size w wr
theorem PW.step {w wr : World} {k : Nat} (h : PW w wr k) : PW w (wr.setCell ⟨w.heap.size, k, none⟩ (.int .u32 65535)) (k + 1) := by
 refine ⟨?_, h.b.setCell (by simp) _⟩
 have := h.key.set k (.int .u32 65535)
 rw [Iv_set, fill_set 16 (fun _ => 65535) k] at this
 exact this
end Go.Proofs.YtegbnadnodlalaaGreatDoor
namespace Go.Proofs.YtegbnadnodlalaaGreatDoor
open Go.RowKit
/-- Two numbers have the same parts from k on. -/
structure EqAbove (fa fb : Nat → Nat) (k : Nat) : Prop where
 eq : ∀ i, k ≤ i → fa i = fb i
theorem EqAbove.down {fa fb : Nat → Nat} {k : Nat} (h : EqAbove fa fb (k + 1)) (hk : fa k = fb k) : EqAbove fa fb k :=
 ⟨fun i hi => by
         by_cases e : i = k
         · rw [e, hk]
         · exact h.eq i (by omega)⟩
/-- The borrow behind k parts, and part k of a difference. -/
def brw (fa fb : Nat → Nat) : Nat → Nat
 | 0 => 0
 | k + 1 => if fa k < fb k + brw fa fb k then 1 else 0
def subF (n : Nat) (fa fb : Nat → Nat) (i : Nat) : Nat := if i < n then (fa i + 65536 - fb i - brw fa fb i) % 65536 else 0
end Go.Proofs.YtegbnadnodlalaaGreatDoor
