/- The reference's sub: its contract (printed by gena8.py). The reference's Box: its contract. -/
import Derived.Test.YtpihgljdbpnehaaDoorAa0Bb
import Derived.Test.YtpihgljdbpnehaaDoorLq0Nb
import Derived.Test.YtpihgljdbpnehaaDoorBg0HSa
namespace Go.Proofs.YtpihgljdbpnehaaDoor
open Go.RowKit
theorem shr_nat (Y m : Nat) : (Y : Int) / 2 ^ m = ((Y / 2 ^ m : Nat) : Int) := by push_cast; rfl
set_option maxHeartbeats 8000000 in
set_option maxRecDepth 100000 in
theorem rsub_any (x : Nat) (hx : x < 256) (w : World) :
  Calls Tryd.prog 50 #[.int .u8 (x : Int)] w fun e w' => e = .returned (.int .u8 ((subN x : Nat) : Int)) ∧ Below w.heap.size w w' := by
 go_enter Tryd.func50, Tryd.ntmps50
 go_wp2
 go_loopw [3, 4] (fun y i wr => ∃ k : Nat, k ≤ 255 ∧ (x = 0 → k = 0) ∧ i = .int .i64 ((k : Int) + 1) ∧ y = .int .i64 ((invF x k : Nat) : Int) ∧ Below w.heap.size w wr) (fun _ i _ => (256 - intOf i).toNat)
 case atStart => exact ⟨0, by omega, fun _ => rfl, rfl, rfl, Below.refl _ _⟩
 case round =>
  obtain ⟨k, hk, hz, rfl, rfl, hB⟩ := hrel
  by_cases hend : x = 0 ∨ k = 255
  ·
   have hinv : invF x k = inv8 x := by
    unfold inv8
    rcases hend with rfl | rfl
    · rw [if_pos rfl, hz rfl]; rfl
    ·
     by_cases h0 : x = 0
     · rw [if_pos h0]; exact absurd (hz h0) (by decide)
     · rw [if_neg h0]
   have lY := inv8_lt x
   have hs : subN x = outF (inv8 x) 8 := rfl
   rw [hinv]
   generalize inv8 x = Y at *
   have HS := Lib.hid hs
   clear hinv hs
   rcases hend with rfl | rfl
   ·
    obtain rfl : k = 0 := hz rfl
    have i1 : ((0 : Nat) : Int) + 1 < 256 := by omega
    go_wp2
    go_loopw [5, 6] (fun o i wr => ∃ k : Nat, k ≤ 8 ∧ i = .int .i64 (k : Int) ∧ o = .int .i64 ((outF Y k : Nat) : Int) ∧ Below w.heap.size w wr) (fun _ i _ => (8 - intOf i).toNat)
    case atStart => exact ⟨0, by omega, rfl, rfl, hB⟩
    case round =>
     clear hB hz hk
     obtain ⟨k, hk, rfl, rfl, hB⟩ := hrel
     by_cases h8 : k = 8
     ·
      subst h8
      have lo := outF_lt Y 8 (Nat.le_refl _)
      go_wp2
      go_ret
      exact ⟨congrArg (fun v : Nat => Ending.returned (Value.int .u8 (v : Int))) HS.out.symm, hB⟩
     ·
      have i2 : (k : Int) < 8 := by omega
      have i3 : (0 : Int) ≤ (k : Int) := by omega
      have lo := outF_lt Y k hk
      have hn : outF Y (k + 1) = outF Y k ^^^ (sbit Y k * 2 ^ k) := rfl
      unfold sbit at hn
      generalize outF Y k = V at *
      have D := fun m : Nat => Nat.lt_of_le_of_lt (Nat.div_le_self Y (2 ^ m)) lY
      have q0 := shr_nat Y k
      have q1 := shr_nat Y ((k + 4) % 8)
      have q2 := shr_nat Y ((k + 5) % 8)
      have q3 := shr_nat Y ((k + 6) % 8)
      have q4 := shr_nat Y ((k + 7) % 8)
      have l0 := D k
      have l1 := D ((k + 4) % 8)
      have l2 := D ((k + 5) % 8)
      have l3 := D ((k + 6) % 8)
      have l4 := D ((k + 7) % 8)
      clear D
      obtain ⟨m1, hm1⟩ : ∃ m, m = (k + 4) % 8 := ⟨_, rfl⟩
      obtain ⟨m2, hm2⟩ : ∃ m, m = (k + 5) % 8 := ⟨_, rfl⟩
      obtain ⟨m3, hm3⟩ : ∃ m, m = (k + 6) % 8 := ⟨_, rfl⟩
      obtain ⟨m4, hm4⟩ : ∃ m, m = (k + 7) % 8 := ⟨_, rfl⟩
      rw [← hm1] at q1 l1 hn
      rw [← hm2] at q2 l2 hn
      rw [← hm3] at q3 l3 hn
      rw [← hm4] at q4 l4 hn
      have r1 : ((k : Int) + 4).tmod 8 = (m1 : Int) := by rw [Int.tmod_eq_emod_of_nonneg (by omega)]; omega
      have w1' : IntKind.i64.wrap ((k : Int) + 4) = (k : Int) + 4 := by rw [IntKind.wrap_i64]; omega
      have r2 : ((k : Int) + 5).tmod 8 = (m2 : Int) := by rw [Int.tmod_eq_emod_of_nonneg (by omega)]; omega
      have w2' : IntKind.i64.wrap ((k : Int) + 5) = (k : Int) + 5 := by rw [IntKind.wrap_i64]; omega
      have r3 : ((k : Int) + 6).tmod 8 = (m3 : Int) := by rw [Int.tmod_eq_emod_of_nonneg (by omega)]; omega
      have w3' : IntKind.i64.wrap ((k : Int) + 6) = (k : Int) + 6 := by rw [IntKind.wrap_i64]; omega
      have r4 : ((k : Int) + 7).tmod 8 = (m4 : Int) := by rw [Int.tmod_eq_emod_of_nonneg (by omega)]; omega
      have w4' : IntKind.i64.wrap ((k : Int) + 7) = (k : Int) + 7 := by rw [IntKind.wrap_i64]; omega
      have u1 : m1 < 8 := by omega
      have u2 : m2 < 8 := by omega
      have u3 : m3 < 8 := by omega
      have u4 : m4 < 8 := by omega
      clear hm1 hm2 hm3 hm4
      generalize Y / 2 ^ k = y0 at *
      generalize Y / 2 ^ m1 = y1 at *
      generalize Y / 2 ^ m2 = y2 at *
      generalize Y / 2 ^ m3 = y3 at *
      generalize Y / 2 ^ m4 = y4 at *
      have x1 := i64_xor y0 y1 (Nat.lt_trans l0 (by decide)) (Nat.lt_trans l1 (by decide))
      have b1 := xor_256 l0 l1
      generalize y0 ^^^ y1 = z1 at *
      have x2 := i64_xor z1 y2 (Nat.lt_trans b1 (by decide)) (Nat.lt_trans l2 (by decide))
      have b2 := xor_256 b1 l2
      generalize z1 ^^^ y2 = z2 at *
      have x3 := i64_xor z2 y3 (Nat.lt_trans b2 (by decide)) (Nat.lt_trans l3 (by decide))
      have b3 := xor_256 b2 l3
      generalize z2 ^^^ y3 = z3 at *
      have x4 := i64_xor z3 y4 (Nat.lt_trans b3 (by decide)) (Nat.lt_trans l4 (by decide))
      have b4 := xor_256 b3 l4
      generalize z3 ^^^ y4 = z4 at *
      have x5 := i64_and1 z4 (Nat.lt_trans b4 (by decide))
      have l5 : z4 % 2 < 2 := Nat.mod_lt _ (by decide)
      obtain ⟨c, hc⟩ : ∃ c, c = z4 % 2 := ⟨_, rfl⟩
      rw [← hc] at x5 l5 hn
      clear hc
      have p7 : 2 ^ k ≤ 2 ^ 7 := Nat.pow_le_pow_right (by decide) (by omega)
      have p8 : c * 2 ^ k ≤ 1 * 2 ^ k := Nat.mul_le_mul_right _ (Nat.le_of_lt_succ l5)
      rw [Nat.one_mul] at p8
      have p9 : c * 2 ^ k < 256 := Nat.lt_of_le_of_lt (Nat.le_trans p8 p7) (by decide)
      have q9 : (c : Int) * 2 ^ k = ((c * 2 ^ k : Nat) : Int) := by push_cast; rfl
      obtain ⟨d, hd⟩ : ∃ d, d = c * 2 ^ k := ⟨_, rfl⟩
      rw [← hd] at p9 q9 hn
      clear hd p7 p8
      have x6 : wrap64 ((c : Int) * 2 ^ k) = (d : Int) := by
       rw [q9]
       unfold wrap64
       omega
      clear q9
      have x7 := i64_xor V d (Nat.lt_trans lo (by decide)) (Nat.lt_trans p9 (by decide))
      generalize V ^^^ d = N at *
      have HN := Lib.hid hn
      clear hn
      go_wp2
      refine wp_region_Z (S := (fun _ => True)) 27 (by kernel_rfl) ?_
      refine wpAnyZ_takeL 0 rfl (by kernel_rfl) (by kernel_rfl) (by kernel_rfl) (by kernel_rfl) (by kernel_rfl) (fun _ _ _ h => h) (yieldsIf_move rfl _ rfl _ rfl) True.intro ?_
      simp only [Act.put, List.setIfInBounds_toArray, List.set_cons_zero, List.set_cons_succ]
      refine wpAnyZ_takeL 1 rfl (by kernel_rfl) (by kernel_rfl) (by kernel_rfl) (by kernel_rfl) (by kernel_rfl) (fun _ _ _ h => h) (yieldsIf_move rfl _ rfl _ rfl) True.intro ?_
      simp only [Act.put, List.setIfInBounds_toArray, List.set_cons_zero, List.set_cons_succ]
      refine wpAnyZ_takeL 2 (v := (.int .i64 (y0 : Int))) rfl (by kernel_rfl) (by kernel_rfl) (by kernel_rfl) (by kernel_rfl) (by kernel_rfl) (fun _ _ _ h => h) (Or.inl ⟨by rfl, ?_⟩) True.intro ?_
      ·
       intro w' hw'
       go_simp
      simp only [Act.put, List.setIfInBounds_toArray, List.set_cons_zero, List.set_cons_succ]
      refine wpAnyZ_takeL 3 rfl (by kernel_rfl) (by kernel_rfl) (by kernel_rfl) (by kernel_rfl) (by kernel_rfl) (fun _ _ _ h => h) (yieldsIf_move rfl _ rfl _ rfl) True.intro ?_
      simp only [Act.put, List.setIfInBounds_toArray, List.set_cons_zero, List.set_cons_succ]
      refine wpAnyZ_takeL 4 rfl (by kernel_rfl) (by kernel_rfl) (by kernel_rfl) (by kernel_rfl) (by kernel_rfl) (fun _ _ _ h => h) (yieldsIf_move rfl _ rfl _ rfl) True.intro ?_
      simp only [Act.put, List.setIfInBounds_toArray, List.set_cons_zero, List.set_cons_succ]
      refine wpAnyZ_takeL 5 (v := (.int .i64 ((k : Int) + 4 : Int))) rfl (by kernel_rfl) (by kernel_rfl) (by kernel_rfl) (by kernel_rfl) (by kernel_rfl) (fun _ _ _ h => h) (Or.inl ⟨by rfl, ?_⟩) True.intro ?_
      ·
       intro w' hw'
       go_simp
      simp only [Act.put, List.setIfInBounds_toArray, List.set_cons_zero, List.set_cons_succ]
      refine wpAnyZ_takeL 6 (v := (.int .i64 (m1 : Int))) rfl (by kernel_rfl) (by kernel_rfl) (by kernel_rfl) (by kernel_rfl) (by kernel_rfl) (fun _ _ _ h => h) (Or.inl ⟨by rfl, ?_⟩) True.intro ?_
      ·
       intro w' hw'
       go_simp
      simp only [Act.put, List.setIfInBounds_toArray, List.set_cons_zero, List.set_cons_succ]
      refine wpAnyZ_takeL 7 (v := (.int .i64 (y1 : Int))) rfl (by kernel_rfl) (by kernel_rfl) (by kernel_rfl) (by kernel_rfl) (by kernel_rfl) (fun _ _ _ h => h) (Or.inl ⟨by rfl, ?_⟩) True.intro ?_
      ·
       intro w' hw'
       go_simp
      simp only [Act.put, List.setIfInBounds_toArray, List.set_cons_zero, List.set_cons_succ]
      refine wpAnyZ_takeL 8 (v := (.int .i64 (z1 : Int))) rfl (by kernel_rfl) (by kernel_rfl) (by kernel_rfl) (by kernel_rfl) (by kernel_rfl) (fun _ _ _ h => h) (Or.inl ⟨by rfl, ?_⟩) True.intro ?_
      ·
       intro w' hw'
       go_simp
      simp only [Act.put, List.setIfInBounds_toArray, List.set_cons_zero, List.set_cons_succ]
      refine wpAnyZ_takeL 9 rfl (by kernel_rfl) (by kernel_rfl) (by kernel_rfl) (by kernel_rfl) (by kernel_rfl) (fun _ _ _ h => h) (yieldsIf_move rfl _ rfl _ rfl) True.intro ?_
      simp only [Act.put, List.setIfInBounds_toArray, List.set_cons_zero, List.set_cons_succ]
      refine wpAnyZ_takeL 10 rfl (by kernel_rfl) (by kernel_rfl) (by kernel_rfl) (by kernel_rfl) (by kernel_rfl) (fun _ _ _ h => h) (yieldsIf_move rfl _ rfl _ rfl) True.intro ?_
      simp only [Act.put, List.setIfInBounds_toArray, List.set_cons_zero, List.set_cons_succ]
      refine wpAnyZ_takeL 11 (v := (.int .i64 ((k : Int) + 5 : Int))) rfl (by kernel_rfl) (by kernel_rfl) (by kernel_rfl) (by kernel_rfl) (by kernel_rfl) (fun _ _ _ h => h) (Or.inl ⟨by rfl, ?_⟩) True.intro ?_
      ·
       intro w' hw'
       go_simp
      simp only [Act.put, List.setIfInBounds_toArray, List.set_cons_zero, List.set_cons_succ]
      refine wpAnyZ_takeL 12 (v := (.int .i64 (m2 : Int))) rfl (by kernel_rfl) (by kernel_rfl) (by kernel_rfl) (by kernel_rfl) (by kernel_rfl) (fun _ _ _ h => h) (Or.inl ⟨by rfl, ?_⟩) True.intro ?_
      ·
       intro w' hw'
       go_simp
      simp only [Act.put, List.setIfInBounds_toArray, List.set_cons_zero, List.set_cons_succ]
      refine wpAnyZ_takeL 13 (v := (.int .i64 (y2 : Int))) rfl (by kernel_rfl) (by kernel_rfl) (by kernel_rfl) (by kernel_rfl) (by kernel_rfl) (fun _ _ _ h => h) (Or.inl ⟨by rfl, ?_⟩) True.intro ?_
      ·
       intro w' hw'
       go_simp
      simp only [Act.put, List.setIfInBounds_toArray, List.set_cons_zero, List.set_cons_succ]
      refine wpAnyZ_takeL 14 (v := (.int .i64 (z2 : Int))) rfl (by kernel_rfl) (by kernel_rfl) (by kernel_rfl) (by kernel_rfl) (by kernel_rfl) (fun _ _ _ h => h) (Or.inl ⟨by rfl, ?_⟩) True.intro ?_
      ·
       intro w' hw'
       go_simp
      simp only [Act.put, List.setIfInBounds_toArray, List.set_cons_zero, List.set_cons_succ]
      refine wpAnyZ_takeL 15 rfl (by kernel_rfl) (by kernel_rfl) (by kernel_rfl) (by kernel_rfl) (by kernel_rfl) (fun _ _ _ h => h) (yieldsIf_move rfl _ rfl _ rfl) True.intro ?_
      simp only [Act.put, List.setIfInBounds_toArray, List.set_cons_zero, List.set_cons_succ]
      refine wpAnyZ_takeL 16 rfl (by kernel_rfl) (by kernel_rfl) (by kernel_rfl) (by kernel_rfl) (by kernel_rfl) (fun _ _ _ h => h) (yieldsIf_move rfl _ rfl _ rfl) True.intro ?_
      simp only [Act.put, List.setIfInBounds_toArray, List.set_cons_zero, List.set_cons_succ]
      refine wpAnyZ_takeL 17 (v := (.int .i64 ((k : Int) + 6 : Int))) rfl (by kernel_rfl) (by kernel_rfl) (by kernel_rfl) (by kernel_rfl) (by kernel_rfl) (fun _ _ _ h => h) (Or.inl ⟨by rfl, ?_⟩) True.intro ?_
      ·
       intro w' hw'
       go_simp
      simp only [Act.put, List.setIfInBounds_toArray, List.set_cons_zero, List.set_cons_succ]
      refine wpAnyZ_takeL 18 (v := (.int .i64 (m3 : Int))) rfl (by kernel_rfl) (by kernel_rfl) (by kernel_rfl) (by kernel_rfl) (by kernel_rfl) (fun _ _ _ h => h) (Or.inl ⟨by rfl, ?_⟩) True.intro ?_
      ·
       intro w' hw'
       go_simp
      simp only [Act.put, List.setIfInBounds_toArray, List.set_cons_zero, List.set_cons_succ]
      refine wpAnyZ_takeL 19 (v := (.int .i64 (y3 : Int))) rfl (by kernel_rfl) (by kernel_rfl) (by kernel_rfl) (by kernel_rfl) (by kernel_rfl) (fun _ _ _ h => h) (Or.inl ⟨by rfl, ?_⟩) True.intro ?_
      ·
       intro w' hw'
       go_simp
      simp only [Act.put, List.setIfInBounds_toArray, List.set_cons_zero, List.set_cons_succ]
      refine wpAnyZ_takeL 20 (v := (.int .i64 (z3 : Int))) rfl (by kernel_rfl) (by kernel_rfl) (by kernel_rfl) (by kernel_rfl) (by kernel_rfl) (fun _ _ _ h => h) (Or.inl ⟨by rfl, ?_⟩) True.intro ?_
      ·
       intro w' hw'
       go_simp
      simp only [Act.put, List.setIfInBounds_toArray, List.set_cons_zero, List.set_cons_succ]
      refine wpAnyZ_takeL 21 rfl (by kernel_rfl) (by kernel_rfl) (by kernel_rfl) (by kernel_rfl) (by kernel_rfl) (fun _ _ _ h => h) (yieldsIf_move rfl _ rfl _ rfl) True.intro ?_
      simp only [Act.put, List.setIfInBounds_toArray, List.set_cons_zero, List.set_cons_succ]
      refine wpAnyZ_takeL 22 rfl (by kernel_rfl) (by kernel_rfl) (by kernel_rfl) (by kernel_rfl) (by kernel_rfl) (fun _ _ _ h => h) (yieldsIf_move rfl _ rfl _ rfl) True.intro ?_
      simp only [Act.put, List.setIfInBounds_toArray, List.set_cons_zero, List.set_cons_succ]
      refine wpAnyZ_takeL 23 (v := (.int .i64 ((k : Int) + 7 : Int))) rfl (by kernel_rfl) (by kernel_rfl) (by kernel_rfl) (by kernel_rfl) (by kernel_rfl) (fun _ _ _ h => h) (Or.inl ⟨by rfl, ?_⟩) True.intro ?_
      ·
       intro w' hw'
       go_simp
      simp only [Act.put, List.setIfInBounds_toArray, List.set_cons_zero, List.set_cons_succ]
      refine wpAnyZ_takeL 24 (v := (.int .i64 (m4 : Int))) rfl (by kernel_rfl) (by kernel_rfl) (by kernel_rfl) (by kernel_rfl) (by kernel_rfl) (fun _ _ _ h => h) (Or.inl ⟨by rfl, ?_⟩) True.intro ?_
      ·
       intro w' hw'
       go_simp
      simp only [Act.put, List.setIfInBounds_toArray, List.set_cons_zero, List.set_cons_succ]
      refine wpAnyZ_takeL 25 (v := (.int .i64 (y4 : Int))) rfl (by kernel_rfl) (by kernel_rfl) (by kernel_rfl) (by kernel_rfl) (by kernel_rfl) (fun _ _ _ h => h) (Or.inl ⟨by rfl, ?_⟩) True.intro ?_
      ·
       intro w' hw'
       go_simp
      simp only [Act.put, List.setIfInBounds_toArray, List.set_cons_zero, List.set_cons_succ]
      refine wpAnyZ_takeL 26 (v := (.int .i64 (z4 : Int))) rfl (by kernel_rfl) (by kernel_rfl) (by kernel_rfl) (by kernel_rfl) (by kernel_rfl) (fun _ _ _ h => h) (Or.inl ⟨by rfl, ?_⟩) True.intro ?_
      ·
       intro w' hw'
       go_simp
      simp only [Act.put, List.setIfInBounds_toArray, List.set_cons_zero, List.set_cons_succ]
      refine wpAnyZ_one (i := 27) (by kernel_rfl) ?_
      unfold wpOp
      go_simp
      left
      refine wpAnyZ_done (by kernel_rfl) ?_ _
      go_wp2
      exact ⟨⟨k + 1, by omega, by congr 1, by rw [HN.out], below_drew hB⟩, by simp only [intOf]; omega⟩
   ·
    have i1 : ¬ ((255 : Nat) : Int) + 1 < 256 := by omega
    go_wp2
    go_loopw [5, 6] (fun o i wr => ∃ k : Nat, k ≤ 8 ∧ i = .int .i64 (k : Int) ∧ o = .int .i64 ((outF Y k : Nat) : Int) ∧ Below w.heap.size w wr) (fun _ i _ => (8 - intOf i).toNat)
    case atStart => exact ⟨0, by omega, rfl, rfl, hB⟩
    case round =>
     clear hB hz hk
     obtain ⟨k, hk, rfl, rfl, hB⟩ := hrel
     by_cases h8 : k = 8
     ·
      subst h8
      have lo := outF_lt Y 8 (Nat.le_refl _)
      go_wp2
      go_ret
      exact ⟨congrArg (fun v : Nat => Ending.returned (Value.int .u8 (v : Int))) HS.out.symm, hB⟩
     ·
      have i2 : (k : Int) < 8 := by omega
      have i3 : (0 : Int) ≤ (k : Int) := by omega
      have lo := outF_lt Y k hk
      have hn : outF Y (k + 1) = outF Y k ^^^ (sbit Y k * 2 ^ k) := rfl
      unfold sbit at hn
      generalize outF Y k = V at *
      have D := fun m : Nat => Nat.lt_of_le_of_lt (Nat.div_le_self Y (2 ^ m)) lY
      have q0 := shr_nat Y k
      have q1 := shr_nat Y ((k + 4) % 8)
      have q2 := shr_nat Y ((k + 5) % 8)
      have q3 := shr_nat Y ((k + 6) % 8)
      have q4 := shr_nat Y ((k + 7) % 8)
      have l0 := D k
      have l1 := D ((k + 4) % 8)
      have l2 := D ((k + 5) % 8)
      have l3 := D ((k + 6) % 8)
      have l4 := D ((k + 7) % 8)
      clear D
      obtain ⟨m1, hm1⟩ : ∃ m, m = (k + 4) % 8 := ⟨_, rfl⟩
      obtain ⟨m2, hm2⟩ : ∃ m, m = (k + 5) % 8 := ⟨_, rfl⟩
      obtain ⟨m3, hm3⟩ : ∃ m, m = (k + 6) % 8 := ⟨_, rfl⟩
      obtain ⟨m4, hm4⟩ : ∃ m, m = (k + 7) % 8 := ⟨_, rfl⟩
      rw [← hm1] at q1 l1 hn
      rw [← hm2] at q2 l2 hn
      rw [← hm3] at q3 l3 hn
      rw [← hm4] at q4 l4 hn
      have r1 : ((k : Int) + 4).tmod 8 = (m1 : Int) := by rw [Int.tmod_eq_emod_of_nonneg (by omega)]; omega
      have w1' : IntKind.i64.wrap ((k : Int) + 4) = (k : Int) + 4 := by rw [IntKind.wrap_i64]; omega
      have r2 : ((k : Int) + 5).tmod 8 = (m2 : Int) := by rw [Int.tmod_eq_emod_of_nonneg (by omega)]; omega
      have w2' : IntKind.i64.wrap ((k : Int) + 5) = (k : Int) + 5 := by rw [IntKind.wrap_i64]; omega
      have r3 : ((k : Int) + 6).tmod 8 = (m3 : Int) := by rw [Int.tmod_eq_emod_of_nonneg (by omega)]; omega
      have w3' : IntKind.i64.wrap ((k : Int) + 6) = (k : Int) + 6 := by rw [IntKind.wrap_i64]; omega
      have r4 : ((k : Int) + 7).tmod 8 = (m4 : Int) := by rw [Int.tmod_eq_emod_of_nonneg (by omega)]; omega
      have w4' : IntKind.i64.wrap ((k : Int) + 7) = (k : Int) + 7 := by rw [IntKind.wrap_i64]; omega
      have u1 : m1 < 8 := by omega
      have u2 : m2 < 8 := by omega
      have u3 : m3 < 8 := by omega
      have u4 : m4 < 8 := by omega
      clear hm1 hm2 hm3 hm4
      generalize Y / 2 ^ k = y0 at *
      generalize Y / 2 ^ m1 = y1 at *
      generalize Y / 2 ^ m2 = y2 at *
      generalize Y / 2 ^ m3 = y3 at *
      generalize Y / 2 ^ m4 = y4 at *
      have x1 := i64_xor y0 y1 (Nat.lt_trans l0 (by decide)) (Nat.lt_trans l1 (by decide))
      have b1 := xor_256 l0 l1
      generalize y0 ^^^ y1 = z1 at *
      have x2 := i64_xor z1 y2 (Nat.lt_trans b1 (by decide)) (Nat.lt_trans l2 (by decide))
      have b2 := xor_256 b1 l2
      generalize z1 ^^^ y2 = z2 at *
      have x3 := i64_xor z2 y3 (Nat.lt_trans b2 (by decide)) (Nat.lt_trans l3 (by decide))
      have b3 := xor_256 b2 l3
      generalize z2 ^^^ y3 = z3 at *
      have x4 := i64_xor z3 y4 (Nat.lt_trans b3 (by decide)) (Nat.lt_trans l4 (by decide))
      have b4 := xor_256 b3 l4
      generalize z3 ^^^ y4 = z4 at *
      have x5 := i64_and1 z4 (Nat.lt_trans b4 (by decide))
      have l5 : z4 % 2 < 2 := Nat.mod_lt _ (by decide)
      obtain ⟨c, hc⟩ : ∃ c, c = z4 % 2 := ⟨_, rfl⟩
      rw [← hc] at x5 l5 hn
      clear hc
      have p7 : 2 ^ k ≤ 2 ^ 7 := Nat.pow_le_pow_right (by decide) (by omega)
      have p8 : c * 2 ^ k ≤ 1 * 2 ^ k := Nat.mul_le_mul_right _ (Nat.le_of_lt_succ l5)
      rw [Nat.one_mul] at p8
      have p9 : c * 2 ^ k < 256 := Nat.lt_of_le_of_lt (Nat.le_trans p8 p7) (by decide)
      have q9 : (c : Int) * 2 ^ k = ((c * 2 ^ k : Nat) : Int) := by push_cast; rfl
      obtain ⟨d, hd⟩ : ∃ d, d = c * 2 ^ k := ⟨_, rfl⟩
      rw [← hd] at p9 q9 hn
      clear hd p7 p8
      have x6 : wrap64 ((c : Int) * 2 ^ k) = (d : Int) := by
       rw [q9]
       unfold wrap64
       omega
      clear q9
      have x7 := i64_xor V d (Nat.lt_trans lo (by decide)) (Nat.lt_trans p9 (by decide))
      generalize V ^^^ d = N at *
      have HN := Lib.hid hn
      clear hn
      go_wp2
      refine wp_region_Z (S := (fun _ => True)) 27 (by kernel_rfl) ?_
      refine wpAnyZ_takeL 0 rfl (by kernel_rfl) (by kernel_rfl) (by kernel_rfl) (by kernel_rfl) (by kernel_rfl) (fun _ _ _ h => h) (yieldsIf_move rfl _ rfl _ rfl) True.intro ?_
      simp only [Act.put, List.setIfInBounds_toArray, List.set_cons_zero, List.set_cons_succ]
      refine wpAnyZ_takeL 1 rfl (by kernel_rfl) (by kernel_rfl) (by kernel_rfl) (by kernel_rfl) (by kernel_rfl) (fun _ _ _ h => h) (yieldsIf_move rfl _ rfl _ rfl) True.intro ?_
      simp only [Act.put, List.setIfInBounds_toArray, List.set_cons_zero, List.set_cons_succ]
      refine wpAnyZ_takeL 2 (v := (.int .i64 (y0 : Int))) rfl (by kernel_rfl) (by kernel_rfl) (by kernel_rfl) (by kernel_rfl) (by kernel_rfl) (fun _ _ _ h => h) (Or.inl ⟨by rfl, ?_⟩) True.intro ?_
      ·
       intro w' hw'
       go_simp
      simp only [Act.put, List.setIfInBounds_toArray, List.set_cons_zero, List.set_cons_succ]
      refine wpAnyZ_takeL 3 rfl (by kernel_rfl) (by kernel_rfl) (by kernel_rfl) (by kernel_rfl) (by kernel_rfl) (fun _ _ _ h => h) (yieldsIf_move rfl _ rfl _ rfl) True.intro ?_
      simp only [Act.put, List.setIfInBounds_toArray, List.set_cons_zero, List.set_cons_succ]
      refine wpAnyZ_takeL 4 rfl (by kernel_rfl) (by kernel_rfl) (by kernel_rfl) (by kernel_rfl) (by kernel_rfl) (fun _ _ _ h => h) (yieldsIf_move rfl _ rfl _ rfl) True.intro ?_
      simp only [Act.put, List.setIfInBounds_toArray, List.set_cons_zero, List.set_cons_succ]
      refine wpAnyZ_takeL 5 (v := (.int .i64 ((k : Int) + 4 : Int))) rfl (by kernel_rfl) (by kernel_rfl) (by kernel_rfl) (by kernel_rfl) (by kernel_rfl) (fun _ _ _ h => h) (Or.inl ⟨by rfl, ?_⟩) True.intro ?_
      ·
       intro w' hw'
       go_simp
      simp only [Act.put, List.setIfInBounds_toArray, List.set_cons_zero, List.set_cons_succ]
      refine wpAnyZ_takeL 6 (v := (.int .i64 (m1 : Int))) rfl (by kernel_rfl) (by kernel_rfl) (by kernel_rfl) (by kernel_rfl) (by kernel_rfl) (fun _ _ _ h => h) (Or.inl ⟨by rfl, ?_⟩) True.intro ?_
      ·
       intro w' hw'
       go_simp
      simp only [Act.put, List.setIfInBounds_toArray, List.set_cons_zero, List.set_cons_succ]
      refine wpAnyZ_takeL 7 (v := (.int .i64 (y1 : Int))) rfl (by kernel_rfl) (by kernel_rfl) (by kernel_rfl) (by kernel_rfl) (by kernel_rfl) (fun _ _ _ h => h) (Or.inl ⟨by rfl, ?_⟩) True.intro ?_
      ·
       intro w' hw'
       go_simp
      simp only [Act.put, List.setIfInBounds_toArray, List.set_cons_zero, List.set_cons_succ]
      refine wpAnyZ_takeL 8 (v := (.int .i64 (z1 : Int))) rfl (by kernel_rfl) (by kernel_rfl) (by kernel_rfl) (by kernel_rfl) (by kernel_rfl) (fun _ _ _ h => h) (Or.inl ⟨by rfl, ?_⟩) True.intro ?_
      ·
       intro w' hw'
       go_simp
      simp only [Act.put, List.setIfInBounds_toArray, List.set_cons_zero, List.set_cons_succ]
      refine wpAnyZ_takeL 9 rfl (by kernel_rfl) (by kernel_rfl) (by kernel_rfl) (by kernel_rfl) (by kernel_rfl) (fun _ _ _ h => h) (yieldsIf_move rfl _ rfl _ rfl) True.intro ?_
      simp only [Act.put, List.setIfInBounds_toArray, List.set_cons_zero, List.set_cons_succ]
      refine wpAnyZ_takeL 10 rfl (by kernel_rfl) (by kernel_rfl) (by kernel_rfl) (by kernel_rfl) (by kernel_rfl) (fun _ _ _ h => h) (yieldsIf_move rfl _ rfl _ rfl) True.intro ?_
      simp only [Act.put, List.setIfInBounds_toArray, List.set_cons_zero, List.set_cons_succ]
      refine wpAnyZ_takeL 11 (v := (.int .i64 ((k : Int) + 5 : Int))) rfl (by kernel_rfl) (by kernel_rfl) (by kernel_rfl) (by kernel_rfl) (by kernel_rfl) (fun _ _ _ h => h) (Or.inl ⟨by rfl, ?_⟩) True.intro ?_
      ·
       intro w' hw'
       go_simp
      simp only [Act.put, List.setIfInBounds_toArray, List.set_cons_zero, List.set_cons_succ]
      refine wpAnyZ_takeL 12 (v := (.int .i64 (m2 : Int))) rfl (by kernel_rfl) (by kernel_rfl) (by kernel_rfl) (by kernel_rfl) (by kernel_rfl) (fun _ _ _ h => h) (Or.inl ⟨by rfl, ?_⟩) True.intro ?_
      ·
       intro w' hw'
       go_simp
      simp only [Act.put, List.setIfInBounds_toArray, List.set_cons_zero, List.set_cons_succ]
      refine wpAnyZ_takeL 13 (v := (.int .i64 (y2 : Int))) rfl (by kernel_rfl) (by kernel_rfl) (by kernel_rfl) (by kernel_rfl) (by kernel_rfl) (fun _ _ _ h => h) (Or.inl ⟨by rfl, ?_⟩) True.intro ?_
      ·
       intro w' hw'
       go_simp
      simp only [Act.put, List.setIfInBounds_toArray, List.set_cons_zero, List.set_cons_succ]
      refine wpAnyZ_takeL 14 (v := (.int .i64 (z2 : Int))) rfl (by kernel_rfl) (by kernel_rfl) (by kernel_rfl) (by kernel_rfl) (by kernel_rfl) (fun _ _ _ h => h) (Or.inl ⟨by rfl, ?_⟩) True.intro ?_
      ·
       intro w' hw'
       go_simp
      simp only [Act.put, List.setIfInBounds_toArray, List.set_cons_zero, List.set_cons_succ]
      refine wpAnyZ_takeL 15 rfl (by kernel_rfl) (by kernel_rfl) (by kernel_rfl) (by kernel_rfl) (by kernel_rfl) (fun _ _ _ h => h) (yieldsIf_move rfl _ rfl _ rfl) True.intro ?_
      simp only [Act.put, List.setIfInBounds_toArray, List.set_cons_zero, List.set_cons_succ]
      refine wpAnyZ_takeL 16 rfl (by kernel_rfl) (by kernel_rfl) (by kernel_rfl) (by kernel_rfl) (by kernel_rfl) (fun _ _ _ h => h) (yieldsIf_move rfl _ rfl _ rfl) True.intro ?_
      simp only [Act.put, List.setIfInBounds_toArray, List.set_cons_zero, List.set_cons_succ]
      refine wpAnyZ_takeL 17 (v := (.int .i64 ((k : Int) + 6 : Int))) rfl (by kernel_rfl) (by kernel_rfl) (by kernel_rfl) (by kernel_rfl) (by kernel_rfl) (fun _ _ _ h => h) (Or.inl ⟨by rfl, ?_⟩) True.intro ?_
      ·
       intro w' hw'
       go_simp
      simp only [Act.put, List.setIfInBounds_toArray, List.set_cons_zero, List.set_cons_succ]
      refine wpAnyZ_takeL 18 (v := (.int .i64 (m3 : Int))) rfl (by kernel_rfl) (by kernel_rfl) (by kernel_rfl) (by kernel_rfl) (by kernel_rfl) (fun _ _ _ h => h) (Or.inl ⟨by rfl, ?_⟩) True.intro ?_
      ·
       intro w' hw'
       go_simp
      simp only [Act.put, List.setIfInBounds_toArray, List.set_cons_zero, List.set_cons_succ]
      refine wpAnyZ_takeL 19 (v := (.int .i64 (y3 : Int))) rfl (by kernel_rfl) (by kernel_rfl) (by kernel_rfl) (by kernel_rfl) (by kernel_rfl) (fun _ _ _ h => h) (Or.inl ⟨by rfl, ?_⟩) True.intro ?_
      ·
       intro w' hw'
       go_simp
      simp only [Act.put, List.setIfInBounds_toArray, List.set_cons_zero, List.set_cons_succ]
      refine wpAnyZ_takeL 20 (v := (.int .i64 (z3 : Int))) rfl (by kernel_rfl) (by kernel_rfl) (by kernel_rfl) (by kernel_rfl) (by kernel_rfl) (fun _ _ _ h => h) (Or.inl ⟨by rfl, ?_⟩) True.intro ?_
      ·
       intro w' hw'
       go_simp
      simp only [Act.put, List.setIfInBounds_toArray, List.set_cons_zero, List.set_cons_succ]
      refine wpAnyZ_takeL 21 rfl (by kernel_rfl) (by kernel_rfl) (by kernel_rfl) (by kernel_rfl) (by kernel_rfl) (fun _ _ _ h => h) (yieldsIf_move rfl _ rfl _ rfl) True.intro ?_
      simp only [Act.put, List.setIfInBounds_toArray, List.set_cons_zero, List.set_cons_succ]
      refine wpAnyZ_takeL 22 rfl (by kernel_rfl) (by kernel_rfl) (by kernel_rfl) (by kernel_rfl) (by kernel_rfl) (fun _ _ _ h => h) (yieldsIf_move rfl _ rfl _ rfl) True.intro ?_
      simp only [Act.put, List.setIfInBounds_toArray, List.set_cons_zero, List.set_cons_succ]
      refine wpAnyZ_takeL 23 (v := (.int .i64 ((k : Int) + 7 : Int))) rfl (by kernel_rfl) (by kernel_rfl) (by kernel_rfl) (by kernel_rfl) (by kernel_rfl) (fun _ _ _ h => h) (Or.inl ⟨by rfl, ?_⟩) True.intro ?_
      ·
       intro w' hw'
       go_simp
      simp only [Act.put, List.setIfInBounds_toArray, List.set_cons_zero, List.set_cons_succ]
      refine wpAnyZ_takeL 24 (v := (.int .i64 (m4 : Int))) rfl (by kernel_rfl) (by kernel_rfl) (by kernel_rfl) (by kernel_rfl) (by kernel_rfl) (fun _ _ _ h => h) (Or.inl ⟨by rfl, ?_⟩) True.intro ?_
      ·
       intro w' hw'
       go_simp
      simp only [Act.put, List.setIfInBounds_toArray, List.set_cons_zero, List.set_cons_succ]
      refine wpAnyZ_takeL 25 (v := (.int .i64 (y4 : Int))) rfl (by kernel_rfl) (by kernel_rfl) (by kernel_rfl) (by kernel_rfl) (by kernel_rfl) (fun _ _ _ h => h) (Or.inl ⟨by rfl, ?_⟩) True.intro ?_
      ·
       intro w' hw'
       go_simp
      simp only [Act.put, List.setIfInBounds_toArray, List.set_cons_zero, List.set_cons_succ]
      refine wpAnyZ_takeL 26 (v := (.int .i64 (z4 : Int))) rfl (by kernel_rfl) (by kernel_rfl) (by kernel_rfl) (by kernel_rfl) (by kernel_rfl) (fun _ _ _ h => h) (Or.inl ⟨by rfl, ?_⟩) True.intro ?_
      ·
       intro w' hw'
       go_simp
      simp only [Act.put, List.setIfInBounds_toArray, List.set_cons_zero, List.set_cons_succ]
      refine wpAnyZ_one (i := 27) (by kernel_rfl) ?_
      unfold wpOp
      go_simp
      left
      refine wpAnyZ_done (by kernel_rfl) ?_ _
      go_wp2
      exact ⟨⟨k + 1, by omega, by congr 1, by rw [HN.out], below_drew hB⟩, by simp only [intOf]; omega⟩
  ·
   have n0 : x ≠ 0 := fun h => hend (Or.inl h)
   have n1 : k < 255 := by omega
   have i1 : (k : Int) + 1 < 256 := by omega
   have i2 : ¬ (x : Int) = 0 := by omega
   have hn : invF x (k + 1) = if gm x (k + 1) = 1 then k + 1 else invF x k := rfl
   have lg := gm_lt (a := x) (k + 1) hx
   have CB := Lib.hid (fun W => rbyte_any x (k + 1) hx (by omega) W)
   rw [show ((k + 1 : Nat) : Int) = (k : Int) + 1 by omega] at CB
   generalize gm x (k + 1) = G at *
   have HN := Lib.hid hn
   clear hn
   go_wp2_with fail
   refine (CB.out _).mono ?_
   rintro e w1 ⟨rfl, b⟩
   replace hB := hB.trans (b.mono hB.size)
   clear b CB
   have fin : ∀ V : Nat, invF x (k + 1) = V → (∃ k_1 : Nat, k_1 ≤ 255 ∧ (x = 0 → k_1 = 0) ∧ Value.int IntKind.i64 ((k : Int) + 1 + 1) = Value.int IntKind.i64 ((k_1 : Int) + 1) ∧ Value.int IntKind.i64 (V : Int) = Value.int IntKind.i64 ((invF x k_1 : Nat) : Int) ∧ Below w.heap.size w w1) ∧ (256 - intOf (Value.int IntKind.i64 ((k : Int) + 1 + 1))).toNat < (256 - intOf (Value.int IntKind.i64 ((k : Int) + 1))).toNat := fun V hV =>
    ⟨⟨k + 1, by omega, fun h => absurd h n0, by congr 1, by rw [hV], hB⟩, by simp only [intOf]; omega⟩
   by_cases g1 : G = 1
   ·
    subst g1
    have f := fin (k + 1) (by rw [HN.out]; exact if_pos rfl)
    rw [show ((k + 1 : Nat) : Int) = (k : Int) + 1 by omega] at f
    go_wp2
    exact f
   ·
    have g2 : ¬ (G : Int) = 1 := by omega
    have f := fin _ (HN.out.trans (if_neg g1))
    go_wp2
    exact f
end Go.Proofs.YtpihgljdbpnehaaDoor
namespace Go.Proofs.YtpihgljdbpnehaaDoor
open Go.RowKit
/-- One byte built into a slice of its own and appended. -/
theorem append_one (B : Nat) (w0 w : World) (ty : TypeId) (v : Value) (l : List Nat) (x : Nat) (O : OwL B w v l) (hl : l.length ≤ 10000) (b : Below B w0 w) (hB : B ≤ w.heap.size) :
  ∃ v' w', (Builtin.append_ #[24, 24] ty #[v, .slice (some ⟨w.heap.size, 0, none⟩) 1 1]).run Tryd.prog (w.alloc (.cells #[.int .u8 ((x : Nat) : Int)] 5)) = .ok v' w' ∧ OwL B w' v' (l ++ [x]) ∧ Below B w0 w' := by
 have b7 : Below w.heap.size w (w.alloc (.cells #[.int .u8 ((x : Nat) : Int)] 5)) := (Below.refl _ _).alloc (Nat.le_refl _) _
 have hB7 : B ≤ (w.alloc (.cells #[.int .u8 ((x : Nat) : Int)] 5)).heap.size := Nat.le_trans hB b7.size
 obtain ⟨v8, w8, r8, O8, g8, _⟩ := append_ba B _ ty v l [x] (O.below b7) w.heap.size 0 1 (byte_row w x) (by simp; omega) hB7
 exact ⟨v8, w8, r8, O8, below_grown' (b.trans (b7.mono hB)) g8 (fun j hj => ((O.below b7).lt j hj).1) hB7⟩
set_option maxHeartbeats 4000000 in
set_option maxRecDepth 100000 in
theorem rbox_any (w : World) :
  Calls Tryd.prog 34 #[] w fun e w' => ∃ v, e = .returned v ∧ OwL w.heap.size w' v boxL ∧ Below w.heap.size w w' := by
 have hT : boxL.take 256 = boxL := List.take_of_length_le (by rw [boxL_length]; exact Nat.le_refl _)
 go_enter Tryd.func34, Tryd.ntmps34
 go_wp2
 go_loopw [1, 2] (fun l i wr => ∃ k : Nat, k ≤ 256 ∧ i = .int .i64 (k : Int) ∧ OwL w.heap.size wr l (boxL.take k) ∧ Below w.heap.size w wr) (fun _ i _ => (256 - intOf i).toNat)
 case atStart => exact ⟨0, by omega, rfl, OwL.nil _ _, Below.refl _ _⟩
 case round =>
  obtain ⟨k, hk, rfl, O, hB⟩ := hrel
  by_cases h8 : k = 256
  ·
   subst h8
   rw [hT] at O
   go_wp2
   go_ret
   exact ⟨_, rfl, O, hB⟩
  ·
   have hlt : k < 256 := by omega
   have i2 : (k : Int) < 256 := by omega
   have i3 : (0 : Int) ≤ (k : Int) := by omega
   have i4 : (k : Int) % 256 = (k : Int) := by omega
   have CS := Lib.hid (fun W => rsub_any k hlt W)
   have hs : boxL.take (k + 1) = boxL.take k ++ [subN k] := by
    rw [List.take_add_one, List.getElem?_eq_getElem (by rw [boxL_length]; exact hlt)]
    simp [boxL]
   have ll : (boxL.take k).length = k := by rw [List.length_take, boxL_length]; omega
   generalize subN k = X at *
   generalize boxL.take k = L at *
   have HS := Lib.hid hs
   clear hs
   go_wp2_with fail
   refine (CS.out _).mono ?_
   rintro e w1 ⟨rfl, b⟩
   have hB1 := hB.trans (b.mono hB.size)
   have O1 := O.below b
   clear CS b O hB
   obtain ⟨v8, w8, r8, O8, B8⟩ := append_one w.heap.size w w1 24 _ L X O1 (by omega) hB1 hB1.size
   clear O1 hB1
   go_wp2_with (refine wpList_append_run rfl _ _ _ _ rfl _ _ rfl rfl _ _ r8 ?_)
   exact ⟨⟨k + 1, by omega, by congr 1, by rw [HS.out]; exact O8, B8⟩, by simp only [intOf]; omega⟩
end Go.Proofs.YtpihgljdbpnehaaDoor
