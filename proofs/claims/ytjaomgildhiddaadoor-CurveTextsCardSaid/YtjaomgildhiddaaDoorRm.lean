/- Contract of the reference's Power: by value, modulo the prime. -/
import Derived.Test.YtjaomgildhiddaaDoorRk
import Derived.Test.YtjaomgildhiddaaDoorFk
namespace Go.Proofs.YtjaomgildhiddaaDoor
open Go.RowKit

theorem lv_bit (f : Nat → Nat) (hf : ∀ i, f i < 65536) (n : Nat) (hh : ∀ i, n ≤ i → f i = 0) (j : Nat) : f (j / 16) / 2 ^ (j % 16) % 2 = lv f n / 2 ^ j % 2 := by
  rw [← lv_part_any f hf n hh (j / 16)]
  have e : (65536 : Nat) = 2 ^ (j % 16) * 2 ^ (16 - j % 16) := by
    rw [← Nat.pow_add, show j % 16 + (16 - j % 16) = 16 by omega]
  have d : (2 : Nat) ∣ 2 ^ (16 - j % 16) := by
    have := Nat.pow_dvd_pow 2 (show 1 ≤ 16 - j % 16 by omega)
    simpa using this
  have h8 : (65536 : Nat) ^ (j / 16) = 2 ^ (16 * (j / 16)) := by rw [Nat.pow_mul]
  rw [h8]
  conv => lhs; rw [e]
  rw [Nat.mod_mul_right_div_self, Nat.mod_mod_of_dvd _ d, Nat.div_div_eq_div_mul, ← Nat.pow_add]
  congr 3
  omega
theorem mpow_mod (a e : Nat) : mpow (a % pp) e = mpow a e := by
  unfold mpow
  rw [← Nat.pow_mod]
theorem rpow_step0 (a v k x : Nat) (hx : x = mpow a (v / 2 ^ (k + 1))) (hb : v / 2 ^ k % 2 ≠ 1) : x * x % pp = mpow a (v / 2 ^ k) := by
  rw [hx, mpow_double, Nat.pow_succ, ← Nat.div_div_eq_div_mul]
  congr 1
  omega
theorem rpow_step1 (a v k x y : Nat) (hx : x = mpow a (v / 2 ^ (k + 1))) (hy : y = x * x % pp) (hb : v / 2 ^ k % 2 = 1) : y * a % pp = mpow a (v / 2 ^ k) := by
  rw [hy, hx, mpow_double, Nat.pow_succ, ← Nat.div_div_eq_div_mul]
  unfold mpow
  rw [Nat.mod_mul_mod, ← Nat.pow_succ]
  congr 2
  omega
theorem and1_32 (x : Int) (h0 : 0 ≤ x) (h1 : x < 4294967296) : bits .and .u32 x 1 = x % 2 := by
  obtain ⟨n, rfl⟩ := Int.eq_ofNat_of_zero_le h0
  have h := u32_and_nat n 1 (by omega) (by omega)
  have e : n &&& 1 = n % 2 := Nat.and_two_pow_sub_one_eq_mod n 1
  rw [e] at h
  exact h
theorem rbit (x s : Nat) (hx : x < 65536) : bits .and .u32 ((x : Int) / 2 ^ s) 1 = (((x / 2 ^ s % 2 : Nat)) : Int) := by
  have e : (x : Int) / 2 ^ s = ((x / 2 ^ s : Nat) : Int) := by simp
  have := Nat.div_le_self x (2 ^ s)
  rw [e]
  generalize x / 2 ^ s = y at *
  rw [and1_32 _ (by omega) (by omega)]
  omega

set_option maxHeartbeats 2000000 in
theorem rpow_any (ga na ca ge ne ce : Nat) (fa fe : Nat → Nat) (w : World) (ha : Sl w ga na fa) (he : Sl w ge ne fe) (hna : na ≤ 17) (hne : ne ≤ 1000) :
    Calls Tryd.prog 45 #[SlV ga na ca, SlV ge ne ce] w (RetF w (lv fa na ^ lv fe ne)) := by
  unfold SlV
  go_enter Tryd.func45, Tryd.ntmps45
  go_wp2_with fail
  refine (num_any 1 _ (by decide)).mono ?_
  rintro e w1 ⟨g1, c1, rfl, S1, _, B1⟩
  unfold SlV
  go_wp2_with fail
  refine (fold_any g1 2 c1 _ _ S1 (by decide)).mono ?_
  rintro e w2 ⟨g2, n2, c2, f2, rfl, S2, v2, h2, b2⟩
  rw [numF_num 1 (by decide)] at v2
  have B2 := B1.trans (b2.mono B1.size)
  have V2 := Lib.hid v2
  clear b2 B1 S1 v2
  unfold SlV
  go_wp2
  go_loopw [5, 6] (fun o i wr => ∃ (k g n c : Nat) (f : Nat → Nat), k ≤ 16 * ne ∧ i = .int .i64 ((k : Int) - 1) ∧ o = SlV g n c ∧ Sl wr ga na fa ∧ Sl wr ge ne fe ∧ Sl wr g n f ∧ lv f n = mpow (lv fa na) (lv fe ne / 2 ^ k) ∧ n ≤ 17 ∧ Below w.heap.size w wr) (fun _ i _ => (intOf i + 1).toNat)
  case atStart =>
    refine ⟨16 * ne, g2, n2, c2, f2, Nat.le_refl _, by go_num, rfl, ha.below B2, he.below B2, S2, ?_, h2, B2⟩
    rw [V2.out, Nat.div_eq_of_lt, mpow_zero]
    · rw [pp_eq]
    · have := lv_lt fe he.lt ne
      rw [show (65536 : Nat) = 2 ^ 16 from rfl, ← Nat.pow_mul] at this
      exact this
  case round =>
    clear B2 V2 S2 h2
    obtain ⟨k, g, n, c, f, hk, rfl, rfl, hA, hE, hF, hv, hn, hB⟩ := hrel
    unfold SlV
    by_cases h0 : k = 0
    · subst h0
      rw [Nat.pow_zero, Nat.div_one] at hv
      have HV := Lib.hid hv
      clear hv
      go_wp2
      go_ret
      exact ⟨g, n, c, f, rfl, hF, HV.out, hn, hB⟩
    · obtain ⟨j, rfl⟩ : ∃ j, k = j + 1 := ⟨k - 1, by omega⟩
      have e0 : ((j + 1 : Nat) : Int) - 1 = (j : Int) := by omega
      have HV := Lib.hid hv
      clear hv h0
      rw [e0]
      go_wp2_with fail
      refine (rmul_any g n c g n c f f _ hF hF hn hn).mono ?_
      rintro e w3 ⟨g3, n3, c3, f3, rfl, S3, v3, h3, b3⟩
      have A3 := hA.below b3
      have E3 := hE.below b3
      have B3 := hB.trans (b3.mono hB.size)
      have V3 := Lib.hid v3
      clear b3 v3 hA hE hF hB hn
      unfold SlV
      have jlt : j / 16 < ne := by omega
      have ce : w3.cell? ⟨ge, j / 16, none⟩ = some (.int .u32 ((fe (j / 16) : Nat) : Int)) := E3.cell _ jlt
      have hb := lv_bit fe E3.lt ne E3.high j
      have eb := rbit (fe (j / 16)) (j % 16) (E3.lt _)
      rw [hb] at eb
      clear hb
      by_cases b1 : lv fe ne / 2 ^ j % 2 = 1
      · rw [b1] at eb
        go_wp2_with fail
        refine (rmul_any g3 n3 c3 ga na ca f3 fa _ S3 A3 h3 hna).mono ?_
        rintro e w4 ⟨g4, n4, c4, f4, rfl, S4, v4, h4, b4⟩
        have A4 := A3.below b4
        have E4 := E3.below b4
        have B4 := B3.trans (b4.mono B3.size)
        have V4 := Lib.hid (v4.trans (rpow_step1 _ _ _ _ _ HV.out V3.out b1))
        clear b4 v4 A3 E3 S3 B3 eb b1 ce
        unfold SlV
        go_wp2
        exact ⟨⟨j, g4, n4, c4, f4, by omega, rfl, rfl, A4, E4, S4, V4.out, h4, B4⟩, by simp [intOf]⟩
      · have b0 : lv fe ne / 2 ^ j % 2 = 0 := by omega
        have V4 := Lib.hid (V3.out.trans (rpow_step0 _ _ _ _ HV.out b1))
        rw [b0] at eb
        clear b0 b1
        go_wp2
        exact ⟨⟨j, g3, n3, c3, f3, by omega, rfl, rfl, A3, E3, S3, V4.out, h3, B3⟩, by simp [intOf]⟩

end Go.Proofs.YtjaomgildhiddaaDoor
/- Contracts of the reference's Over, Same: by value. -/
namespace Go.Proofs.YtjaomgildhiddaaDoor
open Go.RowKit

set_option maxHeartbeats 2000000 in
theorem rover_any (ga na ca : Nat) (fa : Nat → Nat) (w : World) (ha : Sl w ga na fa) (hna : na ≤ 17) :
    Calls Tryd.prog 42 #[SlV ga na ca] w (RetF w (lv fa na ^ (pp - 2))) := by
  unfold SlV
  go_enter Tryd.func42, Tryd.ntmps42
  go_wp2_with fail
  refine (p_any _).mono ?_
  rintro e w1 ⟨gp, cp, rfl, SP, _, B1⟩
  have ha1 := ha.below B1
  unfold SlV
  go_wp2_with fail
  refine (num_any 2 _ (by decide)).mono ?_
  rintro e w2 ⟨g2, c2, rfl, S2, _, b2⟩
  have SP2 := SP.below b2
  have ha2 := ha1.below b2
  have B2 := B1.trans (b2.mono B1.size)
  clear b2 SP ha1 B1 ha
  unfold SlV
  go_wp2_with fail
  refine (minus_any gp 16 cp g2 2 c2 _ _ _ SP2 S2 (by decide)).mono ?_
  rintro e w3 ⟨g3, c3, rfl, S3, _, b3⟩
  have ha3 := ha2.below b3
  have B3 := B2.trans (b3.mono B2.size)
  have hs := sub_val pF (numF 2) 16 2 pF_lt S2.lt S2.high (by decide) (by rw [pF_num, numF_num 2 (by decide)]; decide)
  rw [pF_num, numF_num 2 (by decide)] at hs
  have hf := fun W (a : Sl W ga na fa) (h : Sl W g3 16 (subF 16 pF (numF 2))) => rpow_any ga na ca g3 16 c3 fa _ W a h hna (by decide)
  rw [hs] at hf
  have HF := Lib.hid hf
  clear hs hf b3 SP2 S2 B2 ha2
  unfold SlV
  go_wp2_with fail
  refine (HF.out _ ha3 S3).mono ?_
  rintro e w4 ⟨g4, n4, c4, f4, rfl, S4, v4, h4, b4⟩
  have B4 := B3.trans (b4.mono B3.size)
  have V4 := Lib.hid v4
  clear b4 B3 S3 HF v4 ha3
  unfold SlV
  go_wp2
  go_ret
  exact ⟨g4, n4, c4, f4, rfl, S4, V4.out, h4, B4⟩

set_option maxHeartbeats 2000000 in
theorem rsame_any (ga na ca gb nb cb : Nat) (fa fb : Nat → Nat) (w : World) (ha : Sl w ga na fa) (hb : Sl w gb nb fb) (hna : na < 4294967296) (hnb : nb < 4294967296) :
    Calls Tryd.prog 46 #[SlV ga na ca, SlV gb nb cb] w (fun e w' => e = .returned (.bool (decide (lv fa na = lv fb nb))) ∧ Below w.heap.size w w') := by
  unfold SlV
  by_cases h1 : lv fa na < lv fb nb
  · have e1 : decide (lv fa na = lv fb nb) = false := by simp; omega
    rw [e1]
    go_enter Tryd.func46, Tryd.ntmps46
    go_wp2_with fail
    refine (less_any ga na ca gb nb cb fa fb _ ha hb hna hnb).mono ?_
    rintro e w1 ⟨rfl, rfl⟩
    rw [decide_eq_true h1]
    go_wp2
    go_ret
    exact ⟨rfl, Below.refl _ _⟩
  · have e1 : decide (lv fa na = lv fb nb) = !decide (lv fb nb < lv fa na) := by
      by_cases h2 : lv fb nb < lv fa na
      · rw [decide_eq_true h2]; simp; omega
      · rw [decide_eq_false h2]; simp; omega
    rw [e1]
    clear e1
    go_enter Tryd.func46, Tryd.ntmps46
    go_wp2_with fail
    refine (less_any ga na ca gb nb cb fa fb _ ha hb hna hnb).mono ?_
    rintro e w1 ⟨rfl, rfl⟩
    rw [decide_eq_false h1]
    go_wp2_with fail
    refine (less_any gb nb cb ga na ca fb fa _ hb ha hnb hna).mono ?_
    rintro e w2 ⟨rfl, rfl⟩
    go_wp2
    go_ret
    exact ⟨rfl, Below.refl _ _⟩

end Go.Proofs.YtjaomgildhiddaaDoor
