/- Contracts of the reference's Over, Same: by value. -/
import Derived.Test.YtgdhlafggdaipaaRl
namespace Go.Proofs.Ytgdhlafggdaipaa
open Go.RowKit

set_option maxHeartbeats 2000000 in
theorem rover_any (ga na ca : Nat) (fa : Nat → Nat) (w : World) (ha : Sl w ga na fa) (hna : na ≤ 17) :
    Calls Try.prog 23 #[SlV ga na ca] w (RetF w (lv fa na ^ (pp - 2))) := by
  unfold SlV
  go_enter Try.func23, Try.ntmps23
  go_wp2_with fail
  refine (p_any _).mono ?_
  rintro e w1 ⟨gp, cp, rfl, SP, _, B1⟩
  have ha1 := ha.below B1
  unfold SlV
  go_wp2_with fail
  refine (num_any 2 _ (by decide)).mono ?_
  rintro e w2 ⟨g2, c2, rfl, S2, _, b2⟩
  have SP2 := SP.below b2
  have ha2 := ha1.below b2
  have B2 := B1.trans (b2.mono B1.size)
  clear b2 SP ha1 B1 ha
  unfold SlV
  go_wp2_with fail
  refine (minus_any gp 16 cp g2 2 c2 _ _ _ SP2 S2 (by decide)).mono ?_
  rintro e w3 ⟨g3, c3, rfl, S3, _, b3⟩
  have ha3 := ha2.below b3
  have B3 := B2.trans (b3.mono B2.size)
  have hs := sub_val pF (numF 2) 16 2 pF_lt S2.lt S2.high (by decide) (by rw [pF_num, numF_num 2 (by decide)]; decide)
  rw [pF_num, numF_num 2 (by decide)] at hs
  have hf := fun W (a : Sl W ga na fa) (h : Sl W g3 16 (subF 16 pF (numF 2))) => rpow_any ga na ca g3 16 c3 fa _ W a h hna (by decide)
  rw [hs] at hf
  have HF := Lib.hid hf
  clear hs hf b3 SP2 S2 B2 ha2
  unfold SlV
  go_wp2_with fail
  refine (HF.out _ ha3 S3).mono ?_
  rintro e w4 ⟨g4, n4, c4, f4, rfl, S4, v4, h4, b4⟩
  have B4 := B3.trans (b4.mono B3.size)
  have V4 := Lib.hid v4
  clear b4 B3 S3 HF v4 ha3
  unfold SlV
  go_wp2
  go_ret
  exact ⟨g4, n4, c4, f4, rfl, S4, V4.out, h4, B4⟩

end Go.Proofs.Ytgdhlafggdaipaa
