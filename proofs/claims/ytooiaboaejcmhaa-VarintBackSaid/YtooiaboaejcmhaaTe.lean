/- The program's Readers: what is asked of a nil one. -/
import Derived.Test.YtooiaboaejcmhaaTa
namespace Go.Proofs.Ytooiaboaejcmhaa
open Go.RowKit

set_option maxHeartbeats 4000000 in
theorem nil_code (W : World) : Calls Try.prog 13 #[.pointer none] W fun e w' => e = .returned (.int .i64 1) ∧ Below W.heap.size W w' := by
  go_enter Try.func13, Try.ntmps13
  go_wp2
  go_ret
  exact ⟨rfl, Below.refl _ _⟩
set_option maxHeartbeats 4000000 in
theorem nil_left (W : World) : Calls Try.prog 14 #[.pointer none] W fun e w' => e = .returned (.int .i64 0) ∧ Below W.heap.size W w' := by
  go_enter Try.func14, Try.ntmps14
  go_wp2
  go_ret
  exact ⟨rfl, Below.refl _ _⟩
set_option maxHeartbeats 4000000 in
theorem nil_fail (c : Int) (W : World) (_hc : IntKind.i64.wrap c = c) : Calls Try.prog 15 #[.pointer none, .int .i64 c] W fun e w' => (∃ v, e = .returned v) ∧ Below W.heap.size W w' := by
  clear _hc
  have C := Lib.hid (nil_code W)
  go_enter Try.func15, Try.ntmps15
  go_wp2_with fail
  refine C.out.mono ?_
  rintro _ w1 ⟨rfl, b1⟩
  go_wp2
  refine bodyPost_end (results_none rfl _ _ _) rfl ?_
  exact ⟨⟨_, rfl⟩, b1⟩
set_option maxHeartbeats 4000000 in
theorem nil_take (n : Nat) (W : World) : Calls Try.prog 21 #[.pointer none, .int .u64 (n : Int)] W fun e w' => e = .returned (.slice none 0 0) ∧ Below W.heap.size W w' := by
  have C := Lib.hid (nil_code W)
  go_enter Try.func21, Try.ntmps21
  go_wp2_with fail
  refine C.out.mono ?_
  rintro _ w1 ⟨rfl, b1⟩
  go_wp2
  go_ret
  exact ⟨rfl, b1⟩
set_option maxHeartbeats 4000000 in
theorem nil_bytes (n : Nat) (W : World) (_hn : n < 18446744073709551616) : Calls Try.prog 16 #[.pointer none, .int .u64 (n : Int)] W fun e w' => (∃ p c, e = .returned (.slice p 0 c)) ∧ Below W.heap.size W w' := by
  have C := Lib.hid (nil_take n W)
  have D := Lib.hid (fun W => clone_c [] none 0 0 (by decide) W (SB.nil _ _ _))
  clear _hn
  go_enter Try.func16, Try.ntmps16
  go_wp2_with fail
  refine C.out.mono ?_
  rintro _ w1 ⟨rfl, b1⟩
  go_wp2_with fail
  refine (D.out _).mono ?_
  rintro _ w2 ⟨v, rfl, O, b2⟩
  obtain ⟨p, c, rfl⟩ := O.shape
  go_wp2
  go_ret
  exact ⟨⟨_, _, rfl⟩, b1.trans (b2.mono b1.size)⟩
set_option maxHeartbeats 4000000 in
theorem nil_byte (W : World) : Calls Try.prog 17 #[.pointer none] W fun e w' => e = .returned (.int .u8 0) ∧ Below W.heap.size W w' := by
  have C := Lib.hid (nil_take 1 W)
  go_enter Try.func17, Try.ntmps17
  go_wp2_with fail
  refine C.out.mono ?_
  rintro _ w1 ⟨rfl, b1⟩
  go_wp2
  go_ret
  exact ⟨rfl, b1⟩
set_option maxHeartbeats 4000000 in
theorem nil_num (W : World) : Calls Try.prog 11 #[.pointer none] W fun e w' => e = .returned (.int .u64 0) ∧ Below W.heap.size W w' := by
  have C := Lib.hid (nil_left W)
  have D := Lib.hid (size_c (Q4.of 0 (by decide)))
  have F := Lib.hid (room_c (Q4.of 0 (by decide)))
  have E := Lib.hid (nil_take 1)
  go_enter Try.func11, Try.ntmps11
  go_wp2_with fail
  refine C.out.mono ?_
  rintro _ w1 ⟨rfl, b1⟩
  go_wp2_with fail
  refine (D.out _).mono ?_
  rintro _ w2 ⟨rfl, rfl⟩
  go_wp2_with fail
  refine (E.out _).mono ?_
  rintro _ w3 ⟨rfl, b3⟩
  go_upto_region 6 with fail
  go_loopw [4, 24] (fun v t wr => v = .int .u64 0 ∧ t = .int .i64 0 ∧ wr = w3) (fun _ _ _ => 0)
  case atStart => exact ⟨rfl, rfl, rfl⟩
  case round =>
  obtain ⟨rfl, rfl, hw⟩ := hrel
  subst hw
  go_wp2_with fail
  refine (F.out _).mono ?_
  rintro _ w4 ⟨rfl, rfl⟩
  go_wp2
  go_ret
  exact ⟨rfl, b1.trans (b3.mono b1.size)⟩
set_option maxHeartbeats 4000000 in
theorem nil_fin (W : World) : Calls Try.prog 12 #[.pointer none] W fun e w' => e = .returned (.int .i64 1) ∧ Below W.heap.size W w' := by
  have C := Lib.hid (nil_left W)
  have D := Lib.hid nil_code
  go_enter Try.func12, Try.ntmps12
  go_wp2_with fail
  refine C.out.mono ?_
  rintro _ w1 ⟨rfl, b1⟩
  go_wp2_with fail
  refine (D.out _).mono ?_
  rintro _ w2 ⟨rfl, b2⟩
  go_wp2
  go_ret
  exact ⟨rfl, b1.trans (b2.mono b1.size)⟩
theorem nil_c' : NilC := ⟨nil_fail, nil_code, nil_left, nil_bytes, nil_byte, nil_num, nil_fin⟩
end Go.Proofs.Ytooiaboaejcmhaa
