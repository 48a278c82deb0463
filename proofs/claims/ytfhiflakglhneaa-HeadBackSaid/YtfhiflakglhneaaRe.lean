/- The program's Readers: what is asked of a nil one. -/
import Derived.Test.YtfhiflakglhneaaRa
namespace Go.Proofs.Ytfhiflakglhneaa
open Go.RowKit

set_option maxHeartbeats 4000000 in
theorem nil_code (W : World) : Calls Try.prog 22 #[.pointer none] W fun e w' => e = .returned (.int .i64 1) ∧ Below W.heap.size W w' := by
  go_enter Try.func22, Try.ntmps22
  go_wp2
  go_ret
  exact ⟨rfl, Below.refl _ _⟩
set_option maxHeartbeats 4000000 in
theorem nil_left (W : World) : Calls Try.prog 23 #[.pointer none] W fun e w' => e = .returned (.int .i64 0) ∧ Below W.heap.size W w' := by
  go_enter Try.func23, Try.ntmps23
  go_wp2
  go_ret
  exact ⟨rfl, Below.refl _ _⟩
set_option maxHeartbeats 4000000 in
theorem nil_fail (c : Int) (W : World) (_hc : IntKind.i64.wrap c = c) : Calls Try.prog 26 #[.pointer none, .int .i64 c] W fun e w' => (∃ v, e = .returned v) ∧ Below W.heap.size W w' := by
  clear _hc
  have C := Lib.hid (nil_code W)
  go_enter Try.func26, Try.ntmps26
  go_wp2_with fail
  refine C.out.mono ?_
  rintro _ w1 ⟨rfl, b1⟩
  go_wp2
  refine bodyPost_end (results_none rfl _ _ _) rfl ?_
  exact ⟨⟨_, rfl⟩, b1⟩
set_option maxHeartbeats 4000000 in
theorem nil_take (n : Nat) (W : World) : Calls Try.prog 30 #[.pointer none, .int .u64 (n : Int)] W fun e w' => e = .returned (.slice none 0 0) ∧ Below W.heap.size W w' := by
  have C := Lib.hid (nil_code W)
  go_enter Try.func30, Try.ntmps30
  go_wp2_with fail
  refine C.out.mono ?_
  rintro _ w1 ⟨rfl, b1⟩
  go_wp2
  go_ret
  exact ⟨rfl, b1⟩
set_option maxHeartbeats 4000000 in
theorem nil_num (W : World) : Calls Try.prog 31 #[.pointer none] W fun e w' => e = .returned (.int .u64 0) ∧ Below W.heap.size W w' := by
  have C := Lib.hid (nil_left W)
  have D := Lib.hid (size_c (Q4.of 0 (by decide)))
  have F := Lib.hid (room_c (Q4.of 0 (by decide)))
  have E := Lib.hid (nil_take 1)
  go_enter Try.func31, Try.ntmps31
  go_wp2_with fail
  refine C.out.mono ?_
  rintro _ w1 ⟨rfl, b1⟩
  go_wp2_with fail
  refine (D.out _).mono ?_
  rintro _ w2 ⟨rfl, rfl⟩
  go_wp2_with fail
  refine (E.out _).mono ?_
  rintro _ w3 ⟨rfl, b3⟩
  go_upto_region 6 with fail
  go_loopw [4, 24] (fun v t wr => v = .int .u64 0 ∧ t = .int .i64 0 ∧ wr = w3) (fun _ _ _ => 0)
  case atStart => exact ⟨rfl, rfl, rfl⟩
  case round =>
  obtain ⟨rfl, rfl, hw⟩ := hrel
  subst hw
  go_wp2_with fail
  refine (F.out _).mono ?_
  rintro _ w4 ⟨rfl, rfl⟩
  go_wp2
  go_ret
  exact ⟨rfl, b1.trans (b3.mono b1.size)⟩
end Go.Proofs.Ytfhiflakglhneaa
