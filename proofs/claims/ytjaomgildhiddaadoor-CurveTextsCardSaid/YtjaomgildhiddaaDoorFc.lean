/- The contract of field.reduce: five parts below 2^63 become the Element of their number modulo 2^255 - 19; nothing that was there turns. -/
import Derived.Test.YtjaomgildhiddaaDoorFb
namespace Go.Proofs.YtjaomgildhiddaaDoor
open Go.RowKit

set_option maxHeartbeats 1000000 in
theorem reduce_any (p0 p1 p2 p3 p4 : Int) (n : Nat) (w : World) (a0 : 0 ≤ p0) (a1 : 0 ≤ p1) (a2 : 0 ≤ p2) (a3 : 0 ≤ p3) (a4 : 0 ≤ p4)
    (h0 : p0 < 9223372036854775808) (h1 : p1 < 9223372036854775808) (h2 : p2 < 9223372036854775808) (h3 : p3 < 9223372036854775808) (h4 : p4 < 9223372036854775808) (hn : val5 p0 p1 p2 p3 p4 = n) :
    Calls Tryd.prog 55 #[.int .u64 p0, .int .u64 p1, .int .u64 p2, .int .u64 p3, .int .u64 p4] w fun e w' => e = .returned (El (n % pp)) ∧ Below w.heap.size w w' := by
  have H := Lib.hid hn
  clear hn
  go_enter Tryd.func55, Tryd.ntmps55
  go_wp2_with fail
  refine (carried_ex _ _ _ _ _ _ a0 a1 a2 a3 a4 (by omega) (by omega) (by omega) (by omega) (by omega)).mono ?_
  rintro e w' ⟨q0, q1, q2, q3, q4, ab, rfl, rfl, C1, b0, b0', b1, b1', b2, b2', b3, b3', b4, b4', b5, b5'⟩
  go_wp2_with fail
  refine (carried_ex _ _ _ _ _ _ (by omega) b1 b2 b3 b4 (by omega) (by omega) (by omega) (by omega) (by omega)).mono ?_
  rintro e w' ⟨r0, r1, r2, r3, r4, ac, rfl, rfl, C2, c0, c0', c1, c1', c2, c2', c3, c3', c4, c4', c5, c5'⟩
  go_wp2_with fail
  refine (carried_ex _ _ _ _ _ _ (by omega) b1 b2 b3 b4 (by omega) (by omega) (by omega) (by omega) (by omega)).mono ?_
  rintro e w' ⟨s0, s1, s2, s3, s4, ad, rfl, rfl, C3, d0, d0', d1, d1', d2, d2', d3, d3', d4, d4', d5, d5'⟩
  go_wp2
  have key : ((n % pp : Nat) : Int) = val5 s0 s1 s2 s3 s4 := by
    have e1 := C1.eq; have e2 := C2.eq; have e3 := C3.eq; have e0 := H.out
    rw [val5_add, val5_add] at e2
    rw [val5_add, val5_add] at e3
    have q := val5_bd q0 q1 q2 q3 q4 b0 b0' b1 b1' b2 b2' b3 b3' b4 b4'
    have r := val5_bd r0 r1 r2 r3 r4 c0 c0' c1 c1' c2 c2' c3 c3' c4 c4'
    have s := val5_bd s0 s1 s2 s3 s4 d0 d0' d1 d1' d2 d2' d3 d3' d4 d4'
    rw [Int.natCast_emod, pp_eq]
    exact reduce_num _ _ _ _ _ _ _ (e0.symm.trans e1) e2 e3 q.1 q.2 r.1 r.2 s.1 s.2 b5 b5' c5 d5
  have hE := El_of _ _ _ _ _ _ key d0 d0' d1 d1' d2 d2' d3 d3'
  refine bodyPost_ret (v := El (n % pp)) ?_ rfl ⟨rfl, ?_⟩
  · rw [← hE]; simp [results, Tryd.results55, go_sem]
  · exact ((Below.refl _ _).alloc (Nat.le_refl _) _)

end Go.Proofs.YtjaomgildhiddaaDoor
