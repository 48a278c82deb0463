/- The program's Readers: one byte. -/
import Derived.Test.YtfhiflakglhneaaRn
namespace Go.Proofs.Ytfhiflakglhneaa
open Go.RowKit

set_option maxHeartbeats 4000000 in
set_option maxRecDepth 100000 in
theorem byte_m (B : Nat) (p : Option Addr) (l : List Nat) (c : Nat) (W : World) (h : RM B W p l c) (hB : B ≤ W.heap.size) : Calls Try.prog 25 #[.pointer p] W fun e w' => e = .returned (.int .u8 (((tookS 1 l c).1.getD 0 0 : Nat) : Int)) ∧ RM B w' p (tookS 1 l c).2.1 (tookS 1 l c).2.2 ∧ W.grownBy w' (some B) := by
  have T := Lib.hid (take_m B p l 1 c W h hB)
  obtain ⟨y, hy⟩ : ∃ y, (tookS 1 l c).1.getD 0 0 = y := ⟨_, rfl⟩
  rw [hy]
  have HY := Lib.hid hy
  clear h hy
  go_enter Try.func25, Try.ntmps25
  go_wp2_with fail
  refine T.out.mono ?_
  rintro _ w1 ⟨⟨v1, rfl, s1⟩, h1, b1⟩
  have h1 := Lib.hid h1
  clear T
  generalize (tookS 1 l c).1 = t at *
  obtain ⟨q, d, hv, hd, h0 | ⟨g, o, rfl, A⟩⟩ := s1
  · subst hv
    subst h0
    go_wp2
    go_ret
    exact ⟨by rw [← HY.out]; rfl, h1.out, b1⟩
  · cases t with
    | nil =>
      subst hv
      go_wp2
      go_ret
      exact ⟨by rw [← HY.out]; rfl, h1.out, b1⟩
    | cons x r =>
      subst hv
      have cx := A.cell 0 (by simp)
      rw [Nat.add_zero] at cx
      replace cx : w1.cell? ⟨g, o, none⟩ = some (.int .u8 (x : Int)) := cx
      obtain ⟨m, hm⟩ : ∃ m, (x :: r).length = m := ⟨_, rfl⟩
      have m0 : ¬ (m : Int) = 0 := by simp only [List.length_cons] at hm; omega
      have m1 : (0 : Int) < (m : Int) := by omega
      have m2 : ¬ m = 0 := by omega
      have m3 : 0 < m := by omega
      rw [hm]
      clear A hd hm
      go_wp2
      go_ret
      exact ⟨by rw [← HY.out]; rfl, h1.out, b1⟩
end Go.Proofs.Ytfhiflakglhneaa
