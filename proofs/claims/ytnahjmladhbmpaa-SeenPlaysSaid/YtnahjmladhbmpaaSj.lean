/- The reference's Has. -/
import Derived.Test.YtnahjmladhbmpaaSw
namespace Go.Proofs.Ytnahjmladhbmpaa
open Go.RowKit

theorem mem_take_succ (L : List Nat) (i n : Nat) (hi : i < L.length) (h : L.getD i 0 ≠ n) (h0 : n ∉ L.take i) : n ∉ L.take (i + 1) := by
  rw [← List.take_append_getElem hi, List.mem_append]
  rintro (h1 | h1)
  · exact h0 h1
  · have : n = L[i] := by simpa using h1
    rw [getD_lt' _ _ _ hi] at h
    exact h this.symm
set_option maxHeartbeats 4000000 in
set_option maxRecDepth 100000 in
theorem rhas_c (h n fl B : Nat) (v : Value) (L : List Nat) (hL : L.length ≤ 1000) (W : World) (K : Blk W h 33 #[v, .int .u64 (fl : Int)]) (S : SUB B W v L) :
    Calls Try.prog 13 #[.pointer (some ⟨h, 0, none⟩), .int .u64 (n : Int)] W fun e w' => e = .returned (.bool (decide (n < fl) || decide (n ∈ L))) ∧ Below W.heap.size W w' := by
  have c0 := K.cell 0
  have c1 := K.cell 1
  have e0 : (#[v, Value.int .u64 (fl : Int)] : Array Value)[0]? = some v := rfl
  have e1 : (#[v, Value.int .u64 (fl : Int)] : Array Value)[1]? = some (.int .u64 (fl : Int)) := rfl
  rw [e0] at c0
  rw [e1] at c1
  clear e0 e1
  have hlt := K.lt
  by_cases hf : n < fl
  · have x1 : (n : Int) < (fl : Int) := by omega
    have E : (decide (n < fl) || decide (n ∈ L)) = true := by simp [hf]
    rw [E]
    clear E hf
    go_enter Try.func13, Try.ntmps13
    go_wp2
    go_ret
    exact ⟨rfl, Below.refl _ _⟩
  · have x1 : ¬ (n : Int) < (fl : Int) := by omega
    have E : (decide (n < fl) || decide (n ∈ L)) = decide (n ∈ L) := by simp [hf]
    rw [E]
    clear E hf
    obtain ⟨p, c, rfl, hc⟩ := S.shape
    have HS := Lib.hid S
    clear S
    go_enter Try.func13, Try.ntmps13
    go_upto_region 4 with fail
    go_loopw [5] (fun t wr => ∃ i : Nat, i ≤ L.length ∧ n ∉ L.take i ∧ t = .int .i64 (i : Int) ∧ Below W.heap.size W wr) (fun t _ => (L.length - intOf t).toNat)
    case atStart => exact ⟨0, by omega, by simp, rfl, Below.refl _ _⟩
    case round =>
      obtain ⟨i, hi, ha, rfl, hB⟩ := hrel
      have d0 := (hB.cell (p := ⟨h, 0, none⟩) hlt).trans c0
      by_cases hin : i = L.length
      · have e : decide (n ∈ L) = false := by
          rw [hin, List.take_length] at ha
          simpa using ha
        subst hin
        clear ha
        have E := Lib.hid e
        clear e
        go_wp2
        go_ret
        exact ⟨by rw [E.out]; rfl, hB⟩
      · have il : i < L.length := by omega
        have i1 : (i : Int) < (L.length : Int) := by omega
        have i0 : (0 : Int) ≤ (i : Int) := by omega
        obtain ⟨gb, o, rfl, _, hu⟩ := HS.out.at_ (by omega)
        have d1 := (hB.cell (p := ⟨gb, o + i, none⟩) hu.blk).trans (hu.get i il)
        have HM := Lib.hid (fun he => mem_take_succ L i n il he ha)
        clear ha hu
        by_cases he : L.getD i 0 = n
        · have E := Lib.hid (show decide (n ∈ L) = true by
            rw [decide_eq_true_iff, ← he, getD_lt' _ _ _ il]
            exact List.getElem_mem _)
          have x2 : ((L.getD i 0 : Nat) : Int) = (n : Int) := by omega
          clear he HM
          generalize L.getD i 0 = z at *
          go_wp2
          go_ret
          exact ⟨by rw [E.out]; rfl, hB⟩
        · have HM2 := Lib.hid (HM.out he)
          have x2 : ¬ ((L.getD i 0 : Nat) : Int) = (n : Int) := by omega
          clear he HM
          generalize L.getD i 0 = z at *
          go_wp2
          exact ⟨⟨i + 1, by omega, HM2.out, rfl, hB⟩, by simp only [intOf]; omega⟩
end Go.Proofs.Ytnahjmladhbmpaa
