/- The program's Asks; holds, known, beyond. -/
import Derived.Test.YtdlhclakdllogaaUt
namespace Go.Proofs.Ytdlhclakdllogaa
open Go.RowKit

set_option maxHeartbeats 4000000 in
set_option maxRecDepth 100000 in
theorem asks_c : AskC := by
  intro f _hf vd va W _hd
  obtain ⟨k, i, o, n, c, fn, d, a⟩ := f
  show Calls Try.prog 12 #[.agg #[.int .u64 (k : Int), .int .u64 (i : Int), .int .u64 (o : Int), .int .u64 (n : Int), .int .u64 (c : Int), .bool fn, vd, va]] W fun e w' => e = .returned (.bool (askK k)) ∧ Below W.heap.size W w'
  clear _hf _hd
  go_enter Try.func12, Try.ntmps12
  go_upto_region 0 with fail
  rename_i aK
  refine wp_region_seq ?_
  refine wpSeq_wp rfl ?_
  unfold Oper.wp execOp
  go_simp
  refine wpSeq_yield (S := fun _ => True) (yieldsIf_assign rfl _ rfl (.bool false) rfl) trivial ?_
  simp only [AP]
  refine wpSeq_nil ?_
  refine aK _ _ ?_
  clear aK
  have b0 := (Below.refl W.heap.size W).alloc (Nat.le_refl _) (.cells #[.int .u64 (k : Int), .int .u64 (i : Int), .int .u64 (o : Int), .int .u64 (n : Int), .int .u64 (c : Int), .bool fn, vd, va] 26)
  have x0 := (Blk.new W 26 #[.int .u64 (k : Int), .int .u64 (i : Int), .int .u64 (o : Int), .int .u64 (n : Int), .int .u64 (c : Int), .bool fn, vd, va]).cell 0
  rw [show (#[.int .u64 (k : Int), .int .u64 (i : Int), .int .u64 (o : Int), .int .u64 (n : Int), .int .u64 (c : Int), .bool fn, vd, va] : Array Value)[0]? = some (.int .u64 (k : Int)) from rfl] at x0
  generalize World.alloc W _ = W2 at *
  by_cases h0 : k = 0
  · subst h0
    go_wp2
    go_ret
    exact ⟨rfl, b0⟩
  · by_cases h2 : k = 2
    · subst h2
      go_wp2
      go_ret
      exact ⟨rfl, b0⟩
    · by_cases h28 : k = 28
      · subst h28
        go_wp2
        go_ret
        exact ⟨rfl, b0⟩
      · have e : askK k = true := by simp [askK, h0, h2, h28]
        replace e := Lib.hid e
        have g0 : ¬ (k : Int) = 0 := by omega
        have g2 : ¬ (k : Int) = 2 := by omega
        have g28 : ¬ (k : Int) = 28 := by omega
        go_wp2
        go_ret
        exact ⟨by rw [e.out]; rfl, b0⟩
theorem sp_one (x y : Int) : (#[Value.int .u64 x, Value.int .u64 y]).all (·.oneCell') = true := by simp [Value.oneCell']
def holdK (k : Nat) : Bool := k == 6 || k == 8 || k == 28
set_option maxHeartbeats 4000000 in
theorem holds_c (k : Nat) (W : World) : Calls Try.prog 30 #[.int .u64 (k : Int)] W fun e w' => e = .returned (.bool (holdK k)) ∧ w' = W := by
  by_cases h6 : k = 6
  · subst h6
    go_enter Try.func30, Try.ntmps30
    go_wp2
    go_ret
    exact ⟨rfl, rfl⟩
  · by_cases h8 : k = 8
    · subst h8
      go_enter Try.func30, Try.ntmps30
      go_wp2
      go_ret
      exact ⟨rfl, rfl⟩
    · by_cases h28 : k = 28
      · subst h28
        go_enter Try.func30, Try.ntmps30
        go_wp2
        go_ret
        exact ⟨rfl, rfl⟩
      · have e : holdK k = false := by simp [holdK, h6, h8, h28]
        rw [e]
        have g6 : ((k : Int) == 6) = false := beq_eq_false_iff_ne.2 (by omega)
        have g8 : ((k : Int) == 8) = false := beq_eq_false_iff_ne.2 (by omega)
        have g28 : ((k : Int) == 28) = false := beq_eq_false_iff_ne.2 (by omega)
        clear e
        go_enter Try.func30, Try.ntmps30
        go_wp2
        go_ret
        exact ⟨rfl, rfl⟩
set_option maxHeartbeats 4000000 in
theorem pknown_c (k : Nat) (W : World) : Calls Try.prog 31 #[.int .u64 (k : Int)] W fun e w' => e = .returned (.bool (knownK k)) ∧ w' = W := by
  cases h : knownK k with
  | true =>
    rcases known_mem h with rfl | rfl | rfl | rfl | rfl | rfl | rfl | rfl | rfl | rfl | rfl | rfl <;>
    · clear h
      go_enter Try.func31, Try.ntmps31
      go_wp2
      go_ret
      exact ⟨rfl, rfl⟩
  | false =>
    obtain ⟨h0, h1, h2, h3, h4, h5, h6, h7, h8, h9, h10, h11⟩ := known_not h
    have g0 : ¬ (k : Int) = 0 := by omega
    have g1 : ¬ (k : Int) = 1 := by omega
    have g2 : ¬ (k : Int) = 2 := by omega
    have g4 : ¬ (k : Int) = 4 := by omega
    have g5 : ¬ (k : Int) = 5 := by omega
    have g6 : ¬ (k : Int) = 6 := by omega
    have g8 : ¬ (k : Int) = 8 := by omega
    have g16 : ¬ (k : Int) = 16 := by omega
    have g17 : ¬ (k : Int) = 17 := by omega
    have g18 : ¬ (k : Int) = 18 := by omega
    have g28 : ¬ (k : Int) = 28 := by omega
    have g30 : ¬ (k : Int) = 30 := by omega
    clear h h0 h1 h2 h3 h4 h5 h6 h7 h8 h9 h10 h11
    go_enter Try.func31, Try.ntmps31
    go_wp2
    go_ret
    exact ⟨rfl, rfl⟩
def beyondF (f : Fr) : Bool := decide (4611686018427387903 < f.off + f.data.length)
set_option maxHeartbeats 4000000 in
set_option maxRecDepth 100000 in
theorem beyond_c (f : Fr) (ho : f.off < 18446744073709551616) (hl : f.data.length ≤ 2048) (vd va : Value) (W : World) (hd : SB W vd f.data) :
    Calls Try.prog 33 #[frV f vd va] W fun e w' => e = .returned (.bool (beyondF f)) ∧ Below W.heap.size W w' := by
  obtain ⟨p1, c1, rfl⟩ := hd.shape
  obtain ⟨k, i, o, n, c, fn, d, a⟩ := f
  dsimp only at *
  show Calls Try.prog 33 #[.agg #[.int .u64 (k : Int), .int .u64 (i : Int), .int .u64 (o : Int), .int .u64 (n : Int), .int .u64 (c : Int), .bool fn, .slice p1 d.length c1, va]] W fun e w' => e = .returned (.bool (decide (4611686018427387903 < o + d.length))) ∧ Below W.heap.size W w'
  clear hd
  generalize d.length = nd at *
  obtain ⟨M, hM⟩ : ∃ M, 4611686018427387903 - nd = M := ⟨_, rfl⟩
  have w0 : IntKind.u64.wrap (nd : Int) = (nd : Int) := by rw [IntKind.wrap_u64]; omega
  have w1 : IntKind.u64.wrap (4611686018427387903 - (nd : Int)) = (M : Int) := by rw [IntKind.wrap_u64]; omega
  obtain ⟨bb, hb⟩ : ∃ bb : Bool, decide (4611686018427387903 < o + nd) = bb := ⟨_, rfl⟩
  rw [hb]
  have g0 : decide (M < o) = bb := by
    rw [← hb]
    exact decide_eq_decide.2 (by omega)
  clear hM hb ho hl
  go_enter Try.func33, Try.ntmps33
  go_upto_region 0 with fail
  rename_i aK
  refine wp_region_seq ?_
  refine wpSeq_wp rfl ?_
  unfold Oper.wp execOp
  go_simp
  refine wpSeq_yield (S := fun _ => True) (yieldsIf_assign rfl _ rfl (.bool false) rfl) trivial ?_
  simp only [AP]
  refine wpSeq_nil ?_
  refine aK _ _ ?_
  clear aK
  have b0 := (Below.refl W.heap.size W).alloc (Nat.le_refl _) (.cells #[.int .u64 (k : Int), .int .u64 (i : Int), .int .u64 (o : Int), .int .u64 (n : Int), .int .u64 (c : Int), .bool fn, .slice p1 nd c1, va] 26)
  have K := Blk.new W 26 #[.int .u64 (k : Int), .int .u64 (i : Int), .int .u64 (o : Int), .int .u64 (n : Int), .int .u64 (c : Int), .bool fn, .slice p1 nd c1, va]
  generalize World.alloc W _ = W2 at *
  have x2 : W2.cell? ⟨W.heap.size, 2, none⟩ = some (.int .u64 (o : Int)) := K.cell 2
  have x6 : W2.cell? ⟨W.heap.size, 6, none⟩ = some (.slice p1 nd c1) := K.cell 6
  clear K
  go_wp2
  go_ret
  exact ⟨rfl, b0⟩
end Go.Proofs.Ytdlhclakdllogaa
