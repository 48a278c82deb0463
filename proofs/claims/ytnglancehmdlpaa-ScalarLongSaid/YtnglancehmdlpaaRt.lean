/- Slices of bytes by value: the contracts of Reduce, of the reference's Of and Reduce. -/
import Derived.Test.YtnglancehmdlpaaRs
namespace Go.Proofs.Ytnglancehmdlpaa
open Go.RowKit

/-- A slice of n bytes, wherever they lie; an empty one may be nil. -/
def Bs (w : World) (v : Value) (n : Nat) (f : Nat → Nat) : Prop := ∃ p c, v = .slice p n c ∧ n ≤ c ∧ (∀ i, f i < 256) ∧ (n = 0 ∨ ∃ gb o, p = some ⟨gb, o, none⟩ ∧ By w gb o n f)
theorem Bs.below {w w1 : World} {v : Value} {n : Nat} {f : Nat → Nat} (h : Bs w v n f) (hb : Below w.heap.size w w1) : Bs w1 v n f := by
  obtain ⟨p, c, h1, h2, h3, h4⟩ := h
  refine ⟨p, c, h1, h2, h3, ?_⟩
  rcases h4 with h4 | ⟨gb, o, h5, h6⟩
  · exact Or.inl h4
  · exact Or.inr ⟨gb, o, h5, h6.below hb⟩
theorem Bs.drew {w : World} {v : Value} {n : Nat} {f : Nat → Nat} (h : Bs w v n f) : Bs w.drew v n f := h.below (below_drew (Below.refl _ _))
theorem Bs.of_by {w : World} {gb o n c : Nat} {f : Nat → Nat} (h : By w gb o n f) (hc : n ≤ c) : Bs w (.slice (some ⟨gb, o, none⟩) n c) n f := ⟨_, c, rfl, hc, h.lt, Or.inr ⟨gb, o, rfl, h⟩⟩

set_option maxHeartbeats 2000000 in
set_option maxRecDepth 100000 in
theorem reduce_zero (p : Option Addr) (c : Nat) (w : World) : Calls Try.prog 10 #[.slice p 0 c] w fun e w' => e = .returned (Key (keyOf 0)) ∧ Below w.heap.size w w' := by
  unfold Key
  go_enter Try.func10, Try.ntmps10
  go_wp2_with fail
  generalize hW : World.alloc (World.alloc w _) _ = W
  have F1 : Blk W w.heap.size 24 (Iv .u8 (List.replicate 32 0)) := by
    subst hW
    exact (Blk.new _ _ _).alloc _
  have F2 : Blk W (w.heap.size + 1) 47 (Nm_cells 0) := by
    subst hW
    rw [Nm_zero]
    exact Blk.new' (by simp) _ _
  have F3 : Below w.heap.size w W := by
    subst hW
    exact ((Below.refl _ _).alloc (Nat.le_refl _) _).alloc (by simp) _
  clear hW
  go_loopw [0] (fun b wr => b = .slice p 0 c ∧ wr = W) (fun b _ => 0)
  case atStart => exact ⟨rfl, rfl⟩
  case round =>
    obtain ⟨rfl, rfl⟩ := hrel
    have cB := fun W => sbytes_any 0 W
    unfold Nm Key at cB
    have CB := Lib.hid cB
    clear cB
    go_wp2_with (refine wpList_load_row rfl 47 _ rfl (w.heap.size + 1) rfl 47 _ (0, 0) _ F2 Try.underlying47 rfl (info_nm _) ?_)
    refine (CB.out _).mono ?_
    rintro e v1 ⟨rfl, b1⟩
    have F4 := F1.below' b1
    have F5 := F3.trans (b1.mono F3.size)
    clear b1 F1 F2 F3
    go_wp2_with (refine wpList_store_row rfl 24 _ _ rfl (w.heap.size) (Iv .u8 (keyOf 0)) rfl rfl 24 _ F4 (info_key _ (keyOf_length _)) (by rw [Iv_size, Iv_size, keyOf_length]; rfl) (Iv_one _ _) ?_)
    exact bodyPost_ret (results_cell_row rfl _ _ _ 24 _ (0, 0) _ rfl (F4.row _) Try.underlying24 rfl (info_key _ (keyOf_length _))) rfl ⟨rfl, below_setRow F5 (by omega) _⟩

set_option maxHeartbeats 2000000 in
set_option maxRecDepth 100000 in
theorem rof_zero (p : Option Addr) (c : Nat) (w : World) : Calls Try.prog 14 #[.slice p 0 c] w (RetSl w 0 (dAt 0)) := by
  have hmk : (Instr.makeSlice 30 (.int .i64 0) (.int .i64 0)).run Try.prog w = .ok (.slice (some ⟨w.heap.size, 0, none⟩) 0 0) (w.alloc (.cells #[] 37)) := make32 0 (by decide) (fun _ => 0) w
  go_enter Try.func14, Try.ntmps14
  go_wp2
  generalize hW : World.alloc w _ = W
  have F1 : Blk W w.heap.size 37 #[] := by
    subst hW
    exact Blk.new _ _ _
  have F3 : Below w.heap.size w W := by
    subst hW
    exact (Below.refl _ _).alloc (Nat.le_refl _) _
  clear hW hmk
  go_loopw [4] (fun i wr => i = .int .i64 0 ∧ wr = W) (fun b _ => 0)
  case atStart => exact ⟨rfl, rfl⟩
  case round =>
    obtain ⟨rfl, rfl⟩ := hrel
    go_wp2
    go_ret
    exact ⟨w.heap.size, _, rfl, ⟨fun i hi => absurd hi (Nat.not_lt_zero _), dAt_lt 0, fun i _ => by simp [dAt], F1.lt⟩, Nat.le_refl _, F3⟩

theorem leTo_pos (f : Nat → Nat) : leTo f 0 = 0 := rfl
theorem reduce_b (v : Value) (n : Nat) (f : Nat → Nat) (R : Nat) (w : World) (h : Bs w v n f) (hn : n ≤ 300) (hR : R = leTo f n % LL) :
    Calls Try.prog 10 #[v] w fun e w' => e = .returned (Key (keyOf R)) ∧ Below w.heap.size w w' := by
  obtain ⟨p, c, rfl, hc, hf, h0 | ⟨gb, o, rfl, hb⟩⟩ := h
  · subst h0
    rw [leTo_pos, Nat.zero_mod] at hR
    subst hR
    exact reduce_zero p c w
  · subst hR
    exact reduce_any gb o n c f w hb (by omega) hc
theorem rof_b (v : Value) (n : Nat) (f : Nat → Nat) (w : World) (h : Bs w v n f) (hn : n ≤ 300) : Calls Try.prog 14 #[v] w (RetL w (leTo f n) 151) := by
  obtain ⟨p, c, rfl, hc, hf, h0 | ⟨gb, o, rfl, hb⟩⟩ := h
  · subst h0
    exact (retL_ofSl (rof_zero p c w) (by rfl)).mono fun _ _ h => RetL.more _ (by decide) h
  · refine (retL_ofSl (V := leTo f n) (rof_by gb o n c ((n + 1) / 2) f w hb (by omega) rfl) ?_).mono fun _ _ h => RetL.more _ (by omega) h
    rw [d_num, Nat.mod_eq_of_lt]
    refine Nat.lt_of_lt_of_le (leTo_lt f hf n) ?_
    rw [show (65536 : Nat) = 256 ^ 2 from rfl, ← Nat.pow_mul]
    exact Nat.pow_le_pow_right (by decide) (by omega)

set_option maxHeartbeats 2000000 in
set_option maxRecDepth 100000 in
theorem rreduce_b (v : Value) (n : Nat) (f : Nat → Nat) (R : Nat) (w : World) (h : Bs w v n f) (hn : n ≤ 300) (hR : R = leTo f n % LL) :
    Calls Try.prog 11 #[v] w fun e w' => e = .returned (Key (keyOf R)) ∧ Below w.heap.size w w' := by
  have hv : ∃ p c, v = .slice p n c := by
    obtain ⟨p, c, h1, _⟩ := h
    exact ⟨p, c, h1⟩
  obtain ⟨p, c, rfl⟩ := hv
  have HR := Lib.hid hR
  clear hR
  unfold Key
  go_enter Try.func11, Try.ntmps11
  go_wp2_with fail
  have hB := (Below.refl w.heap.size w).alloc (Nat.le_refl _) (.cells (Iv .u8 (List.replicate 32 0)) 24)
  have hS := Blk.new w 24 (Iv .u8 (List.replicate 32 0))
  replace h := h.below hB
  refine (rof_b _ n f _ h hn).mono ?_
  rintro e w1 ⟨r1, rfl, h1, b⟩
  replace hB := hB.trans (b.mono hB.size)
  replace hS := hS.below' b
  clear b h
  go_wp2_with fail
  refine (l_v _).mono ?_
  rintro e w2 ⟨r2, rfl, h2, b⟩
  replace hB := hB.trans (b.mono hB.size)
  replace hS := hS.below' b
  replace h1 := h1.below b
  clear b
  go_wp2_with fail
  refine (rest_v _ _ _ R 151 _ h1 h2 HR.out (by decide)).mono ?_
  rintro e w3 ⟨r3, rfl, h3, b⟩
  replace hB := hB.trans (b.mono hB.size)
  replace hS := hS.below' b
  clear b h1 h2
  go_wp2_with fail
  refine (rkey_v _ R 17 _ h3).mono ?_
  rintro e w4 ⟨rfl, b⟩
  replace hB := hB.trans (b.mono hB.size)
  replace hS := hS.below' b
  clear b h3
  unfold Key
  go_wp2_with (refine wpList_store_row rfl 24 _ _ rfl (w.heap.size) (Iv .u8 (keyOf R)) rfl rfl 24 _ hS (info_key _ (keyOf_length _)) (by rw [Iv_size, Iv_size, keyOf_length]; rfl) (Iv_one _ _) ?_)
  exact bodyPost_ret (results_cell_row rfl _ _ _ 24 _ (0, 0) _ rfl (hS.row _) Try.underlying24 rfl (info_key _ (keyOf_length _))) rfl ⟨rfl, below_setRow hB (by omega) _⟩
end Go.Proofs.Ytnglancehmdlpaa
