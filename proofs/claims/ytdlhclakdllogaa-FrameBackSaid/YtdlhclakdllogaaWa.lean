/- The program's parsing: less, data. -/
import Derived.Test.YtdlhclakdllogaaVh
import Derived.Test.YtdlhclakdllogaaRn
import Derived.Test.YtdlhclakdllogaaZc
namespace Go.Proofs.Ytdlhclakdllogaa
open Go.RowKit

theorem numS_lt (l : List Nat) (c : Nat) (hl : ∀ x ∈ l, x < 256) : (numS l c).1 < 4611686018427387904 := by
  by_cases hc : c = 0
  · subst hc
    cases h : takeV l with
    | none =>
      rw [numS_none l h]
      show (0 : Nat) < 4611686018427387904
      decide
    | some q =>
      have e : numS l 0 = (q.1, q.2, 0) := by
        unfold numS
        rw [if_neg (by decide), h]
      rw [e]
      cases l with
      | nil => cases h
      | cons x r =>
        by_cases hs : r.length + 1 < 2 ^ (x / 64)
        · rw [show takeV (x :: r) = none from if_pos hs] at h
          cases h
        · rw [show takeV (x :: r) = some (beN (x % 64) (r.take (2 ^ (x / 64) - 1)), r.drop (2 ^ (x / 64) - 1)) from if_neg hs] at h
          replace h := Option.some.inj h
          subst h
          have x256 := hl x (by simp)
          have hb := beN_lt (r.take (2 ^ (x / 64) - 1)) (x % 64) 64 (fun y hy => hl y (by simp [List.mem_of_mem_take hy])) (by omega)
          have hle : (r.take (2 ^ (x / 64) - 1)).length ≤ 7 := by
            rw [List.length_take]
            have : 2 ^ (x / 64) ≤ 2 ^ 3 := Nat.pow_le_pow_right (by decide) (by omega)
            have : (2 : Nat) ^ 3 = 8 := rfl
            omega
          have h7 : 256 ^ (r.take (2 ^ (x / 64) - 1)).length ≤ 256 ^ 7 := Nat.pow_le_pow_right (by decide) hle
          have : 256 ^ 7 = 72057594037927936 := rfl
          dsimp only
          omega
  · rw [numS_fault l c hc]
    show (0 : Nat) < 4611686018427387904
    decide
theorem blk_gb {w w' : World} {g B : Nat} {t : TypeId} {cs : Array Value} (k : w.grownBy w' (some B)) (K : Blk w g t cs) (ne : g ≠ B) : Blk w' g t cs := (k.block g K.lt (fun e => ne (Option.some.inj e))).trans K
theorem rm_bytes {B : Nat} {w : World} {p : Option Addr} {l : List Nat} {c : Nat} (h : RM B w p l c) : ∀ x ∈ l, x < 256 := by
  obtain ⟨g, pb, cb, _, _, _, _, _, bb, _⟩ := h
  exact bb
theorem gb_of {w w' w'' : World} {B : Nat} (h : Below w.heap.size w w') (k : w'.grownBy w'' (some B)) : w.grownBy w'' (some B) := (gb_below h _).trans k
theorem failS_eq (c d : Nat) : (if c = 0 then d else c) = failS c d := rfl
set_option maxHeartbeats 4000000 in
set_option maxRecDepth 100000 in
theorem less_m (B : Nat) (p : Option Addr) (l : List Nat) (a b c : Nat) (ha : a < 18446744073709551616) (W : World) (h : RM B W p l c) (hB : B ≤ W.heap.size) :
    Calls Try.prog 46 #[.agg #[.pointer p], .int .u64 (a : Int), .int .u64 (b : Int)] W fun e w' => e = .returned (.int .u64 (((lessS a b c).1 : Nat) : Int)) ∧ RM B w' p l (lessS a b c).2 ∧ W.grownBy w' (some B) := by
  have FL := Lib.hid (fun w h hB => fail_m B p l c 5 w h hB)
  replace h := Lib.hid h
  by_cases hab : a < b
  · have e : lessS a b c = (0, failS c 5) := if_pos hab
    rw [e]
    have g : (a : Int) < (b : Int) := by omega
    clear hab ha e
    go_enter Try.func46, Try.ntmps46
    go_upto_region 0 with fail
    rename_i aK
    refine wp_region_seq ?_
    refine wpSeq_wp rfl ?_
    unfold Oper.wp execOp
    go_simp
    refine wpSeq_yield (S := fun _ => True) (yieldsIf_assign rfl _ rfl (.int .u64 0) rfl) trivial ?_
    simp only [AP]
    refine wpSeq_nil ?_
    refine aK _ _ ?_
    clear aK
    have b0 := (Below.refl W.heap.size W).alloc (Nat.le_refl _) (.cells #[.pointer p] 58)
    have x0 : (W.alloc (.cells #[.pointer p] 58)).cell? ⟨W.heap.size, 0, none⟩ = some (.pointer p) := (Blk.new W 58 #[.pointer p]).cell 0
    generalize World.alloc W _ = W2 at *
    go_wp2_with fail
    refine (FL.out _ (h.out.below b0) (Nat.le_trans hB b0.size)).mono ?_
    rintro _ w1 ⟨⟨v, rfl⟩, h1, b1⟩
    clear FL h
    go_wp2
    go_ret
    exact ⟨rfl, h1, gb_of b0 b1⟩
  · have e : lessS a b c = (a - b, c) := if_neg hab
    rw [e]
    have g : ¬ (a : Int) < (b : Int) := by omega
    obtain ⟨d, hd⟩ : ∃ d, a - b = d := ⟨_, rfl⟩
    have wd : IntKind.u64.wrap ((a : Int) - (b : Int)) = (d : Int) := by rw [IntKind.wrap_u64]; omega
    dsimp only
    rw [hd]
    clear hab ha e hd FL
    go_enter Try.func46, Try.ntmps46
    go_upto_region 0 with fail
    rename_i aK
    refine wp_region_seq ?_
    refine wpSeq_wp rfl ?_
    unfold Oper.wp execOp
    go_simp
    refine wpSeq_yield (S := fun _ => True) (yieldsIf_assign rfl _ rfl (.int .u64 0) rfl) trivial ?_
    simp only [AP]
    refine wpSeq_nil ?_
    refine aK _ _ ?_
    clear aK
    have b0 := (Below.refl W.heap.size W).alloc (Nat.le_refl _) (.cells #[.pointer p] 58)
    generalize World.alloc W _ = W2 at *
    go_wp2
    go_ret
    exact ⟨rfl, h.out.below b0, gb_below b0 _⟩
set_option maxHeartbeats 4000000 in
set_option maxRecDepth 100000 in
theorem data_m (B : Nat) (p : Option Addr) (l : List Nat) (c : Nat) (W : World) (h : RM B W p l c) (hB : B ≤ W.heap.size) :
    Calls Try.prog 41 #[.agg #[.pointer p]] W fun e w' => (∃ v, e = .returned v ∧ OwL W.heap.size w' v (dataS l c).1) ∧ RM B w' p (dataS l c).2.1 (dataS l c).2.2 ∧ W.grownBy w' (some B) := by
  have NM := Lib.hid (fun w h hB => num_m B p l c w h hB)
  unfold dataS
  obtain ⟨z, l1, c1, hz⟩ : ∃ z l1 c1, numS l c = (z, l1, c1) := ⟨_, _, _, rfl⟩
  rw [hz] at NM ⊢
  dsimp only at NM ⊢
  clear hz
  replace h := Lib.hid h
  have hlt : B < W.heap.size := by
    obtain ⟨g, pb, cb, _, hg, K, _⟩ := h.out
    have := K.lt
    omega
  by_cases hz : 2048 < z
  · rw [if_pos hz]
    have g : (2048 : Int) < (z : Int) := by omega
    have FL := Lib.hid (fun w h hB => fail_m B p l1 c1 8 w h hB)
    rw [failS_eq] at FL
    have BY := Lib.hid (fun w h hB => bytes_m B p l1 z (failS c1 8) w h hB)
    rw [show tookS z l1 (failS c1 8) = bytesS z l1 (failS c1 8) from rfl] at BY
    generalize failS c1 8 = c2 at *
    generalize bytesS z l1 c2 = R at *
    clear hz
    go_enter Try.func41, Try.ntmps41
    go_upto_region 0 with fail
    rename_i aK
    refine wp_region_seq ?_
    refine wpSeq_wp rfl ?_
    unfold Oper.wp execOp
    go_simp
    refine wpSeq_yield (S := fun _ => True) (yieldsIf_assign rfl _ rfl (.slice none 0 0) rfl) trivial ?_
    simp only [AP]
    refine wpSeq_nil ?_
    refine aK _ _ ?_
    clear aK
    have b0 := (Below.refl W.heap.size W).alloc (Nat.le_refl _) (.cells #[.pointer p] 58)
    have K := Lib.hid (Blk.new W 58 #[.pointer p])
    generalize World.alloc W _ = W2 at *
    have x0 : W2.cell? ⟨W.heap.size, 0, none⟩ = some (.pointer p) := K.out.cell 0
    have ne := Lib.hid (show W.heap.size ≠ B by omega)
    go_wp2_with fail
    refine (NM.out _ (h.out.below b0) (Nat.le_trans hB b0.size)).mono ?_
    rintro _ w1 ⟨rfl, h1, b1⟩
    replace K := Lib.hid (blk_gb b1 K.out ne.out)
    have x0 : w1.cell? ⟨W.heap.size, 0, none⟩ = some (.pointer p) := K.out.cell 0
    replace b1 := gb_of b0 b1
    replace h1 := Lib.hid h1
    clear NM h b0
    go_wp2_with fail
    refine (FL.out _ h1.out (Nat.le_trans hB b1.size)).mono ?_
    rintro _ w2 ⟨⟨v2, rfl⟩, h2, b2⟩
    have x0 : w2.cell? ⟨W.heap.size, 0, none⟩ = some (.pointer p) := (blk_gb b2 K.out ne.out).cell 0
    replace b1 := b1.trans b2
    replace h2 := Lib.hid h2
    clear FL h1 b2 K
    go_wp2_with fail
    refine (BY.out _ h2.out (Nat.le_trans hB b1.size)).mono ?_
    rintro _ w3 ⟨⟨v3, rfl, O3⟩, h3, b3⟩
    replace O3 := O3.mono b1.size
    replace b1 := b1.trans b3
    clear BY h2 b3
    go_wp2
    go_ret
    exact ⟨⟨_, rfl, O3⟩, h3, b1⟩
  · rw [if_neg hz]
    have g : ¬ (2048 : Int) < (z : Int) := by omega
    have BY := Lib.hid (fun w h hB => bytes_m B p l1 z c1 w h hB)
    rw [show tookS z l1 c1 = bytesS z l1 c1 from rfl] at BY
    generalize bytesS z l1 c1 = R at *
    clear hz
    go_enter Try.func41, Try.ntmps41
    go_upto_region 0 with fail
    rename_i aK
    refine wp_region_seq ?_
    refine wpSeq_wp rfl ?_
    unfold Oper.wp execOp
    go_simp
    refine wpSeq_yield (S := fun _ => True) (yieldsIf_assign rfl _ rfl (.slice none 0 0) rfl) trivial ?_
    simp only [AP]
    refine wpSeq_nil ?_
    refine aK _ _ ?_
    clear aK
    have b0 := (Below.refl W.heap.size W).alloc (Nat.le_refl _) (.cells #[.pointer p] 58)
    have K := Lib.hid (Blk.new W 58 #[.pointer p])
    generalize World.alloc W _ = W2 at *
    have x0 : W2.cell? ⟨W.heap.size, 0, none⟩ = some (.pointer p) := K.out.cell 0
    have ne := Lib.hid (show W.heap.size ≠ B by omega)
    go_wp2_with fail
    refine (NM.out _ (h.out.below b0) (Nat.le_trans hB b0.size)).mono ?_
    rintro _ w1 ⟨rfl, h1, b1⟩
    have x0 : w1.cell? ⟨W.heap.size, 0, none⟩ = some (.pointer p) := (blk_gb b1 K.out ne.out).cell 0
    replace b1 := gb_of b0 b1
    replace h1 := Lib.hid h1
    clear NM h b0 K
    go_wp2_with fail
    refine (BY.out _ h1.out (Nat.le_trans hB b1.size)).mono ?_
    rintro _ w3 ⟨⟨v3, rfl, O3⟩, h3, b3⟩
    replace O3 := O3.mono b1.size
    replace b1 := b1.trans b3
    clear BY h1 b3
    go_wp2
    go_ret
    exact ⟨⟨_, rfl, O3⟩, h3, b1⟩
end Go.Proofs.Ytdlhclakdllogaa
