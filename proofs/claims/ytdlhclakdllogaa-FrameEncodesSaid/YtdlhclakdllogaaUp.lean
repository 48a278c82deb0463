/- The reference's Frame: what is refused; spans (printed by gen11/uj.py). -/
import Derived.Test.YtdlhclakdllogaaUd
namespace Go.Proofs.Ytdlhclakdllogaa
open Go.RowKit

set_option maxHeartbeats 8000000 in
set_option maxRecDepth 100000 in
theorem rfe1 (k i o n c : Nat) (fn : Bool) (d : List Nat) (p1 p2 : Option Addr) (nd c1 m c2 : Nat) (W : World) (hd : SB W (.slice p1 nd c1) d) (hnd : 2048 < nd) (hnd' : nd ≤ 100000) :
    Calls Try.prog 11 #[.agg #[.int .u64 (k : Int), .int .u64 (i : Int), .int .u64 (o : Int), .int .u64 (n : Int), .int .u64 (c : Int), .bool fn, .slice p1 nd c1, .slice p2 m c2]] W fun e w' => ∃ v, e = .returned (.tuple #[v, .int .i64 8]) ∧ OwL W.heap.size w' v [] ∧ Below W.heap.size W w' := by
  replace hd := Lib.hid hd
  go_enter Try.func11, Try.ntmps11
  go_upto_region 0 with fail
  rename_i aK
  refine wp_region_seq ?_
  refine wpSeq_wp rfl ?_
  unfold Oper.wp execOp
  go_simp
  refine wpSeq_yield (S := fun _ => True) (yieldsIf_assign rfl _ rfl (.slice none 0 0) rfl) trivial ?_
  simp only [AP]
  refine wpSeq_yield (S := fun _ => True) (yieldsIf_assign rfl _ rfl (.int .i64 0) rfl) trivial ?_
  simp only [AP]
  refine wpSeq_nil ?_
  refine aK _ _ ?_
  clear aK
  have K := Blk.new W 26 #[.int .u64 (k : Int), .int .u64 (i : Int), .int .u64 (o : Int), .int .u64 (n : Int), .int .u64 (c : Int), .bool fn, .slice p1 nd c1, .slice p2 m c2]
  have b0 := (Below.refl W.heap.size W).alloc (Nat.le_refl _) (.cells #[.int .u64 (k : Int), .int .u64 (i : Int), .int .u64 (o : Int), .int .u64 (n : Int), .int .u64 (c : Int), .bool fn, .slice p1 nd c1, .slice p2 m c2] 26)
  generalize World.alloc W _ = W2 at *
  have b := Below.refl W2.heap.size W2
  replace hd := hd.out.below b0
  replace hd := Lib.hid hd
  have x0 : W2.cell? ⟨W.heap.size, 0, none⟩ = some (.int .u64 (k : Int)) := K.cell 0
  have x1 : W2.cell? ⟨W.heap.size, 1, none⟩ = some (.int .u64 (i : Int)) := K.cell 1
  have x2 : W2.cell? ⟨W.heap.size, 2, none⟩ = some (.int .u64 (o : Int)) := K.cell 2
  have x3 : W2.cell? ⟨W.heap.size, 3, none⟩ = some (.int .u64 (n : Int)) := K.cell 3
  have x4 : W2.cell? ⟨W.heap.size, 4, none⟩ = some (.int .u64 (c : Int)) := K.cell 4
  have x5 : W2.cell? ⟨W.heap.size, 5, none⟩ = some (.bool fn) := K.cell 5
  have x6 : W2.cell? ⟨W.heap.size, 6, none⟩ = some (.slice p1 nd c1) := K.cell 6
  have x7 : W2.cell? ⟨W.heap.size, 7, none⟩ = some (.slice p2 m c2) := K.cell 7
  replace K := Lib.hid K
  have wl : IntKind.u64.wrap (nd : Int) = (nd : Int) := by rw [IntKind.wrap_u64]; omega
  have gl : (2048 : Int) < (nd : Int) := by omega
  go_wp2
  refine bodyPost_ret (results_tmp2 rfl _ _ _) rfl ?_
  exact ⟨_, rfl, OwL.nil _ _, b0⟩
set_option maxHeartbeats 8000000 in
set_option maxRecDepth 100000 in
theorem rfe2 (k i o n c : Nat) (fn : Bool) (d : List Nat) (p1 p2 : Option Addr) (nd c1 m c2 : Nat) (W : World) (hd : SB W (.slice p1 nd c1) d) (hnd : nd ≤ 2048) (h0 : 0 < nd) (hk6 : k ≠ 6) (hk8 : k ≠ 8) (hk28 : k ≠ 28) :
    Calls Try.prog 11 #[.agg #[.int .u64 (k : Int), .int .u64 (i : Int), .int .u64 (o : Int), .int .u64 (n : Int), .int .u64 (c : Int), .bool fn, .slice p1 nd c1, .slice p2 m c2]] W fun e w' => ∃ v, e = .returned (.tuple #[v, .int .i64 5]) ∧ OwL W.heap.size w' v [] ∧ Below W.heap.size W w' := by
  replace hd := Lib.hid hd
  go_enter Try.func11, Try.ntmps11
  go_upto_region 0 with fail
  rename_i aK
  refine wp_region_seq ?_
  refine wpSeq_wp rfl ?_
  unfold Oper.wp execOp
  go_simp
  refine wpSeq_yield (S := fun _ => True) (yieldsIf_assign rfl _ rfl (.slice none 0 0) rfl) trivial ?_
  simp only [AP]
  refine wpSeq_yield (S := fun _ => True) (yieldsIf_assign rfl _ rfl (.int .i64 0) rfl) trivial ?_
  simp only [AP]
  refine wpSeq_nil ?_
  refine aK _ _ ?_
  clear aK
  have K := Blk.new W 26 #[.int .u64 (k : Int), .int .u64 (i : Int), .int .u64 (o : Int), .int .u64 (n : Int), .int .u64 (c : Int), .bool fn, .slice p1 nd c1, .slice p2 m c2]
  have b0 := (Below.refl W.heap.size W).alloc (Nat.le_refl _) (.cells #[.int .u64 (k : Int), .int .u64 (i : Int), .int .u64 (o : Int), .int .u64 (n : Int), .int .u64 (c : Int), .bool fn, .slice p1 nd c1, .slice p2 m c2] 26)
  generalize World.alloc W _ = W2 at *
  have b := Below.refl W2.heap.size W2
  replace hd := hd.out.below b0
  replace hd := Lib.hid hd
  have x0 : W2.cell? ⟨W.heap.size, 0, none⟩ = some (.int .u64 (k : Int)) := K.cell 0
  have x1 : W2.cell? ⟨W.heap.size, 1, none⟩ = some (.int .u64 (i : Int)) := K.cell 1
  have x2 : W2.cell? ⟨W.heap.size, 2, none⟩ = some (.int .u64 (o : Int)) := K.cell 2
  have x3 : W2.cell? ⟨W.heap.size, 3, none⟩ = some (.int .u64 (n : Int)) := K.cell 3
  have x4 : W2.cell? ⟨W.heap.size, 4, none⟩ = some (.int .u64 (c : Int)) := K.cell 4
  have x5 : W2.cell? ⟨W.heap.size, 5, none⟩ = some (.bool fn) := K.cell 5
  have x6 : W2.cell? ⟨W.heap.size, 6, none⟩ = some (.slice p1 nd c1) := K.cell 6
  have x7 : W2.cell? ⟨W.heap.size, 7, none⟩ = some (.slice p2 m c2) := K.cell 7
  replace K := Lib.hid K
  have wl : IntKind.u64.wrap (nd : Int) = (nd : Int) := by rw [IntKind.wrap_u64]; omega
  have gl : ¬ (2048 : Int) < (nd : Int) := by omega
  have g0 : (0 : Int) < (nd : Int) := by omega
  have k6 : ((k : Int) != 6) = true := bne_iff_ne.2 (by omega)
  have k8 : ((k : Int) != 8) = true := bne_iff_ne.2 (by omega)
  have k28 : ((k : Int) != 28) = true := bne_iff_ne.2 (by omega)
  go_wp2
  refine bodyPost_ret (results_tmp2 rfl _ _ _) rfl ?_
  exact ⟨_, rfl, OwL.nil _ _, b0⟩
set_option maxHeartbeats 8000000 in
set_option maxRecDepth 100000 in
theorem rfe3 (k i o n c : Nat) (fn : Bool) (d : List Nat) (p1 p2 : Option Addr) (nd c1 m c2 : Nat) (W : World) (hd : SB W (.slice p1 nd c1) d) (hnd : nd = 0) (hk : knownK k = false) :
    Calls Try.prog 11 #[.agg #[.int .u64 (k : Int), .int .u64 (i : Int), .int .u64 (o : Int), .int .u64 (n : Int), .int .u64 (c : Int), .bool fn, .slice p1 nd c1, .slice p2 m c2]] W fun e w' => ∃ v, e = .returned (.tuple #[v, .int .i64 6]) ∧ OwL W.heap.size w' v [] ∧ Below W.heap.size W w' := by
  have CK := Lib.hid (fun w => (show Calls Try.prog 22 #[.int .u64 (k : Int)] w fun e w' => e = .returned (.bool false) ∧ w' = w by have := known_c k w; rw [hk] at this; exact this))
  clear hk
  subst hnd
  replace hd := Lib.hid hd
  go_enter Try.func11, Try.ntmps11
  go_upto_region 0 with fail
  rename_i aK
  refine wp_region_seq ?_
  refine wpSeq_wp rfl ?_
  unfold Oper.wp execOp
  go_simp
  refine wpSeq_yield (S := fun _ => True) (yieldsIf_assign rfl _ rfl (.slice none 0 0) rfl) trivial ?_
  simp only [AP]
  refine wpSeq_yield (S := fun _ => True) (yieldsIf_assign rfl _ rfl (.int .i64 0) rfl) trivial ?_
  simp only [AP]
  refine wpSeq_nil ?_
  refine aK _ _ ?_
  clear aK
  have K := Blk.new W 26 #[.int .u64 (k : Int), .int .u64 (i : Int), .int .u64 (o : Int), .int .u64 (n : Int), .int .u64 (c : Int), .bool fn, .slice p1 0 c1, .slice p2 m c2]
  have b0 := (Below.refl W.heap.size W).alloc (Nat.le_refl _) (.cells #[.int .u64 (k : Int), .int .u64 (i : Int), .int .u64 (o : Int), .int .u64 (n : Int), .int .u64 (c : Int), .bool fn, .slice p1 0 c1, .slice p2 m c2] 26)
  generalize World.alloc W _ = W2 at *
  have b := Below.refl W2.heap.size W2
  replace hd := hd.out.below b0
  replace hd := Lib.hid hd
  have x0 : W2.cell? ⟨W.heap.size, 0, none⟩ = some (.int .u64 (k : Int)) := K.cell 0
  have x1 : W2.cell? ⟨W.heap.size, 1, none⟩ = some (.int .u64 (i : Int)) := K.cell 1
  have x2 : W2.cell? ⟨W.heap.size, 2, none⟩ = some (.int .u64 (o : Int)) := K.cell 2
  have x3 : W2.cell? ⟨W.heap.size, 3, none⟩ = some (.int .u64 (n : Int)) := K.cell 3
  have x4 : W2.cell? ⟨W.heap.size, 4, none⟩ = some (.int .u64 (c : Int)) := K.cell 4
  have x5 : W2.cell? ⟨W.heap.size, 5, none⟩ = some (.bool fn) := K.cell 5
  have x6 : W2.cell? ⟨W.heap.size, 6, none⟩ = some (.slice p1 0 c1) := K.cell 6
  have x7 : W2.cell? ⟨W.heap.size, 7, none⟩ = some (.slice p2 m c2) := K.cell 7
  replace K := Lib.hid K
  go_wp2_with fail
  refine (CK.out _).mono ?_
  rintro _ w3 ⟨he, hw⟩
  subst w3
  subst he
  clear CK
  go_wp2
  refine bodyPost_ret (results_tmp2 rfl _ _ _) rfl ?_
  exact ⟨_, rfl, OwL.nil _ _, b0⟩
set_option maxHeartbeats 8000000 in
set_option maxRecDepth 100000 in
theorem rf2e (i o n c : Nat) (fn : Bool) (d : List Nat) (a : List (Nat × Nat)) (ha : ∀ q ∈ a, q.1 < 18446744073709551616 ∧ q.2 < 18446744073709551616) (p1 p2 : Option Addr) (c1 m c2 : Nat) (hm : m ≤ 1000000) (W : World) (hd : SB W (.slice p1 0 c1) d) (hs : SA W (.slice p2 m c2) a) (hr : rightL a = false) :
    Calls Try.prog 11 #[.agg #[.int .u64 2, .int .u64 (i : Int), .int .u64 (o : Int), .int .u64 (n : Int), .int .u64 (c : Int), .bool fn, .slice p1 0 c1, .slice p2 m c2]] W fun e w' => ∃ v, e = .returned (.tuple #[v, .int .i64 5]) ∧ OwL W.heap.size w' v [] ∧ Below W.heap.size W w' := by
  have ld := Lib.hid hd.len.1
  have CK := Lib.hid (fun w => (show Calls Try.prog 22 #[.int .u64 ((2 : Nat) : Int)] w fun e w' => e = .returned (.bool true) ∧ w' = w from known_c 2 w))
  have CR := Lib.hid (fun w (b : Below W.heap.size W w) => (show Calls Try.prog 16 #[.slice p2 m c2] w fun e w' => e = .returned (.bool false) ∧ Below w.heap.size w w' by have := right_c a ha p2 m c2 hm w (hs.below b); rw [hr] at this; exact this))
  clear hs hr ha
  replace hd := Lib.hid hd
  go_enter Try.func11, Try.ntmps11
  go_upto_region 0 with fail
  rename_i aK
  refine wp_region_seq ?_
  refine wpSeq_wp rfl ?_
  unfold Oper.wp execOp
  go_simp
  refine wpSeq_yield (S := fun _ => True) (yieldsIf_assign rfl _ rfl (.slice none 0 0) rfl) trivial ?_
  simp only [AP]
  refine wpSeq_yield (S := fun _ => True) (yieldsIf_assign rfl _ rfl (.int .i64 0) rfl) trivial ?_
  simp only [AP]
  refine wpSeq_nil ?_
  refine aK _ _ ?_
  clear aK
  have K := Blk.new W 26 #[.int .u64 2, .int .u64 (i : Int), .int .u64 (o : Int), .int .u64 (n : Int), .int .u64 (c : Int), .bool fn, .slice p1 0 c1, .slice p2 m c2]
  have b0 := (Below.refl W.heap.size W).alloc (Nat.le_refl _) (.cells #[.int .u64 2, .int .u64 (i : Int), .int .u64 (o : Int), .int .u64 (n : Int), .int .u64 (c : Int), .bool fn, .slice p1 0 c1, .slice p2 m c2] 26)
  generalize World.alloc W _ = W2 at *
  have b := Below.refl W2.heap.size W2
  replace hd := hd.out.below b0
  replace hd := Lib.hid hd
  have x0 : W2.cell? ⟨W.heap.size, 0, none⟩ = some (.int .u64 2) := K.cell 0
  have x1 : W2.cell? ⟨W.heap.size, 1, none⟩ = some (.int .u64 (i : Int)) := K.cell 1
  have x2 : W2.cell? ⟨W.heap.size, 2, none⟩ = some (.int .u64 (o : Int)) := K.cell 2
  have x3 : W2.cell? ⟨W.heap.size, 3, none⟩ = some (.int .u64 (n : Int)) := K.cell 3
  have x4 : W2.cell? ⟨W.heap.size, 4, none⟩ = some (.int .u64 (c : Int)) := K.cell 4
  have x5 : W2.cell? ⟨W.heap.size, 5, none⟩ = some (.bool fn) := K.cell 5
  have x6 : W2.cell? ⟨W.heap.size, 6, none⟩ = some (.slice p1 0 c1) := K.cell 6
  have x7 : W2.cell? ⟨W.heap.size, 7, none⟩ = some (.slice p2 m c2) := K.cell 7
  replace K := Lib.hid K
  go_wp2_with fail
  refine (CK.out _).mono ?_
  rintro _ w3 ⟨he, hw⟩
  subst w3
  subst he
  clear CK
  go_upto_region 8 with fail
  rename_i aK
  refine wp_region_seq ?_
  refine wpSeq_yield (S := fun _ => True) (v := .pointer (some ⟨W.heap.size, 0, none⟩)) (Or.inl ⟨by rfl, fun w' hw' => by go_simp⟩) trivial ?_
  simp only [AP]
  refine wpSeq_yield (S := fun w' => w' = W2) (v := .int .u64 2) (Or.inl ⟨by rfl, fun w' hw' => by (rw [hw']; go_simp)⟩) rfl ?_
  simp only [AP]
  refine wpSeq_wp rfl ?_
  unfold Oper.wp execOp
  go_simp
  refine wpSeq_yield (S := fun _ => True) (yieldsIf_assign rfl _ rfl (.slice (some ⟨W2.heap.size, 0, none⟩) 1 1) rfl) trivial ?_
  simp only [AP]
  refine wpSeq_nil ?_
  refine aK _ _ ?_
  clear aK x0 x1 x2 x3 x4 x5 x6 x7
  have O := OwU.new W2.heap.size W2 [2] (Nat.le_refl _) (by decide)
  replace O : OwU W2.heap.size (W2.alloc (.cells #[.int .u64 2] 22)) (.slice (some ⟨W2.heap.size, 0, none⟩) 1 1) [2] := O
  replace b := b.alloc (Nat.le_refl _) (.cells #[.int .u64 2] 22)
  obtain ⟨v5, hv5⟩ : ∃ v, v = Value.slice (some ⟨W2.heap.size, 0, none⟩) 1 1 := ⟨_, rfl⟩
  rw [← hv5] at O ⊢
  generalize World.alloc W2 _ = W3 at *
  clear hv5
  have K3 := K.out.below' b
  replace O := Lib.hid O
  have x0 : W3.cell? ⟨W.heap.size, 0, none⟩ = some (.int .u64 2) := K3.cell 0
  have x1 : W3.cell? ⟨W.heap.size, 1, none⟩ = some (.int .u64 (i : Int)) := K3.cell 1
  have x2 : W3.cell? ⟨W.heap.size, 2, none⟩ = some (.int .u64 (o : Int)) := K3.cell 2
  have x3 : W3.cell? ⟨W.heap.size, 3, none⟩ = some (.int .u64 (n : Int)) := K3.cell 3
  have x4 : W3.cell? ⟨W.heap.size, 4, none⟩ = some (.int .u64 (c : Int)) := K3.cell 4
  have x5 : W3.cell? ⟨W.heap.size, 5, none⟩ = some (.bool fn) := K3.cell 5
  have x6 : W3.cell? ⟨W.heap.size, 6, none⟩ = some (.slice p1 0 c1) := K3.cell 6
  have x7 : W3.cell? ⟨W.heap.size, 7, none⟩ = some (.slice p2 m c2) := K3.cell 7
  clear K3
  replace b0 := b0.trans (b.mono b0.size)
  go_wp2_with fail
  refine (CR.out _ b0).mono ?_
  rintro _ w4 ⟨rfl, b4⟩
  replace b0 := b0.trans (b4.mono b0.size)
  go_wp2
  refine bodyPost_ret (results_tmp2 rfl _ _ _) rfl ?_
  exact ⟨_, rfl, OwL.nil _ _, b0⟩
end Go.Proofs.Ytdlhclakdllogaa
