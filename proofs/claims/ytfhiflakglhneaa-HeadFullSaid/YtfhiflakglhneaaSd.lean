/- Heads in memory; whether two are the same (printed by gen12/sd.py). -/
import Derived.Test.YtfhiflakglhneaaSa
import Derived.Test.YtfhiflakglhneaaUs
namespace Go.Proofs.Ytfhiflakglhneaa
open Go.RowKit

def hdL (sp : Int) (vt vf : Value) : List Value := [.int .i64 sp, vt, vf]
def hdV (sp : Int) (vt vf : Value) : Value := .agg (hdL sp vt vf).toArray
theorem info_hd : (Try.prog.info? 31).map (·.size) = some 3 := by kernel_rfl
theorem info_hdL (sp : Int) (vt vf : Value) : (Try.prog.info? 31).map (·.size) = some (hdL sp vt vf).length := info_hd
set_option maxHeartbeats 4000000 in
set_option maxRecDepth 100000 in
/-- Two heads of the same bytes are the same. -/
theorem same_c (sp : Int) (to fr : List Nat) (vt vf ut uf : Value) (W : World) (h1 : SB W vt to) (h2 : SB W vf fr) (h3 : SB W ut to) (h4 : SB W uf fr) :
    Calls Try.prog 17 #[hdV sp vt vf, hdV sp ut uf] W fun e w' => e = .returned (.bool true) ∧ Below W.heap.size W w' := by
  obtain ⟨p1, c1, rfl⟩ := h1.shape
  obtain ⟨p2, c2, rfl⟩ := h2.shape
  obtain ⟨p3, c3, rfl⟩ := h3.shape
  obtain ⟨p4, c4, rfl⟩ := h4.shape
  show Calls Try.prog 17 #[.agg #[.int .i64 sp, .slice p1 to.length c1, .slice p2 fr.length c2], .agg #[.int .i64 sp, .slice p3 to.length c3, .slice p4 fr.length c4]] W _
  generalize to.length = m at *
  generalize fr.length = n at *
  go_enter Try.func17, Try.ntmps17
  go_upto_region 0 with fail
  rename_i aK
  refine wp_region_seq ?_
  refine wpSeq_wp rfl ?_
  unfold Oper.wp execOp
  go_simp
  refine wpSeq_wp rfl ?_
  unfold Oper.wp execOp
  go_simp
  refine wpSeq_yield (S := fun _ => True) (yieldsIf_assign rfl _ rfl (.bool false) rfl) trivial ?_
  simp only [AP]
  refine wpSeq_nil ?_
  refine aK _ _ ?_
  clear aK
  have K1 := (Blk.new W 31 #[.int .i64 sp, .slice p1 m c1, .slice p2 n c2]).alloc (.cells #[.int .i64 sp, .slice p3 m c3, .slice p4 n c4] 31)
  have K2 := Blk.new (W.alloc (.cells #[.int .i64 sp, .slice p1 m c1, .slice p2 n c2] 31)) 31 #[.int .i64 sp, .slice p3 m c3, .slice p4 n c4]
  rw [size_alloc1] at K2
  have b := ((Below.refl W.heap.size W).alloc (Nat.le_refl _) (.cells #[.int .i64 sp, .slice p1 m c1, .slice p2 n c2] 31)).alloc (by rw [size_alloc1]; omega) (.cells #[.int .i64 sp, .slice p3 m c3, .slice p4 n c4] 31)
  generalize World.alloc (World.alloc W _) _ = W2 at *
  have x0 : W2.cell? ⟨W.heap.size, 0, none⟩ = some (.int .i64 sp) := K1.cell 0
  have y0 : W2.cell? ⟨W.heap.size + 1, 0, none⟩ = some (.int .i64 sp) := K2.cell 0
  have x1 : W2.cell? ⟨W.heap.size, 1, none⟩ = some (.slice p1 m c1) := K1.cell 1
  have y1 : W2.cell? ⟨W.heap.size + 1, 1, none⟩ = some (.slice p3 m c3) := K2.cell 1
  have x2 : W2.cell? ⟨W.heap.size, 2, none⟩ = some (.slice p2 n c2) := K1.cell 2
  have y2 : W2.cell? ⟨W.heap.size + 1, 2, none⟩ = some (.slice p4 n c4) := K2.cell 2
  replace h1 := h1.below b
  replace h2 := h2.below b
  replace h3 := h3.below b
  replace h4 := h4.below b
  clear K1 K2
  go_upto_region 1 with fail
  rename_i aK
  refine wp_region_seq ?_
  refine wpSeq_yield (S := fun _ => True) (v := .pointer (some ⟨W.heap.size, 0, none⟩)) (Or.inl ⟨by rfl, fun w' hw' => by go_simp⟩) trivial ?_
  simp only [AP]
  refine wpSeq_yield (S := fun w' => w' = W2) (v := .int .i64 sp) (Or.inl ⟨by rfl, fun w' hw' => by (rw [hw']; go_simp)⟩) rfl ?_
  simp only [AP]
  refine wpSeq_yield (S := fun _ => True) (v := .pointer (some ⟨W.heap.size + 1, 0, none⟩)) (Or.inl ⟨by rfl, fun w' hw' => by go_simp⟩) trivial ?_
  simp only [AP]
  refine wpSeq_yield (S := fun w' => w' = W2) (v := .int .i64 sp) (Or.inl ⟨by rfl, fun w' hw' => by (rw [hw']; go_simp)⟩) rfl ?_
  simp only [AP]
  refine wpSeq_yield (S := fun _ => True) (v := .bool true) (Or.inl ⟨by rfl, fun w' hw' => by go_simp⟩) trivial ?_
  simp only [AP]
  refine wpSeq_yield (S := fun _ => True) (yieldsIf_move rfl _ rfl (.bool true) rfl) trivial ?_
  simp only [AP]
  refine wpSeq_yield (S := fun _ => True) (v := .pointer (some ⟨W.heap.size, 1, none⟩)) (Or.inl ⟨by rfl, fun w' hw' => by go_simp⟩) trivial ?_
  simp only [AP]
  refine wpSeq_yield (S := fun w' => w' = W2) (v := .slice p1 m c1) (Or.inl ⟨by rfl, fun w' hw' => by (rw [hw']; go_simp)⟩) rfl ?_
  simp only [AP]
  refine wpSeq_yield (S := fun w' => w' = W2) (yieldsIf_conv (S := fun w' => w' = W2) rfl _ rfl (.slice p1 m c1) rfl to (fun w' h => h ▸ h1)) rfl ?_
  simp only [AP]
  refine wpSeq_yield (S := fun _ => True) (v := .pointer (some ⟨W.heap.size + 1, 1, none⟩)) (Or.inl ⟨by rfl, fun w' hw' => by go_simp⟩) trivial ?_
  simp only [AP]
  refine wpSeq_yield (S := fun w' => w' = W2) (v := .slice p3 m c3) (Or.inl ⟨by rfl, fun w' hw' => by (rw [hw']; go_simp)⟩) rfl ?_
  simp only [AP]
  refine wpSeq_yield (S := fun w' => w' = W2) (yieldsIf_conv (S := fun w' => w' = W2) rfl _ rfl (.slice p3 m c3) rfl to (fun w' h => h ▸ h3)) rfl ?_
  simp only [AP]
  refine wpSeq_yield (S := fun _ => True) (yieldsIf_strB rfl _ _ rfl to to rfl rfl rfl) trivial ?_
  simp only [AP]
  refine wpSeq_yield (S := fun _ => True) (yieldsIf_pick rfl _ _ _ rfl true rfl (.bool true) rfl) trivial ?_
  simp only [AP]
  refine wpSeq_yield (S := fun _ => True) (yieldsIf_move rfl _ rfl (.bool true) rfl) trivial ?_
  simp only [AP]
  refine wpSeq_yield (S := fun _ => True) (v := .pointer (some ⟨W.heap.size, 2, none⟩)) (Or.inl ⟨by rfl, fun w' hw' => by go_simp⟩) trivial ?_
  simp only [AP]
  refine wpSeq_yield (S := fun w' => w' = W2) (v := .slice p2 n c2) (Or.inl ⟨by rfl, fun w' hw' => by (rw [hw']; go_simp)⟩) rfl ?_
  simp only [AP]
  refine wpSeq_yield (S := fun w' => w' = W2) (yieldsIf_conv (S := fun w' => w' = W2) rfl _ rfl (.slice p2 n c2) rfl fr (fun w' h => h ▸ h2)) rfl ?_
  simp only [AP]
  refine wpSeq_yield (S := fun _ => True) (v := .pointer (some ⟨W.heap.size + 1, 2, none⟩)) (Or.inl ⟨by rfl, fun w' hw' => by go_simp⟩) trivial ?_
  simp only [AP]
  refine wpSeq_yield (S := fun w' => w' = W2) (v := .slice p4 n c4) (Or.inl ⟨by rfl, fun w' hw' => by (rw [hw']; go_simp)⟩) rfl ?_
  simp only [AP]
  refine wpSeq_yield (S := fun w' => w' = W2) (yieldsIf_conv (S := fun w' => w' = W2) rfl _ rfl (.slice p4 n c4) rfl fr (fun w' h => h ▸ h4)) rfl ?_
  simp only [AP]
  refine wpSeq_yield (S := fun _ => True) (yieldsIf_strB rfl _ _ rfl fr fr rfl rfl rfl) trivial ?_
  simp only [AP]
  refine wpSeq_yield (S := fun _ => True) (yieldsIf_pick rfl _ _ _ rfl true rfl (.bool true) rfl) trivial ?_
  simp only [AP]
  refine wpSeq_yield (S := fun _ => True) (yieldsIf_assign rfl _ rfl (.bool true) rfl) trivial ?_
  simp only [AP]
  refine wpSeq_nil ?_
  refine aK _ _ ?_
  clear aK
  go_wp2
  go_ret
  exact ⟨rfl, b⟩
end Go.Proofs.Ytfhiflakglhneaa
