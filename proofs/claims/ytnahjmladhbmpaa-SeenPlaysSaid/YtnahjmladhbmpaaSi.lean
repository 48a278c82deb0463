/- slices.Clone of spans; the program's Spans (printed by gen17/si.py). -/
import Derived.Test.YtnahjmladhbmpaaSh
import Derived.Lib.SliceRun
namespace Go.Proofs.Ytnahjmladhbmpaa
open Go.RowKit

theorem run_bs0_sp (w : World) : (Instr.buildSlice 39 0 #[]).run Try.prog w = .ok (.slice (some ⟨w.heap.size, 0, none⟩) 0 0) (w.alloc (.cells #[] 26)) := by
  obtain ⟨i, hi, hs, _, _⟩ := info_sp3
  simp [Instr.buildSlice, run_underlying Try.underlying39, sizeOf, typeInfo, hi, newRow, Instr.fill]
  exact congrArg (fun c => w.alloc (.cells c 26)) (Array.ext (by simp) (fun i h => by simp at h))
theorem ows_none (B : Nat) (w : World) (hB : B ≤ w.heap.size) : OwS B (w.alloc (.cells #[] 26)) (.slice (some ⟨w.heap.size, 0, none⟩) 0 0) [] :=
  ⟨rfl, .inr ⟨w.heap.size, 0, #[], rfl, hB, heap_alloc_new w _, Nat.le_refl _, Nat.zero_le _, rfl, rfl⟩⟩
theorem append_sp0 (w : World) (ty : TypeId) (v : Value) (p : Option Addr) (n cap c : Nat) (q : Option Addr) (hv : v = .slice q n cap) (hc : n ≤ cap) :
    (Builtin.append_ #[39, 39] ty #[v, .slice p 0 c]).run Try.prog w = .ok v w := by
  subst hv
  obtain ⟨i, hi, hs, hy, hz⟩ := info_sp3
  cases p <;> cases q <;> simp [Builtin.append_, run_underlying Try.underlying39, run_underlying Try.underlying26, sizeOf, typeInfo, hi, Builtin.lenOf, Builtin.firstCells, loadCells, loadCellsFrom, storeCells, hc]
set_option maxHeartbeats 8000000 in
set_option maxRecDepth 100000 in
theorem clone_c (g c : Nat) (l : List (Nat × Nat)) (hl : l.length ≤ 1000) (W : World) (hx : ∀ j v, (spC l)[j]? = some v → W.cell? ((⟨g, 0, none⟩ : Addr).add j) = some v) (hg : g < W.heap.size) :
    Calls Try.prog 21 #[.slice (some ⟨g, 0, none⟩) l.length c] W fun e w' => ∃ v, e = .returned v ∧ OwS W.heap.size w' v l ∧ Below W.heap.size W w' := by
  have b1 := (Below.refl W.heap.size W).alloc (Nat.le_refl _) (.cells #[] 26)
  have O1 := ows_none W.heap.size W (Nat.le_refl _)
  obtain ⟨v', w', h1, h2, h3, h4⟩ := append_sp W.heap.size (W.alloc (.cells #[] 26)) 39 _ [] l O1 ⟨g, 0, none⟩ c (fun j u hu => by
    rw [← hx j u hu, Addr.add_lit]
    exact b1.cell (p := ⟨g, 0 + j, none⟩) hg) (by rw [List.length_nil]; omega) b1.size
  have R := Lib.hid (And.intro h2 (below_grown' b1 h3 (fun k hk => by simp only [Value.ownBlock, Option.some.injEq] at hk; omega) b1.size))
  clear h2 h3 h4 O1 b1
  have q22 : ∀ (w : World) (a : Option Addr) (n c n' c' : Nat), (binOp .eql 39 (.slice a n c) (.slice none n' c')).run Try.prog w = .ok (.bool a.isNone) w := fun w a n c n' c' => Lib.run_eql_slice_nil w _ _ a n c n' c' Try.underlying39
  go_enter Try.func21, Try.ntmps21
  go_upto_region 3 with fail
  clear q22
  go_upto_region 3 with fail
  rename_i aK
  refine wp_region_seq ?_
  refine wpSeq_wp rfl (wp_build_run 39 rfl _ _ (run_bs0_sp W) ?_)
  simp only [AP]
  refine wpSeq_yield (S := fun _ => True) (yieldsIf_move rfl _ rfl (.slice (some ⟨g, 0, none⟩) l.length c) rfl) trivial ?_
  simp only [AP]
  refine wpSeq_wp rfl (wp_append_run _ _ _ _ rfl _ _ rfl rfl v' w' h1 ?_)
  simp only [AP]
  refine wpSeq_yield (S := fun _ => True) (yieldsIf_assign rfl _ rfl (v') rfl) trivial ?_
  simp only [AP]
  refine wpSeq_nil ?_
  refine aK _ _ ?_
  clear aK h1
  go_wp2
  go_ret
  exact ⟨_, rfl, R.out⟩
set_option maxHeartbeats 8000000 in
set_option maxRecDepth 100000 in
theorem spans_c (g fl : Nat) (l : List (Nat × Nat)) (W : World) (h : SM W g l fl) :
    Calls Try.prog 15 #[.pointer (some ⟨g, 0, none⟩)] W fun e w' => ∃ v, e = .returned v ∧ OwS W.heap.size w' v l ∧ Below W.heap.size W w' := by
  have hg := h.lt
  have hl := h.len
  have hn := h.num
  have m0 : (l.length : Int) ≤ 32 := by omega
  obtain ⟨rest, hr, K⟩ := h
  have e0 : ((l ++ rest).drop 0).take l.length = l := by simp
  have CC := clone_c g 32 l (by omega) W.drew (fun j v hj => by
    have h1 := row_cs K.drew 0 l.length (by rw [List.length_append]; omega) j v (by rw [e0]; exact hj)
    rwa [Nat.zero_mul] at h1) hg
  have CH := Lib.hid CC
  clear CC e0 hr K
  go_enter Try.func15, Try.ntmps15
  have hS : (fun w' : World => w'.cell? ⟨g, 64, none⟩ = some (.int .i64 (l.length : Int))) W.drew := hn
  go_upto_region 3 with fail
  rename_i aK
  refine wp_region_S (S := fun w' => w'.cell? ⟨g, 64, none⟩ = some (.int .i64 (l.length : Int))) (by kernel_rfl) ?_
  refine wpAnyS_takeL 0 (v := .pointer (some ⟨g, 0, none⟩)) rfl (by kernel_rfl) (by kernel_rfl) (by kernel_rfl) (fun _ _ _ H => H) (yieldsIf_move rfl _ rfl (.pointer (some ⟨g, 0, none⟩)) rfl) hS ?_
  simp only [AP]
  refine wpAnyS_takeL 1 (v := .pointer (some ⟨g, 0, none⟩)) rfl (by kernel_rfl) (by kernel_rfl) (by kernel_rfl) (fun _ _ _ H => H) (Or.inl ⟨by rfl, fun w' hw' => by go_simp⟩) hS ?_
  simp only [AP]
  refine wpAnyS_takeL 2 (v := .pointer (some ⟨g, 0, none⟩)) rfl (by kernel_rfl) (by kernel_rfl) (by kernel_rfl) (fun _ _ _ H => H) (Or.inl ⟨by rfl, fun w' hw' => by go_simp⟩) hS ?_
  simp only [AP]
  refine wpAnyS_takeL 3 (v := .pointer (some ⟨g, 0, none⟩)) rfl (by kernel_rfl) (by kernel_rfl) (by kernel_rfl) (fun _ _ _ H => H) (yieldsIf_move rfl _ rfl (.pointer (some ⟨g, 0, none⟩)) rfl) hS ?_
  simp only [AP]
  refine wpAnyS_takeL 4 (v := .pointer (some ⟨g, 0, none⟩)) rfl (by kernel_rfl) (by kernel_rfl) (by kernel_rfl) (fun _ _ _ H => H) (Or.inl ⟨by rfl, fun w' hw' => by go_simp⟩) hS ?_
  simp only [AP]
  refine wpAnyS_takeL 5 (v := .pointer (some ⟨g, 64, none⟩)) rfl (by kernel_rfl) (by kernel_rfl) (by kernel_rfl) (fun _ _ _ H => H) (Or.inl ⟨by rfl, fun w' hw' => by (go_simp)⟩) hS ?_
  simp only [AP]
  refine wpAnyS_takeL 6 (v := .int .i64 (l.length : Int)) rfl (by kernel_rfl) (by kernel_rfl) (by kernel_rfl) (fun _ _ _ H => H) (Or.inl ⟨by rfl, fun w' hw' => by (go_simp)⟩) hS ?_
  simp only [AP]
  refine wpAnyS_takeL 7 (v := .slice (some ⟨g, 0, none⟩) l.length 32) rfl (by kernel_rfl) (by kernel_rfl) (by kernel_rfl) (fun _ _ _ H => H) (Or.inl ⟨by rfl, fun w' hw' => by (go_simp)⟩) hS ?_
  simp only [AP]
  refine gstep 8 rfl rfl (by kernel_rfl) ?_
  unfold Oper.wp execOp
  go_simp
  refine CH.out.mono ?_
  rintro e w1 ⟨v, rfl, hO, hB⟩
  have c1 := (hB.cell (p := ⟨g, 64, none⟩) hg).trans hn
  have HO := Lib.hid hO
  clear hO CH
  refine ⟨c1, ?_⟩
  have hS1 : (fun w' : World => w'.cell? ⟨g, 64, none⟩ = some (.int .i64 (l.length : Int))) w1 := c1
  refine wpAnyS_takeL 9 (v := v) rfl (by kernel_rfl) (by kernel_rfl) (by kernel_rfl) (fun _ _ _ H => H) (yieldsIf_assign rfl _ rfl v rfl) hS1 ?_
  simp only [AP]
  refine wpAnyS_done (by kernel_rfl) ?_ _
  refine aK _ _ ?_
  clear aK hS hS1
  go_wp2
  go_ret
  exact ⟨_, rfl, HO.out, (below_drew (Below.refl _ W)).trans hB⟩
set_option maxHeartbeats 8000000 in
set_option maxRecDepth 100000 in
theorem spans_nil (W : World) : Calls Try.prog 15 #[.pointer none] W fun e w' => e = .returned (.slice none 0 0) ∧ Below W.heap.size W w' := by
  go_enter Try.func15, Try.ntmps15
  go_wp2
  go_ret
  exact ⟨rfl, Below.refl _ _⟩
end Go.Proofs.Ytnahjmladhbmpaa
