/- The reference's Spans (printed by gen17/sk.py). -/
import Derived.Test.YtnahjmladhbmpaaSj
namespace Go.Proofs.Ytnahjmladhbmpaa
open Go.RowKit

/-- The spans of the last numbers, from place j on. -/
def spD (L : List Nat) (j : Nat) : List (Nat × Nat) := (L.drop j).reverse.foldl pushS []
theorem spD_all (L : List Nat) : spD L 0 = spansR L := by simp [spD, spansR]
theorem spD_none (L : List Nat) (j : Nat) (h : L.length ≤ j) : spD L j = [] := by
  unfold spD
  rw [List.drop_eq_nil_of_le h]
  rfl
theorem spD_step (L : List Nat) (j : Nat) (h : j < L.length) : spD L j = pushS (spD L (j + 1)) (L.getD j 0) := by
  unfold spD
  rw [List.drop_eq_getElem_cons h, List.reverse_cons, List.foldl_append, List.foldl_cons, List.foldl_nil, getD_lt' _ _ _ h]
theorem pushS_length (out : List (Nat × Nat)) (x : Nat) : (pushS out x).length ≤ out.length + 1 := by
  unfold pushS
  split
  · simp
  · simp
theorem fold_length : ∀ (D : List Nat) (out : List (Nat × Nat)), (D.foldl pushS out).length ≤ out.length + D.length
  | [], _ => Nat.le_refl _
  | x :: D, out => by
    rw [List.foldl_cons, List.length_cons]
    have h1 := fold_length D (pushS out x)
    have h2 := pushS_length out x
    omega
theorem spD_length (L : List Nat) (j : Nat) : (spD L j).length ≤ L.length := by
  unfold spD
  have h := fold_length (L.drop j).reverse []
  rw [List.length_nil, List.length_reverse, List.length_drop] at h
  omega
/-- A number of a row of one's own turned. -/
theorem OwS.lo_set {B : Nat} {w : World} {g o n c : Nat} {l : List (Nat × Nat)} (h : OwS B w (.slice (some ⟨g, o, none⟩) n c) l) (k x : Nat) (hk : k < l.length) : OwS B (w.setCell ⟨g, k * 2, none⟩ (.int .u64 (x : Int))) (.slice (some ⟨g, o, none⟩) n c) (l.set k (x, (l.getD k (0, 0)).2)) := by
  obtain ⟨hl, h | ⟨g', cap, cur, e, hB, hg, hn, hc, hcs, ht⟩⟩ := h
  · cases h.1
  · simp only [Value.slice.injEq, Option.some.injEq, Addr.mk.injEq, and_true] at e
    obtain ⟨⟨rfl, rfl⟩, rfl, rfl⟩ := e
    refine ⟨by rw [spC_length], Or.inr ⟨g, c, cur.setIfInBounds (k * 2) (.int .u64 (x : Int)), by rw [List.length_set], hB, Blk.set hg _ _, by rw [List.length_set]; exact hn, hc, by simpa using hcs, ?_⟩⟩
    rw [List.length_set, ← (spC_set l k x hk).1, ← ht]
    simp [List.take_set]
theorem run_bs1_sp (w : World) (x y : Nat) : (Instr.buildSlice 39 1 #[(0, .agg #[.int .u64 (x : Int), .int .u64 (y : Int)])]).run Try.prog w = .ok (.slice (some ⟨w.heap.size, 0, none⟩) 1 1) (w.alloc (.cells #[.int .u64 (x : Int), .int .u64 (y : Int)] 26)) := by
  obtain ⟨i, hi, hs, _, hz⟩ := info_sp3
  simp [Instr.buildSlice, run_underlying Try.underlying39, sizeOf, typeInfo, hi, hs, newRow, Instr.fill, Value.cells]
  refine congrArg (fun c => w.alloc (.cells c 26)) (Array.ext (by simp) (fun j h1 h2 => ?_))
  have h3 : j < 2 := h2
  rcases (by omega : j = 0 ∨ j = 1) with rfl | rfl <;> simp
theorem wp_build_sp {o : Oper} {a : Act} {w : World} {K : Act → World → Prop} {Q : Exit → Act → World → Prop} (x : Operand) (ho : o.op = .buildSlice 39 1 #[(0, x)]) (m n : Nat) (hx : a.eval x = .agg #[.int .u64 (m : Int), .int .u64 (n : Int)])
    (h : K (a.put o.dst (.slice (some ⟨w.heap.size, 0, none⟩) 1 1)) (w.alloc (.cells #[.int .u64 (m : Int), .int .u64 (n : Int)] 26))) : o.wp Try.prog a w K Q := by
  unfold Oper.wp execOp
  simp only [ho, Sem.run_bind, List.map_toArray, List.map_cons, List.map_nil, hx, run_bs1_sp, Result.andThen_ok, Sem.run_pure]
  exact h
set_option maxHeartbeats 8000000 in
set_option maxRecDepth 100000 in
theorem rspans_c (h fl B : Nat) (v : Value) (L : List Nat) (hL : L.length ≤ 1000) (ht : ∀ x ∈ L, x ≤ 4611686018427387903) (W : World) (K : Blk W h 33 #[v, .int .u64 (fl : Int)]) (S : SUB B W v L) :
    Calls Try.prog 16 #[.pointer (some ⟨h, 0, none⟩)] W fun e w' => ∃ v, e = .returned v ∧ OwS W.heap.size w' v (spansR L) ∧ Below W.heap.size W w' := by
  have c0 := K.cell 0
  have e0 : (#[v, Value.int .u64 (fl : Int)] : Array Value)[0]? = some v := rfl
  rw [e0] at c0
  clear e0
  have hlt := K.lt
  obtain ⟨p, c, rfl, hc⟩ := S.shape
  have HS := Lib.hid S
  clear S
  have HT := Lib.hid ht
  clear ht K
  have wl : IntKind.i64.wrap ((L.length : Int) - 1) = (L.length : Int) - 1 := by simp [IntKind.wrap, IntKind.bits, IntKind.signed]; omega
  go_enter Try.func16, Try.ntmps16
  go_upto_region 3 with fail
  go_loopw [3, 4] (fun t u wr => ∃ j : Nat, j ≤ L.length ∧ u = .int .i64 ((j : Int) - 1) ∧ OwS W.heap.size wr t (spD L j) ∧ Below W.heap.size W wr) (fun _ u _ => (intOf u + 1).toNat)
  case atStart => exact ⟨L.length, Nat.le_refl _, rfl, by rw [spD_none L _ (Nat.le_refl _)]; exact OwS.nil _ _, Below.refl _ _⟩
  case round =>
    obtain ⟨j, hj, rfl, hO, hB⟩ := hrel
    have d0 := (hB.cell (p := ⟨h, 0, none⟩) hlt).trans c0
    rcases Nat.eq_zero_or_pos j with hj0 | hj0
    · subst hj0
      rw [spD_all] at hO
      have x1 : ¬ (0 : Int) ≤ ((0 : Nat) : Int) - 1 := by decide
      go_wp2
      go_ret
      exact ⟨_, rfl, hO, hB⟩
    · obtain ⟨m, rfl⟩ : ∃ m, j = m + 1 := ⟨j - 1, by omega⟩
      have im : ((m + 1 : Nat) : Int) - 1 = (m : Int) := by omega
      rw [im]
      have il : m < L.length := by omega
      obtain ⟨gb, o, rfl, _, hu⟩ := HS.out.at_ (by omega)
      have hgb := hu.blk
      have c11 := hu.get m il
      have hx := HT.out (L.getD m 0) (by rw [getD_lt' _ _ _ il]; exact List.getElem_mem _)
      have hst := spD_step L m il
      have hdl := spD_length L (m + 1)
      generalize L.getD m 0 = x at *
      have x1 : (0 : Int) ≤ (m : Int) := by omega
      have x2 : (m : Int) < (L.length : Int) := by omega
      have wx : IntKind.u64.wrap ((x : Int) + 1) = (x : Int) + 1 := by simp [IntKind.wrap, IntKind.bits, IntKind.signed]; omega
      generalize spD L (m + 1) = D at *
      have HD := Lib.hid hst
      clear hst hu
      obtain ⟨po, co, rfl⟩ := hO.shape
      have HL := Lib.hid (show D.length ≤ 1000 by omega)
      generalize hn1 : D.length = n1 at *
      have HN := Lib.hid hn1
      clear hn1
      have wn : IntKind.i64.wrap ((n1 : Int) - 1) = (n1 : Int) - 1 := by simp [IntKind.wrap, IntKind.bits, IntKind.signed]; have := HL.out; omega
      have c00 := c0
      have hB0 := hB
      replace hB := below_drew hB
      have hBd := below_drew hB
      have hOd := hO.below (below_drew (below_drew (Below.refl _ _)))
      have bal := (Below.refl wr.drew.drew.heap.size wr.drew.drew).alloc (Nat.le_refl _) (.cells #[.int .u64 (x : Int), .int .u64 (x : Int)] 26)
      have hS8 : (fun w' : World => w'.cell? ⟨h, 0, none⟩ = some (.slice (some ⟨gb, o, none⟩) L.length c) ∧ w'.cell? ⟨gb, o + m, none⟩ = some (.int .u64 (x : Int))) wr.drew := ⟨d0, (hB.cell (p := ⟨gb, o + m, none⟩) hgb).trans c11⟩
      rcases Nat.eq_zero_or_pos n1 with hz | hz
      · have x3 : ¬ (0 : Int) ≤ (n1 : Int) - 1 := by omega
        have x4 : (n1 : Int) < 1 := by omega
        have hp : pushS D x = D ++ [(x, x)] := by
          unfold pushS
          rw [if_neg (by rw [HN.out]; omega)]
        rw [hp] at HD
        clear hz hp
        go_upto_region 6 with fail
        refine wp_region_S (S := fun _ => True) (by kernel_rfl) ?_
        refine wpAnyS_takeL 0 (v := .int .i64 ((n1 : Int) - 1)) rfl (by kernel_rfl) (by kernel_rfl) (by kernel_rfl) (fun _ _ _ H => H) (yieldsIf_move rfl _ rfl (.int .i64 ((n1 : Int) - 1)) rfl) trivial ?_
        simp only [AP]
        refine wpAnyS_takeL 1 (v := .bool false) rfl (by kernel_rfl) (by kernel_rfl) (by kernel_rfl) (fun _ _ _ H => H) (Or.inl ⟨by rfl, fun w' hw' => by (go_simp)⟩) trivial ?_
        simp only [AP]
        refine wpAnyS_takeL 2 (v := .bool false) rfl (by kernel_rfl) (by kernel_rfl) (by kernel_rfl) (fun _ _ _ H => H) (yieldsIf_move rfl _ rfl (.bool false) rfl) trivial ?_
        simp only [AP]
        refine wpAnyS_takeL 3 (v := undef) rfl (by kernel_rfl) (by kernel_rfl) (by kernel_rfl) (fun _ _ _ H => H) (yieldsIf_off rfl) trivial ?_
        simp only [AP]
        refine wpAnyS_takeL 4 (v := undef) rfl (by kernel_rfl) (by kernel_rfl) (by kernel_rfl) (fun _ _ _ H => H) (yieldsIf_off rfl) trivial ?_
        simp only [AP]
        refine wpAnyS_takeL 5 (v := undef) rfl (by kernel_rfl) (by kernel_rfl) (by kernel_rfl) (fun _ _ _ H => H) (yieldsIf_off rfl) trivial ?_
        simp only [AP]
        refine wpAnyS_takeL 6 (v := undef) rfl (by kernel_rfl) (by kernel_rfl) (by kernel_rfl) (fun _ _ _ H => H) (yieldsIf_off rfl) trivial ?_
        simp only [AP]
        refine wpAnyS_takeL 7 (v := undef) rfl (by kernel_rfl) (by kernel_rfl) (by kernel_rfl) (fun _ _ _ H => H) (yieldsIf_off rfl) trivial ?_
        simp only [AP]
        refine wpAnyS_takeL 8 (v := undef) rfl (by kernel_rfl) (by kernel_rfl) (by kernel_rfl) (fun _ _ _ H => H) (yieldsIf_off rfl) trivial ?_
        simp only [AP]
        refine wpAnyS_takeL 9 (v := undef) rfl (by kernel_rfl) (by kernel_rfl) (by kernel_rfl) (fun _ _ _ H => H) (yieldsIf_off rfl) trivial ?_
        simp only [AP]
        refine wpAnyS_takeL 10 (v := undef) rfl (by kernel_rfl) (by kernel_rfl) (by kernel_rfl) (fun _ _ _ H => H) (yieldsIf_off rfl) trivial ?_
        simp only [AP]
        refine wpAnyS_takeL 11 (v := undef) rfl (by kernel_rfl) (by kernel_rfl) (by kernel_rfl) (fun _ _ _ H => H) (yieldsIf_off rfl) trivial ?_
        simp only [AP]
        refine wpAnyS_takeL 12 (v := undef) rfl (by kernel_rfl) (by kernel_rfl) (by kernel_rfl) (fun _ _ _ H => H) (yieldsIf_off rfl) trivial ?_
        simp only [AP]
        refine wpAnyS_takeL 13 (v := undef) rfl (by kernel_rfl) (by kernel_rfl) (by kernel_rfl) (fun _ _ _ H => H) (yieldsIf_off rfl) trivial ?_
        simp only [AP]
        refine wpAnyS_takeL 14 (v := undef) rfl (by kernel_rfl) (by kernel_rfl) (by kernel_rfl) (fun _ _ _ H => H) (yieldsIf_off rfl) trivial ?_
        simp only [AP]
        refine wpAnyS_takeL 15 (v := undef) rfl (by kernel_rfl) (by kernel_rfl) (by kernel_rfl) (fun _ _ _ H => H) (yieldsIf_off rfl) trivial ?_
        simp only [AP]
        refine wpAnyS_takeL 16 (v := undef) rfl (by kernel_rfl) (by kernel_rfl) (by kernel_rfl) (fun _ _ _ H => H) (yieldsIf_off rfl) trivial ?_
        simp only [AP]
        refine wpAnyS_takeL 17 (v := .bool false) rfl (by kernel_rfl) (by kernel_rfl) (by kernel_rfl) (fun _ _ _ H => H) (yieldsIf_pick rfl _ _ _ rfl false rfl (.bool false) rfl) trivial ?_
        simp only [AP]
        refine wpAnyS_done (by kernel_rfl) ?_ _
        refine (by assumption : ∀ (a : Act) (w : World), _ → _) _ _ ?_
        go_upto_region 8 with fail
        refine wp_region_S (S := fun w' => w'.cell? ⟨h, 0, none⟩ = some (.slice (some ⟨gb, o, none⟩) L.length c) ∧ w'.cell? ⟨gb, o + m, none⟩ = some (.int .u64 (x : Int))) (by kernel_rfl) ?_
        refine wpAnyS_takeL 0 (v := .slice po n1 co) rfl (by kernel_rfl) (by kernel_rfl) (by kernel_rfl) (fun _ _ _ H => H) (yieldsIf_move rfl _ rfl (.slice po n1 co) rfl) hS8 ?_
        simp only [AP]
        refine wpAnyS_takeL 1 (v := .pointer (some ⟨h, 0, none⟩)) rfl (by kernel_rfl) (by kernel_rfl) (by kernel_rfl) (fun _ _ _ H => H) (yieldsIf_move rfl _ rfl (.pointer (some ⟨h, 0, none⟩)) rfl) hS8 ?_
        simp only [AP]
        refine wpAnyS_takeL 2 (v := .pointer (some ⟨h, 0, none⟩)) rfl (by kernel_rfl) (by kernel_rfl) (by kernel_rfl) (fun _ _ _ H => H) (Or.inl ⟨by rfl, fun w' hw' => by go_simp⟩) hS8 ?_
        simp only [AP]
        refine wpAnyS_takeL 3 (v := .pointer (some ⟨h, 0, none⟩)) rfl (by kernel_rfl) (by kernel_rfl) (by kernel_rfl) (fun _ _ _ H => H) (Or.inl ⟨by rfl, fun w' hw' => by go_simp⟩) hS8 ?_
        simp only [AP]
        refine wpAnyS_takeL 4 (v := .slice (some ⟨gb, o, none⟩) L.length c) rfl (by kernel_rfl) (by kernel_rfl) (by kernel_rfl) (fun _ _ _ H => H) (Or.inl ⟨by rfl, fun w' hw' => by (go_simp)⟩) hS8 ?_
        simp only [AP]
        refine wpAnyS_takeL 5 (v := .int .i64 (m : Int)) rfl (by kernel_rfl) (by kernel_rfl) (by kernel_rfl) (fun _ _ _ H => H) (yieldsIf_move rfl _ rfl (.int .i64 (m : Int)) rfl) hS8 ?_
        simp only [AP]
        refine wpAnyS_takeL 6 (v := .pointer (some ⟨gb, o + m, none⟩)) rfl (by kernel_rfl) (by kernel_rfl) (by kernel_rfl) (fun _ _ _ H => H) (Or.inl ⟨by rfl, fun w' hw' => by (go_simp)⟩) hS8 ?_
        simp only [AP]
        refine wpAnyS_takeL 7 (v := .int .u64 (x : Int)) rfl (by kernel_rfl) (by kernel_rfl) (by kernel_rfl) (fun _ _ _ H => H) (Or.inl ⟨by rfl, fun w' hw' => by (go_simp)⟩) hS8 ?_
        simp only [AP]
        refine wpAnyS_takeL 8 (v := .pointer (some ⟨h, 0, none⟩)) rfl (by kernel_rfl) (by kernel_rfl) (by kernel_rfl) (fun _ _ _ H => H) (yieldsIf_move rfl _ rfl (.pointer (some ⟨h, 0, none⟩)) rfl) hS8 ?_
        simp only [AP]
        refine wpAnyS_takeL 9 (v := .pointer (some ⟨h, 0, none⟩)) rfl (by kernel_rfl) (by kernel_rfl) (by kernel_rfl) (fun _ _ _ H => H) (Or.inl ⟨by rfl, fun w' hw' => by go_simp⟩) hS8 ?_
        simp only [AP]
        refine wpAnyS_takeL 10 (v := .pointer (some ⟨h, 0, none⟩)) rfl (by kernel_rfl) (by kernel_rfl) (by kernel_rfl) (fun _ _ _ H => H) (Or.inl ⟨by rfl, fun w' hw' => by go_simp⟩) hS8 ?_
        simp only [AP]
        refine wpAnyS_takeL 11 (v := .slice (some ⟨gb, o, none⟩) L.length c) rfl (by kernel_rfl) (by kernel_rfl) (by kernel_rfl) (fun _ _ _ H => H) (Or.inl ⟨by rfl, fun w' hw' => by (go_simp)⟩) hS8 ?_
        simp only [AP]
        refine wpAnyS_takeL 12 (v := .int .i64 (m : Int)) rfl (by kernel_rfl) (by kernel_rfl) (by kernel_rfl) (fun _ _ _ H => H) (yieldsIf_move rfl _ rfl (.int .i64 (m : Int)) rfl) hS8 ?_
        simp only [AP]
        refine wpAnyS_takeL 13 (v := .pointer (some ⟨gb, o + m, none⟩)) rfl (by kernel_rfl) (by kernel_rfl) (by kernel_rfl) (fun _ _ _ H => H) (Or.inl ⟨by rfl, fun w' hw' => by (go_simp)⟩) hS8 ?_
        simp only [AP]
        refine wpAnyS_takeL 14 (v := .int .u64 (x : Int)) rfl (by kernel_rfl) (by kernel_rfl) (by kernel_rfl) (fun _ _ _ H => H) (Or.inl ⟨by rfl, fun w' hw' => by (go_simp)⟩) hS8 ?_
        simp only [AP]
        refine wpAnyS_takeL 15 (v := .agg #[.int .u64 (x : Int), .int .u64 (x : Int)]) rfl (by kernel_rfl) (by kernel_rfl) (by kernel_rfl) (fun _ _ _ H => H) (Or.inl ⟨by rfl, fun w' hw' => by (go_simp)⟩) hS8 ?_
        simp only [AP]
        refine gstep 16 rfl rfl (by kernel_rfl) ?_
        refine wp_build_sp _ rfl x x rfl ?_
        have hS9 : (fun w' => w'.cell? ⟨h, 0, none⟩ = some (.slice (some ⟨gb, o, none⟩) L.length c) ∧ w'.cell? ⟨gb, o + m, none⟩ = some (.int .u64 (x : Int))) (wr.drew.drew.alloc (.cells #[.int .u64 (x : Int), .int .u64 (x : Int)] 26)) := ⟨(bal.cell (p := ⟨h, 0, none⟩) (Nat.lt_of_lt_of_le hlt hBd.size)).trans hS8.1, (bal.cell (p := ⟨gb, o + m, none⟩) (Nat.lt_of_lt_of_le hgb hBd.size)).trans hS8.2⟩
        refine ⟨hS9, ?_⟩
        simp only [AP]
        obtain ⟨v', w', hrun, hO2, hG2, hb2⟩ := append_sp W.heap.size (wr.drew.drew.alloc (.cells #[.int .u64 (x : Int), .int .u64 (x : Int)] 26)) 39 _ _ [(x, x)] (hOd.below bal) ⟨wr.drew.drew.heap.size, 0, none⟩ 1 (fun j u hu => by
          rw [Addr.add_lit, (Blk.new wr.drew.drew 26 #[.int .u64 (x : Int), .int .u64 (x : Int)]).cell, Nat.zero_add, List.getElem?_toArray]
          exact hu) (by have := HL.out; rw [HN.out, List.length_cons, List.length_nil]; omega) (Nat.le_trans hBd.size bal.size)
        have b9 := below_grown' (hBd.trans (bal.mono hBd.size)) hG2 (fun k hk => ((hOd.below bal).lt k hk).1) (Nat.le_trans hBd.size bal.size)
        refine gstep 17 rfl rfl (by kernel_rfl) (wp_append_run _ _ _ _ rfl _ _ rfl rfl v' w' hrun ?_)
        have hS10 : (fun w' => w'.cell? ⟨h, 0, none⟩ = some (.slice (some ⟨gb, o, none⟩) L.length c) ∧ w'.cell? ⟨gb, o + m, none⟩ = some (.int .u64 (x : Int))) w' := ⟨(b9.cell (p := ⟨h, 0, none⟩) hlt).trans c00, (b9.cell (p := ⟨gb, o + m, none⟩) hgb).trans c11⟩
        refine ⟨hS10, ?_⟩
        simp only [AP]
        refine wpAnyS_takeL 18 (v := v') rfl (by kernel_rfl) (by kernel_rfl) (by kernel_rfl) (fun _ _ _ H => H) (yieldsIf_assign rfl _ rfl v' rfl) hS10 ?_
        simp only [AP]
        refine wpAnyS_done (by kernel_rfl) ?_ _
        refine (by assumption : ∀ (a : Act) (w : World), _ → _) _ _ ?_
        have R := Lib.hid (And.intro hO2 b9)
        clear hS8 hS9 hS10 hO2 b9 hG2 hb2 hrun hO hOd hB hBd hB0 bal c00 c11
        go_wp2
        refine ⟨⟨m, by omega, rfl, ?_, R.out.2⟩, by simp only [intOf]; omega⟩
        rw [HD.out]
        exact R.out.1
      · obtain ⟨go, cap, cur, e, hgo, hcap, hcur, hcsz, hPA⟩ : ∃ g cap cur, Value.slice po n1 co = .slice (some ⟨g, 0, none⟩) D.length cap ∧ W.heap.size ≤ g ∧ D.length ≤ cap ∧ Blk wr g 26 cur ∧ D.length * 2 ≤ cur.size ∧ PA wr g 0 D := by
          rcases hO.row with ⟨_, h0⟩ | h0
          · have := HN.out; rw [h0] at this; simp at this; omega
          · exact h0
        simp only [Value.slice.injEq] at e
        obtain ⟨rfl, hq, rfl⟩ := e
        clear hq
        have hn2 : n1 - 1 < D.length := by rw [HN.out]; omega
        have x5 : ((n1 : Int) - 1).toNat = n1 - 1 := by omega
        have x6 : ¬ (n1 : Int) < 1 := by omega
        have x8 : (1 : Int) ≤ (n1 : Int) := by omega
        have x9 : ¬ (n1 : Int) ≤ (n1 : Int) - 1 := by omega
        have x10 : (n1 : Int) - 1 < (n1 : Int) := by omega
        have x3 : (0 : Int) ≤ (n1 : Int) - 1 := by omega
        have c7 := hPA.lo (n1 - 1) hn2
        rw [Nat.zero_add] at c7
        have hy : (D.getD (D.length - 1) (0, 0)).1 = (D.getD (n1 - 1) (0, 0)).1 := by rw [HN.out]
        have hD0 : 0 < D.length := by rw [HN.out]; omega
        have hset := OwS.lo_set hO (n1 - 1) x hn2
        have hd1 : D.set (n1 - 1) (x, (D.getD (n1 - 1) (0, 0)).2) = D.set (D.length - 1) (x, (D.getD (D.length - 1) (0, 0)).2) := by rw [HN.out]
        by_cases he : (D.getD (n1 - 1) (0, 0)).1 = x + 1
        · have hp : pushS D x = D.set (n1 - 1) (x, (D.getD (n1 - 1) (0, 0)).2) := by
            rw [hd1]
            unfold pushS
            rw [if_pos ⟨hD0, by rw [hy]; exact he⟩]
          rw [hp] at HD
          have xe : (((D.getD (n1 - 1) (0, 0)).1 : Nat) : Int) = (x : Int) + 1 := by omega
          clear hp hy hd1 he
          generalize (D.getD (n1 - 1) (0, 0)).1 = y at *
          have hS6 : (fun w' => w'.cell? ⟨h, 0, none⟩ = some (.slice (some ⟨gb, o, none⟩) L.length c) ∧ w'.cell? ⟨gb, o + m, none⟩ = some (.int .u64 (x : Int)) ∧ w'.cell? ⟨go, (n1 - 1) * 2, none⟩ = some (.int .u64 (y : Int))) wr.drew := ⟨hS8.1, hS8.2, c7⟩
          go_upto_region 6 with fail
          refine wp_region_S (S := fun w' => w'.cell? ⟨h, 0, none⟩ = some (.slice (some ⟨gb, o, none⟩) L.length c) ∧ w'.cell? ⟨gb, o + m, none⟩ = some (.int .u64 (x : Int)) ∧ w'.cell? ⟨go, (n1 - 1) * 2, none⟩ = some (.int .u64 (y : Int))) (by kernel_rfl) ?_
          refine wpAnyS_takeL 0 (v := .int .i64 ((n1 : Int) - 1)) rfl (by kernel_rfl) (by kernel_rfl) (by kernel_rfl) (fun _ _ _ H => H) (yieldsIf_move rfl _ rfl (.int .i64 ((n1 : Int) - 1)) rfl) hS6 ?_
          simp only [AP]
          refine wpAnyS_takeL 1 (v := .bool true) rfl (by kernel_rfl) (by kernel_rfl) (by kernel_rfl) (fun _ _ _ H => H) (Or.inl ⟨by rfl, fun w' hw' => by (go_simp)⟩) hS6 ?_
          simp only [AP]
          refine wpAnyS_takeL 2 (v := .bool true) rfl (by kernel_rfl) (by kernel_rfl) (by kernel_rfl) (fun _ _ _ H => H) (yieldsIf_move rfl _ rfl (.bool true) rfl) hS6 ?_
          simp only [AP]
          refine wpAnyS_takeL 3 (v := .slice (some ⟨go, 0, none⟩) n1 co) rfl (by kernel_rfl) (by kernel_rfl) (by kernel_rfl) (fun _ _ _ H => H) (yieldsIf_move rfl _ rfl (.slice (some ⟨go, 0, none⟩) n1 co) rfl) hS6 ?_
          simp only [AP]
          refine wpAnyS_takeL 4 (v := .int .i64 ((n1 : Int) - 1)) rfl (by kernel_rfl) (by kernel_rfl) (by kernel_rfl) (fun _ _ _ H => H) (yieldsIf_move rfl _ rfl (.int .i64 ((n1 : Int) - 1)) rfl) hS6 ?_
          simp only [AP]
          refine wpAnyS_takeL 5 (v := .pointer (some ⟨go, (n1 - 1) * 2, none⟩)) rfl (by kernel_rfl) (by kernel_rfl) (by kernel_rfl) (fun _ _ _ H => H) (Or.inl ⟨by rfl, fun w' hw' => by (go_simp)⟩) hS6 ?_
          simp only [AP]
          refine wpAnyS_takeL 6 (v := .pointer (some ⟨go, (n1 - 1) * 2, none⟩)) rfl (by kernel_rfl) (by kernel_rfl) (by kernel_rfl) (fun _ _ _ H => H) (Or.inl ⟨by rfl, fun w' hw' => by go_simp⟩) hS6 ?_
          simp only [AP]
          refine wpAnyS_takeL 7 (v := .int .u64 (y : Int)) rfl (by kernel_rfl) (by kernel_rfl) (by kernel_rfl) (fun _ _ _ H => H) (Or.inl ⟨by rfl, fun w' hw' => by (go_simp)⟩) hS6 ?_
          simp only [AP]
          refine wpAnyS_takeL 8 (v := .pointer (some ⟨h, 0, none⟩)) rfl (by kernel_rfl) (by kernel_rfl) (by kernel_rfl) (fun _ _ _ H => H) (yieldsIf_move rfl _ rfl (.pointer (some ⟨h, 0, none⟩)) rfl) hS6 ?_
          simp only [AP]
          refine wpAnyS_takeL 9 (v := .pointer (some ⟨h, 0, none⟩)) rfl (by kernel_rfl) (by kernel_rfl) (by kernel_rfl) (fun _ _ _ H => H) (Or.inl ⟨by rfl, fun w' hw' => by go_simp⟩) hS6 ?_
          simp only [AP]
          refine wpAnyS_takeL 10 (v := .pointer (some ⟨h, 0, none⟩)) rfl (by kernel_rfl) (by kernel_rfl) (by kernel_rfl) (fun _ _ _ H => H) (Or.inl ⟨by rfl, fun w' hw' => by go_simp⟩) hS6 ?_
          simp only [AP]
          refine wpAnyS_takeL 11 (v := .slice (some ⟨gb, o, none⟩) L.length c) rfl (by kernel_rfl) (by kernel_rfl) (by kernel_rfl) (fun _ _ _ H => H) (Or.inl ⟨by rfl, fun w' hw' => by (go_simp)⟩) hS6 ?_
          simp only [AP]
          refine wpAnyS_takeL 12 (v := .int .i64 (m : Int)) rfl (by kernel_rfl) (by kernel_rfl) (by kernel_rfl) (fun _ _ _ H => H) (yieldsIf_move rfl _ rfl (.int .i64 (m : Int)) rfl) hS6 ?_
          simp only [AP]
          refine wpAnyS_takeL 13 (v := .pointer (some ⟨gb, o + m, none⟩)) rfl (by kernel_rfl) (by kernel_rfl) (by kernel_rfl) (fun _ _ _ H => H) (Or.inl ⟨by rfl, fun w' hw' => by (go_simp)⟩) hS6 ?_
          simp only [AP]
          refine wpAnyS_takeL 14 (v := .int .u64 (x : Int)) rfl (by kernel_rfl) (by kernel_rfl) (by kernel_rfl) (fun _ _ _ H => H) (Or.inl ⟨by rfl, fun w' hw' => by (go_simp)⟩) hS6 ?_
          simp only [AP]
          refine wpAnyS_takeL 15 (v := .int .u64 ((x : Int) + 1)) rfl (by kernel_rfl) (by kernel_rfl) (by kernel_rfl) (fun _ _ _ H => H) (Or.inl ⟨by rfl, fun w' hw' => by (go_simp)⟩) hS6 ?_
          simp only [AP]
          refine wpAnyS_takeL 16 (v := .bool true) rfl (by kernel_rfl) (by kernel_rfl) (by kernel_rfl) (fun _ _ _ H => H) (Or.inl ⟨by rfl, fun w' hw' => by (go_simp)⟩) hS6 ?_
          simp only [AP]
          refine wpAnyS_takeL 17 (v := .bool true) rfl (by kernel_rfl) (by kernel_rfl) (by kernel_rfl) (fun _ _ _ H => H) (yieldsIf_pick rfl _ _ _ rfl true rfl (.bool true) rfl) hS6 ?_
          simp only [AP]
          refine wpAnyS_done (by kernel_rfl) ?_ _
          refine (by assumption : ∀ (a : Act) (w : World), _ → _) _ _ ?_
          have c20 := hS8.1
          have c21 := hS8.2
          have K7 := hcur.drew
          have f7 := K7.frozen ((n1 - 1) * 2)
          have R := Lib.hid (And.intro (OwS.lo_set (hO.below (below_drew (Below.refl _ _))) (n1 - 1) x hn2) ((hB.setCell (p := ⟨go, (n1 - 1) * 2, none⟩) hgo (.int .u64 (x : Int)))))
          have c8 : wr.drew.cell? ⟨go, (n1 - 1) * 2, none⟩ = some (.int .u64 (y : Int)) := c7
          change wr.drew.cell? ⟨h, 0, none⟩ = _ at c20
          change wr.drew.cell? ⟨gb, o + m, none⟩ = _ at c21
          clear hS6 hS8 bal hO hB hB0 hBd hOd hset hPA hcur K7 c7 d0
          generalize wr.drew = wq at *
          go_wp2
          refine ⟨⟨m, by omega, rfl, ?_, R.out.2⟩, by simp only [intOf]; omega⟩
          rw [HD.out]
          exact R.out.1
        · have hp : pushS D x = D ++ [(x, x)] := by
            unfold pushS
            rw [if_neg (fun h1 => he (by rw [← hy]; exact h1.2))]
          rw [hp] at HD
          have xe : ¬ (((D.getD (n1 - 1) (0, 0)).1 : Nat) : Int) = (x : Int) + 1 := by omega
          clear hp hy hd1 he hset
          generalize (D.getD (n1 - 1) (0, 0)).1 = y at *
          have hS6 : (fun w' => w'.cell? ⟨h, 0, none⟩ = some (.slice (some ⟨gb, o, none⟩) L.length c) ∧ w'.cell? ⟨gb, o + m, none⟩ = some (.int .u64 (x : Int)) ∧ w'.cell? ⟨go, (n1 - 1) * 2, none⟩ = some (.int .u64 (y : Int))) wr.drew := ⟨hS8.1, hS8.2, c7⟩
          go_upto_region 6 with fail
          refine wp_region_S (S := fun w' => w'.cell? ⟨h, 0, none⟩ = some (.slice (some ⟨gb, o, none⟩) L.length c) ∧ w'.cell? ⟨gb, o + m, none⟩ = some (.int .u64 (x : Int)) ∧ w'.cell? ⟨go, (n1 - 1) * 2, none⟩ = some (.int .u64 (y : Int))) (by kernel_rfl) ?_
          refine wpAnyS_takeL 0 (v := .int .i64 ((n1 : Int) - 1)) rfl (by kernel_rfl) (by kernel_rfl) (by kernel_rfl) (fun _ _ _ H => H) (yieldsIf_move rfl _ rfl (.int .i64 ((n1 : Int) - 1)) rfl) hS6 ?_
          simp only [AP]
          refine wpAnyS_takeL 1 (v := .bool true) rfl (by kernel_rfl) (by kernel_rfl) (by kernel_rfl) (fun _ _ _ H => H) (Or.inl ⟨by rfl, fun w' hw' => by (go_simp)⟩) hS6 ?_
          simp only [AP]
          refine wpAnyS_takeL 2 (v := .bool true) rfl (by kernel_rfl) (by kernel_rfl) (by kernel_rfl) (fun _ _ _ H => H) (yieldsIf_move rfl _ rfl (.bool true) rfl) hS6 ?_
          simp only [AP]
          refine wpAnyS_takeL 3 (v := .slice (some ⟨go, 0, none⟩) n1 co) rfl (by kernel_rfl) (by kernel_rfl) (by kernel_rfl) (fun _ _ _ H => H) (yieldsIf_move rfl _ rfl (.slice (some ⟨go, 0, none⟩) n1 co) rfl) hS6 ?_
          simp only [AP]
          refine wpAnyS_takeL 4 (v := .int .i64 ((n1 : Int) - 1)) rfl (by kernel_rfl) (by kernel_rfl) (by kernel_rfl) (fun _ _ _ H => H) (yieldsIf_move rfl _ rfl (.int .i64 ((n1 : Int) - 1)) rfl) hS6 ?_
          simp only [AP]
          refine wpAnyS_takeL 5 (v := .pointer (some ⟨go, (n1 - 1) * 2, none⟩)) rfl (by kernel_rfl) (by kernel_rfl) (by kernel_rfl) (fun _ _ _ H => H) (Or.inl ⟨by rfl, fun w' hw' => by (go_simp)⟩) hS6 ?_
          simp only [AP]
          refine wpAnyS_takeL 6 (v := .pointer (some ⟨go, (n1 - 1) * 2, none⟩)) rfl (by kernel_rfl) (by kernel_rfl) (by kernel_rfl) (fun _ _ _ H => H) (Or.inl ⟨by rfl, fun w' hw' => by go_simp⟩) hS6 ?_
          simp only [AP]
          refine wpAnyS_takeL 7 (v := .int .u64 (y : Int)) rfl (by kernel_rfl) (by kernel_rfl) (by kernel_rfl) (fun _ _ _ H => H) (Or.inl ⟨by rfl, fun w' hw' => by (go_simp)⟩) hS6 ?_
          simp only [AP]
          refine wpAnyS_takeL 8 (v := .pointer (some ⟨h, 0, none⟩)) rfl (by kernel_rfl) (by kernel_rfl) (by kernel_rfl) (fun _ _ _ H => H) (yieldsIf_move rfl _ rfl (.pointer (some ⟨h, 0, none⟩)) rfl) hS6 ?_
          simp only [AP]
          refine wpAnyS_takeL 9 (v := .pointer (some ⟨h, 0, none⟩)) rfl (by kernel_rfl) (by kernel_rfl) (by kernel_rfl) (fun _ _ _ H => H) (Or.inl ⟨by rfl, fun w' hw' => by go_simp⟩) hS6 ?_
          simp only [AP]
          refine wpAnyS_takeL 10 (v := .pointer (some ⟨h, 0, none⟩)) rfl (by kernel_rfl) (by kernel_rfl) (by kernel_rfl) (fun _ _ _ H => H) (Or.inl ⟨by rfl, fun w' hw' => by go_simp⟩) hS6 ?_
          simp only [AP]
          refine wpAnyS_takeL 11 (v := .slice (some ⟨gb, o, none⟩) L.length c) rfl (by kernel_rfl) (by kernel_rfl) (by kernel_rfl) (fun _ _ _ H => H) (Or.inl ⟨by rfl, fun w' hw' => by (go_simp)⟩) hS6 ?_
          simp only [AP]
          refine wpAnyS_takeL 12 (v := .int .i64 (m : Int)) rfl (by kernel_rfl) (by kernel_rfl) (by kernel_rfl) (fun _ _ _ H => H) (yieldsIf_move rfl _ rfl (.int .i64 (m : Int)) rfl) hS6 ?_
          simp only [AP]
          refine wpAnyS_takeL 13 (v := .pointer (some ⟨gb, o + m, none⟩)) rfl (by kernel_rfl) (by kernel_rfl) (by kernel_rfl) (fun _ _ _ H => H) (Or.inl ⟨by rfl, fun w' hw' => by (go_simp)⟩) hS6 ?_
          simp only [AP]
          refine wpAnyS_takeL 14 (v := .int .u64 (x : Int)) rfl (by kernel_rfl) (by kernel_rfl) (by kernel_rfl) (fun _ _ _ H => H) (Or.inl ⟨by rfl, fun w' hw' => by (go_simp)⟩) hS6 ?_
          simp only [AP]
          refine wpAnyS_takeL 15 (v := .int .u64 ((x : Int) + 1)) rfl (by kernel_rfl) (by kernel_rfl) (by kernel_rfl) (fun _ _ _ H => H) (Or.inl ⟨by rfl, fun w' hw' => by (go_simp)⟩) hS6 ?_
          simp only [AP]
          refine wpAnyS_takeL 16 (v := .bool false) rfl (by kernel_rfl) (by kernel_rfl) (by kernel_rfl) (fun _ _ _ H => H) (Or.inl ⟨by rfl, fun w' hw' => by (go_simp)⟩) hS6 ?_
          simp only [AP]
          refine wpAnyS_takeL 17 (v := .bool false) rfl (by kernel_rfl) (by kernel_rfl) (by kernel_rfl) (fun _ _ _ H => H) (yieldsIf_pick rfl _ _ _ rfl true rfl (.bool false) rfl) hS6 ?_
          simp only [AP]
          refine wpAnyS_done (by kernel_rfl) ?_ _
          refine (by assumption : ∀ (a : Act) (w : World), _ → _) _ _ ?_
          clear hS6
          go_upto_region 8 with fail
          refine wp_region_S (S := fun w' => w'.cell? ⟨h, 0, none⟩ = some (.slice (some ⟨gb, o, none⟩) L.length c) ∧ w'.cell? ⟨gb, o + m, none⟩ = some (.int .u64 (x : Int))) (by kernel_rfl) ?_
          refine wpAnyS_takeL 0 (v := .slice (some ⟨go, 0, none⟩) n1 co) rfl (by kernel_rfl) (by kernel_rfl) (by kernel_rfl) (fun _ _ _ H => H) (yieldsIf_move rfl _ rfl (.slice (some ⟨go, 0, none⟩) n1 co) rfl) hS8 ?_
          simp only [AP]
          refine wpAnyS_takeL 1 (v := .pointer (some ⟨h, 0, none⟩)) rfl (by kernel_rfl) (by kernel_rfl) (by kernel_rfl) (fun _ _ _ H => H) (yieldsIf_move rfl _ rfl (.pointer (some ⟨h, 0, none⟩)) rfl) hS8 ?_
          simp only [AP]
          refine wpAnyS_takeL 2 (v := .pointer (some ⟨h, 0, none⟩)) rfl (by kernel_rfl) (by kernel_rfl) (by kernel_rfl) (fun _ _ _ H => H) (Or.inl ⟨by rfl, fun w' hw' => by go_simp⟩) hS8 ?_
          simp only [AP]
          refine wpAnyS_takeL 3 (v := .pointer (some ⟨h, 0, none⟩)) rfl (by kernel_rfl) (by kernel_rfl) (by kernel_rfl) (fun _ _ _ H => H) (Or.inl ⟨by rfl, fun w' hw' => by go_simp⟩) hS8 ?_
          simp only [AP]
          refine wpAnyS_takeL 4 (v := .slice (some ⟨gb, o, none⟩) L.length c) rfl (by kernel_rfl) (by kernel_rfl) (by kernel_rfl) (fun _ _ _ H => H) (Or.inl ⟨by rfl, fun w' hw' => by (go_simp)⟩) hS8 ?_
          simp only [AP]
          refine wpAnyS_takeL 5 (v := .int .i64 (m : Int)) rfl (by kernel_rfl) (by kernel_rfl) (by kernel_rfl) (fun _ _ _ H => H) (yieldsIf_move rfl _ rfl (.int .i64 (m : Int)) rfl) hS8 ?_
          simp only [AP]
          refine wpAnyS_takeL 6 (v := .pointer (some ⟨gb, o + m, none⟩)) rfl (by kernel_rfl) (by kernel_rfl) (by kernel_rfl) (fun _ _ _ H => H) (Or.inl ⟨by rfl, fun w' hw' => by (go_simp)⟩) hS8 ?_
          simp only [AP]
          refine wpAnyS_takeL 7 (v := .int .u64 (x : Int)) rfl (by kernel_rfl) (by kernel_rfl) (by kernel_rfl) (fun _ _ _ H => H) (Or.inl ⟨by rfl, fun w' hw' => by (go_simp)⟩) hS8 ?_
          simp only [AP]
          refine wpAnyS_takeL 8 (v := .pointer (some ⟨h, 0, none⟩)) rfl (by kernel_rfl) (by kernel_rfl) (by kernel_rfl) (fun _ _ _ H => H) (yieldsIf_move rfl _ rfl (.pointer (some ⟨h, 0, none⟩)) rfl) hS8 ?_
          simp only [AP]
          refine wpAnyS_takeL 9 (v := .pointer (some ⟨h, 0, none⟩)) rfl (by kernel_rfl) (by kernel_rfl) (by kernel_rfl) (fun _ _ _ H => H) (Or.inl ⟨by rfl, fun w' hw' => by go_simp⟩) hS8 ?_
          simp only [AP]
          refine wpAnyS_takeL 10 (v := .pointer (some ⟨h, 0, none⟩)) rfl (by kernel_rfl) (by kernel_rfl) (by kernel_rfl) (fun _ _ _ H => H) (Or.inl ⟨by rfl, fun w' hw' => by go_simp⟩) hS8 ?_
          simp only [AP]
          refine wpAnyS_takeL 11 (v := .slice (some ⟨gb, o, none⟩) L.length c) rfl (by kernel_rfl) (by kernel_rfl) (by kernel_rfl) (fun _ _ _ H => H) (Or.inl ⟨by rfl, fun w' hw' => by (go_simp)⟩) hS8 ?_
          simp only [AP]
          refine wpAnyS_takeL 12 (v := .int .i64 (m : Int)) rfl (by kernel_rfl) (by kernel_rfl) (by kernel_rfl) (fun _ _ _ H => H) (yieldsIf_move rfl _ rfl (.int .i64 (m : Int)) rfl) hS8 ?_
          simp only [AP]
          refine wpAnyS_takeL 13 (v := .pointer (some ⟨gb, o + m, none⟩)) rfl (by kernel_rfl) (by kernel_rfl) (by kernel_rfl) (fun _ _ _ H => H) (Or.inl ⟨by rfl, fun w' hw' => by (go_simp)⟩) hS8 ?_
          simp only [AP]
          refine wpAnyS_takeL 14 (v := .int .u64 (x : Int)) rfl (by kernel_rfl) (by kernel_rfl) (by kernel_rfl) (fun _ _ _ H => H) (Or.inl ⟨by rfl, fun w' hw' => by (go_simp)⟩) hS8 ?_
          simp only [AP]
          refine wpAnyS_takeL 15 (v := .agg #[.int .u64 (x : Int), .int .u64 (x : Int)]) rfl (by kernel_rfl) (by kernel_rfl) (by kernel_rfl) (fun _ _ _ H => H) (Or.inl ⟨by rfl, fun w' hw' => by (go_simp)⟩) hS8 ?_
          simp only [AP]
          refine gstep 16 rfl rfl (by kernel_rfl) ?_
          refine wp_build_sp _ rfl x x rfl ?_
          have hS9 : (fun w' => w'.cell? ⟨h, 0, none⟩ = some (.slice (some ⟨gb, o, none⟩) L.length c) ∧ w'.cell? ⟨gb, o + m, none⟩ = some (.int .u64 (x : Int))) (wr.drew.drew.alloc (.cells #[.int .u64 (x : Int), .int .u64 (x : Int)] 26)) := ⟨(bal.cell (p := ⟨h, 0, none⟩) (Nat.lt_of_lt_of_le hlt hBd.size)).trans hS8.1, (bal.cell (p := ⟨gb, o + m, none⟩) (Nat.lt_of_lt_of_le hgb hBd.size)).trans hS8.2⟩
          refine ⟨hS9, ?_⟩
          simp only [AP]
          obtain ⟨v', w', hrun, hO2, hG2, hb2⟩ := append_sp W.heap.size (wr.drew.drew.alloc (.cells #[.int .u64 (x : Int), .int .u64 (x : Int)] 26)) 39 _ _ [(x, x)] (hOd.below bal) ⟨wr.drew.drew.heap.size, 0, none⟩ 1 (fun j u hu => by
            rw [Addr.add_lit, (Blk.new wr.drew.drew 26 #[.int .u64 (x : Int), .int .u64 (x : Int)]).cell, Nat.zero_add, List.getElem?_toArray]
            exact hu) (by have := HL.out; rw [HN.out, List.length_cons, List.length_nil]; omega) (Nat.le_trans hBd.size bal.size)
          have b9 := below_grown' (hBd.trans (bal.mono hBd.size)) hG2 (fun k hk => ((hOd.below bal).lt k hk).1) (Nat.le_trans hBd.size bal.size)
          refine gstep 17 rfl rfl (by kernel_rfl) (wp_append_run _ _ _ _ rfl _ _ rfl rfl v' w' hrun ?_)
          have hS10 : (fun w' => w'.cell? ⟨h, 0, none⟩ = some (.slice (some ⟨gb, o, none⟩) L.length c) ∧ w'.cell? ⟨gb, o + m, none⟩ = some (.int .u64 (x : Int))) w' := ⟨(b9.cell (p := ⟨h, 0, none⟩) hlt).trans c00, (b9.cell (p := ⟨gb, o + m, none⟩) hgb).trans c11⟩
          refine ⟨hS10, ?_⟩
          simp only [AP]
          refine wpAnyS_takeL 18 (v := v') rfl (by kernel_rfl) (by kernel_rfl) (by kernel_rfl) (fun _ _ _ H => H) (yieldsIf_assign rfl _ rfl v' rfl) hS10 ?_
          simp only [AP]
          refine wpAnyS_done (by kernel_rfl) ?_ _
          refine (by assumption : ∀ (a : Act) (w : World), _ → _) _ _ ?_
          have R := Lib.hid (And.intro hO2 b9)
          clear hS8 hS9 hS10 hO2 b9 hG2 hb2 hrun hO hOd hB hBd hB0 bal c00 c11
          go_wp2
          refine ⟨⟨m, by omega, rfl, ?_, R.out.2⟩, by simp only [intOf]; omega⟩
          rw [HD.out]
          exact R.out.1
end Go.Proofs.Ytnahjmladhbmpaa
