/- The program's insert where there is no room; slices.Delete on a Seen's spans (printed by gen17/sg.py). -/
import Derived.Test.YtnahjmladhbmpaaSf
namespace Go.Proofs.Ytnahjmladhbmpaa
open Go.RowKit

set_option maxHeartbeats 4000000 in
set_option maxRecDepth 100000 in
theorem insert_full (g fl x y : Nat) (l : List (Nat × Nat)) (hl : Hid (l.length = 32)) (W : World) (h : SM W g l fl) :
    Calls Try.prog 20 #[.pointer (some ⟨g, 0, none⟩), .int .i64 32, .agg #[.int .u64 (x : Int), .int .u64 (y : Int)]] W fun e w' => (∃ u, e = .returned u) ∧ SM w' g l (l.getD 31 (0, 0)).1 ∧ W.grownBy w' (some g) := by
  have hg := h.lt
  have b1 := (Below.refl W.heap.size W).alloc (Nat.le_refl _) (.cells #[.int .u64 (x : Int), .int .u64 (y : Int)] 26)
  have H2 := h.below b1 hg
  obtain ⟨rest, hr, K⟩ := H2
  have rest0 : rest = [] := List.eq_nil_of_length_eq_zero (by have := hl.out; rw [List.length_append] at hr; omega)
  rw [rest0, List.append_nil] at K
  rw [hl.out] at K
  have hn := row_n K hl.out
  have r0 := row_fl K hl.out
  have f0 := K.frozen 65
  have r2 := row_lo K 31 (by rw [hl.out]; decide)
  have K4 := K.set 65 (.int .u64 (((l.getD 31 (0, 0)).1 : Nat) : Int))
  rw [seen_fl _ _ _ _ hl.out] at K4
  have G4 := gb_cell (gb_of b1 (Nat.le_refl _) g) 65 (.int .u64 (((l.getD 31 (0, 0)).1 : Nat) : Int))
  have HK := Lib.hid K4
  have HG := Lib.hid G4
  clear K4 K G4 hr b1
  generalize (l.getD 31 (0, 0)).1 = z at *
  go_enter Try.func20, Try.ntmps20
  go_upto_region 1 with fail
  generalize W.alloc (.cells #[.int .u64 (x : Int), .int .u64 (y : Int)] 26) = W1 at *
  go_wp2
  refine bodyPost_end (results_none rfl _ _ _) rfl ?_
  refine ⟨⟨_, rfl⟩, ⟨[], by rw [List.append_nil]; exact hl.out, ?_⟩, HG.out⟩
  rw [List.append_nil, hl.out]
  exact HK.out
theorem over_nil (cur : Array Value) (o : Nat) : over cur o [] = cur := by
  unfold over
  simp
theorem run_append_in (w : World) (ty : TypeId) (g o sLen sCap : Nat) (a : Addr) (m c : Nat) (cur : Array Value) (t : TypeId) (cs : List Value)
    (hg : Blk w g t cur) (hn : cs.length = m * 2) (hsrc : ∀ j v, cs[j]? = some v → w.cell? (a.add j) = some v) (hroom : sLen + m ≤ sCap) (hfit : o + sLen * 2 + cs.length ≤ cur.size) (h1 : ∀ v ∈ cs, v.oneCell' = true) :
    (Builtin.append_ #[39, 39] ty #[.slice (some ⟨g, o, none⟩) sLen sCap, .slice (some a) m c]).run Try.prog w = .ok (.slice (some ⟨g, o, none⟩) (sLen + m) sCap) (w.setRow g (over cur (o + sLen * 2) cs)) := by
  obtain ⟨i, hi, hs, _, _⟩ := info_sp3
  have hl := run_firstCells_some (P := Try.prog) w 2 m a m c cs hn hsrc
  have hst := run_storeCells_at Try.prog g (o + sLen * 2) t cs 0 cur w hg (by simpa using hfit) h1
  rw [Nat.add_zero] at hst
  unfold over
  simp [Builtin.append_, run_underlying Try.underlying39, run_underlying Try.underlying26, Builtin.lenOf, sizeOf, typeInfo, hi, hs, hl, hst, hroom, Addr.add_lit]
theorem run_clear1 (w : World) (ty : TypeId) (g o c : Nat) (cur : Array Value) (t : TypeId) (hg : Blk w g t cur) (hfit : o + 2 ≤ cur.size) :
    (Builtin.clear_ #[39] ty #[.slice (some ⟨g, o, none⟩) 1 c]).run Try.prog w = .ok (.tuple #[]) (w.setRow g (over cur o (spC [(0, 0)]))) := by
  obtain ⟨i, hi, hs, _, hz⟩ := info_sp3
  have hst := run_storeCells_at Try.prog g o t (spC [(0, 0)]) 0 cur w hg (by show o + 0 + 2 ≤ _; omega) (spC_one _)
  rw [Nat.add_zero] at hst
  have e : (Builtin.zeroCells (#[.int .u64 0, .int .u64 0] : Array Value) 1).toList = spC [(0, 0)] := by simp [Builtin.zeroCells, spC, spL, List.range, List.range.loop]
  unfold over
  simp [Builtin.clear_, run_underlying Try.underlying39, zeroValue, typeInfo, hi, hz, Value.cells, e, hst]
theorem wp_clear_run {o : Oper} {a : Act} {w : World} {K : Act → World → Prop} {Q : Exit → Act → World → Prop} (x : Operand) (ho : o.op = .call { callee := .builtin .clear, args := #[x], argTypes := #[39] })
    (v v' : Value) (hx : a.eval x = v) (w' : World) (hr : (Builtin.clear_ #[39] o.type #[v]).run Try.prog w = .ok v' w') (h : K (a.put o.dst v') w') : o.wp Try.prog a w K Q := by
  unfold Oper.wp execOp
  simp only [ho, resolve, invoke, builtin, Sem.run_bind, Sem.run_pure, Result.andThen_ok, List.map_toArray, List.map_cons, List.map_nil, hx, hr]
  exact h
theorem erase_over (l rest : List (Nat × Nat)) (k : Nat) (hk : k < l.length) : ((l ++ rest).take k ++ ((l ++ rest).drop (k + 1)).take (l.length - (k + 1)) ++ (l ++ rest).drop (k + (l.length - (k + 1)))) = l.eraseIdx k ++ (l ++ rest).drop (l.length - 1) := by
  have e1 : k + (l.length - (k + 1)) = l.length - 1 := by omega
  have d1 : (l ++ rest).take k = l.take k := List.take_append_of_le_length (by omega)
  have d2 : ((l ++ rest).drop (k + 1)).take (l.length - (k + 1)) = l.drop (k + 1) := by
    rw [List.drop_append_of_le_length (by omega), List.take_append_of_le_length (by rw [List.length_drop]; omega), List.take_of_length_le (by rw [List.length_drop]; omega)]
  rw [e1, d1, d2, List.eraseIdx_eq_take_drop_succ]
/-- What stands behind one of a Seen's spans. -/
def tlV (g k n : Nat) : Value := .slice (some ⟨g, if k + 1 = 32 then 0 else (k + 1) * 2, none⟩) (n - (k + 1)) (31 - k)
set_option maxHeartbeats 4000000 in
set_option maxRecDepth 100000 in
theorem delete_c (g k fl : Nat) (l rest : List (Nat × Nat)) (hk : k < l.length) (W : World) (hr : (l ++ rest).length = 32) (K : Blk W g 29 (seenL (l ++ rest) l.length fl).toArray) :
    Calls Try.prog 19 #[.slice (some ⟨g, 0, none⟩) l.length 32, .int .i64 (k : Int), .int .i64 ((k : Int) + 1)] W fun e w' => e = .returned (.slice (some ⟨g, 0, none⟩) (l.length - 1) 32) ∧ Blk w' g 29 (seenL (l.eraseIdx k ++ (0, 0) :: rest) l.length fl).toArray ∧ W.grownBy w' (some g) := by
  have hg := K.lt
  have hl : l.length ≤ 32 := by rw [List.length_append] at hr; omega
  have k0 : (0 : Int) ≤ (k : Int) := by omega
  have k1 : (0 : Int) ≤ (k : Int) + 1 := by omega
  have k2 : (k : Int) ≤ (k : Int) + 1 := by omega
  have k3 : (k : Int) + 1 ≤ (l.length : Int) := by omega
  have k4 : (l.length : Int) ≤ 32 := by omega
  have k5 : ¬ (k : Int) = (k : Int) + 1 := by omega
  have k6 : (k : Int) ≤ 32 := by omega
  have k7 : (k : Int) ≤ (l.length : Int) := by omega
  go_enter Try.func19, Try.ntmps19
  go_upto_region 5 with fail
  rename_i aK
  refine wp_region_S (S := fun _ => True) (by kernel_rfl) ?_
  refine wpAnyS_takeL 0 (v := .slice (some ⟨g, 0, none⟩) l.length 32) rfl (by kernel_rfl) (by kernel_rfl) (by kernel_rfl) (fun _ _ _ H => H) (yieldsIf_move rfl _ rfl (.slice (some ⟨g, 0, none⟩) l.length 32) rfl) trivial ?_
  simp only [AP]
  refine wpAnyS_takeL 1 (v := .int .i64 (k : Int)) rfl (by kernel_rfl) (by kernel_rfl) (by kernel_rfl) (fun _ _ _ H => H) (yieldsIf_move rfl _ rfl (.int .i64 (k : Int)) rfl) trivial ?_
  simp only [AP]
  refine wpAnyS_takeL 2 (v := .slice (some ⟨g, 0, none⟩) k 32) rfl (by kernel_rfl) (by kernel_rfl) (by kernel_rfl) (fun _ _ _ H => H) (Or.inl ⟨by rfl, fun w' hw' => by (go_simp)⟩) trivial ?_
  simp only [AP]
  refine wpAnyS_takeL 3 (v := .slice (some ⟨g, 0, none⟩) l.length 32) rfl (by kernel_rfl) (by kernel_rfl) (by kernel_rfl) (fun _ _ _ H => H) (yieldsIf_move rfl _ rfl (.slice (some ⟨g, 0, none⟩) l.length 32) rfl) trivial ?_
  simp only [AP]
  refine wpAnyS_takeL 4 (v := .int .i64 ((k : Int) + 1)) rfl (by kernel_rfl) (by kernel_rfl) (by kernel_rfl) (fun _ _ _ H => H) (yieldsIf_move rfl _ rfl (.int .i64 ((k : Int) + 1)) rfl) trivial ?_
  simp only [AP]
  refine wpAnyS_takeL 5 (v := tlV g k l.length) rfl (by kernel_rfl) (by kernel_rfl) (by kernel_rfl) (fun _ _ _ H => H) (Or.inl ⟨by rfl, fun w' hw' => by (by_cases hk1 : k = 31; (subst hk1); (have e4 : l.length = 32 := by omega); (rw [e4]; unfold tlV; go_simp); (have e2 : ¬ ((k : Int) + 1 = 32) := by omega); (have e3 : ¬ (32 = k + 1) := by omega); (have e6 : ¬ (k + 1 = 32) := by omega); (have e7 : ¬ ((32 : Int) = (k : Int) + 1) := by omega); (have e1 : ((32 : Int) - ((k : Int) + 1)).toNat = 31 - k := by omega); (have e5 : ((l.length : Int) - ((k : Int) + 1)).toNat = l.length - (k + 1) := by omega); (unfold tlV; rw [if_neg e6]; go_simp))⟩) trivial ?_
  simp only [AP]
  obtain ⟨W2, hrun, K2, G2⟩ : ∃ W2, (Builtin.append_ #[39, 39] 39 #[.slice (some ⟨g, 0, none⟩) k 32, tlV g k l.length]).run Try.prog W.drew = .ok (.slice (some ⟨g, 0, none⟩) (l.length - 1) 32) W2 ∧ Blk W2 g 29 (seenL (l.eraseIdx k ++ (l ++ rest).drop (l.length - 1)) l.length fl).toArray ∧ W.grownBy W2 (some g) := by
    have hcl : (((l ++ rest).drop (k + 1)).take (l.length - (k + 1))).length = l.length - (k + 1) := by rw [List.length_take, List.length_drop, hr]; omega
    have e1 : k + (l.length - (k + 1)) = l.length - 1 := by omega
    have hsrc : ∀ j v, (spC (((l ++ rest).drop (k + 1)).take (l.length - (k + 1))))[j]? = some v → W.drew.cell? ((⟨g, if k + 1 = 32 then 0 else (k + 1) * 2, none⟩ : Addr).add j) = some v := by
      by_cases hk1 : k + 1 = 32
      · have e0 : l.length - (k + 1) = 0 := by omega
        intro j v hj
        rw [e0, List.take_zero] at hj
        cases hj
      · rw [if_neg hk1]
        exact row_cs K.drew (k + 1) (l.length - (k + 1)) (by omega)
    have R := run_append_in W.drew 39 g 0 k 32 ⟨g, if k + 1 = 32 then 0 else (k + 1) * 2, none⟩ (l.length - (k + 1)) (31 - k) _ 29 (spC (((l ++ rest).drop (k + 1)).take (l.length - (k + 1)))) K.drew (by rw [spC_length, hcl]) hsrc (by omega) (by rw [spC_length, hcl, List.size_toArray, seenL_length _ _ _ hr]; omega) (spC_one _)
    have K' := Blk.row K.drew (over (seenL (l ++ rest) l.length fl).toArray (0 + k * 2) (spC (((l ++ rest).drop (k + 1)).take (l.length - (k + 1)))))
    have G' := gb_row (gb_drew ⟨rfl, rfl, rfl, Nat.le_refl _, fun _ _ _ => rfl⟩ : W.grownBy W.drew (some g)) (over (seenL (l ++ rest) l.length fl).toArray (0 + k * 2) (spC (((l ++ rest).drop (k + 1)).take (l.length - (k + 1)))))
    rw [e1] at R
    refine ⟨_, R, ?_, G'⟩
    have EO : over (seenL (l ++ rest) l.length fl).toArray (0 + k * 2) (spC (((l ++ rest).drop (k + 1)).take (l.length - (k + 1)))) = (seenL (l.eraseIdx k ++ (l ++ rest).drop (l.length - 1)) l.length fl).toArray := by
      rw [Nat.zero_add, over_seen _ _ _ _ _ (by rw [hcl]; omega), hcl, erase_over l rest k hk]
    rw [EO] at K' ⊢
    exact K'
  refine gstep 6 rfl rfl (by kernel_rfl) (wp_append_run _ _ _ _ rfl _ _ rfl rfl _ W2 hrun ⟨trivial, ?_⟩)
  simp only [AP]
  refine wpAnyS_takeL 7 (v := .slice (some ⟨g, 0, none⟩) (l.length - 1) 32) rfl (by kernel_rfl) (by kernel_rfl) (by kernel_rfl) (fun _ _ _ H => H) (yieldsIf_assign rfl _ rfl (.slice (some ⟨g, 0, none⟩) (l.length - 1) 32) rfl) trivial ?_
  simp only [AP]
  refine wpAnyS_done (by kernel_rfl) ?_ _
  refine aK _ _ ?_
  clear aK hrun
  have hdl : (l ++ rest).drop (l.length - 1) = (l ++ rest).getD (l.length - 1) (0, 0) :: rest := by
    rw [List.drop_append_of_le_length (by omega), List.drop_eq_getElem_cons (by omega : l.length - 1 < l.length), show l.length - 1 + 1 = l.length by omega, List.drop_eq_nil_of_le (Nat.le_refl _), List.cons_append, List.nil_append, getD_left _ _ _ (by omega), getD_lt' _ _ _ (by omega)]
  have hel : (l.eraseIdx k).length = l.length - 1 := by rw [List.length_eraseIdx, if_pos hk]
  have hM3 : (l.eraseIdx k ++ (l ++ rest).drop (l.length - 1)).length = 32 := by rw [List.length_append, List.length_drop, hel, hr]; omega
  obtain ⟨W3, hrun, K3, G3⟩ : ∃ W3, (Builtin.clear_ #[39] 0 #[.slice (some ⟨g, (l.length - 1) * 2, none⟩) 1 (32 - (l.length - 1))]).run Try.prog W2 = .ok (.tuple #[]) W3 ∧ Blk W3 g 29 (seenL (l.eraseIdx k ++ (0, 0) :: rest) l.length fl).toArray ∧ W.grownBy W3 (some g) := by
    refine ⟨_, run_clear1 W2 _ g ((l.length - 1) * 2) _ _ 29 K2 (by rw [List.size_toArray, seenL_length _ _ _ hM3]; omega), ?_, gb_row G2 _⟩
    have K' := Blk.row K2 (over (seenL (l.eraseIdx k ++ (l ++ rest).drop (l.length - 1)) l.length fl).toArray ((l.length - 1) * 2) (spC [(0, 0)]))
    have EO : over (seenL (l.eraseIdx k ++ (l ++ rest).drop (l.length - 1)) l.length fl).toArray ((l.length - 1) * 2) (spC [(0, 0)]) = (seenL (l.eraseIdx k ++ (0, 0) :: rest) l.length fl).toArray := by
      rw [over_seen _ _ _ _ _ (by rw [hM3]; show l.length - 1 + 1 ≤ 32; omega), hdl]
      rw [List.take_append_of_le_length (by omega), List.take_of_length_le (by omega), show l.length - 1 + [(0, 0)].length = (l.eraseIdx k).length + 1 by rw [hel]; rfl, List.drop_length_add_append]
      simp
    rw [EO] at K' ⊢
    exact K'
  have R := Lib.hid (And.intro K3 G3)
  have m0 : ((l.length : Int) - ((l.length - 1 : Nat) : Int)).toNat = 1 := by omega
  have m1 : ((l.length - 1 : Nat) : Int) ≤ (l.length : Int) := by omega
  have m2 : (0 : Int) ≤ ((l.length - 1 : Nat) : Int) := by omega
  have m3 : ¬ 32 = l.length - 1 := by omega
  have m4 : ((l.length - 1 : Nat) : Int) ≤ 32 := by omega
  clear K3 G3 K2 hM3 hel hdl k3 k7 hr K G2
  have m5 : l.length - (l.length - 1) = 1 := by omega
  generalize hn1 : l.length - 1 = n1 at *
  have HN := Lib.hid hn1
  clear hn1
  go_upto_region 6 with fail
  rename_i aK
  refine wp_region_seq ?_
  refine wpSeq_yield (S := fun _ => True) (yieldsIf_move rfl _ rfl (.slice (some ⟨g, 0, none⟩) n1 32) rfl) trivial ?_
  simp only [AP]
  refine wpSeq_yield (S := fun _ => True) (yieldsIf_move rfl _ rfl (.slice (some ⟨g, 0, none⟩) n1 32) rfl) trivial ?_
  simp only [AP]
  refine wpSeq_yield (S := fun _ => True) (v := .int .i64 (n1 : Int)) (Or.inl ⟨by rfl, fun w' hw' => by go_simp⟩) trivial ?_
  simp only [AP]
  refine wpSeq_yield (S := fun _ => True) (yieldsIf_move rfl _ rfl (.int .i64 (l.length : Int)) rfl) trivial ?_
  simp only [AP]
  refine wpSeq_yield (S := fun _ => True) (v := .slice (some ⟨g, n1 * 2, none⟩) 1 (32 - n1)) (Or.inl ⟨by rfl, fun w' hw' => by go_simp⟩) trivial ?_
  simp only [AP]
  refine wpSeq_wp rfl (wp_clear_run _ rfl _ _ rfl W3 hrun ?_)
  simp only [Act.put]
  refine wpSeq_nil ?_
  refine aK _ _ ?_
  clear aK hrun
  go_wp2
  go_ret
  exact ⟨by rw [HN.out]; rfl, R.out⟩
end Go.Proofs.Ytnahjmladhbmpaa
