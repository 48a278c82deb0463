/- bytes.Join of parts, nothing between (printed by gen15/fa.py). -/
import Derived.Test.YtdmhngkedgkndaaDoorLq0Us
import Derived.Lib.MakeNoZero
import Derived.Lib.SliceRun
namespace Go.Proofs.YtdmhngkedgkndaaDoor
open Go.RowKit
/-- Bytes put into a row from a place on. -/
def putV (cs : Array Value) (off : Nat) (R : List Nat) : Array Value := (cs.toList.take off ++ (vals R ++ cs.toList.drop (off + R.length))).toArray
theorem wp_copy_any {o : Oper} {a : Act} {w : World} {K : Act → World → Prop} {Q : Exit → Act → World → Prop} (d s : Operand) (ho : o.op = .call { callee := .builtin .copy, args := #[d, s], argTypes := #[22, 22] })
    (g off dLen dCap : Nat) (hd : a.eval d = .slice (some ⟨g, off, none⟩) dLen dCap) (v : Value) (m : List Nat) (t : TypeId) (hs : a.eval s = v) (hm : SB w v m) (cur : Array Value) (hg : Blk w g t cur) (hml : m.length ≤ dLen) (hfit : off + dLen ≤ cur.size)
    (h : ∀ w', Blk w' g t (putV cur off m) → w.grownBy w' (some g) → K (a.put o.dst (goInt m.length)) w') : o.wp Tryd.prog a w K Q := by
  have hu := Tryd.underlying22
  have hsz : (Tryd.prog.info? 5).map (·.size) = some 1 := by kernel_rfl
  have id0 : w.grownBy w (some g) := ⟨rfl, rfl, rfl, Nat.le_refl _, fun _ _ _ => rfl⟩
  obtain ⟨p, c, rfl, hc, h0⟩ := hm
  by_cases e0 : m.length = 0
  · have e1 := List.length_eq_zero_iff.1 e0
    subst e1
    have hrun := run_copy_none (P := Tryd.prog) w 22 22 o.type 5 (some ⟨g, off, none⟩) p dLen dCap ([] : List Nat).length c hu hsz (Nat.min_eq_left (Nat.zero_le _))
    have ep : putV cur off [] = cur := by
      unfold putV
      simp [vals]
    have hK := h w (by rw [ep]; exact hg) id0
    unfold Oper.wp
    simp only [execOp, ho, resolve, invoke, builtin, Sem.run_bind, Sem.run_pure, Result.andThen_ok, List.map_toArray, List.map_cons, List.map_nil, hd, hs, hrun]
    exact hK
  · rcases h0 with h1 | ⟨g1, o1, rfl, hA⟩
    · rw [h1] at e0
      exact absurd rfl e0
    · have hrun := run_copy_row (P := Tryd.prog) w 22 22 o.type 5 g off dLen dCap ⟨g1, o1, none⟩ m.length c cur t (vals m) hu hsz hg (by rw [vals_length]; exact (Nat.min_eq_left hml).symm) (cells_at hA) (by rw [vals_length]; omega) (one_at m)
      have hK := h (w.setRow g (putV cur off m)) (Blk.row hg _) ⟨rfl, rfl, rfl, by simp [World.setRow], fun k _ hk => setRow_other w g k _ (fun e => hk (by rw [e]))⟩
      unfold Oper.wp
      simp only [execOp, ho, resolve, invoke, builtin, Sem.run_bind, Sem.run_pure, Result.andThen_ok, List.map_toArray, List.map_cons, List.map_nil, hd, hs, hrun]
      rw [show (cur.toList.take off ++ vals m ++ cur.toList.drop (off + (vals m).length)).toArray = putV cur off m by unfold putV; rw [List.append_assoc, vals_length], vals_length]
      exact hK
theorem putV_size (cs : Array Value) (off : Nat) (m : List Nat) (h : off + m.length ≤ cs.size) : (putV cs off m).size = cs.size := by
  unfold putV
  simp only [List.size_toArray, List.length_append, List.length_take, List.length_drop, vals_length, Array.length_toList]
  omega
/-- Bytes put behind bytes. -/
theorem ba_put {w w' : World} {g : Nat} {t : TypeId} {cs : Array Value} {a m : List Nat} (h : BA w g 0 a) (K : Blk w g t cs) (K' : Blk w' g t (putV cs a.length m)) (hs : a.length + m.length ≤ cs.size) : BA w' g 0 (a ++ m) :=
  ⟨fun i hi => by
    have e : (putV cs a.length m)[i]? = some (.int .u8 (((a ++ m)[i] : Nat) : Int)) := by
      unfold putV
      rw [List.getElem?_toArray]
      have hl : (cs.toList.take a.length).length = a.length := by
        rw [List.length_take, Array.length_toList]
        exact Nat.min_eq_left (Nat.le_trans (Nat.le_add_right _ _) hs)
      by_cases h1 : i < a.length
      · rw [List.getElem?_append_left (Nat.lt_of_lt_of_eq h1 hl.symm), List.getElem?_take, if_pos h1, Array.getElem?_toList]
        have := h.cell i h1
        rw [Blk.cell K, Nat.zero_add] at this
        rw [this, List.getElem_append_left h1]
      · have hi2 : i - a.length < m.length := by rw [List.length_append] at hi; omega
        rw [List.getElem?_append_right (hl.symm ▸ Nat.le_of_not_lt h1), hl, List.getElem?_append_left (by rw [vals_length]; exact hi2), List.getElem_append_right (Nat.le_of_not_lt h1)]
        simp only [vals, List.getElem?_map]
        rw [List.getElem?_eq_getElem hi2]
        rfl
    rw [Blk.cell K', Nat.zero_add]
    exact e, K'.lt⟩
theorem ba_same {w w' : World} {g : Nat} {t : TypeId} {cs : Array Value} {a : List Nat} (h : BA w g 0 a) (K : Blk w g t cs) (K' : Blk w' g t cs) : BA w' g 0 a :=
  ⟨fun i hi => by rw [Blk.cell K', ← Blk.cell K]; exact h.cell i hi, K'.lt⟩
theorem makeNZ (T : Nat) (hT : T ≤ 1000000) (W : World) : ∃ cs : Array Value, T ≤ cs.size ∧ (callFunc 41 #[.int .i64 (T : Int)]).run Tryd.prog W = .ok (.value (.slice (some ⟨W.heap.size, 0, none⟩) T cs.size)) (W.drew.drew.alloc (.cells cs 5)) := by
  obtain ⟨cs, hr, hle, _⟩ := Lib.run_makeNoZero (P := Tryd.prog) W #[3] 22 5 Tryd.underlying22 T (by omega)
  refine ⟨cs, hle, ?_⟩
  rw [run_callFunc_extern Tryd.func41 (by kernel_rfl) (by kernel_rfl) (by kernel_rfl) (e := Extern.BytealgMakeNoZero.makeNoZero #[3] #[22]) (by kernel_rfl), hr]
  rfl
set_option maxHeartbeats 8000000 in
set_option maxRecDepth 100000 in
theorem join_none (p : Option Addr) (c : Nat) (W : World) :
    Calls Tryd.prog 34 #[.slice p 0 c, .slice none 0 0] W fun e w' => ∃ v, e = .returned v ∧ SB w' v [] ∧ Below W.heap.size W w' := by
  have B := Lib.hid ((Below.refl W.heap.size W).alloc (Nat.le_refl _) (.cells #[] 5))
  go_enter Tryd.func34, Tryd.ntmps34
  go_wp2_with (refine wpList_build_run rfl 22 _ rfl _ _ (run_buildSlice_none _) ?_)
  go_ret
  exact ⟨_, rfl, SB.nil _ _ _, B.out⟩
theorem ba_put2 {w w' : World} {g off : Nat} {t : TypeId} {cs : Array Value} {a m : List Nat} (h : BA w g 0 a) (K : Blk w g t cs) (K' : Blk w' g t (putV cs off m)) (ho : off = a.length ∨ m = []) (hs : a.length + m.length ≤ cs.size) : BA w' g 0 (a ++ m) := by
  rcases ho with ho | ho
  · rw [ho] at K'
    exact ba_put h K K' hs
  · subst ho
    have e : putV cs off [] = putV cs a.length [] := by unfold putV; simp [vals]
    rw [e] at K'
    exact ba_put h K K' hs
theorem yieldsIf_tailS {ops : Array Oper} {S : World → Prop} {o : Oper} {a : Act} (hgd : Region.wanted o (yielded ops a.tmps) = true) (x : Operand) (ho : o.op = .slice 55 x (some (.const (.int .i64 1))) none none) (g q n m c : Nat) (hx : a.eval x = .slice (some ⟨g, q, none⟩) n c) (hn : n = m + 1) (hm : 1 ≤ m) (hc : n ≤ c) :
    YieldsIf Tryd.prog ops S o (.slice (some ⟨g, q + 1, none⟩) m (c - 1)) a := by
  refine Or.inl ⟨hgd, fun w hw => ?_⟩
  have q1 : (1 : Int) ≤ (n : Int) := by omega
  have q2 : (n : Int) ≤ (c : Int) := by omega
  have q3 : ¬ c = 1 := by omega
  have q4 : n - 1 = m := by omega
  clear hn hm hc
  simp only [execOp, ho, hx]
  go_simp
set_option maxHeartbeats 8000000 in
set_option maxRecDepth 100000 in
theorem join_one (g q c : Nat) (u : Value) (m : List Nat) (W : World) (hg : W.cell? ⟨g, q, none⟩ = some u) (hu : SB W u m) (hm : m.length ≤ 100000) (_hc : 1 ≤ c) :
    Calls Tryd.prog 34 #[.slice (some ⟨g, q, none⟩) 1 c, .slice none 0 0] W fun e w' => ∃ v, e = .returned v ∧ SB w' v m ∧ Below W.heap.size W w' := by
  obtain ⟨v', w', h1, h2, h3⟩ := append_more W.heap.size W W 22 (.slice none 0 0) u [] m (OwL.nil _ _) hu (by simp; omega) (Below.refl _ _) (Nat.le_refl _)
  rw [List.nil_append] at h2
  obtain ⟨pu, cu, rfl⟩ := hu.shape
  have F := Lib.hid (And.intro h2.sb h3)
  replace h1 := Lib.hid h1
  clear h2 h3 hu hm
  go_enter Tryd.func34, Tryd.ntmps34
  go_upto_region 0 with fail
  rename_i aK
  refine wp_region_seq ?_
  refine wpSeq_yield (S := fun _ => True) (yieldsIf_assign rfl _ rfl (.slice none 0 0) rfl) trivial ?_
  simp only [AP]
  refine wpSeq_nil ?_
  refine (by assumption : ∀ (a : Act) (w : World), _ → _) _ _ ?_
  go_upto_region 1 with fail
  rename_i aK
  refine wp_region_seq ?_
  refine wpSeq_yield (S := fun _ => True) (yieldsIf_move rfl _ rfl (.slice (some ⟨g, q, none⟩) 1 c) rfl) trivial ?_
  simp only [AP]
  refine wpSeq_yield (S := fun _ => True) (v := .int .i64 1) (Or.inl ⟨by rfl, fun w' hw' => by go_simp⟩) trivial ?_
  simp only [AP]
  refine wpSeq_yield (S := fun _ => True) (v := .bool false) (Or.inl ⟨by rfl, fun w' hw' => by (go_simp; try omega)⟩) trivial ?_
  simp only [AP]
  refine wpSeq_nil ?_
  refine (by assumption : ∀ (a : Act) (w : World), _ → _) _ _ ?_
  go_upto_region 3 with fail
  rename_i aK
  refine wp_region_seq ?_
  refine wpSeq_yield (S := fun _ => True) (yieldsIf_move rfl _ rfl (.slice (some ⟨g, q, none⟩) 1 c) rfl) trivial ?_
  simp only [AP]
  refine wpSeq_yield (S := fun _ => True) (v := .int .i64 1) (Or.inl ⟨by rfl, fun w' hw' => by go_simp⟩) trivial ?_
  simp only [AP]
  refine wpSeq_yield (S := fun _ => True) (v := .bool true) (Or.inl ⟨by rfl, fun w' hw' => by (go_simp; try omega)⟩) trivial ?_
  simp only [AP]
  refine wpSeq_nil ?_
  refine (by assumption : ∀ (a : Act) (w : World), _ → _) _ _ ?_
  go_upto_region 4 with fail
  rename_i aK
  refine wp_region_seq ?_
  refine wpSeq_yield (S := fun _ => True) (yieldsIf_move rfl _ rfl (.slice (some ⟨g, q, none⟩) 1 c) rfl) trivial ?_
  simp only [AP]
  refine wpSeq_yield (S := fun _ => True) (v := .pointer (some ⟨g, q, none⟩)) (Or.inl ⟨by rfl, fun w' hw' => by go_simp⟩) trivial ?_
  simp only [AP]
  refine wpSeq_yield (S := fun w' => w' = W) (v := .slice pu m.length cu) (Or.inl ⟨by rfl, fun w' hw' => by (rw [hw']; go_simp)⟩) rfl ?_
  simp only [AP]
  refine wpSeq_wp rfl (wp_append_run _ _ _ _ rfl _ _ rfl rfl _ w' h1.out ?_)
  simp only [AP]
  refine wpSeq_yield (S := fun _ => True) (yieldsIf_assign rfl _ rfl (v') rfl) trivial ?_
  simp only [AP]
  refine wpSeq_nil ?_
  refine (by assumption : ∀ (a : Act) (w : World), _ → _) _ _ ?_
  go_wp2
  go_ret
  exact ⟨_, rfl, F.out.1, F.out.2⟩
set_option maxHeartbeats 8000000 in
set_option maxRecDepth 100000 in
theorem join_many (ls : List (List Nat)) (g q N c : Nat) (hN : ls.length = N) (h2N : 2 ≤ N) (hNl : N ≤ 1000) (hc : N ≤ c) (W : World) (hg : g < W.heap.size) (hS : ∀ (i : Nat) (h : i < ls.length), ∃ u, W.cell? ⟨g, q + i, none⟩ = some u ∧ SB W u ls[i]) (hl : ls.flatten.length ≤ 100000) :
    Calls Tryd.prog 34 #[.slice (some ⟨g, q, none⟩) N c, .slice none 0 0] W fun e w' => ∃ v, e = .returned v ∧ SB w' v ls.flatten ∧ Below W.heap.size W w' := by
  have FL := Lib.hid (fun j (hj : j < ls.length) => show (ls.take (j + 1)).flatten = (ls.take j).flatten ++ ls[j] by
    rw [← List.take_append_getElem hj, List.flatten_append]
    simp)
  have FT := Lib.hid (show ∀ j, (ls.take j).flatten.length ≤ ls.flatten.length from fun j => by
    have e : ls.flatten = (ls.take j).flatten ++ (ls.drop j).flatten := by
      conv => lhs; rw [← List.take_append_drop j ls]
      rw [List.flatten_append]
    have := congrArg List.length e
    rw [List.length_append] at this
    omega)
  have FE := Lib.hid (show ls.take N = ls by rw [← hN]; exact List.take_length)
  have F0 := Lib.hid (show ls.take 0 = [] from List.take_zero)
  obtain ⟨T, hT⟩ : ∃ T, ls.flatten.length = T := ⟨_, rfl⟩
  rw [hT] at hl FT
  replace hT := Lib.hid hT
  have HN := Lib.hid hN
  have HS := Lib.hid hS
  have HC := Lib.hid hc
  have HL := Lib.hid hl
  have HNl := Lib.hid hNl
  have n0 : ¬ (N : Int) = 0 := by omega
  have n1 : ¬ (N : Int) = 1 := by omega
  have H2 := Lib.hid h2N
  clear hN hS hc hl hNl h2N
  go_enter Tryd.func34, Tryd.ntmps34
  go_upto_region 0 with fail
  rename_i aK
  refine wp_region_seq ?_
  refine wpSeq_yield (S := fun _ => True) (yieldsIf_assign rfl _ rfl (.slice none 0 0) rfl) trivial ?_
  simp only [AP]
  refine wpSeq_nil ?_
  refine (by assumption : ∀ (a : Act) (w : World), _ → _) _ _ ?_
  go_upto_region 1 with fail
  rename_i aK
  refine wp_region_seq ?_
  refine wpSeq_yield (S := fun _ => True) (yieldsIf_move rfl _ rfl (.slice (some ⟨g, q, none⟩) N c) rfl) trivial ?_
  simp only [AP]
  refine wpSeq_yield (S := fun _ => True) (v := .int .i64 (N : Int)) (Or.inl ⟨by rfl, fun w' hw' => by go_simp⟩) trivial ?_
  simp only [AP]
  refine wpSeq_yield (S := fun _ => True) (v := .bool false) (Or.inl ⟨by rfl, fun w' hw' => by (go_simp; try omega)⟩) trivial ?_
  simp only [AP]
  refine wpSeq_nil ?_
  refine (by assumption : ∀ (a : Act) (w : World), _ → _) _ _ ?_
  go_upto_region 3 with fail
  rename_i aK
  refine wp_region_seq ?_
  refine wpSeq_yield (S := fun _ => True) (yieldsIf_move rfl _ rfl (.slice (some ⟨g, q, none⟩) N c) rfl) trivial ?_
  simp only [AP]
  refine wpSeq_yield (S := fun _ => True) (v := .int .i64 (N : Int)) (Or.inl ⟨by rfl, fun w' hw' => by go_simp⟩) trivial ?_
  simp only [AP]
  refine wpSeq_yield (S := fun _ => True) (v := .bool false) (Or.inl ⟨by rfl, fun w' hw' => by (go_simp; try omega)⟩) trivial ?_
  simp only [AP]
  refine wpSeq_nil ?_
  refine (by assumption : ∀ (a : Act) (w : World), _ → _) _ _ ?_
  go_upto_region 5 with fail
  rename_i aK
  refine wp_region_seq ?_
  refine wpSeq_yield (S := fun _ => True) (yieldsIf_assign rfl _ rfl (.int .i64 0) rfl) trivial ?_
  simp only [AP]
  refine wpSeq_nil ?_
  refine (by assumption : ∀ (a : Act) (w : World), _ → _) _ _ ?_
  go_upto_region 6 with fail
  rename_i aK
  refine wp_region_seq ?_
  refine wpSeq_yield (S := fun _ => True) (yieldsIf_move rfl _ rfl (.slice none 0 0) rfl) trivial ?_
  simp only [AP]
  refine wpSeq_yield (S := fun _ => True) (v := .int .i64 0) (Or.inl ⟨by rfl, fun w' hw' => by go_simp⟩) trivial ?_
  simp only [AP]
  refine wpSeq_yield (S := fun _ => True) (v := .bool false) (Or.inl ⟨by rfl, fun w' hw' => by (go_simp; try omega)⟩) trivial ?_
  simp only [AP]
  refine wpSeq_nil ?_
  refine (by assumption : ∀ (a : Act) (w : World), _ → _) _ _ ?_
  go_upto_region 10 with fail
  rename_i aK
  refine wp_region_seq ?_
  refine wpSeq_yield (S := fun _ => True) (yieldsIf_move rfl _ rfl (.slice (some ⟨g, q, none⟩) N c) rfl) trivial ?_
  simp only [AP]
  refine wpSeq_yield (S := fun _ => True) (v := .int .i64 (N : Int)) (Or.inl ⟨by rfl, fun w' hw' => by go_simp⟩) trivial ?_
  simp only [AP]
  refine wpSeq_yield (S := fun _ => True) (yieldsIf_move rfl _ rfl (.int .i64 0) rfl) trivial ?_
  simp only [AP]
  refine wpSeq_nil ?_
  refine (by assumption : ∀ (a : Act) (w : World), _ → _) _ _ ?_
  go_upto_region 11 with fail
  go_loopw [5, 7, 44] (fun v5 _ v wr => ∃ j : Nat, j ≤ N ∧ v = .int .i64 (j : Int) ∧ v5 = .int .i64 (((ls.take j).flatten.length : Nat) : Int) ∧ wr = W) (fun _ _ v _ => (N - intOf v).toNat)
  case atStart => exact ⟨0, by omega, rfl, by rw [F0.out]; rfl, rfl⟩
  case round =>
    obtain ⟨j, jm, rfl, rfl, hw⟩ := hrel
    subst wr
    by_cases jj : j = N
    · replace jj := jj.symm
      subst jj
      have es : (ls.take N).flatten.length = T := by rw [FE.out]; exact hT.out
      rw [es]
      have HT := HL.out
      clear es jm
      obtain ⟨cs, hle, hcall⟩ := makeNZ T (Nat.le_trans HT (by decide)) W
      have B0 := below_drew (below_drew ((Below.refl W.heap.size W).alloc (Nat.le_refl _) (.cells cs 5)))
      have K0 : Blk (W.alloc (.cells cs 5)).drew.drew W.heap.size 5 cs := (Blk.new W 5 cs).drew.drew
      have i0 : (0 : Int) ≤ (T : Int) := by omega
      have i1 : (T : Int) ≤ (cs.size : Int) := by omega
      have j1 : ¬ (N : Int) < (N : Int) := by omega
      go_upto_region 11 with fail
      rename_i aK
      refine wp_region_seq ?_
      refine wpSeq_yield (S := fun _ => True) (v := .bool false) (Or.inl ⟨by rfl, fun w' hw' => by (go_simp; try omega)⟩) trivial ?_
      simp only [AP]
      refine wpSeq_nil ?_
      refine (by assumption : ∀ (a : Act) (w : World), _ → _) _ _ ?_
      go_upto_region 17 with fail
      rename_i aK
      refine wp_region_seq ?_
      refine wpSeq_yield (S := fun _ => True) (yieldsIf_move rfl _ rfl (.int .i64 (T : Int)) rfl) trivial ?_
      simp only [AP]
      refine wpSeq_wp rfl ?_
      unfold Oper.wp execOp
      go_simp
      refine wpSeq_yield (S := fun _ => True) (yieldsIf_move rfl _ rfl (.int .i64 (T : Int)) rfl) trivial ?_
      simp only [AP]
      refine wpSeq_yield (S := fun _ => True) (yieldsIf_move rfl _ rfl (.int .i64 (T : Int)) rfl) trivial ?_
      simp only [AP]
      refine wpSeq_yield (S := fun _ => True) (v := .slice (some ⟨W.heap.size, 0, none⟩) T T) (Or.inl ⟨by rfl, fun w' hw' => by go_simp⟩) trivial ?_
      simp only [AP]
      refine wpSeq_yield (S := fun _ => True) (yieldsIf_assign rfl _ rfl (.slice (some ⟨W.heap.size, 0, none⟩) T T) rfl) trivial ?_
      simp only [AP]
      refine wpSeq_nil ?_
      refine (by assumption : ∀ (a : Act) (w : World), _ → _) _ _ ?_
      clear hcall
      generalize World.drew (World.drew (World.alloc W _)) = w1 at *
      have SZ0 := Lib.hid (show BA w1 W.heap.size 0 [] from ⟨fun i h => absurd h (Nat.not_lt_zero _), K0.lt⟩)
      have N2 := H2.out
      obtain ⟨u0, hu0, hs0⟩ := HS.out 0 (by rw [HN.out]; omega)
      obtain ⟨p0, c0, rfl⟩ := hs0.shape
      have FL0 := FL.out 0 (by rw [HN.out]; omega)
      have FT1 := FT.out 1
      obtain ⟨m0, hm0⟩ : ∃ m0, ls[0]'(by rw [HN.out]; omega) = m0 := ⟨_, rfl⟩
      rw [hm0] at hu0 hs0 FL0
      rw [Nat.zero_add, F0.out, List.flatten_nil, List.nil_append] at FL0
      rw [FL0] at FT1
      have hx0 : w1.cell? ⟨g, q + 0, none⟩ = some (.slice p0 m0.length c0) := (B0.cell (p := ⟨g, q + 0, none⟩) hg).trans hu0
      rw [Nat.add_zero] at hx0
      replace hs0 := hs0.below B0
      have q0 : (0 : Int) < (N : Int) := by omega
      replace FL0 := Lib.hid FL0
      replace FT1 := Lib.hid FT1
      clear hm0 hu0
      go_upto_region 18 with fail
      rename_i aK
      refine wp_region_seq ?_
      refine wpSeq_yield (S := fun _ => True) (yieldsIf_move rfl _ rfl (.slice (some ⟨W.heap.size, 0, none⟩) T T) rfl) trivial ?_
      simp only [AP]
      refine wpSeq_yield (S := fun _ => True) (yieldsIf_move rfl _ rfl (.slice (some ⟨g, q, none⟩) N c) rfl) trivial ?_
      simp only [AP]
      refine wpSeq_yield (S := fun _ => True) (v := .pointer (some ⟨g, q, none⟩)) (Or.inl ⟨by rfl, fun w' hw' => by (go_simp; try omega)⟩) trivial ?_
      simp only [AP]
      refine wpSeq_yield (S := fun w' => w' = w1) (v := .slice p0 m0.length c0) (Or.inl ⟨by rfl, fun w' hw' => by (rw [hw']; go_simp)⟩) rfl ?_
      simp only [AP]
      refine wpSeq_wp rfl (wp_copy_any _ _ rfl W.heap.size 0 T T rfl (.slice p0 m0.length c0) m0 5 rfl hs0 cs K0 FT1.out (by omega) ?_)
      intro w2 K2 G2
      simp only [goInt, AP]
      refine wpSeq_yield (S := fun _ => True) (yieldsIf_assign rfl _ rfl (.int .i64 (m0.length : Int)) rfl) trivial ?_
      simp only [AP]
      refine wpSeq_nil ?_
      refine (by assumption : ∀ (a : Act) (w : World), _ → _) _ _ ?_
      have B2 := below_grown' B0 G2 (fun k e => by have := Option.some.inj e; omega) B0.size
      have A2 := ba_put2 SZ0.out K0 K2 (Or.inl rfl) (by have := FT1.out; simp only [List.length_nil]; omega)
      rw [List.nil_append, ← FL0.out] at A2
      have z2 : (putV cs 0 m0).size = cs.size := putV_size cs 0 m0 (by have := FT1.out; omega)
      have e2 : m0.length = (ls.take 1).flatten.length := by rw [FL0.out]
      rw [e2]
      have D2 := Lib.hid (show ∃ cur : Array Value, cur.size = cs.size ∧ Blk w2 W.heap.size 5 cur ∧ BA w2 W.heap.size 0 (ls.take (1 + 0)).flatten from ⟨_, z2, K2, A2⟩)
      replace B2 := Lib.hid B2
      obtain ⟨M, hM⟩ : ∃ M, N = M + 1 := ⟨N - 1, by omega⟩
      replace hM := Lib.hid hM
      clear G2 A2 z2 e2 K2 K0 B0 SZ0 hs0 hx0 FL0 FT1 j1 N2
      go_upto_region 19 with fail
      rename_i aK
      refine wp_region_seq ?_
      refine wpSeq_yield (S := fun _ => True) (yieldsIf_move rfl _ rfl (.slice (some ⟨g, q, none⟩) N c) rfl) trivial ?_
      simp only [AP]
      refine wpSeq_yield (S := fun _ => True) (yieldsIf_tailS rfl _ rfl g q N M c rfl hM.out (by have := hM.out; have := H2.out; omega) HC.out) trivial ?_
      simp only [AP]
      refine wpSeq_yield (S := fun _ => True) (v := .int .i64 (M : Int)) (Or.inl ⟨by rfl, fun w' hw' => by go_simp⟩) trivial ?_
      simp only [AP]
      refine wpSeq_yield (S := fun _ => True) (yieldsIf_move rfl _ rfl (.int .i64 0) rfl) trivial ?_
      simp only [AP]
      refine wpSeq_nil ?_
      refine (by assumption : ∀ (a : Act) (w : World), _ → _) _ _ ?_
      go_upto_region 20 with fail
      go_loopw [9, 11, 72] (fun v9 _ v wr => ∃ j : Nat, j ≤ M ∧ v = .int .i64 (j : Int) ∧ v9 = .int .i64 (((ls.take (1 + j)).flatten.length : Nat) : Int) ∧ Below W.heap.size W wr ∧ ∃ cur : Array Value, cur.size = cs.size ∧ Blk wr W.heap.size 5 cur ∧ BA wr W.heap.size 0 (ls.take (1 + j)).flatten) (fun _ _ v _ => (M - intOf v).toNat)
      case atStart => exact ⟨0, by omega, rfl, rfl, B2.out, D2.out⟩
      case round =>
        clear B2 D2
        obtain ⟨j, jm, rfl, rfl, B3, cur, zc, K3, A3⟩ := hrel
        by_cases jj : j = M
        · replace jj := jj.symm
          subst jj
          have es : (ls.take (1 + M)).flatten = ls.flatten := by rw [show 1 + M = N by have := hM.out; omega, FE.out]
          rw [es] at A3 ⊢
          have ll : ls.flatten.length = T := hT.out
          have SBR := Lib.hid (show SB wr (.slice (some ⟨W.heap.size, 0, none⟩) T T) ls.flatten from SB.of_ba' A3 ll.symm (by omega))
          replace B3 := Lib.hid B3
          clear A3 ll es K3 jm
          go_wp2
          go_ret
          exact ⟨_, rfl, SBR.out, B3.out⟩
        · have jl : j < M := by omega
          have jn : 1 + j < ls.length := by rw [HN.out]; have := hM.out; omega
          obtain ⟨u, hu, hs⟩ := HS.out (1 + j) jn
          obtain ⟨p, cp, rfl⟩ := hs.shape
          have fl := FL.out (1 + j) jn
          have ft := FT.out (1 + j + 1)
          obtain ⟨m, hm⟩ : ∃ m, ls[1 + j]'jn = m := ⟨_, rfl⟩
          rw [hm] at hu hs fl
          have fll := congrArg List.length fl
          rw [List.length_append] at fll
          obtain ⟨a, ha⟩ : ∃ a, (ls.take (1 + j)).flatten = a := ⟨_, rfl⟩
          rw [ha] at fl fll A3 ⊢
          have hx : wr.cell? ⟨g, q + 1 + j, none⟩ = some (.slice p m.length cp) := by rw [Nat.add_assoc]; exact (B3.cell (p := ⟨g, q + (1 + j), none⟩) hg).trans hu
          obtain ⟨la, hla⟩ : ∃ la, a.length = la := ⟨_, rfl⟩
          rw [hla] at fll ⊢
          obtain ⟨off, hoff, hof2⟩ : ∃ off, tailP (some ⟨W.heap.size, 0, none⟩) T la = some ⟨W.heap.size, off, none⟩ ∧ (off = la ∨ T = la ∧ off = 0) := by
            by_cases h : T = la
            · exact ⟨0, by simp [tailP, h], Or.inr ⟨h, rfl⟩⟩
            · refine ⟨la, ?_, Or.inl rfl⟩
              unfold tailP
              simp only [Option.map_some, if_neg h, Addr.add_lit, Nat.zero_add]
          have FF := Lib.hid (And.intro fl (And.intro fll (And.intro ft (And.intro ha hla))))
          have hlt : la + m.length ≤ T := by omega
          have HH := Lib.hid (And.intro hlt (And.intro hof2 (And.intro hle zc)))
          have z1 : ((j : Nat) : Int) < (M : Int) := by omega
          have z0 : (0 : Int) ≤ (j : Int) := by omega
          have z2 : IntKind.i64.wrap ((j : Int) + 1) = ((j + 1 : Nat) : Int) := by have := hM.out; have := HNl.out; rw [IntKind.wrap_i64]; omega
          have y1 : IntKind.i64.wrap (la : Int) = (la : Int) := by have := HL.out; rw [IntKind.wrap_i64]; omega
          have y2 : IntKind.i64.wrap ((la : Int) + (m.length : Int)) = ((la + m.length : Nat) : Int) := by have := HL.out; rw [IntKind.wrap_i64]; omega
          have l0 : la ≤ T := by omega
          clear fl fll ft ha hla hm hu hlt hof2 zc hle jm i0 i1
          go_upto_region 20 with fail
          rename_i aK
          refine wp_region_seq ?_
          refine wpSeq_yield (S := fun _ => True) (v := .bool true) (Or.inl ⟨by rfl, fun w' hw' => by (go_simp; try omega)⟩) trivial ?_
          simp only [AP]
          refine wpSeq_nil ?_
          refine (by assumption : ∀ (a : Act) (w : World), _ → _) _ _ ?_
          go_upto_region 21 with fail
          rename_i aK
          refine wp_region_seq ?_
          refine wpSeq_yield (S := fun _ => True) (v := .pointer (some ⟨g, q + 1 + j, none⟩)) (Or.inl ⟨by rfl, fun w' hw' => by (go_simp; try omega)⟩) trivial ?_
          simp only [AP]
          refine wpSeq_yield (S := fun w' => w' = wr) (v := .slice p m.length cp) (Or.inl ⟨by rfl, fun w' hw' => by (rw [hw']; go_simp)⟩) rfl ?_
          simp only [AP]
          refine wpSeq_yield (S := fun _ => True) (yieldsIf_assign rfl _ rfl (.slice p m.length cp) rfl) trivial ?_
          simp only [AP]
          refine wpSeq_nil ?_
          refine (by assumption : ∀ (a : Act) (w : World), _ → _) _ _ ?_
          go_upto_region 22 with fail
          rename_i aK
          refine wp_region_seq ?_
          refine wpSeq_yield (S := fun _ => True) (yieldsIf_move rfl _ rfl (.int .i64 (la : Int)) rfl) trivial ?_
          simp only [AP]
          refine wpSeq_yield (S := fun _ => True) (yieldsIf_move rfl _ rfl (.slice (some ⟨W.heap.size, 0, none⟩) T T) rfl) trivial ?_
          simp only [AP]
          refine wpSeq_yield (S := fun _ => True) (yieldsIf_move rfl _ rfl (.int .i64 (la : Int)) rfl) trivial ?_
          simp only [AP]
          refine wpSeq_yield (S := fun _ => True) (show YieldsIf _ _ _ _ (.slice (some ⟨W.heap.size, off, none⟩) (T - la) (T - la)) _ from hoff ▸ yieldsIf_tail rfl _ _ rfl (some ⟨W.heap.size, 0, none⟩) T T la rfl rfl l0 (Nat.le_refl _)) trivial ?_
          simp only [AP]
          refine wpSeq_yield (S := fun _ => True) (yieldsIf_move rfl _ rfl (.slice none 0 0) rfl) trivial ?_
          simp only [AP]
          refine wpSeq_wp rfl (wp_copy_any _ _ rfl W.heap.size off (T - la) (T - la) rfl (.slice none 0 0) [] 5 rfl (SB.nil _ _ _) cur K3 (Nat.zero_le _) (by have := HH.out; omega) ?_)
          intro w4 K4 G4
          have ep : putV cur off [] = cur := by unfold putV; simp [vals]
          rw [ep] at K4
          have A4 := ba_same A3 K3 K4
          have B4 := below_grown' B3 G4 (fun k e => by have := Option.some.inj e; omega) B3.size
          have hs4 : SB w4 (.slice p m.length cp) m := hs.below B4
          clear A3 K3 B3 hs G4
          simp only [goInt, AP]
          refine wpSeq_yield (S := fun _ => True) (v := .int .i64 (la : Int)) (Or.inl ⟨by rfl, fun w' hw' => by (go_simp; try omega)⟩) trivial ?_
          simp only [AP]
          refine wpSeq_yield (S := fun _ => True) (yieldsIf_assign rfl _ rfl (.int .i64 (la : Int)) rfl) trivial ?_
          simp only [AP]
          refine wpSeq_nil ?_
          refine (by assumption : ∀ (a : Act) (w : World), _ → _) _ _ ?_
          go_upto_region 23 with fail
          rename_i aK
          refine wp_region_seq ?_
          refine wpSeq_yield (S := fun _ => True) (yieldsIf_move rfl _ rfl (.int .i64 (la : Int)) rfl) trivial ?_
          simp only [AP]
          refine wpSeq_yield (S := fun _ => True) (yieldsIf_move rfl _ rfl (.slice (some ⟨W.heap.size, 0, none⟩) T T) rfl) trivial ?_
          simp only [AP]
          refine wpSeq_yield (S := fun _ => True) (yieldsIf_move rfl _ rfl (.int .i64 (la : Int)) rfl) trivial ?_
          simp only [AP]
          refine wpSeq_yield (S := fun _ => True) (show YieldsIf _ _ _ _ (.slice (some ⟨W.heap.size, off, none⟩) (T - la) (T - la)) _ from hoff ▸ yieldsIf_tail rfl _ _ rfl (some ⟨W.heap.size, 0, none⟩) T T la rfl rfl l0 (Nat.le_refl _)) trivial ?_
          simp only [AP]
          refine wpSeq_yield (S := fun _ => True) (yieldsIf_move rfl _ rfl (.slice p m.length cp) rfl) trivial ?_
          simp only [AP]
          refine wpSeq_wp rfl (wp_copy_any _ _ rfl W.heap.size off (T - la) (T - la) rfl (.slice p m.length cp) m 5 rfl hs4 cur K4 (by have := HH.out; omega) (by have := HH.out; omega) ?_)
          intro w5 K5 G5
          have B5 := below_grown' B4 G5 (fun k e => by have := Option.some.inj e; omega) B4.size
          have A5 := ba_put2 A4 K4 K5 (by rcases HH.out.2.1 with h | h; exact Or.inl (h.trans FF.out.2.2.2.2.symm); exact Or.inr (List.eq_nil_of_length_eq_zero (by have := HH.out; omega))) (by have := HH.out; have := FF.out.2.2.2.2; omega)
          have z5 : (putV cur off m).size = cs.size := (putV_size cur off m (by have := HH.out; omega)).trans HH.out.2.2.2
          rw [← FF.out.1] at A5
          simp only [goInt, AP]
          clear A4 K4 B4 hs4 G5
          refine wpSeq_yield (S := fun _ => True) (v := .int .i64 ((la + m.length : Nat) : Int)) (Or.inl ⟨by rfl, fun w' hw' => by go_simp⟩) trivial ?_
          simp only [AP]
          refine wpSeq_yield (S := fun _ => True) (yieldsIf_assign rfl _ rfl (.int .i64 ((la + m.length : Nat) : Int)) rfl) trivial ?_
          simp only [AP]
          refine wpSeq_nil ?_
          refine (by assumption : ∀ (a : Act) (w : World), _ → _) _ _ ?_
          replace A5 := Lib.hid A5
          replace K5 := Lib.hid K5
          replace B5 := Lib.hid B5
          replace z5 := Lib.hid z5
          go_upto_region 24 with fail
          rename_i aK
          refine wp_region_seq ?_
          refine wpSeq_yield (S := fun _ => True) (v := .int .i64 ((j + 1 : Nat) : Int)) (Or.inl ⟨by rfl, fun w' hw' => by go_simp⟩) trivial ?_
          simp only [AP]
          refine wpSeq_yield (S := fun _ => True) (yieldsIf_move rfl _ rfl (.int .i64 ((j + 1 : Nat) : Int)) rfl) trivial ?_
          simp only [AP]
          refine wpSeq_nil ?_
          go_wp2
          exact ⟨⟨j + 1, by omega, rfl, by rw [show 1 + (j + 1) = 1 + j + 1 by omega, ← FF.out.2.1], B5.out, _, z5.out, K5.out, by rw [show 1 + (j + 1) = 1 + j + 1 by omega]; exact A5.out⟩, by simp only [intOf]; omega⟩
    · have jl : j < N := by omega
      have jn : j < ls.length := by rw [HN.out]; exact jl
      obtain ⟨u, hu, hs⟩ := HS.out j jn
      obtain ⟨p, cp, rfl⟩ := hs.shape
      have fl := congrArg List.length (FL.out j jn)
      have ft := FT.out (j + 1)
      obtain ⟨m, hm⟩ : ∃ m, (ls[j]'jn).length = m := ⟨_, rfl⟩
      rw [List.length_append, hm] at fl
      rw [hm] at hu
      obtain ⟨a, ha⟩ : ∃ a, (ls.take j).flatten.length = a := ⟨_, rfl⟩
      rw [ha] at fl ⊢
      have FF := Lib.hid (And.intro fl ft)
      have z1 : ((j : Nat) : Int) < (N : Int) := by omega
      have z0 : (0 : Int) ≤ (j : Int) := by omega
      have z2 : IntKind.i64.wrap ((j : Int) + 1) = ((j + 1 : Nat) : Int) := by have := HNl.out; rw [IntKind.wrap_i64]; omega
      have hb : ¬ (9223372036854775807 - (a : Int) < (m : Int)) := by have := HL.out; omega
      have y0 : IntKind.i64.wrap (9223372036854775807 - (a : Int)) = 9223372036854775807 - (a : Int) := by have := HL.out; rw [IntKind.wrap_i64]; omega
      have y2 : IntKind.i64.wrap ((a : Int) + (m : Int)) = ((a + m : Nat) : Int) := by have := HL.out; rw [IntKind.wrap_i64]; omega
      clear fl ft hs hm ha jm
      go_upto_region 11 with fail
      rename_i aK
      refine wp_region_seq ?_
      refine wpSeq_yield (S := fun _ => True) (v := .bool true) (Or.inl ⟨by rfl, fun w' hw' => by (go_simp; try omega)⟩) trivial ?_
      simp only [AP]
      refine wpSeq_nil ?_
      refine (by assumption : ∀ (a : Act) (w : World), _ → _) _ _ ?_
      go_upto_region 12 with fail
      rename_i aK
      refine wp_region_seq ?_
      refine wpSeq_yield (S := fun _ => True) (v := .pointer (some ⟨g, q + j, none⟩)) (Or.inl ⟨by rfl, fun w' hw' => by (go_simp; try omega)⟩) trivial ?_
      simp only [AP]
      refine wpSeq_yield (S := fun w' => w' = W) (v := .slice p m cp) (Or.inl ⟨by rfl, fun w' hw' => by (rw [hw']; go_simp)⟩) rfl ?_
      simp only [AP]
      refine wpSeq_yield (S := fun _ => True) (yieldsIf_assign rfl _ rfl (.slice p m cp) rfl) trivial ?_
      simp only [AP]
      refine wpSeq_nil ?_
      refine (by assumption : ∀ (a : Act) (w : World), _ → _) _ _ ?_
      go_upto_region 13 with fail
      rename_i aK
      refine wp_region_seq ?_
      refine wpSeq_yield (S := fun _ => True) (yieldsIf_move rfl _ rfl (.slice p m cp) rfl) trivial ?_
      simp only [AP]
      refine wpSeq_yield (S := fun _ => True) (v := .int .i64 (m : Int)) (Or.inl ⟨by rfl, fun w' hw' => by go_simp⟩) trivial ?_
      simp only [AP]
      refine wpSeq_yield (S := fun _ => True) (yieldsIf_move rfl _ rfl (.int .i64 (a : Int)) rfl) trivial ?_
      simp only [AP]
      refine wpSeq_yield (S := fun _ => True) (v := .int .i64 (9223372036854775807 - (a : Int))) (Or.inl ⟨by rfl, fun w' hw' => by go_simp⟩) trivial ?_
      simp only [AP]
      refine wpSeq_yield (S := fun _ => True) (v := .bool false) (Or.inl ⟨by rfl, fun w' hw' => by (go_simp; try omega)⟩) trivial ?_
      simp only [AP]
      refine wpSeq_nil ?_
      refine (by assumption : ∀ (a : Act) (w : World), _ → _) _ _ ?_
      go_upto_region 15 with fail
      rename_i aK
      refine wp_region_seq ?_
      refine wpSeq_yield (S := fun _ => True) (yieldsIf_move rfl _ rfl (.int .i64 (a : Int)) rfl) trivial ?_
      simp only [AP]
      refine wpSeq_yield (S := fun _ => True) (yieldsIf_move rfl _ rfl (.slice p m cp) rfl) trivial ?_
      simp only [AP]
      refine wpSeq_yield (S := fun _ => True) (v := .int .i64 (m : Int)) (Or.inl ⟨by rfl, fun w' hw' => by go_simp⟩) trivial ?_
      simp only [AP]
      refine wpSeq_yield (S := fun _ => True) (v := .int .i64 ((a + m : Nat) : Int)) (Or.inl ⟨by rfl, fun w' hw' => by go_simp⟩) trivial ?_
      simp only [AP]
      refine wpSeq_yield (S := fun _ => True) (yieldsIf_assign rfl _ rfl (.int .i64 ((a + m : Nat) : Int)) rfl) trivial ?_
      simp only [AP]
      refine wpSeq_nil ?_
      refine (by assumption : ∀ (a : Act) (w : World), _ → _) _ _ ?_
      go_upto_region 16 with fail
      rename_i aK
      refine wp_region_seq ?_
      refine wpSeq_yield (S := fun _ => True) (v := .int .i64 ((j + 1 : Nat) : Int)) (Or.inl ⟨by rfl, fun w' hw' => by go_simp⟩) trivial ?_
      simp only [AP]
      refine wpSeq_yield (S := fun _ => True) (yieldsIf_move rfl _ rfl (.int .i64 ((j + 1 : Nat) : Int)) rfl) trivial ?_
      simp only [AP]
      refine wpSeq_nil ?_
      go_wp2
      exact ⟨⟨j + 1, by omega, rfl, by rw [FF.out.1], trivial⟩, by simp only [intOf]; omega⟩
theorem join_c (ls : List (List Nat)) (p : Option Addr) (n c : Nat) (W : World) (hs : SP W (.slice p n c) ls) (hl : ls.flatten.length ≤ 100000) (hn : ls.length ≤ 1000) :
    Calls Tryd.prog 34 #[.slice p n c, .slice none 0 0] W fun e w' => ∃ v, e = .returned v ∧ SB w' v ls.flatten ∧ Below W.heap.size W w' := by
  obtain ⟨p', c', e, hc, h3⟩ := hs
  simp only [Value.slice.injEq] at e
  obtain ⟨rfl, rfl, rfl⟩ := e
  rcases h3 with rfl | ⟨g, o, rfl, hg, h6⟩
  · exact join_none p c W
  · rcases ls with _ | ⟨m, _ | ⟨m2, r⟩⟩
    · exact join_none _ c W
    · obtain ⟨u, hu, hs⟩ := h6 0 (by simp)
      have e : [m].flatten = m := by simp
      rw [e] at hl ⊢
      exact join_one g o c u m W hu hs hl hc
    · exact join_many (m :: m2 :: r) g o _ c rfl (by simp) hn hc W hg h6 hl
end Go.Proofs.YtdmhngkedgkndaaDoor
