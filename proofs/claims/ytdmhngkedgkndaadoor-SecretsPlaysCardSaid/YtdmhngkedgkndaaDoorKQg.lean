/- The reference's sum: the further words of a block (loop 6). -/
import Derived.Test.YtdmhngkedgkndaaDoorKQf
namespace Go.Proofs.YtdmhngkedgkndaaDoor
open Go.RowKit
def rl : List Nat := [7, 18, 3, 17, 19, 10, 6, 11, 25, 2, 13, 22]
/-- The turns' numbers lie in block gr. -/
structure Rs (w : World) (gr : Nat) : Prop where
  cell : ∀ (i : Nat) (_h : i < 12), w.cell? ⟨gr, i, none⟩ = some (.int .i64 ((rl.getD i 0 : Nat) : Int))
  blk : gr < w.heap.size
theorem Rs.of_block {w w1 : World} {gr : Nat} (h : Rs w gr) (hb : w1.heap[gr]? = w.heap[gr]?) : Rs w1 gr := by
  have hlt : gr < w1.heap.size := by
    rcases Nat.lt_or_ge gr w1.heap.size with h1 | h1
    · exact h1
    · rw [Array.getElem?_eq_none h1, Array.getElem?_eq_getElem h.blk] at hb
      cases hb
  exact ⟨fun i hi => (cell_congr hb).trans (h.cell i hi), hlt⟩
/-- What stands in loop 6 behind k words. -/
structure LW (w0 : World) (gw gr : Nat) (F : Nat → Nat) (w : World) : Prop where
  f : RF w gw 64 F
  g : w0.grownBy w (some gw)
  r : Rs w gr
theorem LW.drew {w0 : World} {gw gr : Nat} {F : Nat → Nat} {w : World} (h : LW w0 gw gr F w) : LW w0 gw gr F w.drew := ⟨RQ.drew h.f, ⟨h.g.os, h.g.tape, h.g.output, h.g.size, h.g.block⟩, h.r.of_block rfl⟩
set_option maxHeartbeats 4000000 in
set_option maxRecDepth 100000 in
theorem loop6_any (w0 : World) (pb : Option Addr) (n cb at_ gw gr : Nat) (tv hv mv : Value) (b : Nat → Nat) (hb : ∀ i, b i < 256) (hgr : gr ≠ gw)
    {Q : Exit → Act → World → Prop} (hQ : ∀ c a d v w, Q (.panic c) (Act.put a d v) w → Q (.panic c) a w) (a : Act) (h : Has 380 ((18, .int .i64 16) :: baseW pb n cb (.slice (some ⟨gr, 0, none⟩) 12 12) tv hv mv at_ gw) a) (F0 : RF w0 gw 64 (uptoF b 16)) (R0 : Rs w0 gr)
    (hexit : ∀ a' w', Has 380 (baseW pb n cb (.slice (some ⟨gr, 0, none⟩) 12 12) tv hv mv at_ gw) a' → RF w' gw 64 (wd b) → w0.grownBy w' (some gw) → Q (.exit 12) a' w') : Code.wp Tryd.prog (.loop (sumLoop 6)) Q a w0 := by
  refine wp_loop (fun a' w' => ∃ (k : Nat), 16 ≤ k ∧ k ≤ 64 ∧ Has 380 ((18, .int .i64 (k : Int)) :: baseW pb n cb (.slice (some ⟨gr, 0, none⟩) 12 12) tv hv mv at_ gw) a' ∧ LW w0 gw gr (uptoF b k) w') (fun a' _ => 64 - (intOf (a'.tmps.getD 18 undef)).toNat) ?_ ?_
  · exact ⟨16, by omega, by omega, h, F0, ⟨rfl, rfl, rfl, Nat.le_refl _, fun _ _ _ => rfl⟩, R0⟩
  clear h a F0 R0
  rintro a w ⟨k, k16, hk, h, hL⟩
  have hm : a.tmps.getD 18 undef = .int .i64 (k : Int) := h.val 18 _ rfl
  generalize a.tmps.getD 18 undef = x at hm ⊢
  subst hm
  conv => arg 2; whnf
  refine wp_seq (wp_seq ?_)
  refine wp_region_seq ?_
  by_cases hlt : k < 64
  · have l0 : (k : Int) < 64 := by omega
    refine seqM h 132 18 rfl rfl rfl rfl rfl ?_
    clear h
    intro a h
    refine seqM h 133 8 rfl rfl rfl rfl rfl ?_
    clear h
    intro a h
    refine seqH h 134 (Value.bool true) rfl rfl (Or.inl ⟨rfl, fun w' hw' => by
        subst hw'
        have e132 : a.eval (.tmp 132) = _ := h.ev 132 rfl
        have e133 : a.eval (.tmp 133) = _ := h.ev 133 rfl
        simp only [execOp, e132, e133]
        go_simp⟩) ?_
    clear h
    intro a h
    refine wpSeq_nil ?_
    show Code.wp _ _ _ _ _
    refine wp_cond (t := true) (h.ev 134 rfl) ?_
    refine wp_skip ?_
    show Code.wp _ _ _ _ _
    refine wp_seq (wp_block (wp_seq ?_))
    refine wp_region_S (S := LW w0 gw gr (uptoF b k)) (by kernel_rfl) ?_
    have hS := hL.drew
    clear hL
    generalize w.drew = V at hS ⊢
    obtain ⟨X, hX⟩ : ∃ X, X = wd b (k - 15) := ⟨_, rfl⟩
    obtain ⟨Y, hY⟩ : ∃ Y, Y = wd b (k - 2) := ⟨_, rfl⟩
    have lX : X < 4294967296 := by rw [hX]; exact wd_lt b hb _
    have lY : Y < 4294967296 := by rw [hY]; exact wd_lt b hb _
    have cx : ∀ w', LW w0 gw gr (uptoF b k) w' → w'.cell? ⟨gw, k - 15, none⟩ = some (.int .u64 (X : Int)) := fun w' hw => by rw [hw.f.cell _ (by omega), hX, show uptoF b k (k - 15) = wd b (k - 15) from if_pos (by omega)]
    have cy : ∀ w', LW w0 gw gr (uptoF b k) w' → w'.cell? ⟨gw, k - 2, none⟩ = some (.int .u64 (Y : Int)) := fun w' hw => by rw [hw.f.cell _ (by omega), hY, show uptoF b k (k - 2) = wd b (k - 2) from if_pos (by omega)]
    have CX := Lib.hid cx
    have CY := Lib.hid cy
    have HX := Lib.hid hX
    have HY := Lib.hid hY
    clear cx cy hX hY
    have s1 : IntKind.i64.wrap ((k : Int) - 15) = (k : Int) - 15 := by rw [IntKind.wrap_i64]; omega
    have s2 : (0 : Int) ≤ (k : Int) - 15 := by omega
    have s3 : (k : Int) - 15 < 64 := by omega
    have s4 : ((k : Int) - 15).toNat = k - 15 := by omega
    have s5 : IntKind.i64.wrap ((k : Int) - 2) = (k : Int) - 2 := by rw [IntKind.wrap_i64]; omega
    have s6 : (0 : Int) ≤ (k : Int) - 2 := by omega
    have s7 : (k : Int) - 2 < 64 := by omega
    have s8 : ((k : Int) - 2).toNat = k - 2 := by omega
    have u1 : ¬ (k : Int) < 15 := by omega
    have u2 : ¬ (k : Int) < 2 := by omega
    refine anyM 0 h 137 16 rfl rfl rfl rfl rfl rfl (by kernel_rfl) (by kernel_rfl) (by kernel_rfl) (fun c a w h => hQ _ _ _ _ _ h) hS ?_
    clear h
    intro a h
    refine anyM 1 h 138 18 rfl rfl rfl rfl rfl rfl (by kernel_rfl) (by kernel_rfl) (by kernel_rfl) (fun c a w h => hQ _ _ _ _ _ h) hS ?_
    clear h
    intro a h
    refine anyH 2 h 139 (Value.int .i64 ((k : Int) - 15)) rfl rfl rfl (by kernel_rfl) (by kernel_rfl) (by kernel_rfl) (fun c a w h => hQ _ _ _ _ _ h) (Or.inl ⟨rfl, fun w' hw' => by
        have e138 : a.eval (.tmp 138) = _ := h.ev 138 rfl
        simp only [execOp, e138]
        go_simp⟩) hS ?_
    clear h
    intro a h
    refine anyH 3 h 140 (Value.pointer (some ⟨gw, k - 15, none⟩)) rfl rfl rfl (by kernel_rfl) (by kernel_rfl) (by kernel_rfl) (fun c a w h => hQ _ _ _ _ _ h) (Or.inl ⟨rfl, fun w' hw' => by
        have e137 : a.eval (.tmp 137) = _ := h.ev 137 rfl
        have e139 : a.eval (.tmp 139) = _ := h.ev 139 rfl
        simp only [execOp, e137, e139]
        go_simp⟩) hS ?_
    clear h
    intro a h
    refine anyH 4 h 141 (Value.int .u64 (X : Int)) rfl rfl rfl (by kernel_rfl) (by kernel_rfl) (by kernel_rfl) (fun c a w h => hQ _ _ _ _ _ h) (Or.inl ⟨rfl, fun w' hw' => by
        have e140 : a.eval (.tmp 140) = _ := h.ev 140 rfl
        have c1 := CX.out w' hw'
        simp only [execOp, e140]
        go_simp⟩) hS ?_
    clear h
    intro a h
    refine anyM 5 h 142 16 rfl rfl rfl rfl rfl rfl (by kernel_rfl) (by kernel_rfl) (by kernel_rfl) (fun c a w h => hQ _ _ _ _ _ h) hS ?_
    clear h
    intro a h
    refine anyM 6 h 143 18 rfl rfl rfl rfl rfl rfl (by kernel_rfl) (by kernel_rfl) (by kernel_rfl) (fun c a w h => hQ _ _ _ _ _ h) hS ?_
    clear h
    intro a h
    refine anyH 7 h 144 (Value.int .i64 ((k : Int) - 2)) rfl rfl rfl (by kernel_rfl) (by kernel_rfl) (by kernel_rfl) (fun c a w h => hQ _ _ _ _ _ h) (Or.inl ⟨rfl, fun w' hw' => by
        have e143 : a.eval (.tmp 143) = _ := h.ev 143 rfl
        simp only [execOp, e143]
        go_simp⟩) hS ?_
    clear h
    intro a h
    refine anyH 8 h 145 (Value.pointer (some ⟨gw, k - 2, none⟩)) rfl rfl rfl (by kernel_rfl) (by kernel_rfl) (by kernel_rfl) (fun c a w h => hQ _ _ _ _ _ h) (Or.inl ⟨rfl, fun w' hw' => by
        have e142 : a.eval (.tmp 142) = _ := h.ev 142 rfl
        have e144 : a.eval (.tmp 144) = _ := h.ev 144 rfl
        simp only [execOp, e142, e144]
        go_simp⟩) hS ?_
    clear h
    intro a h
    refine anyH 9 h 146 (Value.int .u64 (Y : Int)) rfl rfl rfl (by kernel_rfl) (by kernel_rfl) (by kernel_rfl) (fun c a w h => hQ _ _ _ _ _ h) (Or.inl ⟨rfl, fun w' hw' => by
        have e145 : a.eval (.tmp 145) = _ := h.ev 145 rfl
        have c1 := CY.out w' hw'
        simp only [execOp, e145]
        go_simp⟩) hS ?_
    clear h
    intro a h
    refine anyA 10 h 19 141 rfl rfl rfl rfl rfl rfl (by kernel_rfl) (by kernel_rfl) (by kernel_rfl) (fun c a w h => hQ _ _ _ _ _ h) hS ?_
    clear h
    intro a h
    refine anyA 11 h 20 146 rfl rfl rfl rfl rfl rfl (by kernel_rfl) (by kernel_rfl) (by kernel_rfl) (fun c a w h => hQ _ _ _ _ _ h) hS ?_
    clear h
    intro a h
    clear s1 s2 s3 s4 s5 s6 s7 s8
    refine wpAnyS_done (by kernel_rfl) ?_ _
    show Code.wp _ _ _ _ _
    refine wp_seq ?_
    refine wp_region_S (S := LW w0 gw gr (uptoF b k)) (by kernel_rfl) ?_
    replace hS := hS.drew
    generalize V.drew = V at hS ⊢
    refine anyM 0 h 147 19 rfl rfl rfl rfl rfl rfl (by kernel_rfl) (by kernel_rfl) (by kernel_rfl) (fun c a w h => hQ _ _ _ _ _ h) hS ?_
    clear h
    intro a h
    refine anyM 1 h 148 2 rfl rfl rfl rfl rfl rfl (by kernel_rfl) (by kernel_rfl) (by kernel_rfl) (fun c a w h => hQ _ _ _ _ _ h) hS ?_
    clear h
    intro a h
    refine anyH 2 h 149 (Value.pointer (some ⟨gr, 0, none⟩)) rfl rfl rfl (by kernel_rfl) (by kernel_rfl) (by kernel_rfl) (fun c a w h => hQ _ _ _ _ _ h) (Or.inl ⟨rfl, fun w' hw' => by
        have e148 : a.eval (.tmp 148) = _ := h.ev 148 rfl
        simp only [execOp, e148]
        go_simp⟩) hS ?_
    clear h
    intro a h
    refine anyH 3 h 150 (Value.int .i64 7) rfl rfl rfl (by kernel_rfl) (by kernel_rfl) (by kernel_rfl) (fun c a w h => hQ _ _ _ _ _ h) (Or.inl ⟨rfl, fun w' hw' => by
        have e149 : a.eval (.tmp 149) = _ := h.ev 149 rfl
        have c1 := hw'.r.cell 0 (by decide)
        rw [show ((rl.getD 0 0 : Nat) : Int) = 7 from rfl] at c1
        simp only [execOp, e149]
        go_simp⟩) hS ?_
    clear h
    intro a h
    refine anyM 4 h 151 1 rfl rfl rfl rfl rfl rfl (by kernel_rfl) (by kernel_rfl) (by kernel_rfl) (fun c a w h => hQ _ _ _ _ _ h) hS ?_
    clear h
    intro a h
    refine anyM 6 h 153 19 rfl rfl rfl rfl rfl rfl (by kernel_rfl) (by kernel_rfl) (by kernel_rfl) (fun c a w h => hQ _ _ _ _ _ h) hS ?_
    clear h
    intro a h
    refine anyM 7 h 154 2 rfl rfl rfl rfl rfl rfl (by kernel_rfl) (by kernel_rfl) (by kernel_rfl) (fun c a w h => hQ _ _ _ _ _ h) hS ?_
    clear h
    intro a h
    refine anyH 8 h 155 (Value.pointer (some ⟨gr, 1, none⟩)) rfl rfl rfl (by kernel_rfl) (by kernel_rfl) (by kernel_rfl) (fun c a w h => hQ _ _ _ _ _ h) (Or.inl ⟨rfl, fun w' hw' => by
        have e154 : a.eval (.tmp 154) = _ := h.ev 154 rfl
        simp only [execOp, e154]
        go_simp⟩) hS ?_
    clear h
    intro a h
    refine anyH 9 h 156 (Value.int .i64 18) rfl rfl rfl (by kernel_rfl) (by kernel_rfl) (by kernel_rfl) (fun c a w h => hQ _ _ _ _ _ h) (Or.inl ⟨rfl, fun w' hw' => by
        have e155 : a.eval (.tmp 155) = _ := h.ev 155 rfl
        have c1 := hw'.r.cell 1 (by decide)
        rw [show ((rl.getD 1 0 : Nat) : Int) = 18 from rfl] at c1
        simp only [execOp, e155]
        go_simp⟩) hS ?_
    clear h
    intro a h
    refine anyM 10 h 157 1 rfl rfl rfl rfl rfl rfl (by kernel_rfl) (by kernel_rfl) (by kernel_rfl) (fun c a w h => hQ _ _ _ _ _ h) hS ?_
    clear h
    intro a h
    refine anyM 13 h 160 19 rfl rfl rfl rfl rfl rfl (by kernel_rfl) (by kernel_rfl) (by kernel_rfl) (fun c a w h => hQ _ _ _ _ _ h) hS ?_
    clear h
    intro a h
    refine anyM 14 h 161 2 rfl rfl rfl rfl rfl rfl (by kernel_rfl) (by kernel_rfl) (by kernel_rfl) (fun c a w h => hQ _ _ _ _ _ h) hS ?_
    clear h
    intro a h
    refine anyH 15 h 162 (Value.pointer (some ⟨gr, 2, none⟩)) rfl rfl rfl (by kernel_rfl) (by kernel_rfl) (by kernel_rfl) (fun c a w h => hQ _ _ _ _ _ h) (Or.inl ⟨rfl, fun w' hw' => by
        have e161 : a.eval (.tmp 161) = _ := h.ev 161 rfl
        simp only [execOp, e161]
        go_simp⟩) hS ?_
    clear h
    intro a h
    refine anyH 16 h 163 (Value.int .i64 3) rfl rfl rfl (by kernel_rfl) (by kernel_rfl) (by kernel_rfl) (fun c a w h => hQ _ _ _ _ _ h) (Or.inl ⟨rfl, fun w' hw' => by
        have e162 : a.eval (.tmp 162) = _ := h.ev 162 rfl
        have c1 := hw'.r.cell 2 (by decide)
        rw [show ((rl.getD 2 0 : Nat) : Int) = 3 from rfl] at c1
        simp only [execOp, e162]
        go_simp⟩) hS ?_
    clear h
    intro a h
    refine anyH 17 h 164 (Value.int .u64 ((X : Int) / 8)) rfl rfl rfl (by kernel_rfl) (by kernel_rfl) (by kernel_rfl) (fun c a w h => hQ _ _ _ _ _ h) (Or.inl ⟨rfl, fun w' hw' => by
        have e160 : a.eval (.tmp 160) = _ := h.ev 160 rfl
        have e163 : a.eval (.tmp 163) = _ := h.ev 163 rfl
        simp only [execOp, e160, e163]
        go_simp⟩) hS ?_
    clear h
    intro a h
    refine anyW 5 h 152 rfl rfl rfl rfl (by kernel_rfl) (fun v w' => v = .int .u64 ((rr X 7 : Nat) : Int) ∧ World.drew V = w') (fun K hK => wp_call_v 32 _ _ _ Tryd.func32 (by kernel_rfl) (by kernel_rfl) rfl 152 rfl #[.int .u64 (X : Int), .int .i64 7, .int .i64 32] (by simp [h.ev 147 rfl, h.ev 150 rfl, h.ev 151 rfl]) _ ((turn32_any X 7 V lX (by decide) (by decide)).mono fun e w' h => ⟨_, h.1, rfl, h.2⟩) hK) ?_
    rintro _ _ ⟨rfl, rfl⟩
    refine ⟨hS.drew, ?_⟩
    clear h
    intro a h
    replace hS := hS.drew
    generalize World.drew V = V at hS ⊢
    refine anyW 11 h 158 rfl rfl rfl rfl (by kernel_rfl) (fun v w' => v = .int .u64 ((rr X 18 : Nat) : Int) ∧ World.drew V = w') (fun K hK => wp_call_v 32 _ _ _ Tryd.func32 (by kernel_rfl) (by kernel_rfl) rfl 158 rfl #[.int .u64 (X : Int), .int .i64 18, .int .i64 32] (by simp [h.ev 153 rfl, h.ev 156 rfl, h.ev 157 rfl]) _ ((turn32_any X 18 V lX (by decide) (by decide)).mono fun e w' h => ⟨_, h.1, rfl, h.2⟩) hK) ?_
    rintro _ _ ⟨rfl, rfl⟩
    refine ⟨hS.drew, ?_⟩
    clear h
    intro a h
    replace hS := hS.drew
    generalize World.drew V = V at hS ⊢
    obtain ⟨A1, hA1⟩ : ∃ A1, A1 = rr X 7 := ⟨_, rfl⟩
    obtain ⟨A2, hA2⟩ : ∃ A2, A2 = rr X 18 := ⟨_, rfl⟩
    have lA1 : A1 < 4294967296 := by rw [hA1]; exact rr_lt _ _ lX (by decide) (by decide)
    have lA2 : A2 < 4294967296 := by rw [hA2]; exact rr_lt _ _ lX (by decide) (by decide)
    rw [← hA1, ← hA2] at h
    obtain ⟨A3, hA3⟩ : ∃ A3, A3 = A1 ^^^ A2 := ⟨_, rfl⟩
    have lA3 : A3 < 4294967296 := by rw [hA3]; exact xor_lt _ _ lA1 lA2
    have x1 := u64_xor_nat A1 A2 (by omega) (by omega)
    rw [← hA3] at x1
    obtain ⟨SX, hSX⟩ : ∃ y, y = s0 X := ⟨_, rfl⟩
    have x2 : bits .xor .u64 (A3 : Int) ((X : Int) / 8) = (SX : Int) := by
      have h := u64_xor_nat A3 (X / 8) (by omega) (by omega)
      rw [show ((X / 8 : Nat) : Int) = (X : Int) / 8 by omega] at h
      rw [h, hSX, hA3, hA1, hA2]
      rfl
    have lSX : SX < 4294967296 := by
      rw [hSX]
      exact xor_lt _ _ (xor_lt _ _ (rr_lt _ _ lX (by decide) (by decide)) (rr_lt _ _ lX (by decide) (by decide))) (by omega)
    have HSX := Lib.hid hSX
    clear hSX hA1 hA2 hA3
    refine anyH 12 h 159 (Value.int .u64 (A3 : Int)) rfl rfl rfl (by kernel_rfl) (by kernel_rfl) (by kernel_rfl) (fun c a w h => hQ _ _ _ _ _ h) (Or.inl ⟨rfl, fun w' hw' => by
        have e152 : a.eval (.tmp 152) = _ := h.ev 152 rfl
        have e158 : a.eval (.tmp 158) = _ := h.ev 158 rfl
        simp only [execOp, e152, e158]
        go_simp⟩) hS ?_
    clear h
    intro a h
    refine anyH 18 h 165 (Value.int .u64 (SX : Int)) rfl rfl rfl (by kernel_rfl) (by kernel_rfl) (by kernel_rfl) (fun c a w h => hQ _ _ _ _ _ h) (Or.inl ⟨rfl, fun w' hw' => by
        have e159 : a.eval (.tmp 159) = _ := h.ev 159 rfl
        have e164 : a.eval (.tmp 164) = _ := h.ev 164 rfl
        simp only [execOp, e159, e164]
        go_simp⟩) hS ?_
    clear h
    intro a h
    refine anyA 19 h 21 165 rfl rfl rfl rfl rfl rfl (by kernel_rfl) (by kernel_rfl) (by kernel_rfl) (fun c a w h => hQ _ _ _ _ _ h) hS ?_
    clear h
    intro a h
    clear x1 x2 lA1 lA2 lA3
    refine wpAnyS_done (by kernel_rfl) ?_ _
    show Code.wp _ _ _ _ _
    refine wp_seq ?_
    refine wp_region_S (S := LW w0 gw gr (uptoF b k)) (by kernel_rfl) ?_
    replace hS := hS.drew
    generalize V.drew = V at hS ⊢
    refine anyM 0 h 166 20 rfl rfl rfl rfl rfl rfl (by kernel_rfl) (by kernel_rfl) (by kernel_rfl) (fun c a w h => hQ _ _ _ _ _ h) hS ?_
    clear h
    intro a h
    refine anyM 1 h 167 2 rfl rfl rfl rfl rfl rfl (by kernel_rfl) (by kernel_rfl) (by kernel_rfl) (fun c a w h => hQ _ _ _ _ _ h) hS ?_
    clear h
    intro a h
    refine anyH 2 h 168 (Value.pointer (some ⟨gr, 3, none⟩)) rfl rfl rfl (by kernel_rfl) (by kernel_rfl) (by kernel_rfl) (fun c a w h => hQ _ _ _ _ _ h) (Or.inl ⟨rfl, fun w' hw' => by
        have e167 : a.eval (.tmp 167) = _ := h.ev 167 rfl
        simp only [execOp, e167]
        go_simp⟩) hS ?_
    clear h
    intro a h
    refine anyH 3 h 169 (Value.int .i64 17) rfl rfl rfl (by kernel_rfl) (by kernel_rfl) (by kernel_rfl) (fun c a w h => hQ _ _ _ _ _ h) (Or.inl ⟨rfl, fun w' hw' => by
        have e168 : a.eval (.tmp 168) = _ := h.ev 168 rfl
        have c1 := hw'.r.cell 3 (by decide)
        rw [show ((rl.getD 3 0 : Nat) : Int) = 17 from rfl] at c1
        simp only [execOp, e168]
        go_simp⟩) hS ?_
    clear h
    intro a h
    refine anyM 4 h 170 1 rfl rfl rfl rfl rfl rfl (by kernel_rfl) (by kernel_rfl) (by kernel_rfl) (fun c a w h => hQ _ _ _ _ _ h) hS ?_
    clear h
    intro a h
    refine anyM 6 h 172 20 rfl rfl rfl rfl rfl rfl (by kernel_rfl) (by kernel_rfl) (by kernel_rfl) (fun c a w h => hQ _ _ _ _ _ h) hS ?_
    clear h
    intro a h
    refine anyM 7 h 173 2 rfl rfl rfl rfl rfl rfl (by kernel_rfl) (by kernel_rfl) (by kernel_rfl) (fun c a w h => hQ _ _ _ _ _ h) hS ?_
    clear h
    intro a h
    refine anyH 8 h 174 (Value.pointer (some ⟨gr, 4, none⟩)) rfl rfl rfl (by kernel_rfl) (by kernel_rfl) (by kernel_rfl) (fun c a w h => hQ _ _ _ _ _ h) (Or.inl ⟨rfl, fun w' hw' => by
        have e173 : a.eval (.tmp 173) = _ := h.ev 173 rfl
        simp only [execOp, e173]
        go_simp⟩) hS ?_
    clear h
    intro a h
    refine anyH 9 h 175 (Value.int .i64 19) rfl rfl rfl (by kernel_rfl) (by kernel_rfl) (by kernel_rfl) (fun c a w h => hQ _ _ _ _ _ h) (Or.inl ⟨rfl, fun w' hw' => by
        have e174 : a.eval (.tmp 174) = _ := h.ev 174 rfl
        have c1 := hw'.r.cell 4 (by decide)
        rw [show ((rl.getD 4 0 : Nat) : Int) = 19 from rfl] at c1
        simp only [execOp, e174]
        go_simp⟩) hS ?_
    clear h
    intro a h
    refine anyM 10 h 176 1 rfl rfl rfl rfl rfl rfl (by kernel_rfl) (by kernel_rfl) (by kernel_rfl) (fun c a w h => hQ _ _ _ _ _ h) hS ?_
    clear h
    intro a h
    refine anyM 13 h 179 20 rfl rfl rfl rfl rfl rfl (by kernel_rfl) (by kernel_rfl) (by kernel_rfl) (fun c a w h => hQ _ _ _ _ _ h) hS ?_
    clear h
    intro a h
    refine anyM 14 h 180 2 rfl rfl rfl rfl rfl rfl (by kernel_rfl) (by kernel_rfl) (by kernel_rfl) (fun c a w h => hQ _ _ _ _ _ h) hS ?_
    clear h
    intro a h
    refine anyH 15 h 181 (Value.pointer (some ⟨gr, 5, none⟩)) rfl rfl rfl (by kernel_rfl) (by kernel_rfl) (by kernel_rfl) (fun c a w h => hQ _ _ _ _ _ h) (Or.inl ⟨rfl, fun w' hw' => by
        have e180 : a.eval (.tmp 180) = _ := h.ev 180 rfl
        simp only [execOp, e180]
        go_simp⟩) hS ?_
    clear h
    intro a h
    refine anyH 16 h 182 (Value.int .i64 10) rfl rfl rfl (by kernel_rfl) (by kernel_rfl) (by kernel_rfl) (fun c a w h => hQ _ _ _ _ _ h) (Or.inl ⟨rfl, fun w' hw' => by
        have e181 : a.eval (.tmp 181) = _ := h.ev 181 rfl
        have c1 := hw'.r.cell 5 (by decide)
        rw [show ((rl.getD 5 0 : Nat) : Int) = 10 from rfl] at c1
        simp only [execOp, e181]
        go_simp⟩) hS ?_
    clear h
    intro a h
    refine anyH 17 h 183 (Value.int .u64 ((Y : Int) / 1024)) rfl rfl rfl (by kernel_rfl) (by kernel_rfl) (by kernel_rfl) (fun c a w h => hQ _ _ _ _ _ h) (Or.inl ⟨rfl, fun w' hw' => by
        have e179 : a.eval (.tmp 179) = _ := h.ev 179 rfl
        have e182 : a.eval (.tmp 182) = _ := h.ev 182 rfl
        simp only [execOp, e179, e182]
        go_simp⟩) hS ?_
    clear h
    intro a h
    refine anyW 5 h 171 rfl rfl rfl rfl (by kernel_rfl) (fun v w' => v = .int .u64 ((rr Y 17 : Nat) : Int) ∧ World.drew V = w') (fun K hK => wp_call_v 32 _ _ _ Tryd.func32 (by kernel_rfl) (by kernel_rfl) rfl 171 rfl #[.int .u64 (Y : Int), .int .i64 17, .int .i64 32] (by simp [h.ev 166 rfl, h.ev 169 rfl, h.ev 170 rfl]) _ ((turn32_any Y 17 V lY (by decide) (by decide)).mono fun e w' h => ⟨_, h.1, rfl, h.2⟩) hK) ?_
    rintro _ _ ⟨rfl, rfl⟩
    refine ⟨hS.drew, ?_⟩
    clear h
    intro a h
    replace hS := hS.drew
    generalize World.drew V = V at hS ⊢
    refine anyW 11 h 177 rfl rfl rfl rfl (by kernel_rfl) (fun v w' => v = .int .u64 ((rr Y 19 : Nat) : Int) ∧ World.drew V = w') (fun K hK => wp_call_v 32 _ _ _ Tryd.func32 (by kernel_rfl) (by kernel_rfl) rfl 177 rfl #[.int .u64 (Y : Int), .int .i64 19, .int .i64 32] (by simp [h.ev 172 rfl, h.ev 175 rfl, h.ev 176 rfl]) _ ((turn32_any Y 19 V lY (by decide) (by decide)).mono fun e w' h => ⟨_, h.1, rfl, h.2⟩) hK) ?_
    rintro _ _ ⟨rfl, rfl⟩
    refine ⟨hS.drew, ?_⟩
    clear h
    intro a h
    replace hS := hS.drew
    generalize World.drew V = V at hS ⊢
    obtain ⟨A1, hA1⟩ : ∃ A1, A1 = rr Y 17 := ⟨_, rfl⟩
    obtain ⟨A2, hA2⟩ : ∃ A2, A2 = rr Y 19 := ⟨_, rfl⟩
    have lA1 : A1 < 4294967296 := by rw [hA1]; exact rr_lt _ _ lY (by decide) (by decide)
    have lA2 : A2 < 4294967296 := by rw [hA2]; exact rr_lt _ _ lY (by decide) (by decide)
    rw [← hA1, ← hA2] at h
    obtain ⟨A3, hA3⟩ : ∃ A3, A3 = A1 ^^^ A2 := ⟨_, rfl⟩
    have lA3 : A3 < 4294967296 := by rw [hA3]; exact xor_lt _ _ lA1 lA2
    have x1 := u64_xor_nat A1 A2 (by omega) (by omega)
    rw [← hA3] at x1
    obtain ⟨SY, hSY⟩ : ∃ y, y = s1 Y := ⟨_, rfl⟩
    have x2 : bits .xor .u64 (A3 : Int) ((Y : Int) / 1024) = (SY : Int) := by
      have h := u64_xor_nat A3 (Y / 1024) (by omega) (by omega)
      rw [show ((Y / 1024 : Nat) : Int) = (Y : Int) / 1024 by omega] at h
      rw [h, hSY, hA3, hA1, hA2]
      rfl
    have lSY : SY < 4294967296 := by
      rw [hSY]
      exact xor_lt _ _ (xor_lt _ _ (rr_lt _ _ lY (by decide) (by decide)) (rr_lt _ _ lY (by decide) (by decide))) (by omega)
    have HSY := Lib.hid hSY
    clear hSY hA1 hA2 hA3
    refine anyH 12 h 178 (Value.int .u64 (A3 : Int)) rfl rfl rfl (by kernel_rfl) (by kernel_rfl) (by kernel_rfl) (fun c a w h => hQ _ _ _ _ _ h) (Or.inl ⟨rfl, fun w' hw' => by
        have e171 : a.eval (.tmp 171) = _ := h.ev 171 rfl
        have e177 : a.eval (.tmp 177) = _ := h.ev 177 rfl
        simp only [execOp, e171, e177]
        go_simp⟩) hS ?_
    clear h
    intro a h
    refine anyH 18 h 184 (Value.int .u64 (SY : Int)) rfl rfl rfl (by kernel_rfl) (by kernel_rfl) (by kernel_rfl) (fun c a w h => hQ _ _ _ _ _ h) (Or.inl ⟨rfl, fun w' hw' => by
        have e178 : a.eval (.tmp 178) = _ := h.ev 178 rfl
        have e183 : a.eval (.tmp 183) = _ := h.ev 183 rfl
        simp only [execOp, e178, e183]
        go_simp⟩) hS ?_
    clear h
    intro a h
    refine anyA 19 h 22 184 rfl rfl rfl rfl rfl rfl (by kernel_rfl) (by kernel_rfl) (by kernel_rfl) (fun c a w h => hQ _ _ _ _ _ h) hS ?_
    clear h
    intro a h
    clear x1 x2 lA1 lA2 lA3
    refine wpAnyS_done (by kernel_rfl) ?_ _
    show Code.wp _ _ _ _ _
    refine wp_region_Z (S := LW w0 gw gr (uptoF b k)) 20 (by kernel_rfl) ?_
    replace hS := hS.drew
    generalize V.drew = V at hS ⊢
    obtain ⟨E, hE⟩ : ∃ X, X = wd b (k - 16) := ⟨_, rfl⟩
    obtain ⟨D, hD⟩ : ∃ Y, Y = wd b (k - 7) := ⟨_, rfl⟩
    have lE : E < 4294967296 := by rw [hE]; exact wd_lt b hb _
    have lD : D < 4294967296 := by rw [hD]; exact wd_lt b hb _
    have cx : ∀ w', LW w0 gw gr (uptoF b k) w' → w'.cell? ⟨gw, k - 16, none⟩ = some (.int .u64 (E : Int)) := fun w' hw => by rw [hw.f.cell _ (by omega), hE, show uptoF b k (k - 16) = wd b (k - 16) from if_pos (by omega)]
    have cy : ∀ w', LW w0 gw gr (uptoF b k) w' → w'.cell? ⟨gw, k - 7, none⟩ = some (.int .u64 (D : Int)) := fun w' hw => by rw [hw.f.cell _ (by omega), hD, show uptoF b k (k - 7) = wd b (k - 7) from if_pos (by omega)]
    have CE := Lib.hid cx
    have CD := Lib.hid cy
    have ew : (E + SX + D + SY) % 4294967296 = wd b k := by rw [hE, hD, HSX.out, HSY.out, HX.out, HY.out, wd_high b k k16]
    have EW := Lib.hid ew
    clear cx cy hE hD ew CX CY HX HY HSX HSY
    have s1 : IntKind.i64.wrap ((k : Int) - 16) = (k : Int) - 16 := by rw [IntKind.wrap_i64]; omega
    have s2 : (0 : Int) ≤ (k : Int) - 16 := by omega
    have s3 : (k : Int) - 16 < 64 := by omega
    have s4 : ((k : Int) - 16).toNat = k - 16 := by omega
    have s5 : IntKind.i64.wrap ((k : Int) - 7) = (k : Int) - 7 := by rw [IntKind.wrap_i64]; omega
    have s6 : (0 : Int) ≤ (k : Int) - 7 := by omega
    have s7 : (k : Int) - 7 < 64 := by omega
    have s8 : ((k : Int) - 7).toNat = k - 7 := by omega
    have u3 : ¬ (k : Int) < 16 := by omega
    have u4 : ¬ (k : Int) < 7 := by omega
    have s9 : (0 : Int) ≤ (k : Int) := by omega
    have t1 : IntKind.u64.wrap ((E : Int) + (SX : Int)) = (E : Int) + (SX : Int) := by rw [IntKind.wrap_u64]; omega
    have t2 : IntKind.u64.wrap ((E : Int) + (SX : Int) + (D : Int)) = (E : Int) + (SX : Int) + (D : Int) := by rw [IntKind.wrap_u64]; omega
    have t3 : IntKind.u64.wrap ((E : Int) + (SX : Int) + (D : Int) + (SY : Int)) = (E : Int) + (SX : Int) + (D : Int) + (SY : Int) := by rw [IntKind.wrap_u64]; omega
    refine zanyM 0 h 185 16 rfl rfl rfl rfl rfl rfl (by kernel_rfl) (by kernel_rfl) (by kernel_rfl) (by kernel_rfl) (by kernel_rfl) (fun c a w h => hQ _ _ _ _ _ h) hS ?_
    clear h
    intro a h
    refine zanyM 1 h 186 18 rfl rfl rfl rfl rfl rfl (by kernel_rfl) (by kernel_rfl) (by kernel_rfl) (by kernel_rfl) (by kernel_rfl) (fun c a w h => hQ _ _ _ _ _ h) hS ?_
    clear h
    intro a h
    refine zanyM 2 h 187 16 rfl rfl rfl rfl rfl rfl (by kernel_rfl) (by kernel_rfl) (by kernel_rfl) (by kernel_rfl) (by kernel_rfl) (fun c a w h => hQ _ _ _ _ _ h) hS ?_
    clear h
    intro a h
    refine zanyM 3 h 188 18 rfl rfl rfl rfl rfl rfl (by kernel_rfl) (by kernel_rfl) (by kernel_rfl) (by kernel_rfl) (by kernel_rfl) (fun c a w h => hQ _ _ _ _ _ h) hS ?_
    clear h
    intro a h
    refine zanyH 4 h 189 (Value.int .i64 ((k : Int) - 16)) rfl rfl rfl (by kernel_rfl) (by kernel_rfl) (by kernel_rfl) (by kernel_rfl) (by kernel_rfl) (fun c a w h => hQ _ _ _ _ _ h) (Or.inl ⟨rfl, fun w' hw' => by
        have e188 : a.eval (.tmp 188) = _ := h.ev 188 rfl
        simp only [execOp, e188]
        go_simp⟩) hS ?_
    clear h
    intro a h
    refine zanyH 5 h 190 (Value.pointer (some ⟨gw, k - 16, none⟩)) rfl rfl rfl (by kernel_rfl) (by kernel_rfl) (by kernel_rfl) (by kernel_rfl) (by kernel_rfl) (fun c a w h => hQ _ _ _ _ _ h) (Or.inl ⟨rfl, fun w' hw' => by
        have e187 : a.eval (.tmp 187) = _ := h.ev 187 rfl
        have e189 : a.eval (.tmp 189) = _ := h.ev 189 rfl
        simp only [execOp, e187, e189]
        go_simp⟩) hS ?_
    clear h
    intro a h
    refine zanyH 6 h 191 (Value.int .u64 (E : Int)) rfl rfl rfl (by kernel_rfl) (by kernel_rfl) (by kernel_rfl) (by kernel_rfl) (by kernel_rfl) (fun c a w h => hQ _ _ _ _ _ h) (Or.inl ⟨rfl, fun w' hw' => by
        have e190 : a.eval (.tmp 190) = _ := h.ev 190 rfl
        have c1 := CE.out w' hw'
        simp only [execOp, e190]
        go_simp⟩) hS ?_
    clear h
    intro a h
    refine zanyM 7 h 192 21 rfl rfl rfl rfl rfl rfl (by kernel_rfl) (by kernel_rfl) (by kernel_rfl) (by kernel_rfl) (by kernel_rfl) (fun c a w h => hQ _ _ _ _ _ h) hS ?_
    clear h
    intro a h
    refine zanyH 8 h 193 (Value.int .u64 ((E : Int) + (SX : Int))) rfl rfl rfl (by kernel_rfl) (by kernel_rfl) (by kernel_rfl) (by kernel_rfl) (by kernel_rfl) (fun c a w h => hQ _ _ _ _ _ h) (Or.inl ⟨rfl, fun w' hw' => by
        have e191 : a.eval (.tmp 191) = _ := h.ev 191 rfl
        have e192 : a.eval (.tmp 192) = _ := h.ev 192 rfl
        simp only [execOp, e191, e192]
        go_simp⟩) hS ?_
    clear h
    intro a h
    refine zanyM 9 h 194 16 rfl rfl rfl rfl rfl rfl (by kernel_rfl) (by kernel_rfl) (by kernel_rfl) (by kernel_rfl) (by kernel_rfl) (fun c a w h => hQ _ _ _ _ _ h) hS ?_
    clear h
    intro a h
    refine zanyM 10 h 195 18 rfl rfl rfl rfl rfl rfl (by kernel_rfl) (by kernel_rfl) (by kernel_rfl) (by kernel_rfl) (by kernel_rfl) (fun c a w h => hQ _ _ _ _ _ h) hS ?_
    clear h
    intro a h
    refine zanyH 11 h 196 (Value.int .i64 ((k : Int) - 7)) rfl rfl rfl (by kernel_rfl) (by kernel_rfl) (by kernel_rfl) (by kernel_rfl) (by kernel_rfl) (fun c a w h => hQ _ _ _ _ _ h) (Or.inl ⟨rfl, fun w' hw' => by
        have e195 : a.eval (.tmp 195) = _ := h.ev 195 rfl
        simp only [execOp, e195]
        go_simp⟩) hS ?_
    clear h
    intro a h
    refine zanyH 12 h 197 (Value.pointer (some ⟨gw, k - 7, none⟩)) rfl rfl rfl (by kernel_rfl) (by kernel_rfl) (by kernel_rfl) (by kernel_rfl) (by kernel_rfl) (fun c a w h => hQ _ _ _ _ _ h) (Or.inl ⟨rfl, fun w' hw' => by
        have e194 : a.eval (.tmp 194) = _ := h.ev 194 rfl
        have e196 : a.eval (.tmp 196) = _ := h.ev 196 rfl
        simp only [execOp, e194, e196]
        go_simp⟩) hS ?_
    clear h
    intro a h
    refine zanyH 13 h 198 (Value.int .u64 (D : Int)) rfl rfl rfl (by kernel_rfl) (by kernel_rfl) (by kernel_rfl) (by kernel_rfl) (by kernel_rfl) (fun c a w h => hQ _ _ _ _ _ h) (Or.inl ⟨rfl, fun w' hw' => by
        have e197 : a.eval (.tmp 197) = _ := h.ev 197 rfl
        have c1 := CD.out w' hw'
        simp only [execOp, e197]
        go_simp⟩) hS ?_
    clear h
    intro a h
    refine zanyH 14 h 199 (Value.int .u64 ((E : Int) + (SX : Int) + (D : Int))) rfl rfl rfl (by kernel_rfl) (by kernel_rfl) (by kernel_rfl) (by kernel_rfl) (by kernel_rfl) (fun c a w h => hQ _ _ _ _ _ h) (Or.inl ⟨rfl, fun w' hw' => by
        have e193 : a.eval (.tmp 193) = _ := h.ev 193 rfl
        have e198 : a.eval (.tmp 198) = _ := h.ev 198 rfl
        simp only [execOp, e193, e198]
        go_simp⟩) hS ?_
    clear h
    intro a h
    refine zanyM 15 h 200 22 rfl rfl rfl rfl rfl rfl (by kernel_rfl) (by kernel_rfl) (by kernel_rfl) (by kernel_rfl) (by kernel_rfl) (fun c a w h => hQ _ _ _ _ _ h) hS ?_
    clear h
    intro a h
    refine zanyH 16 h 201 (Value.int .u64 ((E : Int) + (SX : Int) + (D : Int) + (SY : Int))) rfl rfl rfl (by kernel_rfl) (by kernel_rfl) (by kernel_rfl) (by kernel_rfl) (by kernel_rfl) (fun c a w h => hQ _ _ _ _ _ h) (Or.inl ⟨rfl, fun w' hw' => by
        have e199 : a.eval (.tmp 199) = _ := h.ev 199 rfl
        have e200 : a.eval (.tmp 200) = _ := h.ev 200 rfl
        simp only [execOp, e199, e200]
        go_simp⟩) hS ?_
    clear h
    intro a h
    refine zanyM 17 h 202 1 rfl rfl rfl rfl rfl rfl (by kernel_rfl) (by kernel_rfl) (by kernel_rfl) (by kernel_rfl) (by kernel_rfl) (fun c a w h => hQ _ _ _ _ _ h) hS ?_
    clear h
    intro a h
    refine zanyW 18 h 203 rfl rfl rfl rfl (by kernel_rfl) (fun v w' => v = .int .u64 (((E + SX + D + SY) % 4294967296 : Nat) : Int) ∧ V = w') (fun K hK => wp_call_v 33 _ _ _ Tryd.func33 (by kernel_rfl) (by kernel_rfl) rfl 203 rfl #[.int .u64 ((E + SX + D + SY : Nat) : Int), .int .i64 32] (by simp [h.ev 201 rfl, h.ev 202 rfl]) _ ((cut32_any (E + SX + D + SY) V (by omega)).mono fun e w' h => ⟨_, h.1, rfl, h.2⟩) hK) ?_
    rintro _ _ ⟨rfl, rfl⟩
    rw [EW.out]
    refine ⟨hS, ?_⟩
    clear h
    intro a h
    refine zanyH 19 h 204 (Value.pointer (some ⟨gw, k, none⟩)) rfl rfl rfl (by kernel_rfl) (by kernel_rfl) (by kernel_rfl) (by kernel_rfl) (by kernel_rfl) (fun c a w h => hQ _ _ _ _ _ h) (Or.inl ⟨rfl, fun w' hw' => by
        have e185 : a.eval (.tmp 185) = _ := h.ev 185 rfl
        have e186 : a.eval (.tmp 186) = _ := h.ev 186 rfl
        simp only [execOp, e185, e186]
        go_simp⟩) hS ?_
    clear h
    intro a h
    have fz := RQ.fz hS.f k
    have c1 := RF.cell hS.f k hlt
    refine zcell 20 h rfl rfl (by kernel_rfl) (by kernel_rfl) _ (fun K hK => wp_store_int _ _ _ rfl rfl (by kernel_rfl) gw k _ _ (h.ev 204 rfl) (h.ev 203 rfl) _ c1 fz hK) ?_
    refine wpAnyZ_done (by kernel_rfl) ?_ _
    have F2 := RF.set hS.f k (uptoF b (k + 1)) hlt (fun i hi => by unfold uptoF; by_cases hik : i < k <;> simp [hik] <;> omega)
    rw [show uptoF b (k + 1) k = wd b k from if_pos (by omega)] at F2
    have L2 : LW w0 gw gr (uptoF b (k + 1)) (V.setCell ⟨gw, k, none⟩ (.int .u64 ((wd b k : Nat) : Int))) := ⟨F2, ⟨hS.g.os, hS.g.tape, hS.g.output, by simpa [World.setCell] using hS.g.size, fun i hi hne => (heap_setCell_other V _ i _ (fun e => hne (by rw [e]))).trans (hS.g.block i hi hne)⟩, hS.r.of_block (heap_setCell_other V _ gr _ hgr)⟩
    generalize World.setCell V _ _ = U at L2 ⊢
    clear hS fz c1 F2 s1 s2 s3 s4 s5 s6 s7 s8 t1 t2 t3 CE CD EW
    show Code.wp _ _ _ _ _
    refine wp_region_seq ?_
    have ew : IntKind.i64.wrap ((k : Int) + 1) = (k : Int) + 1 := by rw [IntKind.wrap_i64]; omega
    refine seqM h 135 18 rfl rfl rfl rfl rfl ?_
    clear h
    intro a h
    refine seqH h 136 (Value.int .i64 ((k : Int) + 1)) rfl rfl (Or.inl ⟨rfl, fun w' hw' => by
        subst hw'
        have e135 : a.eval (.tmp 135) = _ := h.ev 135 rfl
        simp only [execOp, e135]
        go_simp⟩) ?_
    clear h
    intro a h
    refine seqA h 18 136 rfl rfl rfl rfl rfl ?_
    clear h
    intro a h
    refine wpSeq_nil ?_
    refine ⟨⟨k + 1, by omega, by omega, h.trim _ ?_, L2⟩, ?_⟩
    · intro p hp
      simp only [baseW, List.mem_cons, List.not_mem_nil, or_false] at hp
      rcases hp with rfl | rfl | rfl | rfl | rfl | rfl | rfl | rfl | rfl | rfl | rfl <;> rfl
    · have hm2 : a.tmps.getD 18 undef = .int .i64 ((k + 1 : Nat) : Int) := h.val 18 _ rfl
      rw [hm2]
      simp only [intOf]
      omega
  · have l0 : ¬ ((k : Int) < 64) := by omega
    obtain rfl : k = 64 := by omega
    refine seqM h 132 18 rfl rfl rfl rfl rfl ?_
    clear h
    intro a h
    refine seqM h 133 8 rfl rfl rfl rfl rfl ?_
    clear h
    intro a h
    refine seqH h 134 (Value.bool false) rfl rfl (Or.inl ⟨rfl, fun w' hw' => by
        subst hw'
        have e132 : a.eval (.tmp 132) = _ := h.ev 132 rfl
        have e133 : a.eval (.tmp 133) = _ := h.ev 133 rfl
        simp only [execOp, e132, e133]
        go_simp⟩) ?_
    clear h
    intro a h
    refine wpSeq_nil ?_
    show Code.wp _ _ _ _ _
    refine wp_cond (t := false) (h.ev 134 rfl) ?_
    refine wp_exit ?_
    refine hexit _ _ (h.trim _ ?_) (hL.f.congr fun i hi => if_pos hi) hL.g
    · intro p hp
      simp only [baseW, List.mem_cons, List.not_mem_nil, or_false] at hp
      rcases hp with rfl | rfl | rfl | rfl | rfl | rfl | rfl | rfl | rfl | rfl <;> rfl
end Go.Proofs.YtdmhngkedgkndaaDoor
