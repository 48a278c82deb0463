/- The reference's sum: a block's bytes as words (loop 5). -/
import Derived.Test.YtdmhngkedgkndaaDoorKQd0KQe
namespace Go.Proofs.YtdmhngkedgkndaaDoor
open Go.RowKit
def baseW (pb : Option Addr) (n cb : Nat) (rv tv hv mv : Value) (at_ gw : Nat) : List (Nat × Value) := [(0, .slice pb n cb), (1, .int .i64 32), (2, rv), (7, .int .i64 4), (8, .int .i64 64), (9, tv), (10, hv), (13, mv), (15, .int .i64 (at_ : Int)), (16, .slice (some ⟨gw, 0, none⟩) 64 64)]
set_option maxHeartbeats 4000000 in
set_option maxRecDepth 100000 in
theorem loop5_any (w0 : World) (l : List Nat) (pb : Option Addr) (n cb M cm gm at_ gw : Nat) (rv tv hv : Value) (b : Nat → Nat) (hb : ∀ i, b i < 256) (hl : ∀ i, i < 64 → l.getD (at_ + i) 0 = b i) (hat : at_ + 64 ≤ l.length) (hM : M = l.length) (hM2 : M < 2000000) (hgw : gw ≠ gm)
    {Q : Exit → Act → World → Prop} (hQ : ∀ c a d v w, Q (.panic c) (Act.put a d v) w → Q (.panic c) a w) (a : Act) (h : Has 380 ((17, .int .i64 0) :: baseW pb n cb rv tv hv (.slice (some ⟨gm, 0, none⟩) M cm) at_ gw) a) (A : BA w0 gm 0 l) (F : RF w0 gw 64 fun _ => 0)
    (hexit : ∀ a' w', Has 380 (baseW pb n cb rv tv hv (.slice (some ⟨gm, 0, none⟩) M cm) at_ gw) a' → RF w' gw 64 (uptoF b 16) → w0.grownBy w' (some gw) → Q (.exit 10) a' w') : Code.wp Tryd.prog (.loop (sumLoop 5)) Q a w0 := by
  refine wp_loop (fun a' w' => ∃ (k : Nat), k ≤ 64 ∧ Has 380 ((17, .int .i64 (k : Int)) :: baseW pb n cb rv tv hv (.slice (some ⟨gm, 0, none⟩) M cm) at_ gw) a' ∧ RF w' gw 64 (part b k) ∧ w0.grownBy w' (some gw)) (fun a' _ => 64 - (intOf (a'.tmps.getD 17 undef)).toNat) ?_ ?_
  · exact ⟨0, Nat.zero_le _, h, F.congr fun i _ => (part_zero b i).symm, ⟨rfl, rfl, rfl, Nat.le_refl _, fun _ _ _ => rfl⟩⟩
  clear h a F
  rintro a w ⟨k, hk, h, F, G⟩
  have hm : a.tmps.getD 17 undef = .int .i64 (k : Int) := h.val 17 _ rfl
  generalize a.tmps.getD 17 undef = x at hm ⊢
  subst hm
  have w64 : IntKind.i64.wrap 64 = 64 := by rw [IntKind.wrap_i64]; rfl
  conv => arg 2; whnf
  refine wp_seq (wp_seq ?_)
  refine wp_region_seq ?_
  by_cases hlt : k < 64
  · have l0 : (k : Int) < 64 := by omega
    refine seqM h 106 17 rfl rfl rfl rfl rfl ?_
    clear h
    intro a h
    refine seqM h 107 7 rfl rfl rfl rfl rfl ?_
    clear h
    intro a h
    refine seqH h 108 (Value.int .i64 64) rfl rfl (Or.inl ⟨rfl, fun w' hw' => by
        subst hw'
        have e107 : a.eval (.tmp 107) = _ := h.ev 107 rfl
        simp only [execOp, e107]
        go_simp⟩) ?_
    clear h
    intro a h
    refine seqH h 109 (Value.bool true) rfl rfl (Or.inl ⟨rfl, fun w' hw' => by
        subst hw'
        have e106 : a.eval (.tmp 106) = _ := h.ev 106 rfl
        have e108 : a.eval (.tmp 108) = _ := h.ev 108 rfl
        simp only [execOp, e106, e108]
        go_simp⟩) ?_
    clear h
    intro a h
    refine wpSeq_nil ?_
    show Code.wp _ _ _ _ _
    refine wp_cond (t := true) (h.ev 109 rfl) ?_
    refine wp_skip ?_
    show Code.wp _ _ _ _ _
    refine wp_seq (wp_block ?_)
    refine wp_region_Z (S := fun w' => BA w' gm 0 l ∧ RF w' gw 64 (part b k)) 20 (by kernel_rfl) ?_
    have A1 : BA w gm 0 l := A.of_block (G.block gm A.blk (fun e => hgw (by cases e; rfl)))
    have hS : BA w.drew gm 0 l ∧ RF w.drew gw 64 (part b k) := ⟨A1.drew, RQ.drew F⟩
    have G1 : w0.grownBy w.drew (some gw) := ⟨G.os, G.tape, G.output, G.size, G.block⟩
    clear A1 F G
    generalize w.drew = V at hS G1 ⊢
    have lp := part_lt b hb k
    obtain ⟨P, hP⟩ : ∃ P, P = part b k (k / 4) := ⟨_, rfl⟩
    rw [← hP] at lp
    have i1 : (0 : Int) ≤ (k : Int) / 4 := by omega
    have i2 : (k : Int) / 4 < 64 := by omega
    have i3 : ((k : Int) / 4).toNat = k / 4 := by omega
    have i4 : IntKind.i64.wrap ((k : Int) / 4) = (k : Int) / 4 := by rw [IntKind.wrap_i64]; omega
    have i5 : (k : Int).tdiv 4 = (k : Int) / 4 := rfl
    have j1 : IntKind.i64.wrap ((at_ : Int) + (k : Int)) = (at_ : Int) + (k : Int) := by rw [IntKind.wrap_i64]; omega
    have j2 : (0 : Int) ≤ (at_ : Int) + (k : Int) := by omega
    have j3 : (at_ : Int) + (k : Int) < (M : Int) := by omega
    have j4 : ((at_ : Int) + (k : Int)).toNat = at_ + k := by omega
    have j5 : ¬ ((l.length : Int) ≤ (at_ : Int) + (k : Int)) := by omega
    have q1 : IntKind.u64.wrap ((P : Int) * 256) = (P : Int) * 256 := by rw [IntKind.wrap_u64]; omega
    have q2 : IntKind.u64.wrap ((b k : Nat) : Int) = ((b k : Nat) : Int) := by have := hb k; rw [IntKind.wrap_u64]; omega
    have q3 := or_byte64 P (b k) lp (hb k)
    obtain ⟨X, hX⟩ : ∃ X, X = P * 256 + b k := ⟨_, rfl⟩
    rw [← hX] at q3
    have ep : X = part b (k + 1) (k / 4) := by rw [hX, hP, part_here]
    have HX := Lib.hid ep
    have HP := Lib.hid hP
    clear hX hP ep
    have cw : ∀ w', BA w' gm 0 l ∧ RF w' gw 64 (part b k) → w'.cell? ⟨gw, k / 4, none⟩ = some (.int .u64 (P : Int)) := fun w' hw => by rw [hw.2.cell _ (by omega), HP.out]
    have cm : ∀ w', BA w' gm 0 l ∧ RF w' gw 64 (part b k) → w'.cell? ⟨gm, at_ + k, none⟩ = some (.int .u8 ((b k : Nat) : Int)) := fun w' hw => by
      have := hw.1.cell (at_ + k) (by omega)
      rw [Nat.zero_add] at this
      rw [this, ← hl k hlt]
      simp [List.getD, show at_ + k < l.length by omega]
    have CW := Lib.hid cw
    have CM := Lib.hid cm
    clear cw cm
    refine zanyM 0 h 112 16 rfl rfl rfl rfl rfl rfl (by kernel_rfl) (by kernel_rfl) (by kernel_rfl) (by kernel_rfl) (by kernel_rfl) (fun c a w h => hQ _ _ _ _ _ h) hS ?_
    clear h
    intro a h
    refine zanyM 1 h 113 17 rfl rfl rfl rfl rfl rfl (by kernel_rfl) (by kernel_rfl) (by kernel_rfl) (by kernel_rfl) (by kernel_rfl) (fun c a w h => hQ _ _ _ _ _ h) hS ?_
    clear h
    intro a h
    refine zanyM 2 h 114 7 rfl rfl rfl rfl rfl rfl (by kernel_rfl) (by kernel_rfl) (by kernel_rfl) (by kernel_rfl) (by kernel_rfl) (fun c a w h => hQ _ _ _ _ _ h) hS ?_
    clear h
    intro a h
    refine zanyH 3 h 115 (Value.int .i64 ((k : Int) / 4)) rfl rfl rfl (by kernel_rfl) (by kernel_rfl) (by kernel_rfl) (by kernel_rfl) (by kernel_rfl) (fun c a w h => hQ _ _ _ _ _ h) (Or.inl ⟨rfl, fun w' hw' => by
        have e113 : a.eval (.tmp 113) = _ := h.ev 113 rfl
        have e114 : a.eval (.tmp 114) = _ := h.ev 114 rfl
        simp only [execOp, e113, e114]
        go_simp⟩) hS ?_
    clear h
    intro a h
    refine zanyM 4 h 116 16 rfl rfl rfl rfl rfl rfl (by kernel_rfl) (by kernel_rfl) (by kernel_rfl) (by kernel_rfl) (by kernel_rfl) (fun c a w h => hQ _ _ _ _ _ h) hS ?_
    clear h
    intro a h
    refine zanyM 5 h 117 17 rfl rfl rfl rfl rfl rfl (by kernel_rfl) (by kernel_rfl) (by kernel_rfl) (by kernel_rfl) (by kernel_rfl) (fun c a w h => hQ _ _ _ _ _ h) hS ?_
    clear h
    intro a h
    refine zanyM 6 h 118 7 rfl rfl rfl rfl rfl rfl (by kernel_rfl) (by kernel_rfl) (by kernel_rfl) (by kernel_rfl) (by kernel_rfl) (fun c a w h => hQ _ _ _ _ _ h) hS ?_
    clear h
    intro a h
    refine zanyH 7 h 119 (Value.int .i64 ((k : Int) / 4)) rfl rfl rfl (by kernel_rfl) (by kernel_rfl) (by kernel_rfl) (by kernel_rfl) (by kernel_rfl) (fun c a w h => hQ _ _ _ _ _ h) (Or.inl ⟨rfl, fun w' hw' => by
        have e117 : a.eval (.tmp 117) = _ := h.ev 117 rfl
        have e118 : a.eval (.tmp 118) = _ := h.ev 118 rfl
        simp only [execOp, e117, e118]
        go_simp⟩) hS ?_
    clear h
    intro a h
    refine zanyH 8 h 120 (Value.pointer (some ⟨gw, k / 4, none⟩)) rfl rfl rfl (by kernel_rfl) (by kernel_rfl) (by kernel_rfl) (by kernel_rfl) (by kernel_rfl) (fun c a w h => hQ _ _ _ _ _ h) (Or.inl ⟨rfl, fun w' hw' => by
        have e116 : a.eval (.tmp 116) = _ := h.ev 116 rfl
        have e119 : a.eval (.tmp 119) = _ := h.ev 119 rfl
        simp only [execOp, e116, e119]
        go_simp⟩) hS ?_
    clear h
    intro a h
    refine zanyH 9 h 121 (Value.int .u64 (P : Int)) rfl rfl rfl (by kernel_rfl) (by kernel_rfl) (by kernel_rfl) (by kernel_rfl) (by kernel_rfl) (fun c a w h => hQ _ _ _ _ _ h) (Or.inl ⟨rfl, fun w' hw' => by
        have e120 : a.eval (.tmp 120) = _ := h.ev 120 rfl
        have c1 := CW.out w' hw'
        simp only [execOp, e120]
        go_simp⟩) hS ?_
    clear h
    intro a h
    refine zanyH 10 h 122 (Value.int .u64 ((P : Int) * 256)) rfl rfl rfl (by kernel_rfl) (by kernel_rfl) (by kernel_rfl) (by kernel_rfl) (by kernel_rfl) (fun c a w h => hQ _ _ _ _ _ h) (Or.inl ⟨rfl, fun w' hw' => by
        have e121 : a.eval (.tmp 121) = _ := h.ev 121 rfl
        simp only [execOp, e121]
        go_simp⟩) hS ?_
    clear h
    intro a h
    refine zanyM 11 h 123 13 rfl rfl rfl rfl rfl rfl (by kernel_rfl) (by kernel_rfl) (by kernel_rfl) (by kernel_rfl) (by kernel_rfl) (fun c a w h => hQ _ _ _ _ _ h) hS ?_
    clear h
    intro a h
    refine zanyM 12 h 124 15 rfl rfl rfl rfl rfl rfl (by kernel_rfl) (by kernel_rfl) (by kernel_rfl) (by kernel_rfl) (by kernel_rfl) (fun c a w h => hQ _ _ _ _ _ h) hS ?_
    clear h
    intro a h
    refine zanyM 13 h 125 17 rfl rfl rfl rfl rfl rfl (by kernel_rfl) (by kernel_rfl) (by kernel_rfl) (by kernel_rfl) (by kernel_rfl) (fun c a w h => hQ _ _ _ _ _ h) hS ?_
    clear h
    intro a h
    refine zanyH 14 h 126 (Value.int .i64 ((at_ : Int) + (k : Int))) rfl rfl rfl (by kernel_rfl) (by kernel_rfl) (by kernel_rfl) (by kernel_rfl) (by kernel_rfl) (fun c a w h => hQ _ _ _ _ _ h) (Or.inl ⟨rfl, fun w' hw' => by
        have e124 : a.eval (.tmp 124) = _ := h.ev 124 rfl
        have e125 : a.eval (.tmp 125) = _ := h.ev 125 rfl
        simp only [execOp, e124, e125]
        go_simp⟩) hS ?_
    clear h
    intro a h
    refine zanyH 15 h 127 (Value.pointer (some ⟨gm, at_ + k, none⟩)) rfl rfl rfl (by kernel_rfl) (by kernel_rfl) (by kernel_rfl) (by kernel_rfl) (by kernel_rfl) (fun c a w h => hQ _ _ _ _ _ h) (Or.inl ⟨rfl, fun w' hw' => by
        have e123 : a.eval (.tmp 123) = _ := h.ev 123 rfl
        have e126 : a.eval (.tmp 126) = _ := h.ev 126 rfl
        simp only [execOp, e123, e126]
        go_simp⟩) hS ?_
    clear h
    intro a h
    refine zanyH 16 h 128 (Value.int .u8 ((b k : Nat) : Int)) rfl rfl rfl (by kernel_rfl) (by kernel_rfl) (by kernel_rfl) (by kernel_rfl) (by kernel_rfl) (fun c a w h => hQ _ _ _ _ _ h) (Or.inl ⟨rfl, fun w' hw' => by
        have e127 : a.eval (.tmp 127) = _ := h.ev 127 rfl
        have c1 := CM.out w' hw'
        simp only [execOp, e127]
        go_simp⟩) hS ?_
    clear h
    intro a h
    refine zanyH 17 h 129 (Value.int .u64 ((b k : Nat) : Int)) rfl rfl rfl (by kernel_rfl) (by kernel_rfl) (by kernel_rfl) (by kernel_rfl) (by kernel_rfl) (fun c a w h => hQ _ _ _ _ _ h) (Or.inl ⟨rfl, fun w' hw' => by
        have e128 : a.eval (.tmp 128) = _ := h.ev 128 rfl
        simp only [execOp, e128]
        go_simp⟩) hS ?_
    clear h
    intro a h
    refine zanyH 18 h 130 (Value.int .u64 (X : Int)) rfl rfl rfl (by kernel_rfl) (by kernel_rfl) (by kernel_rfl) (by kernel_rfl) (by kernel_rfl) (fun c a w h => hQ _ _ _ _ _ h) (Or.inl ⟨rfl, fun w' hw' => by
        have e122 : a.eval (.tmp 122) = _ := h.ev 122 rfl
        have e129 : a.eval (.tmp 129) = _ := h.ev 129 rfl
        simp only [execOp, e122, e129]
        go_simp⟩) hS ?_
    clear h
    intro a h
    refine zanyH 19 h 131 (Value.pointer (some ⟨gw, k / 4, none⟩)) rfl rfl rfl (by kernel_rfl) (by kernel_rfl) (by kernel_rfl) (by kernel_rfl) (by kernel_rfl) (fun c a w h => hQ _ _ _ _ _ h) (Or.inl ⟨rfl, fun w' hw' => by
        have e112 : a.eval (.tmp 112) = _ := h.ev 112 rfl
        have e115 : a.eval (.tmp 115) = _ := h.ev 115 rfl
        simp only [execOp, e112, e115]
        go_simp⟩) hS ?_
    clear h
    intro a h
    have fz := RQ.fz hS.2 (k / 4)
    have c1 := CW.out V hS
    refine zcell 20 h rfl rfl (by kernel_rfl) (by kernel_rfl) _ (fun K hK => wp_store_int _ _ _ rfl rfl (by kernel_rfl) gw (k / 4) _ _ (h.ev 131 rfl) (h.ev 130 rfl) _ c1 fz hK) ?_
    refine wpAnyZ_done (by kernel_rfl) ?_ _
    have F2 := RF.set hS.2 (k / 4) (part b (k + 1)) (by omega) (fun i hi => part_other b k i hi)
    rw [← HX.out] at F2
    have G2 : w0.grownBy (V.setCell ⟨gw, k / 4, none⟩ (.int .u64 (X : Int))) (some gw) := ⟨G1.os, G1.tape, G1.output, by simpa [World.setCell] using G1.size, fun i hi hne => (heap_setCell_other V _ i _ (fun e => hne (by rw [e]))).trans (G1.block i hi hne)⟩
    generalize World.setCell V _ _ = U at F2 G2 ⊢
    clear hS G1 fz c1
    show Code.wp _ _ _ _ _
    refine wp_region_seq ?_
    have ew : IntKind.i64.wrap ((k : Int) + 1) = (k : Int) + 1 := by rw [IntKind.wrap_i64]; omega
    refine seqM h 110 17 rfl rfl rfl rfl rfl ?_
    clear h
    intro a h
    refine seqH h 111 (Value.int .i64 ((k : Int) + 1)) rfl rfl (Or.inl ⟨rfl, fun w' hw' => by
        subst hw'
        have e110 : a.eval (.tmp 110) = _ := h.ev 110 rfl
        simp only [execOp, e110]
        go_simp⟩) ?_
    clear h
    intro a h
    refine seqA h 17 111 rfl rfl rfl rfl rfl ?_
    clear h
    intro a h
    refine wpSeq_nil ?_
    refine ⟨⟨k + 1, by omega, h.trim _ ?_, F2, G2⟩, ?_⟩
    · intro p hp
      simp only [baseW, List.mem_cons, List.not_mem_nil, or_false] at hp
      rcases hp with rfl | rfl | rfl | rfl | rfl | rfl | rfl | rfl | rfl | rfl | rfl <;> rfl
    · have hm2 : a.tmps.getD 17 undef = .int .i64 ((k + 1 : Nat) : Int) := h.val 17 _ rfl
      rw [hm2]
      simp only [intOf]
      omega
  · have l0 : ¬ ((k : Int) < 64) := by omega
    obtain rfl : k = 64 := by omega
    refine seqM h 106 17 rfl rfl rfl rfl rfl ?_
    clear h
    intro a h
    refine seqM h 107 7 rfl rfl rfl rfl rfl ?_
    clear h
    intro a h
    refine seqH h 108 (Value.int .i64 64) rfl rfl (Or.inl ⟨rfl, fun w' hw' => by
        subst hw'
        have e107 : a.eval (.tmp 107) = _ := h.ev 107 rfl
        simp only [execOp, e107]
        go_simp⟩) ?_
    clear h
    intro a h
    refine seqH h 109 (Value.bool false) rfl rfl (Or.inl ⟨rfl, fun w' hw' => by
        subst hw'
        have e106 : a.eval (.tmp 106) = _ := h.ev 106 rfl
        have e108 : a.eval (.tmp 108) = _ := h.ev 108 rfl
        simp only [execOp, e106, e108]
        go_simp⟩) ?_
    clear h
    intro a h
    refine wpSeq_nil ?_
    show Code.wp _ _ _ _ _
    refine wp_cond (t := false) (h.ev 109 rfl) ?_
    refine wp_exit ?_
    refine hexit _ _ (h.trim _ ?_) (F.congr fun i _ => part_upto b i) G
    · intro p hp
      simp only [baseW, List.mem_cons, List.not_mem_nil, or_false] at hp
      rcases hp with rfl | rfl | rfl | rfl | rfl | rfl | rfl | rfl | rfl | rfl <;> rfl
end Go.Proofs.YtdmhngkedgkndaaDoor
