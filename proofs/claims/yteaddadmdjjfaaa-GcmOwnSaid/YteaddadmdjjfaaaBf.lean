/- The reference's Encrypt: the block joined with the first key (loop 2) (printed by gena9.py). -/
import Derived.Test.YteaddadmdjjfaaaBe
namespace Go.Proofs.Yteaddadmdjjfaaa
open Go.RowKit

set_option maxHeartbeats 4000000 in
set_option maxRecDepth 100000 in
theorem eloop2 (w0 : World) (gB oB cB gk ck gb gr : Nat) (ks Bx : List Nat) (lk : ks.length = 176) (_lB : Bx.length = 256) (bk : ∀ x ∈ ks, x < 256) (_bB : ∀ x ∈ Bx, x < 256) (hkb : gk ≠ gb) (hBb : gB ≠ gb) (hrb : gr ≠ gb) (hb : w0.heap.size ≤ gb) (f : Nat → Nat) (hf : ∀ i, f i < 256)
    {Q : Exit → Act → World → Prop} (hQ : ∀ c a d v w, Q (.panic c) (Act.put a d v) w → Q (.panic c) a w) (a : Act) (h : Has 178 ((12, .int .i64 0) :: baseA gB oB cB gk ck gb gr) a) (w1 : World) (hR : RM w0 gk gB oB gb gr ks Bx f w1)
    (hexit : ∀ a' w', Has 178 (baseA gB oB cB gk ck gb gr) a' → RM w0 gk gB oB gb gr ks Bx (fun i => f i ^^^ ks.getD i 0) w' → Q (.exit 4) a' w') : Code.wp Try.prog (.loop (encLoop 2)) Q a w1 := by
  refine wp_loop (fun a' w' => ∃ (k : Nat), k ≤ 16 ∧ Has 178 ((12, .int .i64 (k : Int)) :: baseA gB oB cB gk ck gb gr) a' ∧ RM w0 gk gB oB gb gr ks Bx (MX (fun i => f i ^^^ ks.getD i 0) f k) w') (fun a' _ => 16 - (intOf (a'.tmps.getD 12 undef)).toNat) ?_ ?_
  · exact ⟨0, Nat.zero_le _, h, hR.congr fun i _ => (if_neg (by omega)).symm⟩
  clear h a hR
  rintro a w ⟨k, hk, h, hR⟩
  have hm : a.tmps.getD 12 undef = .int .i64 (k : Int) := h.val 12 _ rfl
  generalize a.tmps.getD 12 undef = x at hm ⊢
  subst hm
  conv => arg 2; whnf
  refine wp_seq (wp_seq ?_)
  refine wp_region_seq ?_
  by_cases hlt : k < 16
  · have l0 : (k : Int) < 16 := by omega
    have l1 : (0 : Int) ≤ (k : Int) := by omega
    refine seqM h 85 12 rfl rfl rfl rfl rfl ?_
    clear h
    intro a h
    refine seqH h 86 (Value.bool true) rfl rfl (Or.inl ⟨rfl, fun w' hw' => by
        subst hw'
        have e85 : a.eval (.tmp 85) = _ := h.ev 85 rfl
        simp only [execOp, e85]
        go_simp⟩) ?_
    clear h
    intro a h
    refine wpSeq_nil ?_
    show Code.wp _ _ _ _ _
    refine wp_cond (t := true) (h.ev 86 rfl) ?_
    refine wp_skip ?_
    show Code.wp _ _ _ _ _
    refine wp_seq (wp_block ?_)
    refine wp_region_Z (S := RM w0 gk gB oB gb gr ks Bx (MX (fun i => f i ^^^ ks.getD i 0) f k)) 10 (by kernel_rfl) ?_
    have hS := hR.drew
    clear hR
    generalize w.drew = V at hS ⊢
    have lF := hf k
    have lK := getD_lt bk k
    have ex := u8_xor_nat (f k) (ks.getD k 0) lF lK
    have c0 : ∀ w', RM w0 gk gB oB gb gr ks Bx (MX (fun i => f i ^^^ ks.getD i 0) f k) w' → w'.cell? ⟨gb, k, none⟩ = some (.int .u8 ((f k : Nat) : Int)) := fun w' hw => by rw [hw.b.cell k hlt, show MX (fun i => f i ^^^ ks.getD i 0) f k k = f k from if_neg (by omega)]
    have c1 : ∀ w', RM w0 gk gB oB gb gr ks Bx (MX (fun i => f i ^^^ ks.getD i 0) f k) w' → w'.cell? ⟨gk, k, none⟩ = some (.int .u8 ((ks.getD k 0 : Nat) : Int)) := fun w' hw => hw.k.at0 k (by omega)
    obtain ⟨X, hX⟩ : ∃ X, X = f k ^^^ ks.getD k 0 := ⟨_, rfl⟩
    have hv : X = MX (fun i => f i ^^^ ks.getD i 0) f (k + 1) k := hX.trans (if_pos (by omega)).symm
    rw [← hX] at ex
    have HV := Lib.hid hv
    generalize f k = F at *
    generalize ks.getD k 0 = K at *
    have C0 := Lib.hid c0
    have C1 := Lib.hid c1
    have l2 : (k : Int) < 176 := by omega
    clear c0 c1 hX hv
    refine zanyM 0 h 89 12 rfl rfl rfl rfl rfl rfl (by kernel_rfl) (by kernel_rfl) (by kernel_rfl) (by kernel_rfl) (by kernel_rfl) (fun c a w h => hQ _ _ _ _ _ h) hS ?_
    clear h
    intro a h
    refine zanyM 1 h 90 12 rfl rfl rfl rfl rfl rfl (by kernel_rfl) (by kernel_rfl) (by kernel_rfl) (by kernel_rfl) (by kernel_rfl) (fun c a w h => hQ _ _ _ _ _ h) hS ?_
    clear h
    intro a h
    refine zanyH 2 h 91 (Value.pointer (some ⟨gb, k, none⟩)) rfl rfl rfl (by kernel_rfl) (by kernel_rfl) (by kernel_rfl) (by kernel_rfl) (by kernel_rfl) (fun c a w h => hQ _ _ _ _ _ h) (Or.inl ⟨rfl, fun w' hw' => by
        have e5 : a.eval (.tmp 5) = _ := h.ev 5 rfl
        have e90 : a.eval (.tmp 90) = _ := h.ev 90 rfl
        simp only [execOp, e5, e90]
        go_simp⟩) hS ?_
    clear h
    intro a h
    refine zanyH 3 h 92 (Value.int .u8 ((F : Nat) : Int)) rfl rfl rfl (by kernel_rfl) (by kernel_rfl) (by kernel_rfl) (by kernel_rfl) (by kernel_rfl) (fun c a w h => hQ _ _ _ _ _ h) (Or.inl ⟨rfl, fun w' hw' => by
        have e91 : a.eval (.tmp 91) = _ := h.ev 91 rfl
        have c1 := C0.out w' hw'
        simp only [execOp, e91]
        go_simp⟩) hS ?_
    clear h
    intro a h
    refine zanyM 4 h 93 7 rfl rfl rfl rfl rfl rfl (by kernel_rfl) (by kernel_rfl) (by kernel_rfl) (by kernel_rfl) (by kernel_rfl) (fun c a w h => hQ _ _ _ _ _ h) hS ?_
    clear h
    intro a h
    refine zanyM 5 h 94 12 rfl rfl rfl rfl rfl rfl (by kernel_rfl) (by kernel_rfl) (by kernel_rfl) (by kernel_rfl) (by kernel_rfl) (fun c a w h => hQ _ _ _ _ _ h) hS ?_
    clear h
    intro a h
    refine zanyH 6 h 95 (Value.pointer (some ⟨gk, k, none⟩)) rfl rfl rfl (by kernel_rfl) (by kernel_rfl) (by kernel_rfl) (by kernel_rfl) (by kernel_rfl) (fun c a w h => hQ _ _ _ _ _ h) (Or.inl ⟨rfl, fun w' hw' => by
        have e93 : a.eval (.tmp 93) = _ := h.ev 93 rfl
        have e94 : a.eval (.tmp 94) = _ := h.ev 94 rfl
        simp only [execOp, e93, e94]
        go_simp⟩) hS ?_
    clear h
    intro a h
    refine zanyH 7 h 96 (Value.int .u8 ((K : Nat) : Int)) rfl rfl rfl (by kernel_rfl) (by kernel_rfl) (by kernel_rfl) (by kernel_rfl) (by kernel_rfl) (fun c a w h => hQ _ _ _ _ _ h) (Or.inl ⟨rfl, fun w' hw' => by
        have e95 : a.eval (.tmp 95) = _ := h.ev 95 rfl
        have c1 := C1.out w' hw'
        simp only [execOp, e95]
        go_simp⟩) hS ?_
    clear h
    intro a h
    refine zanyH 8 h 97 (Value.int .u8 ((X : Nat) : Int)) rfl rfl rfl (by kernel_rfl) (by kernel_rfl) (by kernel_rfl) (by kernel_rfl) (by kernel_rfl) (fun c a w h => hQ _ _ _ _ _ h) (Or.inl ⟨rfl, fun w' hw' => by
        have e92 : a.eval (.tmp 92) = _ := h.ev 92 rfl
        have e96 : a.eval (.tmp 96) = _ := h.ev 96 rfl
        simp only [execOp, e92, e96]
        go_simp⟩) hS ?_
    clear h
    intro a h
    refine zanyH 9 h 98 (Value.pointer (some ⟨gb, k, none⟩)) rfl rfl rfl (by kernel_rfl) (by kernel_rfl) (by kernel_rfl) (by kernel_rfl) (by kernel_rfl) (fun c a w h => hQ _ _ _ _ _ h) (Or.inl ⟨rfl, fun w' hw' => by
        have e5 : a.eval (.tmp 5) = _ := h.ev 5 rfl
        have e89 : a.eval (.tmp 89) = _ := h.ev 89 rfl
        simp only [execOp, e5, e89]
        go_simp⟩) hS ?_
    clear h
    intro a h
    have fz := Blk.frozen hS.b k
    have c1 := hS.b.cell k hlt
    refine zcell 10 h rfl rfl (by kernel_rfl) (by kernel_rfl) _ (fun K hK => wp_store_int _ _ _ rfl rfl (by kernel_rfl) gb k _ _ (h.ev 98 rfl) (h.ev 97 rfl) _ c1 fz hK) ?_
    refine wpAnyZ_done (by kernel_rfl) ?_ _
    have R2 := hS.set hkb hBb hrb hb k (MX (fun i => f i ^^^ ks.getD i 0) f (k + 1)) hlt (fun i hi => by unfold MX; by_cases hik : i < k <;> simp [hik] <;> omega)
    rw [← HV.out] at R2
    generalize World.setCell V _ _ = U at R2 ⊢
    clear hS fz c1
    show Code.wp _ _ _ _ _
    refine wp_region_seq ?_
    have ew : IntKind.i64.wrap ((k : Int) + 1) = (k : Int) + 1 := by rw [IntKind.wrap_i64]; omega
    refine seqM h 87 12 rfl rfl rfl rfl rfl ?_
    clear h
    intro a h
    refine seqH h 88 (Value.int .i64 ((k : Int) + 1)) rfl rfl (Or.inl ⟨rfl, fun w' hw' => by
        subst hw'
        have e87 : a.eval (.tmp 87) = _ := h.ev 87 rfl
        simp only [execOp, e87]
        go_simp⟩) ?_
    clear h
    intro a h
    refine seqA h 12 88 rfl rfl rfl rfl rfl ?_
    clear h
    intro a h
    refine wpSeq_nil ?_
    refine ⟨⟨k + 1, by omega, h.trim _ ?_, R2⟩, ?_⟩
    · intro p hp
      simp only [baseA, List.mem_cons, List.not_mem_nil, or_false] at hp
      rcases hp with rfl | rfl | rfl | rfl | rfl <;> rfl
    · have hm2 : a.tmps.getD 12 undef = .int .i64 ((k + 1 : Nat) : Int) := h.val 12 _ rfl
      rw [hm2]
      simp only [intOf]
      omega
  · have l0 : ¬ ((k : Int) < 16) := by omega
    obtain rfl : k = 16 := by omega
    refine seqM h 85 12 rfl rfl rfl rfl rfl ?_
    clear h
    intro a h
    refine seqH h 86 (Value.bool false) rfl rfl (Or.inl ⟨rfl, fun w' hw' => by
        subst hw'
        have e85 : a.eval (.tmp 85) = _ := h.ev 85 rfl
        simp only [execOp, e85]
        go_simp⟩) ?_
    clear h
    intro a h
    refine wpSeq_nil ?_
    show Code.wp _ _ _ _ _
    refine wp_cond (t := false) (h.ev 86 rfl) ?_
    refine wp_exit ?_
    refine hexit _ _ (h.trim _ ?_) (hR.congr fun i hi => if_pos hi)
    · intro p hp
      simp only [baseA, List.mem_cons, List.not_mem_nil, or_false] at hp
      rcases hp with rfl | rfl | rfl | rfl <;> rfl
end Go.Proofs.Yteaddadmdjjfaaa
