/- The reference's Encrypt: bytes Subbed and moved (loop 4) (printed by gena9.py). -/
import Derived.Test.YtpihgljdbpnehaaDoorSp0Bk
namespace Go.Proofs.YtpihgljdbpnehaaDoor
open Go.RowKit
def baseS (gB oB cB gk ck gb gr gs r : Nat) : List (Nat × Value) := (13, .int .i64 (r : Int)) :: (14, .pointer (some ⟨gs, 0, none⟩)) :: baseA gB oB cB gk ck gb gr
set_option maxHeartbeats 4000000 in
set_option maxRecDepth 100000 in
theorem eloop4 (w0 : World) (gB oB cB gk ck gb gr : Nat) (ks Bx : List Nat) (_lk : ks.length = 176) (lB : Bx.length = 256) (_bk : ∀ x ∈ ks, x < 256) (_bB : ∀ x ∈ Bx, x < 256) (_hkb : gk ≠ gb) (_hBb : gB ≠ gb) (_hrb : gr ≠ gb) (_hb : w0.heap.size ≤ gb) (gs r : Nat) (hks : gk ≠ gs) (hBs : gB ≠ gs) (hbs : gb ≠ gs) (hrs : gr ≠ gs) (hs : w0.heap.size ≤ gs) (f : Nat → Nat) (hf : ∀ i, f i < 256)
  {Q : Exit → Act → World → Prop} (_hQ : ∀ c a d v w, Q (.panic c) (Act.put a d v) w → Q (.panic c) a w) (a : Act) (h : Has 178 ((15, .int .i64 0) :: baseS gB oB cB gk ck gb gr gs r) a) (w1 : World) (hR : RM w0 gk gB oB gb gr ks Bx f w1 ∧ B16 w1 gs (fun _ => 0))
  (hexit : ∀ a' w', Has 178 (baseS gB oB cB gk ck gb gr gs r) a' → RM w0 gk gB oB gb gr ks Bx f w' ∧ B16 w' gs (shiftB Bx (LB f)) → Q (.exit 8) a' w') : Code.wp Tryd.prog (.loop (encLoop 4)) Q a w1 := by
 refine wp_loop (fun a' w' => ∃ (k : Nat), k ≤ 16 ∧ Has 178 ((15, .int .i64 (k : Int)) :: baseS gB oB cB gk ck gb gr gs r) a' ∧ (RM w0 gk gB oB gb gr ks Bx f w' ∧ B16 w' gs (MX (shiftB Bx (LB f)) (fun _ => 0) k))) (fun a' _ => 16 - (intOf (a'.tmps.getD 15 undef)).toNat) ?_ ?_
 · exact ⟨0, Nat.zero_le _, h, hR.1, hR.2.congr fun i _ => (if_neg (by omega)).symm⟩
 clear h a hR
 rintro a w ⟨k, hk, h, hR⟩
 have hm : a.tmps.getD 15 undef = .int .i64 (k : Int) := h.val 15 _ rfl
 generalize a.tmps.getD 15 undef = x at hm ⊢
 subst hm
 conv => arg 2; whnf
 refine wp_seq (wp_seq ?_)
 refine wp_region_seq ?_
 by_cases hlt : k < 16
 ·
  have l0 : (k : Int) < 16 := by omega
  have l1 : (0 : Int) ≤ (k : Int) := by omega
  refine seqM h 103 15 rfl rfl rfl rfl rfl ?_
  clear h
  intro a h
  refine seqH h 104 (Value.bool true) rfl rfl (Or.inl ⟨rfl, fun w' hw' => by
    subst hw'
    have e103 : a.eval (.tmp 103) = _ := h.ev 103 rfl
    simp only [execOp, e103]
    go_simp⟩) ?_
  clear h
  intro a h
  refine wpSeq_nil ?_
  show Code.wp _ _ _ _ _
  refine wp_cond (t := true) (h.ev 104 rfl) ?_
  refine wp_skip ?_
  show Code.wp _ _ _ _ _
  refine wp_seq (wp_block ?_)
  refine wp_region_seq ?_
  obtain ⟨j, hj⟩ : ∃ j, j = (k + 4 * (k % 4)) % 16 := ⟨_, rfl⟩
  have j0 : j < 16 := by omega
  have t1 : (k : Int).tmod 4 = (k : Int) % 4 := rfl
  have w1' : IntKind.i64.wrap (4 * ((k : Int) % 4)) = 4 * ((k : Int) % 4) := by rw [IntKind.wrap_i64]; omega
  have w2' : IntKind.i64.wrap ((k : Int) + 4 * ((k : Int) % 4)) = (k : Int) + 4 * ((k : Int) % 4) := by rw [IntKind.wrap_i64]; omega
  have t2 : ((k : Int) + 4 * ((k : Int) % 4)).tmod 16 = (j : Int) := by rw [Int.tmod_eq_emod_of_nonneg (by omega)]; omega
  have j1 : (j : Int) < 16 := by omega
  have j2 : (0 : Int) ≤ (j : Int) := by omega
  have lF := hf j
  have hv : Bx.getD (f j) 0 = MX (shiftB Bx (LB f)) (fun _ => 0) (k + 1) k := by
   rw [show MX (shiftB Bx (LB f)) (fun _ => 0) (k + 1) k = shiftB Bx (LB f) k from if_pos (by omega)]
   unfold shiftB
   rw [← hj, LB_get f j j0]
  have c2 := hR.1.b.cell j j0
  have c3 := hR.1.x.at_ (f j) (by omega)
  generalize f j = F at *
  obtain ⟨X, hX⟩ : ∃ X, X = Bx.getD F 0 := ⟨_, rfl⟩
  rw [← hX] at c3 hv
  have HV := Lib.hid hv
  have lF1 : (F : Int) < 256 := by omega
  have lF2 : (0 : Int) ≤ (F : Int) := by omega
  have cS := hR.2.cell k hlt
  have fS := Blk.frozen hR.2 k
  clear hv hX hj
  refine seqM h 107 15 rfl rfl rfl rfl rfl ?_
  clear h
  intro a h
  refine seqM h 108 0 rfl rfl rfl rfl rfl ?_
  clear h
  intro a h
  refine seqM h 109 15 rfl rfl rfl rfl rfl ?_
  clear h
  intro a h
  refine seqM h 110 15 rfl rfl rfl rfl rfl ?_
  clear h
  intro a h
  refine seqH h 111 (Value.int .i64 ((k : Int) % 4)) rfl rfl (Or.inl ⟨rfl, fun w' hw' => by
    subst hw'
    have e110 : a.eval (.tmp 110) = _ := h.ev 110 rfl
    simp only [execOp, e110]
    go_simp⟩) ?_
  clear h
  intro a h
  refine seqH h 112 (Value.int .i64 (4 * ((k : Int) % 4))) rfl rfl (Or.inl ⟨rfl, fun w' hw' => by
    subst hw'
    have e111 : a.eval (.tmp 111) = _ := h.ev 111 rfl
    simp only [execOp, e111]
    go_simp⟩) ?_
  clear h
  intro a h
  refine seqH h 113 (Value.int .i64 ((k : Int) + 4 * ((k : Int) % 4))) rfl rfl (Or.inl ⟨rfl, fun w' hw' => by
    subst hw'
    have e109 : a.eval (.tmp 109) = _ := h.ev 109 rfl
    have e112 : a.eval (.tmp 112) = _ := h.ev 112 rfl
    simp only [execOp, e109, e112]
    go_simp⟩) ?_
  clear h
  intro a h
  refine seqH h 114 (Value.int .i64 ((j : Int))) rfl rfl (Or.inl ⟨rfl, fun w' hw' => by
    subst hw'
    have e113 : a.eval (.tmp 113) = _ := h.ev 113 rfl
    simp only [execOp, e113]
    go_simp⟩) ?_
  clear h
  intro a h
  refine seqH h 115 (Value.pointer (some ⟨gb, j, none⟩)) rfl rfl (Or.inl ⟨rfl, fun w' hw' => by
    subst hw'
    have e5 : a.eval (.tmp 5) = _ := h.ev 5 rfl
    have e114 : a.eval (.tmp 114) = _ := h.ev 114 rfl
    simp only [execOp, e5, e114]
    go_simp⟩) ?_
  clear h
  intro a h
  refine seqH h 116 (Value.int .u8 ((F : Nat) : Int)) rfl rfl (Or.inl ⟨rfl, fun w' hw' => by
    subst hw'
    have e115 : a.eval (.tmp 115) = _ := h.ev 115 rfl
    simp only [execOp, e115]
    go_simp⟩) ?_
  clear h
  intro a h
  refine seqH h 117 (Value.pointer (some ⟨gB, oB + F, none⟩)) rfl rfl (Or.inl ⟨rfl, fun w' hw' => by
    subst hw'
    have e108 : a.eval (.tmp 108) = _ := h.ev 108 rfl
    have e116 : a.eval (.tmp 116) = _ := h.ev 116 rfl
    simp only [execOp, e108, e116]
    go_simp⟩) ?_
  clear h
  intro a h
  refine seqH h 118 (Value.int .u8 ((X : Nat) : Int)) rfl rfl (Or.inl ⟨rfl, fun w' hw' => by
    subst hw'
    have e117 : a.eval (.tmp 117) = _ := h.ev 117 rfl
    simp only [execOp, e117]
    go_simp⟩) ?_
  clear h
  intro a h
  refine seqH h 119 (Value.pointer (some ⟨gs, k, none⟩)) rfl rfl (Or.inl ⟨rfl, fun w' hw' => by
    subst hw'
    have e14 : a.eval (.tmp 14) = _ := h.ev 14 rfl
    have e107 : a.eval (.tmp 107) = _ := h.ev 107 rfl
    simp only [execOp, e14, e107]
    go_simp⟩) ?_
  clear h
  intro a h
  refine wpSeq_wp rfl (wp_store_int _ _ _ rfl rfl (by kernel_rfl) gs k _ _ (h.ev 119 rfl) (h.ev 118 rfl) _ cS fS ?_)
  refine wpSeq_nil ?_
  have S2 := hR.2.set k (MX (shiftB Bx (LB f)) (fun _ => 0) (k + 1)) hlt (fun i hi => by unfold MX; by_cases hik : i < k <;> simp [hik] <;> omega)
  rw [← HV.out] at S2
  have R2 := hR.1.far hks hBs hbs hrs hs k (.int .u8 ((X : Nat) : Int))
  generalize World.setCell w _ _ = U at R2 S2 ⊢
  clear hR cS fS c2 c3
  show Code.wp _ _ _ _ _
  refine wp_region_seq ?_
  have ew : IntKind.i64.wrap ((k : Int) + 1) = (k : Int) + 1 := by rw [IntKind.wrap_i64]; omega
  refine seqM h 105 15 rfl rfl rfl rfl rfl ?_
  clear h
  intro a h
  refine seqH h 106 (Value.int .i64 ((k : Int) + 1)) rfl rfl (Or.inl ⟨rfl, fun w' hw' => by
    subst hw'
    have e105 : a.eval (.tmp 105) = _ := h.ev 105 rfl
    simp only [execOp, e105]
    go_simp⟩) ?_
  clear h
  intro a h
  refine seqA h 15 106 rfl rfl rfl rfl rfl ?_
  clear h
  intro a h
  refine wpSeq_nil ?_
  refine ⟨⟨k + 1, by omega, h.trim _ ?_, ⟨R2, S2⟩⟩, ?_⟩
  ·
   intro p hp
   simp only [baseS, baseA, List.mem_cons, List.not_mem_nil, or_false] at hp
   rcases hp with rfl | rfl | rfl | rfl | rfl | rfl | rfl <;> rfl
  ·
   have hm2 : a.tmps.getD 15 undef = .int .i64 ((k + 1 : Nat) : Int) := h.val 15 _ rfl
   rw [hm2]
   simp only [intOf]
   omega
 ·
  have l0 : ¬ ((k : Int) < 16) := by omega
  obtain rfl : k = 16 := by omega
  refine seqM h 103 15 rfl rfl rfl rfl rfl ?_
  clear h
  intro a h
  refine seqH h 104 (Value.bool false) rfl rfl (Or.inl ⟨rfl, fun w' hw' => by
    subst hw'
    have e103 : a.eval (.tmp 103) = _ := h.ev 103 rfl
    simp only [execOp, e103]
    go_simp⟩) ?_
  clear h
  intro a h
  refine wpSeq_nil ?_
  show Code.wp _ _ _ _ _
  refine wp_cond (t := false) (h.ev 104 rfl) ?_
  refine wp_exit ?_
  refine hexit _ _ (h.trim _ ?_) ⟨hR.1, hR.2.congr fun i hi => if_pos hi⟩
  ·
   intro p hp
   simp only [baseS, baseA, List.mem_cons, List.not_mem_nil, or_false] at hp
   rcases hp with rfl | rfl | rfl | rfl | rfl | rfl <;> rfl
end Go.Proofs.YtpihgljdbpnehaaDoor
