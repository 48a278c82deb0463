/- The reference's Encrypt: a round's block (loop 5) (printed by gena9.py). -/
import Derived.Test.YtpihgljdbpnehaaDoorBh
namespace Go.Proofs.YtpihgljdbpnehaaDoor
open Go.RowKit
set_option maxHeartbeats 4000000 in
set_option maxRecDepth 100000 in
theorem eloop5 (w0 : World) (gB oB cB gk ck gb gr : Nat) (ks Bx : List Nat) (lk : ks.length = 176) (_lB : Bx.length = 256) (bk : ∀ x ∈ ks, x < 256) (_bB : ∀ x ∈ Bx, x < 256) (hkb : gk ≠ gb) (hBb : gB ≠ gb) (hrb : gr ≠ gb) (hb : w0.heap.size ≤ gb) (gs r : Nat) (_hks : gk ≠ gs) (_hBs : gB ≠ gs) (hbs : gb ≠ gs) (_hrs : gr ≠ gs) (_hs : w0.heap.size ≤ gs) (r1 : 1 ≤ r) (r10 : r ≤ 10) (f s : Nat → Nat) (hs8 : ∀ i, s i < 256)
  {Q : Exit → Act → World → Prop} (hQ : ∀ c a d v w, Q (.panic c) (Act.put a d v) w → Q (.panic c) a w) (a : Act) (h : Has 178 ((16, .int .i64 0) :: baseS gB oB cB gk ck gb gr gs r) a) (w1 : World) (hR : RM w0 gk gB oB gb gr ks Bx f w1 ∧ B16 w1 gs s)
  (hexit : ∀ a' w', Has 178 (baseS gB oB cB gk ck gb gr gs r) a' → RM w0 gk gB oB gb gr ks Bx (fun i => (if r < 10 then mixB s i else s i) ^^^ ks.getD (16 * r + i) 0) w' ∧ B16 w' gs s → Q (.exit 10) a' w') : Code.wp Tryd.prog (.loop (encLoop 5)) Q a w1 := by
 refine wp_loop (fun a' w' => ∃ (k : Nat), k ≤ 16 ∧ Has 178 ((16, .int .i64 (k : Int)) :: baseS gB oB cB gk ck gb gr gs r) a' ∧ (RM w0 gk gB oB gb gr ks Bx (MX (fun i => (if r < 10 then mixB s i else s i) ^^^ ks.getD (16 * r + i) 0) f k) w' ∧ B16 w' gs s)) (fun a' _ => 16 - (intOf (a'.tmps.getD 16 undef)).toNat) ?_ ?_
 · exact ⟨0, Nat.zero_le _, h, hR.1.congr fun i _ => (if_neg (by omega)).symm, hR.2⟩
 clear h a hR
 rintro a w ⟨k, hk, h, hR⟩
 have hm : a.tmps.getD 16 undef = .int .i64 (k : Int) := h.val 16 _ rfl
 generalize a.tmps.getD 16 undef = x at hm ⊢
 subst hm
 conv => arg 2; whnf
 refine wp_seq (wp_seq ?_)
 refine wp_region_seq ?_
 by_cases hlt : k < 16
 ·
  have l0 : (k : Int) < 16 := by omega
  have l1 : (0 : Int) ≤ (k : Int) := by omega
  refine seqM h 120 16 rfl rfl rfl rfl rfl ?_
  clear h
  intro a h
  refine seqH h 121 (Value.bool true) rfl rfl (Or.inl ⟨rfl, fun w' hw' => by
    subst hw'
    have e120 : a.eval (.tmp 120) = _ := h.ev 120 rfl
    simp only [execOp, e120]
    go_simp⟩) ?_
  clear h
  intro a h
  refine wpSeq_nil ?_
  show Code.wp _ _ _ _ _
  refine wp_cond (t := true) (h.ev 121 rfl) ?_
  refine wp_skip ?_
  show Code.wp _ _ _ _ _
  refine wp_seq (wp_block (wp_seq ?_))
  refine wp_region_seq ?_
  have lS := hs8 k
  have cS := hR.2.cell k hlt
  have xk : ∀ X : Nat, X = (if r < 10 then mixB s k else s k) → (X ^^^ ks.getD (16 * r + k) 0) = MX (fun i => (if r < 10 then mixB s i else s i) ^^^ ks.getD (16 * r + i) 0) f (k + 1) k := fun X hX => by rw [hX]; exact (if_pos (by omega)).symm
  obtain ⟨S0, hS0⟩ : ∃ x, x = s k := ⟨_, rfl⟩
  rw [← hS0] at cS lS
  have HS0 := Lib.hid hS0
  have y0 : IntKind.i64.wrap (S0 : Int) = (S0 : Int) := by rw [IntKind.wrap_i64]; omega
  clear hS0
  refine seqM h 124 16 rfl rfl rfl rfl rfl ?_
  clear h
  intro a h
  refine seqH h 125 (Value.pointer (some ⟨gs, k, none⟩)) rfl rfl (Or.inl ⟨rfl, fun w' hw' => by
    subst hw'
    have e14 : a.eval (.tmp 14) = _ := h.ev 14 rfl
    have e124 : a.eval (.tmp 124) = _ := h.ev 124 rfl
    simp only [execOp, e14, e124]
    go_simp⟩) ?_
  clear h
  intro a h
  refine seqH h 126 (Value.int .u8 ((S0 : Nat) : Int)) rfl rfl (Or.inl ⟨rfl, fun w' hw' => by
    subst hw'
    have e125 : a.eval (.tmp 125) = _ := h.ev 125 rfl
    simp only [execOp, e125]
    go_simp⟩) ?_
  clear h
  intro a h
  refine seqH h 127 (Value.int .i64 ((S0 : Int))) rfl rfl (Or.inl ⟨rfl, fun w' hw' => by
    subst hw'
    have e126 : a.eval (.tmp 126) = _ := h.ev 126 rfl
    simp only [execOp, e126]
    go_simp⟩) ?_
  clear h
  intro a h
  refine seqA h 17 127 rfl rfl rfl rfl rfl ?_
  clear h
  intro a h
  refine wpSeq_nil ?_
  show Code.wp _ _ _ _ _
  refine wp_seq (wp_seq ?_)
  refine wp_region_seq ?_
  clear cS
  by_cases hr : r < 10
  ·
   have r2 : (r : Int) < 10 := by omega
   refine seqM h 128 13 rfl rfl rfl rfl rfl ?_
   clear h
   intro a h
   refine seqH h 129 (Value.bool true) rfl rfl (Or.inl ⟨rfl, fun w' hw' => by
     subst hw'
     have e128 : a.eval (.tmp 128) = _ := h.ev 128 rfl
     simp only [execOp, e128]
     go_simp⟩) ?_
   clear h
   intro a h
   refine wpSeq_nil ?_
   show Code.wp _ _ _ _ _
   refine wp_cond (t := true) (h.ev 129 rfl) ?_
   show Code.wp _ _ _ _ _
   refine wp_seq ?_
   refine wp_region_seq ?_
   refine seqM h 130 16 rfl rfl rfl rfl rfl ?_
   clear h
   intro a h
   obtain ⟨A, hA⟩ : ∃ A, A = k - k % 4 := ⟨_, rfl⟩
   refine seqK h 131 (fun v w' => v = .int .i64 (A : Int) ∧ Below w.heap.size w w') rfl rfl (fun K hK => wp_call_v 54 _ _ _ Tryd.func54 (by kernel_rfl) (by kernel_rfl) rfl 131 rfl #[.int .i64 (k : Int)] (by simp [h.ev 130 rfl]) _ ((func4_any k hlt w).mono fun e w' h => ⟨_, h.1, by rw [hA], h.2⟩) hK) ?_
   rintro _ w2 ⟨rfl, b2⟩
   clear h
   intro a h
   replace hR := (⟨hR.1.below b2, Blk.below' hR.2 b2⟩ : RM w0 gk gB oB gb gr ks Bx (MX (fun i => (if r < 10 then mixB s i else s i) ^^^ ks.getD (16 * r + i) 0) f k) w2 ∧ B16 w2 gs s)
   clear b2
   generalize w2 = w at hR ⊢
   refine seqA h 18 131 rfl rfl rfl rfl rfl ?_
   clear h
   intro a h
   refine wpSeq_nil ?_
   show Code.wp _ _ _ _ _
   refine wp_region_S (S := fun w' => RM w0 gk gB oB gb gr ks Bx (MX (fun i => (if r < 10 then mixB s i else s i) ^^^ ks.getD (16 * r + i) 0) f k) w' ∧ B16 w' gs s) (by kernel_rfl) ?_
   have hS : RM w0 gk gB oB gb gr ks Bx (MX (fun i => (if r < 10 then mixB s i else s i) ^^^ ks.getD (16 * r + i) 0) f k) w.drew ∧ B16 w.drew gs s := ⟨hR.1.drew, hR.2.of_block rfl⟩
   clear hR
   generalize w.drew = V at hS ⊢
   obtain ⟨n1, hn1⟩ : ∃ n, n = A + (k + 1) % 4 := ⟨_, rfl⟩
   have m1 : n1 < 16 := by omega
   have q1 : IntKind.i64.wrap ((k : Int) + 1) = (k : Int) + 1 := by rw [IntKind.wrap_i64]; omega
   have t1 : ((k : Int) + 1).tmod 4 = ((k : Int) + 1) % 4 := rfl
   have p1 : IntKind.i64.wrap ((A : Int) + ((k : Int) + 1) % 4) = (n1 : Int) := by rw [IntKind.wrap_i64]; omega
   have u1 : (n1 : Int) < 16 := by omega
   have v1 : (0 : Int) ≤ (n1 : Int) := by omega
   have lS1 := hs8 n1
   have d1 : ∀ w', RM w0 gk gB oB gb gr ks Bx (MX (fun i => (if r < 10 then mixB s i else s i) ^^^ ks.getD (16 * r + i) 0) f k) w' ∧ B16 w' gs s → w'.cell? ⟨gs, n1, none⟩ = some (.int .u8 ((s n1 : Nat) : Int)) := fun w' hw => hw.2.cell n1 m1
   obtain ⟨S1, hS1⟩ : ∃ x, x = s n1 := ⟨_, rfl⟩
   rw [← hS1] at d1 lS1
   have D1 := Lib.hid d1
   clear d1
   obtain ⟨n2, hn2⟩ : ∃ n, n = A + (k + 2) % 4 := ⟨_, rfl⟩
   have m2 : n2 < 16 := by omega
   have q2 : IntKind.i64.wrap ((k : Int) + 2) = (k : Int) + 2 := by rw [IntKind.wrap_i64]; omega
   have t2 : ((k : Int) + 2).tmod 4 = ((k : Int) + 2) % 4 := rfl
   have p2 : IntKind.i64.wrap ((A : Int) + ((k : Int) + 2) % 4) = (n2 : Int) := by rw [IntKind.wrap_i64]; omega
   have u2 : (n2 : Int) < 16 := by omega
   have v2 : (0 : Int) ≤ (n2 : Int) := by omega
   have lS2 := hs8 n2
   have d2 : ∀ w', RM w0 gk gB oB gb gr ks Bx (MX (fun i => (if r < 10 then mixB s i else s i) ^^^ ks.getD (16 * r + i) 0) f k) w' ∧ B16 w' gs s → w'.cell? ⟨gs, n2, none⟩ = some (.int .u8 ((s n2 : Nat) : Int)) := fun w' hw => hw.2.cell n2 m2
   obtain ⟨S2, hS2⟩ : ∃ x, x = s n2 := ⟨_, rfl⟩
   rw [← hS2] at d2 lS2
   have D2 := Lib.hid d2
   clear d2
   obtain ⟨n3, hn3⟩ : ∃ n, n = A + (k + 3) % 4 := ⟨_, rfl⟩
   have m3 : n3 < 16 := by omega
   have q3 : IntKind.i64.wrap ((k : Int) + 3) = (k : Int) + 3 := by rw [IntKind.wrap_i64]; omega
   have t3 : ((k : Int) + 3).tmod 4 = ((k : Int) + 3) % 4 := rfl
   have p3 : IntKind.i64.wrap ((A : Int) + ((k : Int) + 3) % 4) = (n3 : Int) := by rw [IntKind.wrap_i64]; omega
   have u3 : (n3 : Int) < 16 := by omega
   have v3 : (0 : Int) ≤ (n3 : Int) := by omega
   have lS3 := hs8 n3
   have d3 : ∀ w', RM w0 gk gB oB gb gr ks Bx (MX (fun i => (if r < 10 then mixB s i else s i) ^^^ ks.getD (16 * r + i) 0) f k) w' ∧ B16 w' gs s → w'.cell? ⟨gs, n3, none⟩ = some (.int .u8 ((s n3 : Nat) : Int)) := fun w' hw => hw.2.cell n3 m3
   obtain ⟨S3, hS3⟩ : ∃ x, x = s n3 := ⟨_, rfl⟩
   rw [← hS3] at d3 lS3
   have D3 := Lib.hid d3
   clear d3
   have d0 : ∀ w', RM w0 gk gB oB gb gr ks Bx (MX (fun i => (if r < 10 then mixB s i else s i) ^^^ ks.getD (16 * r + i) 0) f k) w' ∧ B16 w' gs s → w'.cell? ⟨gs, k, none⟩ = some (.int .u8 ((S0 : Nat) : Int)) := fun w' hw => by rw [HS0.out]; exact hw.2.cell k hlt
   have D0 := Lib.hid d0
   clear d0
   obtain ⟨G2, hG2⟩ : ∃ x, x = gm S0 2 := ⟨_, rfl⟩
   obtain ⟨G3, hG3⟩ : ∃ x, x = gm S1 3 := ⟨_, rfl⟩
   have l2 : G2 < 256 := hG2 ▸ gm_lt 2 lS
   have l3 : G3 < 256 := hG3 ▸ gm_lt 3 lS1
   have x1 := i64_xor G2 G3 (Nat.lt_trans l2 (by decide)) (Nat.lt_trans l3 (by decide))
   obtain ⟨Z1, hZ1⟩ : ∃ x, x = G2 ^^^ G3 := ⟨_, rfl⟩
   rw [← hZ1] at x1
   have lZ1 : Z1 < 256 := hZ1 ▸ xor_256 l2 l3
   have x2 := i64_xor Z1 S2 (Nat.lt_trans lZ1 (by decide)) (Nat.lt_trans lS2 (by decide))
   obtain ⟨Z2, hZ2⟩ : ∃ x, x = Z1 ^^^ S2 := ⟨_, rfl⟩
   rw [← hZ2] at x2
   have lZ2 : Z2 < 256 := hZ2 ▸ xor_256 lZ1 lS2
   have x3 := i64_xor Z2 S3 (Nat.lt_trans lZ2 (by decide)) (Nat.lt_trans lS3 (by decide))
   obtain ⟨X, hX⟩ : ∃ x, x = Z2 ^^^ S3 := ⟨_, rfl⟩
   rw [← hX] at x3
   have lX : X < 256 := hX ▸ xor_256 lZ2 lS3
   have hXX : X = (if r < 10 then mixB s k else s k) := by
    rw [if_pos hr, hX, hZ2, hZ1, hG2, hG3, HS0.out, hS1, hS2, hS3, hn1, hn2, hn3, hA]
    rfl
   have HXX := Lib.hid hXX
   have HG2 := Lib.hid hG2
   have HG3 := Lib.hid hG3
   have y1 : IntKind.i64.wrap (S1 : Int) = (S1 : Int) := by rw [IntKind.wrap_i64]; omega
   have y2 : IntKind.i64.wrap (S2 : Int) = (S2 : Int) := by rw [IntKind.wrap_i64]; omega
   have y3 : IntKind.i64.wrap (S3 : Int) = (S3 : Int) := by rw [IntKind.wrap_i64]; omega
   clear hXX hX hZ2 hZ1 hS1 hS2 hS3 hn1 hn2 hn3 hA hG2 hG3
   refine anyM 0 h 132 16 rfl rfl rfl rfl rfl rfl (by kernel_rfl) (by kernel_rfl) (by kernel_rfl) (fun c a w h => hQ _ _ _ _ _ h) hS ?_
   clear h
   intro a h
   refine anyH 1 h 133 (Value.pointer (some ⟨gs, k, none⟩)) rfl rfl rfl (by kernel_rfl) (by kernel_rfl) (by kernel_rfl) (fun c a w h => hQ _ _ _ _ _ h) (Or.inl ⟨rfl, fun w' hw' => by
     have e14 : a.eval (.tmp 14) = _ := h.ev 14 rfl
     have e132 : a.eval (.tmp 132) = _ := h.ev 132 rfl
     simp only [execOp, e14, e132]
     go_simp⟩) hS ?_
   clear h
   intro a h
   refine anyH 2 h 134 (Value.int .u8 ((S0 : Nat) : Int)) rfl rfl rfl (by kernel_rfl) (by kernel_rfl) (by kernel_rfl) (fun c a w h => hQ _ _ _ _ _ h) (Or.inl ⟨rfl, fun w' hw' => by
     have e133 : a.eval (.tmp 133) = _ := h.ev 133 rfl
     have c1 := D0.out w' hw'
     simp only [execOp, e133]
     go_simp⟩) hS ?_
   clear h
   intro a h
   refine anyH 3 h 135 (Value.int .i64 ((S0 : Int))) rfl rfl rfl (by kernel_rfl) (by kernel_rfl) (by kernel_rfl) (fun c a w h => hQ _ _ _ _ _ h) (Or.inl ⟨rfl, fun w' hw' => by
     have e134 : a.eval (.tmp 134) = _ := h.ev 134 rfl
     simp only [execOp, e134]
     go_simp⟩) hS ?_
   clear h
   intro a h
   refine anyM 5 h 137 18 rfl rfl rfl rfl rfl rfl (by kernel_rfl) (by kernel_rfl) (by kernel_rfl) (fun c a w h => hQ _ _ _ _ _ h) hS ?_
   clear h
   intro a h
   refine anyM 6 h 138 16 rfl rfl rfl rfl rfl rfl (by kernel_rfl) (by kernel_rfl) (by kernel_rfl) (fun c a w h => hQ _ _ _ _ _ h) hS ?_
   clear h
   intro a h
   refine anyH 7 h 139 (Value.int .i64 ((k : Int) + 1)) rfl rfl rfl (by kernel_rfl) (by kernel_rfl) (by kernel_rfl) (fun c a w h => hQ _ _ _ _ _ h) (Or.inl ⟨rfl, fun w' hw' => by
     have e138 : a.eval (.tmp 138) = _ := h.ev 138 rfl
     simp only [execOp, e138]
     go_simp⟩) hS ?_
   clear h
   intro a h
   refine anyH 8 h 140 (Value.int .i64 (((k : Int) + 1) % 4)) rfl rfl rfl (by kernel_rfl) (by kernel_rfl) (by kernel_rfl) (fun c a w h => hQ _ _ _ _ _ h) (Or.inl ⟨rfl, fun w' hw' => by
     have e139 : a.eval (.tmp 139) = _ := h.ev 139 rfl
     simp only [execOp, e139]
     go_simp⟩) hS ?_
   clear h
   intro a h
   refine anyH 9 h 141 (Value.int .i64 ((n1 : Int))) rfl rfl rfl (by kernel_rfl) (by kernel_rfl) (by kernel_rfl) (fun c a w h => hQ _ _ _ _ _ h) (Or.inl ⟨rfl, fun w' hw' => by
     have e137 : a.eval (.tmp 137) = _ := h.ev 137 rfl
     have e140 : a.eval (.tmp 140) = _ := h.ev 140 rfl
     simp only [execOp, e137, e140]
     go_simp⟩) hS ?_
   clear h
   intro a h
   refine anyH 10 h 142 (Value.pointer (some ⟨gs, n1, none⟩)) rfl rfl rfl (by kernel_rfl) (by kernel_rfl) (by kernel_rfl) (fun c a w h => hQ _ _ _ _ _ h) (Or.inl ⟨rfl, fun w' hw' => by
     have e14 : a.eval (.tmp 14) = _ := h.ev 14 rfl
     have e141 : a.eval (.tmp 141) = _ := h.ev 141 rfl
     simp only [execOp, e14, e141]
     go_simp⟩) hS ?_
   clear h
   intro a h
   refine anyH 11 h 143 (Value.int .u8 ((S1 : Nat) : Int)) rfl rfl rfl (by kernel_rfl) (by kernel_rfl) (by kernel_rfl) (fun c a w h => hQ _ _ _ _ _ h) (Or.inl ⟨rfl, fun w' hw' => by
     have e142 : a.eval (.tmp 142) = _ := h.ev 142 rfl
     have c1 := D1.out w' hw'
     simp only [execOp, e142]
     go_simp⟩) hS ?_
   clear h
   intro a h
   refine anyH 12 h 144 (Value.int .i64 ((S1 : Int))) rfl rfl rfl (by kernel_rfl) (by kernel_rfl) (by kernel_rfl) (fun c a w h => hQ _ _ _ _ _ h) (Or.inl ⟨rfl, fun w' hw' => by
     have e143 : a.eval (.tmp 143) = _ := h.ev 143 rfl
     simp only [execOp, e143]
     go_simp⟩) hS ?_
   clear h
   intro a h
   refine anyM 15 h 147 18 rfl rfl rfl rfl rfl rfl (by kernel_rfl) (by kernel_rfl) (by kernel_rfl) (fun c a w h => hQ _ _ _ _ _ h) hS ?_
   clear h
   intro a h
   refine anyM 16 h 148 16 rfl rfl rfl rfl rfl rfl (by kernel_rfl) (by kernel_rfl) (by kernel_rfl) (fun c a w h => hQ _ _ _ _ _ h) hS ?_
   clear h
   intro a h
   refine anyH 17 h 149 (Value.int .i64 ((k : Int) + 2)) rfl rfl rfl (by kernel_rfl) (by kernel_rfl) (by kernel_rfl) (fun c a w h => hQ _ _ _ _ _ h) (Or.inl ⟨rfl, fun w' hw' => by
     have e148 : a.eval (.tmp 148) = _ := h.ev 148 rfl
     simp only [execOp, e148]
     go_simp⟩) hS ?_
   clear h
   intro a h
   refine anyH 18 h 150 (Value.int .i64 (((k : Int) + 2) % 4)) rfl rfl rfl (by kernel_rfl) (by kernel_rfl) (by kernel_rfl) (fun c a w h => hQ _ _ _ _ _ h) (Or.inl ⟨rfl, fun w' hw' => by
     have e149 : a.eval (.tmp 149) = _ := h.ev 149 rfl
     simp only [execOp, e149]
     go_simp⟩) hS ?_
   clear h
   intro a h
   refine anyH 19 h 151 (Value.int .i64 ((n2 : Int))) rfl rfl rfl (by kernel_rfl) (by kernel_rfl) (by kernel_rfl) (fun c a w h => hQ _ _ _ _ _ h) (Or.inl ⟨rfl, fun w' hw' => by
     have e147 : a.eval (.tmp 147) = _ := h.ev 147 rfl
     have e150 : a.eval (.tmp 150) = _ := h.ev 150 rfl
     simp only [execOp, e147, e150]
     go_simp⟩) hS ?_
   clear h
   intro a h
   refine anyH 20 h 152 (Value.pointer (some ⟨gs, n2, none⟩)) rfl rfl rfl (by kernel_rfl) (by kernel_rfl) (by kernel_rfl) (fun c a w h => hQ _ _ _ _ _ h) (Or.inl ⟨rfl, fun w' hw' => by
     have e14 : a.eval (.tmp 14) = _ := h.ev 14 rfl
     have e151 : a.eval (.tmp 151) = _ := h.ev 151 rfl
     simp only [execOp, e14, e151]
     go_simp⟩) hS ?_
   clear h
   intro a h
   refine anyH 21 h 153 (Value.int .u8 ((S2 : Nat) : Int)) rfl rfl rfl (by kernel_rfl) (by kernel_rfl) (by kernel_rfl) (fun c a w h => hQ _ _ _ _ _ h) (Or.inl ⟨rfl, fun w' hw' => by
     have e152 : a.eval (.tmp 152) = _ := h.ev 152 rfl
     have c1 := D2.out w' hw'
     simp only [execOp, e152]
     go_simp⟩) hS ?_
   clear h
   intro a h
   refine anyH 22 h 154 (Value.int .i64 ((S2 : Int))) rfl rfl rfl (by kernel_rfl) (by kernel_rfl) (by kernel_rfl) (fun c a w h => hQ _ _ _ _ _ h) (Or.inl ⟨rfl, fun w' hw' => by
     have e153 : a.eval (.tmp 153) = _ := h.ev 153 rfl
     simp only [execOp, e153]
     go_simp⟩) hS ?_
   clear h
   intro a h
   refine anyM 24 h 156 18 rfl rfl rfl rfl rfl rfl (by kernel_rfl) (by kernel_rfl) (by kernel_rfl) (fun c a w h => hQ _ _ _ _ _ h) hS ?_
   clear h
   intro a h
   refine anyM 25 h 157 16 rfl rfl rfl rfl rfl rfl (by kernel_rfl) (by kernel_rfl) (by kernel_rfl) (fun c a w h => hQ _ _ _ _ _ h) hS ?_
   clear h
   intro a h
   refine anyH 26 h 158 (Value.int .i64 ((k : Int) + 3)) rfl rfl rfl (by kernel_rfl) (by kernel_rfl) (by kernel_rfl) (fun c a w h => hQ _ _ _ _ _ h) (Or.inl ⟨rfl, fun w' hw' => by
     have e157 : a.eval (.tmp 157) = _ := h.ev 157 rfl
     simp only [execOp, e157]
     go_simp⟩) hS ?_
   clear h
   intro a h
   refine anyH 27 h 159 (Value.int .i64 (((k : Int) + 3) % 4)) rfl rfl rfl (by kernel_rfl) (by kernel_rfl) (by kernel_rfl) (fun c a w h => hQ _ _ _ _ _ h) (Or.inl ⟨rfl, fun w' hw' => by
     have e158 : a.eval (.tmp 158) = _ := h.ev 158 rfl
     simp only [execOp, e158]
     go_simp⟩) hS ?_
   clear h
   intro a h
   refine anyH 28 h 160 (Value.int .i64 ((n3 : Int))) rfl rfl rfl (by kernel_rfl) (by kernel_rfl) (by kernel_rfl) (fun c a w h => hQ _ _ _ _ _ h) (Or.inl ⟨rfl, fun w' hw' => by
     have e156 : a.eval (.tmp 156) = _ := h.ev 156 rfl
     have e159 : a.eval (.tmp 159) = _ := h.ev 159 rfl
     simp only [execOp, e156, e159]
     go_simp⟩) hS ?_
   clear h
   intro a h
   refine anyH 29 h 161 (Value.pointer (some ⟨gs, n3, none⟩)) rfl rfl rfl (by kernel_rfl) (by kernel_rfl) (by kernel_rfl) (fun c a w h => hQ _ _ _ _ _ h) (Or.inl ⟨rfl, fun w' hw' => by
     have e14 : a.eval (.tmp 14) = _ := h.ev 14 rfl
     have e160 : a.eval (.tmp 160) = _ := h.ev 160 rfl
     simp only [execOp, e14, e160]
     go_simp⟩) hS ?_
   clear h
   intro a h
   refine anyH 30 h 162 (Value.int .u8 ((S3 : Nat) : Int)) rfl rfl rfl (by kernel_rfl) (by kernel_rfl) (by kernel_rfl) (fun c a w h => hQ _ _ _ _ _ h) (Or.inl ⟨rfl, fun w' hw' => by
     have e161 : a.eval (.tmp 161) = _ := h.ev 161 rfl
     have c1 := D3.out w' hw'
     simp only [execOp, e161]
     go_simp⟩) hS ?_
   clear h
   intro a h
   refine anyH 31 h 163 (Value.int .i64 ((S3 : Int))) rfl rfl rfl (by kernel_rfl) (by kernel_rfl) (by kernel_rfl) (fun c a w h => hQ _ _ _ _ _ h) (Or.inl ⟨rfl, fun w' hw' => by
     have e162 : a.eval (.tmp 162) = _ := h.ev 162 rfl
     simp only [execOp, e162]
     go_simp⟩) hS ?_
   clear h
   intro a h
   refine anyW 4 h 136 rfl rfl rfl rfl (by kernel_rfl) (fun v w' => v = .int .i64 (G2 : Int) ∧ Below V.heap.size V w') (fun K hK => wp_call_v 53 _ _ _ Tryd.func53 (by kernel_rfl) (by kernel_rfl) rfl 136 rfl #[.int .i64 (S0 : Int), .int .i64 2] (by simp [h.at_ 135 rfl, Act.eval]) _ ((rbyte_any S0 2 lS (by decide) V).mono fun e w' h => ⟨_, h.1, by rw [HG2.out], h.2⟩) hK) ?_
   rintro _ V2 ⟨rfl, b2⟩
   have hS2' : RM w0 gk gB oB gb gr ks Bx (MX (fun i => (if r < 10 then mixB s i else s i) ^^^ ks.getD (16 * r + i) 0) f k) V2 ∧ B16 V2 gs s := ⟨hS.1.below b2, Blk.below' hS.2 b2⟩
   refine ⟨hS2', ?_⟩
   clear h hS b2
   intro a h
   have hS := hS2'
   clear hS2'
   generalize V2 = V at hS ⊢
   refine anyW 13 h 145 rfl rfl rfl rfl (by kernel_rfl) (fun v w' => v = .int .i64 (G3 : Int) ∧ Below V.heap.size V w') (fun K hK => wp_call_v 53 _ _ _ Tryd.func53 (by kernel_rfl) (by kernel_rfl) rfl 145 rfl #[.int .i64 (S1 : Int), .int .i64 3] (by simp [h.at_ 144 rfl, Act.eval]) _ ((rbyte_any S1 3 lS1 (by decide) V).mono fun e w' h => ⟨_, h.1, by rw [HG3.out], h.2⟩) hK) ?_
   rintro _ V2 ⟨rfl, b2⟩
   have hS2' : RM w0 gk gB oB gb gr ks Bx (MX (fun i => (if r < 10 then mixB s i else s i) ^^^ ks.getD (16 * r + i) 0) f k) V2 ∧ B16 V2 gs s := ⟨hS.1.below b2, Blk.below' hS.2 b2⟩
   refine ⟨hS2', ?_⟩
   clear h hS b2
   intro a h
   have hS := hS2'
   clear hS2'
   generalize V2 = V at hS ⊢
   refine anyH 14 h 146 (Value.int .i64 ((Z1 : Int))) rfl rfl rfl (by kernel_rfl) (by kernel_rfl) (by kernel_rfl) (fun c a w h => hQ _ _ _ _ _ h) (Or.inl ⟨rfl, fun w' hw' => by
     have e136 : a.eval (.tmp 136) = _ := h.ev 136 rfl
     have e145 : a.eval (.tmp 145) = _ := h.ev 145 rfl
     simp only [execOp, e136, e145]
     go_simp⟩) hS ?_
   clear h
   intro a h
   refine anyH 23 h 155 (Value.int .i64 ((Z2 : Int))) rfl rfl rfl (by kernel_rfl) (by kernel_rfl) (by kernel_rfl) (fun c a w h => hQ _ _ _ _ _ h) (Or.inl ⟨rfl, fun w' hw' => by
     have e146 : a.eval (.tmp 146) = _ := h.ev 146 rfl
     have e154 : a.eval (.tmp 154) = _ := h.ev 154 rfl
     simp only [execOp, e146, e154]
     go_simp⟩) hS ?_
   clear h
   intro a h
   refine anyH 32 h 164 (Value.int .i64 ((X : Int))) rfl rfl rfl (by kernel_rfl) (by kernel_rfl) (by kernel_rfl) (fun c a w h => hQ _ _ _ _ _ h) (Or.inl ⟨rfl, fun w' hw' => by
     have e155 : a.eval (.tmp 155) = _ := h.ev 155 rfl
     have e163 : a.eval (.tmp 163) = _ := h.ev 163 rfl
     simp only [execOp, e155, e163]
     go_simp⟩) hS ?_
   clear h
   intro a h
   refine anyA 33 h 17 164 rfl rfl rfl rfl rfl rfl (by kernel_rfl) (by kernel_rfl) (by kernel_rfl) (fun c a w h => hQ _ _ _ _ _ h) hS ?_
   clear h
   intro a h
   refine wpAnyS_done (by kernel_rfl) ?_ _
   show Code.wp _ _ _ _ _
   have hR := hS
   have hXX := HXX.out
   clear hS HXX D0 D1 D2 D3
   generalize V = w at hR ⊢
   have lX : X < 256 := lX
   have hv := xk X hXX
   clear xk hXX
   obtain ⟨n, hn⟩ : ∃ n, n = 16 * r + k := ⟨_, rfl⟩
   rw [← hn] at hv
   have w3 : IntKind.i64.wrap (16 * (r : Int)) = 16 * (r : Int) := by rw [IntKind.wrap_i64]; omega
   have w4 : IntKind.i64.wrap (16 * (r : Int) + (k : Int)) = (n : Int) := by rw [IntKind.wrap_i64]; omega
   have n1 : (n : Int) < 176 := by omega
   have n2 : (0 : Int) ≤ (n : Int) := by omega
   have w5 : IntKind.u8.wrap (X : Int) = (X : Int) := by rw [IntKind.wrap_u8]; omega
   have cK := hR.1.k.at0 n (by omega)
   have lK := getD_lt bk n
   have ex := u8_xor_nat X (ks.getD n 0) lX lK
   generalize ks.getD n 0 = K at *
   obtain ⟨V, hV⟩ : ∃ V, V = X ^^^ K := ⟨_, rfl⟩
   rw [← hV] at ex hv
   have HV := Lib.hid hv
   clear hV hv hn
   have cB : w.cell? ⟨gb, k, none⟩ = some (.int .u8 ((MX (fun i => (if r < 10 then mixB s i else s i) ^^^ ks.getD (16 * r + i) 0) f k k : Nat) : Int)) := hR.1.b.cell k hlt
   have fB := Blk.frozen hR.1.b k
   refine wp_region_seq ?_
   refine seqM h 165 16 rfl rfl rfl rfl rfl ?_
   clear h
   intro a h
   refine seqM h 166 17 rfl rfl rfl rfl rfl ?_
   clear h
   intro a h
   refine seqH h 167 (Value.int .u8 ((X : Nat) : Int)) rfl rfl (Or.inl ⟨rfl, fun w' hw' => by
     subst hw'
     have e166 : a.eval (.tmp 166) = _ := h.ev 166 rfl
     simp only [execOp, e166]
     go_simp⟩) ?_
   clear h
   intro a h
   refine seqM h 168 7 rfl rfl rfl rfl rfl ?_
   clear h
   intro a h
   refine seqM h 169 13 rfl rfl rfl rfl rfl ?_
   clear h
   intro a h
   refine seqH h 170 (Value.int .i64 (16 * (r : Int))) rfl rfl (Or.inl ⟨rfl, fun w' hw' => by
     subst hw'
     have e169 : a.eval (.tmp 169) = _ := h.ev 169 rfl
     simp only [execOp, e169]
     go_simp⟩) ?_
   clear h
   intro a h
   refine seqM h 171 16 rfl rfl rfl rfl rfl ?_
   clear h
   intro a h
   refine seqH h 172 (Value.int .i64 ((n : Int))) rfl rfl (Or.inl ⟨rfl, fun w' hw' => by
     subst hw'
     have e170 : a.eval (.tmp 170) = _ := h.ev 170 rfl
     have e171 : a.eval (.tmp 171) = _ := h.ev 171 rfl
     simp only [execOp, e170, e171]
     go_simp⟩) ?_
   clear h
   intro a h
   refine seqH h 173 (Value.pointer (some ⟨gk, n, none⟩)) rfl rfl (Or.inl ⟨rfl, fun w' hw' => by
     subst hw'
     have e168 : a.eval (.tmp 168) = _ := h.ev 168 rfl
     have e172 : a.eval (.tmp 172) = _ := h.ev 172 rfl
     simp only [execOp, e168, e172]
     go_simp⟩) ?_
   clear h
   intro a h
   refine seqH h 174 (Value.int .u8 ((K : Nat) : Int)) rfl rfl (Or.inl ⟨rfl, fun w' hw' => by
     subst hw'
     have e173 : a.eval (.tmp 173) = _ := h.ev 173 rfl
     simp only [execOp, e173]
     go_simp⟩) ?_
   clear h
   intro a h
   refine seqH h 175 (Value.int .u8 ((V : Nat) : Int)) rfl rfl (Or.inl ⟨rfl, fun w' hw' => by
     subst hw'
     have e167 : a.eval (.tmp 167) = _ := h.ev 167 rfl
     have e174 : a.eval (.tmp 174) = _ := h.ev 174 rfl
     simp only [execOp, e167, e174]
     go_simp⟩) ?_
   clear h
   intro a h
   refine seqH h 176 (Value.pointer (some ⟨gb, k, none⟩)) rfl rfl (Or.inl ⟨rfl, fun w' hw' => by
     subst hw'
     have e5 : a.eval (.tmp 5) = _ := h.ev 5 rfl
     have e165 : a.eval (.tmp 165) = _ := h.ev 165 rfl
     simp only [execOp, e5, e165]
     go_simp⟩) ?_
   clear h
   intro a h
   refine wpSeq_wp rfl (wp_store_int _ _ _ rfl rfl (by kernel_rfl) gb k _ _ (h.ev 176 rfl) (h.ev 175 rfl) _ cB fB ?_)
   refine wpSeq_nil ?_
   have R2 := hR.1.set hkb hBb hrb hb k (MX (fun i => (if r < 10 then mixB s i else s i) ^^^ ks.getD (16 * r + i) 0) f (k + 1)) hlt (fun i hi => by unfold MX; by_cases hik : i < k <;> simp [hik] <;> omega)
   rw [← HV.out] at R2
   have S2 : B16 (w.setCell ⟨gb, k, none⟩ (.int .u8 ((V : Nat) : Int))) gs s := hR.2.of_block (heap_setCell_other w _ gs _ (Ne.symm hbs))
   generalize World.setCell w _ _ = U at R2 S2 ⊢
   clear hR cB fB cK
   show Code.wp _ _ _ _ _
   refine wp_region_seq ?_
   have ew : IntKind.i64.wrap ((k : Int) + 1) = (k : Int) + 1 := by rw [IntKind.wrap_i64]; omega
   refine seqM h 122 16 rfl rfl rfl rfl rfl ?_
   clear h
   intro a h
   refine seqH h 123 (Value.int .i64 ((k : Int) + 1)) rfl rfl (Or.inl ⟨rfl, fun w' hw' => by
     subst hw'
     have e122 : a.eval (.tmp 122) = _ := h.ev 122 rfl
     simp only [execOp, e122]
     go_simp⟩) ?_
   clear h
   intro a h
   refine seqA h 16 123 rfl rfl rfl rfl rfl ?_
   clear h
   intro a h
   refine wpSeq_nil ?_
   refine ⟨⟨k + 1, by omega, h.trim _ ?_, ⟨R2, S2⟩⟩, ?_⟩
   ·
    intro p hp
    simp only [baseS, baseA, List.mem_cons, List.not_mem_nil, or_false] at hp
    rcases hp with rfl | rfl | rfl | rfl | rfl | rfl | rfl <;> rfl
   ·
    have hm2 : a.tmps.getD 16 undef = .int .i64 ((k + 1 : Nat) : Int) := h.val 16 _ rfl
    rw [hm2]
    simp only [intOf]
    omega
  ·
   have r2 : ¬ (r : Int) < 10 := by omega
   refine seqM h 128 13 rfl rfl rfl rfl rfl ?_
   clear h
   intro a h
   refine seqH h 129 (Value.bool false) rfl rfl (Or.inl ⟨rfl, fun w' hw' => by
     subst hw'
     have e128 : a.eval (.tmp 128) = _ := h.ev 128 rfl
     simp only [execOp, e128]
     go_simp⟩) ?_
   clear h
   intro a h
   refine wpSeq_nil ?_
   show Code.wp _ _ _ _ _
   refine wp_cond (t := false) (h.ev 129 rfl) ?_
   refine wp_skip ?_
   show Code.wp _ _ _ _ _
   obtain ⟨X, hX⟩ : ∃ x, x = S0 := ⟨_, rfl⟩
   have lX : X < 256 := hX ▸ lS
   have hXX : X = (if r < 10 then mixB s k else s k) := by rw [hX, HS0.out, if_neg hr]
   rw [← hX] at h
   clear hX lS
   have lX : X < 256 := lX
   have hv := xk X hXX
   clear xk hXX
   obtain ⟨n, hn⟩ : ∃ n, n = 16 * r + k := ⟨_, rfl⟩
   rw [← hn] at hv
   have w3 : IntKind.i64.wrap (16 * (r : Int)) = 16 * (r : Int) := by rw [IntKind.wrap_i64]; omega
   have w4 : IntKind.i64.wrap (16 * (r : Int) + (k : Int)) = (n : Int) := by rw [IntKind.wrap_i64]; omega
   have n1 : (n : Int) < 176 := by omega
   have n2 : (0 : Int) ≤ (n : Int) := by omega
   have w5 : IntKind.u8.wrap (X : Int) = (X : Int) := by rw [IntKind.wrap_u8]; omega
   have cK := hR.1.k.at0 n (by omega)
   have lK := getD_lt bk n
   have ex := u8_xor_nat X (ks.getD n 0) lX lK
   generalize ks.getD n 0 = K at *
   obtain ⟨V, hV⟩ : ∃ V, V = X ^^^ K := ⟨_, rfl⟩
   rw [← hV] at ex hv
   have HV := Lib.hid hv
   clear hV hv hn
   have cB : w.cell? ⟨gb, k, none⟩ = some (.int .u8 ((MX (fun i => (if r < 10 then mixB s i else s i) ^^^ ks.getD (16 * r + i) 0) f k k : Nat) : Int)) := hR.1.b.cell k hlt
   have fB := Blk.frozen hR.1.b k
   refine wp_region_seq ?_
   refine seqM h 165 16 rfl rfl rfl rfl rfl ?_
   clear h
   intro a h
   refine seqM h 166 17 rfl rfl rfl rfl rfl ?_
   clear h
   intro a h
   refine seqH h 167 (Value.int .u8 ((X : Nat) : Int)) rfl rfl (Or.inl ⟨rfl, fun w' hw' => by
     subst hw'
     have e166 : a.eval (.tmp 166) = _ := h.ev 166 rfl
     simp only [execOp, e166]
     go_simp⟩) ?_
   clear h
   intro a h
   refine seqM h 168 7 rfl rfl rfl rfl rfl ?_
   clear h
   intro a h
   refine seqM h 169 13 rfl rfl rfl rfl rfl ?_
   clear h
   intro a h
   refine seqH h 170 (Value.int .i64 (16 * (r : Int))) rfl rfl (Or.inl ⟨rfl, fun w' hw' => by
     subst hw'
     have e169 : a.eval (.tmp 169) = _ := h.ev 169 rfl
     simp only [execOp, e169]
     go_simp⟩) ?_
   clear h
   intro a h
   refine seqM h 171 16 rfl rfl rfl rfl rfl ?_
   clear h
   intro a h
   refine seqH h 172 (Value.int .i64 ((n : Int))) rfl rfl (Or.inl ⟨rfl, fun w' hw' => by
     subst hw'
     have e170 : a.eval (.tmp 170) = _ := h.ev 170 rfl
     have e171 : a.eval (.tmp 171) = _ := h.ev 171 rfl
     simp only [execOp, e170, e171]
     go_simp⟩) ?_
   clear h
   intro a h
   refine seqH h 173 (Value.pointer (some ⟨gk, n, none⟩)) rfl rfl (Or.inl ⟨rfl, fun w' hw' => by
     subst hw'
     have e168 : a.eval (.tmp 168) = _ := h.ev 168 rfl
     have e172 : a.eval (.tmp 172) = _ := h.ev 172 rfl
     simp only [execOp, e168, e172]
     go_simp⟩) ?_
   clear h
   intro a h
   refine seqH h 174 (Value.int .u8 ((K : Nat) : Int)) rfl rfl (Or.inl ⟨rfl, fun w' hw' => by
     subst hw'
     have e173 : a.eval (.tmp 173) = _ := h.ev 173 rfl
     simp only [execOp, e173]
     go_simp⟩) ?_
   clear h
   intro a h
   refine seqH h 175 (Value.int .u8 ((V : Nat) : Int)) rfl rfl (Or.inl ⟨rfl, fun w' hw' => by
     subst hw'
     have e167 : a.eval (.tmp 167) = _ := h.ev 167 rfl
     have e174 : a.eval (.tmp 174) = _ := h.ev 174 rfl
     simp only [execOp, e167, e174]
     go_simp⟩) ?_
   clear h
   intro a h
   refine seqH h 176 (Value.pointer (some ⟨gb, k, none⟩)) rfl rfl (Or.inl ⟨rfl, fun w' hw' => by
     subst hw'
     have e5 : a.eval (.tmp 5) = _ := h.ev 5 rfl
     have e165 : a.eval (.tmp 165) = _ := h.ev 165 rfl
     simp only [execOp, e5, e165]
     go_simp⟩) ?_
   clear h
   intro a h
   refine wpSeq_wp rfl (wp_store_int _ _ _ rfl rfl (by kernel_rfl) gb k _ _ (h.ev 176 rfl) (h.ev 175 rfl) _ cB fB ?_)
   refine wpSeq_nil ?_
   have R2 := hR.1.set hkb hBb hrb hb k (MX (fun i => (if r < 10 then mixB s i else s i) ^^^ ks.getD (16 * r + i) 0) f (k + 1)) hlt (fun i hi => by unfold MX; by_cases hik : i < k <;> simp [hik] <;> omega)
   rw [← HV.out] at R2
   have S2 : B16 (w.setCell ⟨gb, k, none⟩ (.int .u8 ((V : Nat) : Int))) gs s := hR.2.of_block (heap_setCell_other w _ gs _ (Ne.symm hbs))
   generalize World.setCell w _ _ = U at R2 S2 ⊢
   clear hR cB fB cK
   show Code.wp _ _ _ _ _
   refine wp_region_seq ?_
   have ew : IntKind.i64.wrap ((k : Int) + 1) = (k : Int) + 1 := by rw [IntKind.wrap_i64]; omega
   refine seqM h 122 16 rfl rfl rfl rfl rfl ?_
   clear h
   intro a h
   refine seqH h 123 (Value.int .i64 ((k : Int) + 1)) rfl rfl (Or.inl ⟨rfl, fun w' hw' => by
     subst hw'
     have e122 : a.eval (.tmp 122) = _ := h.ev 122 rfl
     simp only [execOp, e122]
     go_simp⟩) ?_
   clear h
   intro a h
   refine seqA h 16 123 rfl rfl rfl rfl rfl ?_
   clear h
   intro a h
   refine wpSeq_nil ?_
   refine ⟨⟨k + 1, by omega, h.trim _ ?_, ⟨R2, S2⟩⟩, ?_⟩
   ·
    intro p hp
    simp only [baseS, baseA, List.mem_cons, List.not_mem_nil, or_false] at hp
    rcases hp with rfl | rfl | rfl | rfl | rfl | rfl | rfl <;> rfl
   ·
    have hm2 : a.tmps.getD 16 undef = .int .i64 ((k + 1 : Nat) : Int) := h.val 16 _ rfl
    rw [hm2]
    simp only [intOf]
    omega
 ·
  have l0 : ¬ ((k : Int) < 16) := by omega
  obtain rfl : k = 16 := by omega
  refine seqM h 120 16 rfl rfl rfl rfl rfl ?_
  clear h
  intro a h
  refine seqH h 121 (Value.bool false) rfl rfl (Or.inl ⟨rfl, fun w' hw' => by
    subst hw'
    have e120 : a.eval (.tmp 120) = _ := h.ev 120 rfl
    simp only [execOp, e120]
    go_simp⟩) ?_
  clear h
  intro a h
  refine wpSeq_nil ?_
  show Code.wp _ _ _ _ _
  refine wp_cond (t := false) (h.ev 121 rfl) ?_
  refine wp_exit ?_
  refine hexit _ _ (h.trim _ ?_) ⟨hR.1.congr fun i hi => if_pos hi, hR.2⟩
  ·
   intro p hp
   simp only [baseS, baseA, List.mem_cons, List.not_mem_nil, or_false] at hp
   rcases hp with rfl | rfl | rfl | rfl | rfl | rfl <;> rfl
end Go.Proofs.YtpihgljdbpnehaaDoor
