/- The reference's Encrypt: four bytes appended to the keys (loop 1) (printed by gena9.py). Unlike blocks become unlike ones: Sub, the mixing, the moving and the joining go back. -/
import Derived.Test.YtpihgljdbpnehaaDoorBd0Be
import Derived.Test.YtpihgljdbpnehaaDoorAa0Bb
namespace Go.Proofs.YtpihgljdbpnehaaDoor
open Go.RowKit
section
variable {P : Program} {md : Region.Mode} {ops : Array Oper} {Q : Exit → Act → World → Prop} {S : World → Prop} {N : Nat} {L : List (Nat × Value)} {a : Act} {w : World}
/-- The assign that ends a region. -/
theorem zendA (i : Nat) {z : Nat} {oi : Oper} {fuel : Nat} {listed : Array Bool} (h : Has N L a) (d t : Nat) {v : Value} (hi : ops.toList[i]? = some oi) (hd : oi.dst = some d) (hN : Nat.ble (d + 1) N = true) (hgd : oi.guard = none) (ho : oi.op = .assign (.tmp t)) (hl : look L t = some v) (hr : Region.ready md ops listed = [i]) (hz : (listed.setIfInBounds i true).getD z true = true)
    (hend : Region.ready md ops (listed.setIfInBounds i true) = []) (k : ∀ a', Has N ((d, v) :: L) a' → Q .normal a' w) : wpAnyZ P md ops Q S z (fuel + 1) listed a w := by
  refine wpAnyZ_one hr ?_
  have hwd : Region.wanted oi (yielded ops a.tmps) = true := by simp [Region.wanted, hgd]
  have hy : YieldsIf P ops (fun _ => True) oi v a := yieldsIf_assign hwd _ ho v (h.ev t hl)
  refine hy.wpOp (by rw [← hi, Array.getElem?_toList]) trivial ⟨fun e => (by rw [hz] at e; cases e), wpAnyZ_done hend ?_ _⟩
  rw [hd]
  exact k _ (h.put d v hN)
end
/-- One byte built and appended, beside another row. -/
theorem append_keep (w0 w : World) (ty : TypeId) (v : Value) (l m : List Nat) (x gw : Nat) (O : OwL w0.heap.size w v l) (hl : l.length ≤ 10000) (b : Below w0.heap.size w0 w) (A : BA w gw 0 m) (hne : ∀ g, v.ownBlock = some g → g ≠ gw) :
    ∃ v' w', (Builtin.append_ #[24, 24] ty #[v, .slice (some ⟨w.heap.size, 0, none⟩) 1 1]).run Tryd.prog (w.alloc (.cells #[.int .u8 ((x : Nat) : Int)] 5)) = .ok v' w' ∧ OwL w0.heap.size w' v' (l ++ [x]) ∧ Below w0.heap.size w0 w' ∧ BA w' gw 0 m ∧ (∀ g, v'.ownBlock = some g → g ≠ gw) := by
  have b7 : Below w.heap.size w (w.alloc (.cells #[.int .u8 ((x : Nat) : Int)] 5)) := (Below.refl _ _).alloc (Nat.le_refl _) _
  have hB7 : w0.heap.size ≤ (w.alloc (.cells #[.int .u8 ((x : Nat) : Int)] 5)).heap.size := Nat.le_trans b.size b7.size
  obtain ⟨v8, w8, r8, O8, g8, o8⟩ := append_ba w0.heap.size _ ty v l [x] (O.below b7) w.heap.size 0 1 (byte_row w x) (by simp; omega) hB7
  refine ⟨v8, w8, r8, O8, below_grown' (b.trans (b7.mono b.size)) g8 (fun j hj => ((O.below b7).lt j hj).1) hB7, (A.below b7).of_block (g8.block gw (A.below b7).blk fun e => hne gw e.symm rfl), fun g hg => ?_⟩
  rcases o8 with o8 | o8
  · exact hne g (o8 ▸ hg)
  · rw [o8] at hg
    cases hg
    have := (A.below b7).blk
    omega
/-- The old row stands, whether the new one lies in it or elsewhere. -/
theorem append_old (B : Nat) (w : World) (ty : TypeId) (gk ck x g o c : Nat) (l : List Nat) (O : OwL B w (.slice (some ⟨gk, 0, none⟩) l.length ck) l) (hx : BA w g o [x]) (hl : l.length ≤ 10000) (v8 : Value) (w8 : World)
    (r8 : (Builtin.append_ #[24, 24] ty #[.slice (some ⟨gk, 0, none⟩) l.length ck, .slice (some ⟨g, o, none⟩) 1 c]).run Tryd.prog w = .ok v8 w8) (O8 : OwL B w8 v8 (l ++ [x])) : BA w8 gk 0 l := by
  obtain ⟨i, hi, hs, hy, hz⟩ := info_u8
  have hO := O
  obtain ⟨hlen, hr | ⟨g', cap, cur, e, hB, hg, hnc, hcm, hcs, htake⟩⟩ := O
  · cases hr.1
  cases e
  have hcell : ∀ j u, (vals [x])[j]? = some u → w.cell? ((⟨g, o, none⟩ : Addr).add j) = some u := fun j u hu => cells_at hx j u hu
  by_cases hroom : l.length + 1 ≤ ck
  · have hr := run_append_room (P := Tryd.prog) w 24 ty 5 i Tryd.underlying24 hi gk l.length ck cur hg ⟨g, o, none⟩ 1 c (vals [x]) (by rw [vals_length, hs]; rfl) hcell (one_at [x]) hroom (by rw [hs, vals_length, Nat.mul_one, hcs, Nat.mul_one]; exact hroom)
    rw [hr] at r8
    cases r8
    rcases O8.row with ⟨hx, _⟩ | ⟨g2, c2, e2, _, _, _, A2, _⟩
    · cases hx
    · simp only [Value.slice.injEq, Option.some.injEq, Addr.mk.injEq] at e2
      obtain ⟨⟨rfl, _⟩, _, _⟩ := e2
      have := A2.take l.length
      rwa [List.take_left] at this
  · have holds : ∀ j u, (vals l)[j]? = some u → w.cell? ((⟨gk, 0, none⟩ : Addr).add j) = some u := hO.cells (g := gk) rfl
    have hr := run_append_grow (P := Tryd.prog) w 24 ty 5 i (.int .u8 0) Tryd.underlying24 hi hz ⟨gk, 0, none⟩ l.length ck (vals l) (by rw [vals_length, hs, Nat.mul_one]) holds ⟨g, o, none⟩ 1 c (vals [x]) (by rw [vals_length, hs]; rfl) hcell (by omega) (by omega) (growslice_fits (by omega) (by rw [hy]; omega))
    rw [hr] at r8
    cases r8
    have A : BA w gk 0 l := by
      rcases hO.row with ⟨hx, _⟩ | ⟨g2, c2, e2, _, _, _, A2, _⟩
      · cases hx
      · cases e2
        exact A2
    exact A.below ((below_drew (Below.refl _ _)).alloc (by simp) _)
def half4 (ks w4 : List Nat) (n k : Nat) : List Nat := (List.range k).map fun j => ks.getD (n - 16 + j) 0 ^^^ w4.getD j 0
theorem half4_length (ks w4 : List Nat) (n k : Nat) : (half4 ks w4 n k).length = k := by simp [half4]
theorem half4_succ (ks w4 : List Nat) (n k : Nat) : half4 ks w4 n k ++ [ks.getD (n - 16 + k) 0 ^^^ w4.getD k 0] = half4 ks w4 n (k + 1) := by simp [half4, List.range_succ]
def base1 (bv pb pr cv : Value) (n gw cw : Nat) : List (Nat × Value) := [(0, bv), (5, pb), (6, pr), (8, cv), (9, .int .i64 (n : Int)), (10, .slice (some ⟨gw, 0, none⟩) 4 cw)]
set_option maxHeartbeats 4000000 in
set_option maxRecDepth 100000 in
theorem eloop1 (w0 : World) (bv pb pr cv : Value) (n gw cw : Nat) (ks w4 : List Nat) (hn : ks.length = n) (n16 : 16 ≤ n) (n172 : n ≤ 172) (l4 : w4.length = 4) (_c4 : 4 ≤ cw) (bks : ∀ x ∈ ks, x < 256) (b4 : ∀ x ∈ w4, x < 256)
    {Q : Exit → Act → World → Prop} (hQ : ∀ c a d v w, Q (.panic c) (Act.put a d v) w → Q (.panic c) a w) (a : Act) (v : Value) (h : Has 178 ((11, .int .i64 0) :: (7, v) :: base1 bv pb pr cv n gw cw) a) (w1 : World) (hR : OwL w0.heap.size w1 v ks ∧ BA w1 gw 0 w4 ∧ (∀ g, v.ownBlock = some g → g ≠ gw) ∧ Below w0.heap.size w0 w1)
    (hexit : ∀ a' w' v, Has 178 ((7, v) :: base1 bv pb pr cv n gw cw) a' → OwL w0.heap.size w' v (ks ++ half4 ks w4 n 4) → Below w0.heap.size w0 w' → Q (.exit 2) a' w') : Code.wp Tryd.prog (.loop (encLoop 1)) Q a w1 := by
  refine wp_loop (fun a' w' => ∃ (k : Nat) (v : Value), k ≤ 4 ∧ Has 178 ((11, .int .i64 (k : Int)) :: (7, v) :: base1 bv pb pr cv n gw cw) a' ∧ OwL w0.heap.size w' v (ks ++ half4 ks w4 n k) ∧ BA w' gw 0 w4 ∧ (∀ g, v.ownBlock = some g → g ≠ gw) ∧ Below w0.heap.size w0 w') (fun a' _ => 4 - (intOf (a'.tmps.getD 11 undef)).toNat) ?_ ?_
  · exact ⟨0, v, Nat.zero_le _, h, by rw [show half4 ks w4 n 0 = [] from rfl, List.append_nil]; exact hR.1, hR.2⟩
  clear h a hR v
  rintro a w ⟨k, v, hk, h, O, A, hne, bel⟩
  have hm : a.tmps.getD 11 undef = .int .i64 (k : Int) := h.val 11 _ rfl
  generalize a.tmps.getD 11 undef = x at hm ⊢
  subst hm
  conv => arg 2; whnf
  refine wp_seq (wp_seq ?_)
  refine wp_region_seq ?_
  by_cases hlt : k < 4
  · have l0 : (k : Int) < 4 := by omega
    have l1 : (0 : Int) ≤ (k : Int) := by omega
    refine seqM h 66 11 rfl rfl rfl rfl rfl ?_
    clear h
    intro a h
    refine seqH h 67 (Value.bool true) rfl rfl (Or.inl ⟨rfl, fun w' hw' => by
        subst hw'
        have e66 : a.eval (.tmp 66) = _ := h.ev 66 rfl
        simp only [execOp, e66]
        go_simp⟩) ?_
    clear h
    intro a h
    refine wpSeq_nil ?_
    show Code.wp _ _ _ _ _
    refine wp_cond (t := true) (h.ev 67 rfl) ?_
    refine wp_skip ?_
    show Code.wp _ _ _ _ _
    refine wp_seq (wp_block ?_)
    have ll : (ks ++ half4 ks w4 n k).length = n + k := by rw [List.length_append, half4_length, hn]
    rcases O.row with ⟨_, hx⟩ | ⟨gk, ck, rfl, hgk, hck, _, Ak, _⟩
    · rw [hx] at ll
      simp at ll
      omega
    have hgw : gk ≠ gw := hne gk rfl
    rw [ll] at h hck hne
    obtain ⟨m, hm⟩ : ∃ m, m = n - 16 + k := ⟨_, rfl⟩
    have em : (ks ++ half4 ks w4 n k).getD m 0 = ks.getD m 0 := by
      rw [List.getD_eq_getElem?_getD, List.getElem?_append_left (by omega), ← List.getD_eq_getElem?_getD]
    have hs := half4_succ ks w4 n k
    rw [← hm] at hs
    have lK := getD_lt bks m
    have lW := getD_lt b4 k
    have ex := u8_xor_nat (ks.getD m 0) (w4.getD k 0) lK lW
    have cm : ∀ w', BA w' gk 0 (ks ++ half4 ks w4 n k) ∧ BA w' gw 0 w4 → w'.cell? ⟨gk, m, none⟩ = some (.int .u8 ((ks.getD m 0 : Nat) : Int)) := fun w' hw => by
      rw [hw.1.at0 m (by omega), em]
    have cw' : ∀ w', BA w' gk 0 (ks ++ half4 ks w4 n k) ∧ BA w' gw 0 w4 → w'.cell? ⟨gw, k, none⟩ = some (.int .u8 ((w4.getD k 0 : Nat) : Int)) := fun w' hw => hw.2.at0 k (by omega)
    have CM := Lib.hid cm
    have CW := Lib.hid cw'
    clear cm cw' em
    obtain ⟨X, hX⟩ : ∃ X, X = ks.getD m 0 ^^^ w4.getD k 0 := ⟨_, rfl⟩
    rw [← hX] at ex hs
    generalize ks.getD m 0 = K at *
    generalize w4.getD k 0 = D at *
    have HS := Lib.hid hs
    clear hX hs
    have s1 : IntKind.i64.wrap ((n : Int) - 16) = (n : Int) - 16 := by rw [IntKind.wrap_i64]; omega
    have s2 : IntKind.i64.wrap ((n : Int) - 16 + (k : Int)) = (m : Int) := by rw [IntKind.wrap_i64]; omega
    have s3 : (m : Int) < (n : Int) + (k : Int) := by omega
    have s4 : (0 : Int) ≤ (m : Int) := by omega
    have s5 : ¬ ((n : Int) + (k : Int) ≤ (m : Int)) := by omega
    refine wp_region_Z (S := fun w' => BA w' gk 0 (ks ++ half4 ks w4 n k) ∧ BA w' gw 0 w4) 15 (by kernel_rfl) ?_
    have hS : BA w.drew gk 0 (ks ++ half4 ks w4 n k) ∧ BA w.drew gw 0 w4 := ⟨Ak.drew, A.drew⟩
    replace O := O.below (below_drew (Below.refl _ _))
    replace A := A.drew
    replace bel := below_drew bel
    clear Ak
    generalize w.drew = V at hS O A bel ⊢
    clear hm
    refine zanyM 0 h 70 7 rfl rfl rfl rfl rfl rfl (by kernel_rfl) (by kernel_rfl) (by kernel_rfl) (by kernel_rfl) (by kernel_rfl) (fun c a w h => hQ _ _ _ _ _ h) hS ?_
    clear h
    intro a h
    refine zanyM 1 h 71 7 rfl rfl rfl rfl rfl rfl (by kernel_rfl) (by kernel_rfl) (by kernel_rfl) (by kernel_rfl) (by kernel_rfl) (fun c a w h => hQ _ _ _ _ _ h) hS ?_
    clear h
    intro a h
    refine zanyM 2 h 72 9 rfl rfl rfl rfl rfl rfl (by kernel_rfl) (by kernel_rfl) (by kernel_rfl) (by kernel_rfl) (by kernel_rfl) (fun c a w h => hQ _ _ _ _ _ h) hS ?_
    clear h
    intro a h
    refine zanyH 3 h 73 (Value.int .i64 ((n : Int) - 16)) rfl rfl rfl (by kernel_rfl) (by kernel_rfl) (by kernel_rfl) (by kernel_rfl) (by kernel_rfl) (fun c a w h => hQ _ _ _ _ _ h) (Or.inl ⟨rfl, fun w' hw' => by
        have e72 : a.eval (.tmp 72) = _ := h.ev 72 rfl
        simp only [execOp, e72]
        go_simp⟩) hS ?_
    clear h
    intro a h
    refine zanyM 4 h 74 11 rfl rfl rfl rfl rfl rfl (by kernel_rfl) (by kernel_rfl) (by kernel_rfl) (by kernel_rfl) (by kernel_rfl) (fun c a w h => hQ _ _ _ _ _ h) hS ?_
    clear h
    intro a h
    refine zanyH 5 h 75 (Value.int .i64 ((m : Int))) rfl rfl rfl (by kernel_rfl) (by kernel_rfl) (by kernel_rfl) (by kernel_rfl) (by kernel_rfl) (fun c a w h => hQ _ _ _ _ _ h) (Or.inl ⟨rfl, fun w' hw' => by
        have e73 : a.eval (.tmp 73) = _ := h.ev 73 rfl
        have e74 : a.eval (.tmp 74) = _ := h.ev 74 rfl
        simp only [execOp, e73, e74]
        go_simp⟩) hS ?_
    clear h
    intro a h
    refine zanyH 6 h 76 (Value.pointer (some ⟨gk, m, none⟩)) rfl rfl rfl (by kernel_rfl) (by kernel_rfl) (by kernel_rfl) (by kernel_rfl) (by kernel_rfl) (fun c a w h => hQ _ _ _ _ _ h) (Or.inl ⟨rfl, fun w' hw' => by
        have e71 : a.eval (.tmp 71) = _ := h.ev 71 rfl
        have e75 : a.eval (.tmp 75) = _ := h.ev 75 rfl
        simp only [execOp, e71, e75]
        go_simp⟩) hS ?_
    clear h
    intro a h
    refine zanyH 7 h 77 (Value.int .u8 ((K : Nat) : Int)) rfl rfl rfl (by kernel_rfl) (by kernel_rfl) (by kernel_rfl) (by kernel_rfl) (by kernel_rfl) (fun c a w h => hQ _ _ _ _ _ h) (Or.inl ⟨rfl, fun w' hw' => by
        have e76 : a.eval (.tmp 76) = _ := h.ev 76 rfl
        have c1 := CM.out w' hw'
        simp only [execOp, e76]
        go_simp⟩) hS ?_
    clear h
    intro a h
    refine zanyM 8 h 78 10 rfl rfl rfl rfl rfl rfl (by kernel_rfl) (by kernel_rfl) (by kernel_rfl) (by kernel_rfl) (by kernel_rfl) (fun c a w h => hQ _ _ _ _ _ h) hS ?_
    clear h
    intro a h
    refine zanyM 9 h 79 11 rfl rfl rfl rfl rfl rfl (by kernel_rfl) (by kernel_rfl) (by kernel_rfl) (by kernel_rfl) (by kernel_rfl) (fun c a w h => hQ _ _ _ _ _ h) hS ?_
    clear h
    intro a h
    refine zanyH 10 h 80 (Value.pointer (some ⟨gw, k, none⟩)) rfl rfl rfl (by kernel_rfl) (by kernel_rfl) (by kernel_rfl) (by kernel_rfl) (by kernel_rfl) (fun c a w h => hQ _ _ _ _ _ h) (Or.inl ⟨rfl, fun w' hw' => by
        have e78 : a.eval (.tmp 78) = _ := h.ev 78 rfl
        have e79 : a.eval (.tmp 79) = _ := h.ev 79 rfl
        simp only [execOp, e78, e79]
        go_simp⟩) hS ?_
    clear h
    intro a h
    refine zanyH 11 h 81 (Value.int .u8 ((D : Nat) : Int)) rfl rfl rfl (by kernel_rfl) (by kernel_rfl) (by kernel_rfl) (by kernel_rfl) (by kernel_rfl) (fun c a w h => hQ _ _ _ _ _ h) (Or.inl ⟨rfl, fun w' hw' => by
        have e80 : a.eval (.tmp 80) = _ := h.ev 80 rfl
        have c1 := CW.out w' hw'
        simp only [execOp, e80]
        go_simp⟩) hS ?_
    clear h
    intro a h
    refine zanyH 12 h 82 (Value.int .u8 ((X : Nat) : Int)) rfl rfl rfl (by kernel_rfl) (by kernel_rfl) (by kernel_rfl) (by kernel_rfl) (by kernel_rfl) (fun c a w h => hQ _ _ _ _ _ h) (Or.inl ⟨rfl, fun w' hw' => by
        have e77 : a.eval (.tmp 77) = _ := h.ev 77 rfl
        have e81 : a.eval (.tmp 81) = _ := h.ev 81 rfl
        simp only [execOp, e77, e81]
        go_simp⟩) hS ?_
    clear h
    intro a h
    obtain ⟨v8, w8, r8, O8, B8, A8, N8⟩ := append_keep w0 V 24 (.slice (some ⟨gk, 0, none⟩) (n + k) ck) _ w4 X gw (by rw [← ll]; exact O) (by rw [ll]; omega) bel A hne
    refine zanyW 13 h 83 rfl rfl rfl rfl (by kernel_rfl) (fun u w' => u = .slice (some ⟨V.heap.size, 0, none⟩) 1 1 ∧ w' = V.alloc (.cells #[.int .u8 ((X : Nat) : Int)] 5)) (fun K hK => by
      have f := h.at_ 82 rfl
      unfold Oper.wp execOp
      go_simp
      exact hK _ _ ⟨rfl, rfl⟩) ?_
    rintro _ _ ⟨rfl, rfl⟩
    have b7 : Below V.heap.size V (V.alloc (.cells #[.int .u8 ((X : Nat) : Int)] 5)) := (Below.refl _ _).alloc (Nat.le_refl _) _
    refine ⟨⟨hS.1.below b7, hS.2.below b7⟩, ?_⟩
    clear h
    intro a h
    have A9 := append_old w0.heap.size _ 24 gk ck X V.heap.size 0 1 _ (O.below b7) (byte_row V X) (by rw [ll]; omega) v8 w8 (by rw [ll]; exact r8) O8
    refine zanyW 14 h 84 rfl rfl rfl rfl (by kernel_rfl) (fun u w' => u = v8 ∧ w' = w8) (fun K hK => wp_append_run _ _ _ _ rfl _ _ (h.ev 70 rfl) (h.ev 83 rfl) _ _ r8 (hK _ _ ⟨rfl, rfl⟩)) ?_
    rintro _ _ ⟨rfl, rfl⟩
    refine ⟨⟨A9, A8⟩, ?_⟩
    clear h
    intro a h
    refine zendA 15 h 7 84 rfl rfl rfl rfl rfl rfl (by kernel_rfl) (by kernel_rfl) (by kernel_rfl) ?_
    clear h
    intro a h
    clear hS O A bel r8 b7 A9
    rw [List.append_assoc, HS.out] at O8
    show Code.wp _ _ _ _ _
    refine wp_region_seq ?_
    have ew : IntKind.i64.wrap ((k : Int) + 1) = (k : Int) + 1 := by rw [IntKind.wrap_i64]; omega
    refine seqM h 68 11 rfl rfl rfl rfl rfl ?_
    clear h
    intro a h
    refine seqH h 69 (Value.int .i64 ((k : Int) + 1)) rfl rfl (Or.inl ⟨rfl, fun w' hw' => by
        subst hw'
        have e68 : a.eval (.tmp 68) = _ := h.ev 68 rfl
        simp only [execOp, e68]
        go_simp⟩) ?_
    clear h
    intro a h
    refine seqA h 11 69 rfl rfl rfl rfl rfl ?_
    clear h
    intro a h
    refine wpSeq_nil ?_
    refine ⟨⟨k + 1, _, by omega, h.trim _ ?_, O8, A8, N8, B8⟩, ?_⟩
    · intro p hp
      simp only [base1, List.mem_cons, List.not_mem_nil, or_false] at hp
      rcases hp with rfl | rfl | rfl | rfl | rfl | rfl | rfl | rfl <;> rfl
    · have hm2 : a.tmps.getD 11 undef = .int .i64 ((k + 1 : Nat) : Int) := h.val 11 _ rfl
      rw [hm2]
      simp only [intOf]
      omega
  · have l0 : ¬ ((k : Int) < 4) := by omega
    obtain rfl : k = 4 := by omega
    refine seqM h 66 11 rfl rfl rfl rfl rfl ?_
    clear h
    intro a h
    refine seqH h 67 (Value.bool false) rfl rfl (Or.inl ⟨rfl, fun w' hw' => by
        subst hw'
        have e66 : a.eval (.tmp 66) = _ := h.ev 66 rfl
        simp only [execOp, e66]
        go_simp⟩) ?_
    clear h
    intro a h
    refine wpSeq_nil ?_
    show Code.wp _ _ _ _ _
    refine wp_cond (t := false) (h.ev 67 rfl) ?_
    refine wp_exit ?_
    refine hexit _ _ _ (h.trim _ ?_) O bel
    · intro p hp
      simp only [base1, List.mem_cons, List.not_mem_nil, or_false] at hp
      rcases hp with rfl | rfl | rfl | rfl | rfl | rfl | rfl <;> rfl
end Go.Proofs.YtpihgljdbpnehaaDoor
namespace Go.Proofs.YtpihgljdbpnehaaDoor
open Go
/-- The table, written out; and the one that goes back. -/
def boxT : List Nat := [99, 124, 119, 123, 242, 107, 111, 197, 48, 1, 103, 43, 254, 215, 171, 118, 202, 130, 201, 125, 250, 89, 71, 240, 173, 212, 162, 175, 156, 164, 114, 192, 183, 253, 147, 38, 54, 63, 247, 204, 52, 165, 229, 241, 113, 216, 49, 21, 4, 199, 35, 195, 24, 150, 5, 154, 7, 18, 128, 226, 235, 39, 178, 117, 9, 131, 44, 26, 27, 110, 90, 160, 82, 59, 214, 179, 41, 227, 47, 132, 83, 209, 0, 237, 32, 252, 177, 91, 106, 203, 190, 57, 74, 76, 88, 207, 208, 239, 170, 251, 67, 77, 51, 133, 69, 249, 2, 127, 80, 60, 159, 168, 81, 163, 64, 143, 146, 157, 56, 245, 188, 182, 218, 33, 16, 255, 243, 210, 205, 12, 19, 236, 95, 151, 68, 23, 196, 167, 126, 61, 100, 93, 25, 115, 96, 129, 79, 220, 34, 42, 144, 136, 70, 238, 184, 20, 222, 94, 11, 219, 224, 50, 58, 10, 73, 6, 36, 92, 194, 211, 172, 98, 145, 149, 228, 121, 231, 200, 55, 109, 141, 213, 78, 169, 108, 86, 244, 234, 101, 122, 174, 8, 186, 120, 37, 46, 28, 166, 180, 198, 232, 221, 116, 31, 75, 189, 139, 138, 112, 62, 181, 102, 72, 3, 246, 14, 97, 53, 87, 185, 134, 193, 29, 158, 225, 248, 152, 17, 105, 217, 142, 148, 155, 30, 135, 233, 206, 85, 40, 223, 140, 161, 137, 13, 191, 230, 66, 104, 65, 153, 45, 15, 176, 84, 187, 22]
theorem box_is : boxL = boxT := by decide +kernel
theorem ca : ∀ x : Fin 256, gm (gm x.val 2) 14 ^^^ (gm x.val 11 ^^^ (gm x.val 13 ^^^ gm (gm x.val 3) 9)) = x.val := by decide +kernel
theorem cb : ∀ x : Fin 256, gm (gm x.val 3) 14 ^^^ (gm (gm x.val 2) 11 ^^^ (gm x.val 13 ^^^ gm x.val 9)) = 0 := by decide +kernel
theorem cd : ∀ x : Fin 256, gm x.val 14 ^^^ (gm x.val 11 ^^^ (gm (gm x.val 3) 13 ^^^ gm (gm x.val 2) 9)) = 0 := by decide +kernel
theorem shiftB_lt (b : List Nat) (i : Nat) : shiftB boxL b i < 256 := getD_lt boxL_bytes _
theorem range_map_get (f : Nat → Nat) (n i : Nat) (h : i < n) : ((List.range n).map f).getD i 0 = f i := by
  rw [List.getD_eq_getElem?_getD, List.getElem?_map, List.getElem?_range h]
  rfl
theorem round_bytes {ks : List Nat} (hk : ∀ x ∈ ks, x < 256) (b : List Nat) (r : Nat) : ∀ x ∈ roundB boxL ks b r, x < 256 := fun x hx => by
  unfold roundB at hx
  obtain ⟨i, _, rfl⟩ := List.mem_map.1 hx
  refine xor_256 ?_ (getD_lt hk _)
  split
  · unfold mixB
    exact xor_256 (xor_256 (xor_256 (gm_lt _ (shiftB_lt b _)) (gm_lt _ (shiftB_lt b _))) (shiftB_lt b _)) (shiftB_lt b _)
  · exact shiftB_lt b _
theorem blockF_bytes {ks b : List Nat} (hk : ∀ x ∈ ks, x < 256) (hb : ∀ x ∈ b, x < 256) : ∀ r, ∀ x ∈ blockF boxL ks b r, x < 256
  | 0 => fun x hx => by
    unfold blockF at hx
    obtain ⟨i, _, rfl⟩ := List.mem_map.1 hx
    exact xor_256 (getD_lt hb _) (getD_lt hk _)
  | _ + 1 => round_bytes hk _ _
end Go.Proofs.YtpihgljdbpnehaaDoor
