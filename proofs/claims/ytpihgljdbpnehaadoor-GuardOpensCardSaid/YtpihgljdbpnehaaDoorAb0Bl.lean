/- Unlike blocks become unlike ones: Sub, the mixing, the moving and the joining go back. The reference's Encrypt: the rounds' keys (loop 0) (printed by gena9.py). -/
import Derived.Test.YtpihgljdbpnehaaDoorAa0Bb
import Derived.Test.YtpihgljdbpnehaaDoorSp0Bk
namespace Go.Proofs.YtpihgljdbpnehaaDoor
open Go
/-- The table, written out; and the one that goes back. -/
def boxT : List Nat := [99, 124, 119, 123, 242, 107, 111, 197, 48, 1, 103, 43, 254, 215, 171, 118, 202, 130, 201, 125, 250, 89, 71, 240, 173, 212, 162, 175, 156, 164, 114, 192, 183, 253, 147, 38, 54, 63, 247, 204, 52, 165, 229, 241, 113, 216, 49, 21, 4, 199, 35, 195, 24, 150, 5, 154, 7, 18, 128, 226, 235, 39, 178, 117, 9, 131, 44, 26, 27, 110, 90, 160, 82, 59, 214, 179, 41, 227, 47, 132, 83, 209, 0, 237, 32, 252, 177, 91, 106, 203, 190, 57, 74, 76, 88, 207, 208, 239, 170, 251, 67, 77, 51, 133, 69, 249, 2, 127, 80, 60, 159, 168, 81, 163, 64, 143, 146, 157, 56, 245, 188, 182, 218, 33, 16, 255, 243, 210, 205, 12, 19, 236, 95, 151, 68, 23, 196, 167, 126, 61, 100, 93, 25, 115, 96, 129, 79, 220, 34, 42, 144, 136, 70, 238, 184, 20, 222, 94, 11, 219, 224, 50, 58, 10, 73, 6, 36, 92, 194, 211, 172, 98, 145, 149, 228, 121, 231, 200, 55, 109, 141, 213, 78, 169, 108, 86, 244, 234, 101, 122, 174, 8, 186, 120, 37, 46, 28, 166, 180, 198, 232, 221, 116, 31, 75, 189, 139, 138, 112, 62, 181, 102, 72, 3, 246, 14, 97, 53, 87, 185, 134, 193, 29, 158, 225, 248, 152, 17, 105, 217, 142, 148, 155, 30, 135, 233, 206, 85, 40, 223, 140, 161, 137, 13, 191, 230, 66, 104, 65, 153, 45, 15, 176, 84, 187, 22]
theorem box_is : boxL = boxT := by decide +kernel
theorem ca : ∀ x : Fin 256, gm (gm x.val 2) 14 ^^^ (gm x.val 11 ^^^ (gm x.val 13 ^^^ gm (gm x.val 3) 9)) = x.val := by decide +kernel
theorem cb : ∀ x : Fin 256, gm (gm x.val 3) 14 ^^^ (gm (gm x.val 2) 11 ^^^ (gm x.val 13 ^^^ gm x.val 9)) = 0 := by decide +kernel
theorem cd : ∀ x : Fin 256, gm x.val 14 ^^^ (gm x.val 11 ^^^ (gm (gm x.val 3) 13 ^^^ gm (gm x.val 2) 9)) = 0 := by decide +kernel
theorem shiftB_lt (b : List Nat) (i : Nat) : shiftB boxL b i < 256 := getD_lt boxL_bytes _
theorem range_map_get (f : Nat → Nat) (n i : Nat) (h : i < n) : ((List.range n).map f).getD i 0 = f i := by
 rw [List.getD_eq_getElem?_getD, List.getElem?_map, List.getElem?_range h]
 rfl
theorem round_bytes {ks : List Nat} (hk : ∀ x ∈ ks, x < 256) (b : List Nat) (r : Nat) : ∀ x ∈ roundB boxL ks b r, x < 256 := fun x hx => by
 unfold roundB at hx
 obtain ⟨i, _, rfl⟩ := List.mem_map.1 hx
 refine xor_256 ?_ (getD_lt hk _)
 split
 ·
  unfold mixB
  exact xor_256 (xor_256 (xor_256 (gm_lt _ (shiftB_lt b _)) (gm_lt _ (shiftB_lt b _))) (shiftB_lt b _)) (shiftB_lt b _)
 · exact shiftB_lt b _
theorem blockF_bytes {ks b : List Nat} (hk : ∀ x ∈ ks, x < 256) (hb : ∀ x ∈ b, x < 256) : ∀ r, ∀ x ∈ blockF boxL ks b r, x < 256
 | 0 => fun x hx => by
  unfold blockF at hx
  obtain ⟨i, _, rfl⟩ := List.mem_map.1 hx
  exact xor_256 (getD_lt hb _) (getD_lt hk _)
 | _ + 1 => round_bytes hk _ _
end Go.Proofs.YtpihgljdbpnehaaDoor
namespace Go.Proofs.YtpihgljdbpnehaaDoor
open Go.RowKit
theorem getD_drop' (l : List Nat) (m j : Nat) : (l.drop m).getD j 0 = l.getD (m + j) 0 := by
 rw [List.getD_eq_getElem?_getD, List.getElem?_drop, ← List.getD_eq_getElem?_getD]
theorem next_keys (B L W : List Nat) (c i n : Nat) (hn : n = 16 + 4 * i) (hW : ∀ j, j < 4 → W.getD j 0 = kw B L c n j) :
  L ++ half4 L W n 4 = L ++ (List.range 4).map (fun j => L.getD (4 * i + j) 0 ^^^ kw B L c (16 + 4 * i) j) := by
 congr 1
 unfold half4
 refine List.map_congr_left fun j hj => ?_
 rw [hW j (List.mem_range.1 hj), ← hn, show n - 16 + j = 4 * i + j by omega]
theorem kw_plain (B L : List Nat) (c n : Nat) (_h4 : 4 ≤ n) (h : ¬ n % 16 = 0) (j : Nat) : (L.drop (n - 4)).getD j 0 = kw B L c n j := by
 unfold kw
 rw [if_neg h, getD_drop']
theorem kw_box (B L : List Nat) (c n x0 b2 b3 b0 : Nat) (h4 : 16 ≤ n) (h : n % 16 = 0) (e0 : x0 = B.getD (L.getD (n - 4 + 1) 0) 0 ^^^ c) (e1 : b2 = B.getD (L.getD (n - 4 + 2) 0) 0) (e2 : b3 = B.getD (L.getD (n - 4 + 3) 0) 0) (e3 : b0 = B.getD (L.getD (n - 4) 0) 0) (j : Nat) (hj : j < 4) :
  [x0, b2, b3, b0].getD j 0 = kw B L c n j := by
 unfold kw
 rw [if_pos h]
 match j, hj with
 | 0, _ => rw [if_pos rfl, show n - 3 = n - 4 + 1 by omega]; exact e0
 | 1, _ => rw [if_neg (by decide)]; exact e1
 | 2, _ => rw [if_neg (by decide)]; exact e2
 | 3, _ => rw [if_neg (by decide)]; exact e3
def lenW : Value → Nat
 | .slice _ n _ => n
 | _ => 0
def base0 (gB oB cB : Nat) (pb pr : Value) : List (Nat × Value) := [(0, .slice (some ⟨gB, oB, none⟩) 256 cB), (5, pb), (6, pr)]
set_option maxHeartbeats 4000000 in
set_option maxRecDepth 100000 in
theorem eloop0 (w0 : World) (gB oB cB : Nat) (pb pr : Value) (kk : List Nat) (lkk : kk.length = 16) (bkk : ∀ x ∈ kk, x < 256) (X0 : BA w0 gB oB boxL)
  {Q : Exit → Act → World → Prop} (hQ : ∀ c a d v w, Q (.panic c) (Act.put a d v) w → Q (.panic c) a w) (a : Act) (v : Value) (h : Has 178 ((7, v) :: (8, .int .i64 1) :: base0 gB oB cB pb pr) a) (w1 : World) (hR : OwL w0.heap.size w1 v kk ∧ Below w0.heap.size w0 w1)
  (hexit : ∀ a' w' v, Has 178 ((7, v) :: base0 gB oB cB pb pr) a' → OwL w0.heap.size w' v (keysL boxL kk) → Below w0.heap.size w0 w' → Q (.exit 0) a' w') : Code.wp Tryd.prog (.loop (encLoop 0)) Q a w1 := by
 refine wp_loop (fun a' w' => ∃ (i : Nat) (v : Value), i ≤ 40 ∧ Has 178 ((7, v) :: (8, .int .i64 (((keysF boxL kk i).2 : Nat) : Int)) :: base0 gB oB cB pb pr) a' ∧ OwL w0.heap.size w' v (keysF boxL kk i).1 ∧ Below w0.heap.size w0 w') (fun a' _ => 200 - lenW (a'.tmps.getD 7 undef)) ?_ ?_
 · exact ⟨0, v, Nat.zero_le _, h, hR⟩
 clear h a hR v
 rintro a w ⟨i, v, hi, h, O, bel⟩
 have hm : a.tmps.getD 7 undef = v := h.val 7 _ rfl
 generalize a.tmps.getD 7 undef = x at hm ⊢
 subst hm
 have lL := keysF_length boxL kk lkk i
 have bL := keysF_bytes boxL_bytes bkk i
 have lc := keysF_c boxL kk i
 have n1 : (keysF boxL kk (i + 1)).1 = (keysF boxL kk i).1 ++ (List.range 4).map (fun j => (keysF boxL kk i).1.getD (4 * i + j) 0 ^^^ kw boxL (keysF boxL kk i).1 (keysF boxL kk i).2 (16 + 4 * i) j) := rfl
 have n2 : (keysF boxL kk (i + 1)).2 = kc (keysF boxL kk i).2 (16 + 4 * i) := rfl
 have hlast : i = 40 → keysL boxL kk = (keysF boxL kk i).1 := fun e => by rw [e]; rfl
 generalize (keysF boxL kk i).1 = L at *
 generalize (keysF boxL kk i).2 = c at *
 obtain ⟨n, hn⟩ : ∃ n, n = 16 + 4 * i := ⟨_, rfl⟩
 rw [← hn] at lL n2
 have n16 : 16 ≤ n := by omega
 have hni : i < 40 → n ≤ 172 := by omega
 have hno : ¬ i < 40 → n = 176 := by omega
 have HN := Lib.hid hn
 have HI := Lib.hid hni
 have HO := Lib.hid hno
 clear hn hni hno
 rcases O.row with ⟨_, hx⟩ | ⟨gk, ck, rfl, hgk, hck, _, Ak, _⟩
 ·
  rw [hx] at lL
  simp at lL
  omega
 rw [lL] at h hck ⊢
 conv => arg 2; whnf
 refine wp_seq (wp_seq ?_)
 refine wp_region_seq ?_
 by_cases hlt : i < 40
 ·
  have n172 := HI.out hlt
  have l0 : (n : Int) < 176 := by omega
  clear HI HO
  refine seqM h 22 7 rfl rfl rfl rfl rfl ?_
  clear h
  intro a h
  refine seqH h 23 (Value.int .i64 ((n : Int))) rfl rfl (Or.inl ⟨rfl, fun w' hw' => by
    subst hw'
    have e22 : a.eval (.tmp 22) = _ := h.ev 22 rfl
    have f22 := h.at_ 22 rfl
    simp only [execOp]
    go_simp⟩) ?_
  clear h
  intro a h
  refine seqH h 24 (Value.bool true) rfl rfl (Or.inl ⟨rfl, fun w' hw' => by
    subst hw'
    have e23 : a.eval (.tmp 23) = _ := h.ev 23 rfl
    simp only [execOp, e23]
    go_simp⟩) ?_
  clear h
  intro a h
  refine wpSeq_nil ?_
  show Code.wp _ _ _ _ _
  refine wp_cond (t := true) (h.ev 24 rfl) ?_
  refine wp_skip ?_
  show Code.wp _ _ _ _ _
  refine wp_block (wp_seq ?_)
  refine wp_region_seq ?_
  refine seqM h 25 7 rfl rfl rfl rfl rfl ?_
  clear h
  intro a h
  refine seqH h 26 (Value.int .i64 ((n : Int))) rfl rfl (Or.inl ⟨rfl, fun w' hw' => by
    subst hw'
    have e25 : a.eval (.tmp 25) = _ := h.ev 25 rfl
    have f25 := h.at_ 25 rfl
    simp only [execOp]
    go_simp⟩) ?_
  clear h
  intro a h
  refine seqA h 9 26 rfl rfl rfl rfl rfl ?_
  clear h
  intro a h
  refine wpSeq_nil ?_
  show Code.wp _ _ _ _ _
  refine wp_seq ?_
  refine wp_region_seq ?_
  obtain ⟨m4, hm4⟩ : ∃ m, m = n - 4 := ⟨_, rfl⟩
  have s1 : IntKind.i64.wrap ((n : Int) - 4) = (m4 : Int) := by rw [IntKind.wrap_i64]; omega
  have HM4 := Lib.hid hm4
  have m4n : m4 ≤ n := by omega
  have m44 : n - m4 = 4 := by omega
  clear hm4
  have gkl := Ak.blk
  have O0 := ow_none w.heap.size w (Nat.le_refl _)
  have B0 : Below w.heap.size w _ := (Below.refl _ _).alloc (Nat.le_refl _) (.cells #[] 5)
  have K1 : SB w (.slice (some ⟨gk, 0, none⟩) n ck) L := by rw [← lL]; exact O.sb
  have K2 := (K1.below B0).tail m4 m4n
  obtain ⟨v5, w5, r5, O5, g5, _⟩ := append_sb w.heap.size _ 24 _ _ [] (L.drop m4) O0 K2 (by rw [List.length_drop]; simp; omega) B0.size
  have b5 : Below w.heap.size w w5 := below_grown' B0 g5 (fun j hj => (O0.lt j hj).1) B0.size
  rw [List.nil_append] at O5
  have lD : (L.drop m4).length = 4 := by rw [List.length_drop, lL]; exact m44
  rcases O5.row with ⟨_, hx⟩ | ⟨gw, cw, rfl, hgw, hcw, _, Aw, _⟩
  ·
   rw [hx] at lD
   cases lD
  rw [lD] at hcw r5
  refine seqW h 27 (.slice (some ⟨w.heap.size, 0, none⟩) 0 0) (w.alloc (.cells #[] 5)) rfl rfl rfl (fun K hK => wp_build_run _ rfl _ _ (run_buildSlice_none _) hK) ?_
  clear h
  intro a h
  refine seqM h 28 7 rfl rfl rfl rfl rfl ?_
  clear h
  intro a h
  refine seqM h 29 9 rfl rfl rfl rfl rfl ?_
  clear h
  intro a h
  refine seqH h 30 (Value.int .i64 ((m4 : Int))) rfl rfl (Or.inl ⟨rfl, fun w' hw' => by
    subst hw'
    have e29 : a.eval (.tmp 29) = _ := h.ev 29 rfl
    simp only [execOp, e29]
    go_simp⟩) ?_
  clear h
  intro a h
  refine seqH h 31 (.slice (tailP (some ⟨gk, 0, none⟩) ck m4) (n - m4) (ck - m4)) rfl rfl (yieldsIf_tail rfl _ _ rfl _ n ck m4 (h.ev 28 rfl) (h.ev 30 rfl) (by omega) (by omega)) ?_
  clear h
  intro a h
  refine seqW h 32 (.slice (some ⟨gw, 0, none⟩) 4 cw) w5 rfl rfl rfl (fun K hK => wp_append_run _ _ _ _ rfl _ _ (h.ev 27 rfl) (h.ev 31 rfl) _ _ r5 hK) ?_
  clear h
  intro a h
  refine seqA h 10 32 rfl rfl rfl rfl rfl ?_
  clear h
  intro a h
  have O6 : OwL w0.heap.size w5 (.slice (some ⟨gk, 0, none⟩) n ck) L := by rw [← lL]; exact O.below b5
  have bel6 := bel.trans (b5.mono bel.size)
  have X6 := X0.below bel6
  have bW : ∀ x ∈ L.drop m4, x < 256 := fun x hx => bL x (List.mem_of_mem_drop hx)
  have hne : gk ≠ gw := by omega
  clear O0 B0 K1 K2 r5 O5 g5 b5 Ak O bel
  refine wpSeq_nil ?_
  show Code.wp _ _ _ _ _
  refine wp_seq (wp_seq ?_)
  refine wp_region_seq ?_
  have t1 : (n : Int).tmod 16 = (n : Int) % 16 := rfl
  have N1 := Lib.hid n1
  have N2 := Lib.hid n2
  clear n1 n2
  by_cases h16 : n % 16 = 0
  ·
   have r0 : (n : Int) % 16 = 0 := by omega
   refine seqM h 33 9 rfl rfl rfl rfl rfl ?_
   clear h
   intro a h
   refine seqH h 34 (Value.int .i64 ((n : Int) % 16)) rfl rfl (Or.inl ⟨rfl, fun w' hw' => by
     subst hw'
     have e33 : a.eval (.tmp 33) = _ := h.ev 33 rfl
     simp only [execOp, e33]
     go_simp⟩) ?_
   clear h
   intro a h
   refine seqH h 35 (Value.bool true) rfl rfl (Or.inl ⟨rfl, fun w' hw' => by
     subst hw'
     have e34 : a.eval (.tmp 34) = _ := h.ev 34 rfl
     simp only [execOp, e34]
     go_simp⟩) ?_
   clear h
   intro a h
   refine wpSeq_nil ?_
   show Code.wp _ _ _ _ _
   refine wp_cond (t := true) (h.ev 35 rfl) ?_
   show Code.wp _ _ _ _ _
   refine wp_seq ?_
   have d0 := lD
   have e1 := getD_drop' L m4 1
   have e2 := getD_drop' L m4 2
   have e3 := getD_drop' L m4 3
   have e0 := getD_drop' L m4 0
   rw [Nat.add_zero] at e0
   have a0 := getD_lt bW 0
   have a1 := getD_lt bW 1
   have a2 := getD_lt bW 2
   have a3 := getD_lt bW 3
   obtain ⟨A0, hA0⟩ : ∃ x, x = (L.drop m4).getD 0 0 := ⟨_, rfl⟩
   obtain ⟨A1, hA1⟩ : ∃ x, x = (L.drop m4).getD 1 0 := ⟨_, rfl⟩
   obtain ⟨A2, hA2⟩ : ∃ x, x = (L.drop m4).getD 2 0 := ⟨_, rfl⟩
   obtain ⟨A3, hA3⟩ : ∃ x, x = (L.drop m4).getD 3 0 := ⟨_, rfl⟩
   rw [← hA0] at a0 e0
   rw [← hA1] at a1 e1
   rw [← hA2] at a2 e2
   rw [← hA3] at a3 e3
   obtain ⟨C0, hC0⟩ : ∃ x, x = boxL.getD A0 0 := ⟨_, rfl⟩
   obtain ⟨C1, hC1⟩ : ∃ x, x = boxL.getD A1 0 := ⟨_, rfl⟩
   obtain ⟨C2, hC2⟩ : ∃ x, x = boxL.getD A2 0 := ⟨_, rfl⟩
   obtain ⟨C3, hC3⟩ : ∃ x, x = boxL.getD A3 0 := ⟨_, rfl⟩
   have c0 : C0 < 256 := hC0 ▸ getD_lt boxL_bytes _
   have c1 : C1 < 256 := hC1 ▸ getD_lt boxL_bytes _
   have c2 : C2 < 256 := hC2 ▸ getD_lt boxL_bytes _
   have c3 : C3 < 256 := hC3 ▸ getD_lt boxL_bytes _
   have ex := u8_xor_nat C1 c c1 lc
   obtain ⟨X, hX⟩ : ∃ x, x = C1 ^^^ c := ⟨_, rfl⟩
   rw [← hX] at ex
   have lX : X < 256 := hX ▸ xor_256 c1 lc
   have u0 : ∀ (w' : World), BA w' gw 0 (L.drop m4) → ∀ j, j < 4 → w'.cell? ⟨gw, j, none⟩ = some (.int .u8 (((L.drop m4).getD j 0 : Nat) : Int)) := fun w' hw j hj => hw.at0 j (by omega)
   have u1 : ∀ (w' : World), BA w' gB oB boxL → ∀ x, x < 256 → w'.cell? ⟨gB, oB + x, none⟩ = some (.int .u8 ((boxL.getD x 0 : Nat) : Int)) := fun w' hw x hx => hw.at_ x (by rw [boxL_length]; exact hx)
   have U0 := Lib.hid (show ∀ w', (fun w' => BA w' gw 0 (L.drop m4) ∧ BA w' gB oB boxL ∧ OwL w0.heap.size w' (.slice (some ⟨gk, 0, none⟩) n ck) L ∧ Below w0.heap.size w0 w') w' → w'.cell? ⟨gw, 0, none⟩ = some (.int .u8 ((A0 : Nat) : Int)) from fun w' hw => by rw [hA0]; exact u0 w' hw.1 0 (by decide))
   have V0 := Lib.hid (show ∀ w', (fun w' => BA w' gw 0 (L.drop m4) ∧ BA w' gB oB boxL ∧ OwL w0.heap.size w' (.slice (some ⟨gk, 0, none⟩) n ck) L ∧ Below w0.heap.size w0 w') w' → w'.cell? ⟨gB, oB + A0, none⟩ = some (.int .u8 ((C0 : Nat) : Int)) from fun w' hw => by rw [hC0]; exact u1 w' hw.2.1 A0 a0)
   have U1 := Lib.hid (show ∀ w', (fun w' => BA w' gw 0 (L.drop m4) ∧ BA w' gB oB boxL ∧ OwL w0.heap.size w' (.slice (some ⟨gk, 0, none⟩) n ck) L ∧ Below w0.heap.size w0 w') w' → w'.cell? ⟨gw, 1, none⟩ = some (.int .u8 ((A1 : Nat) : Int)) from fun w' hw => by rw [hA1]; exact u0 w' hw.1 1 (by decide))
   have V1 := Lib.hid (show ∀ w', (fun w' => BA w' gw 0 (L.drop m4) ∧ BA w' gB oB boxL ∧ OwL w0.heap.size w' (.slice (some ⟨gk, 0, none⟩) n ck) L ∧ Below w0.heap.size w0 w') w' → w'.cell? ⟨gB, oB + A1, none⟩ = some (.int .u8 ((C1 : Nat) : Int)) from fun w' hw => by rw [hC1]; exact u1 w' hw.2.1 A1 a1)
   have U2 := Lib.hid (show ∀ w', (fun w' => BA w' gw 0 (L.drop m4) ∧ BA w' gB oB boxL ∧ OwL w0.heap.size w' (.slice (some ⟨gk, 0, none⟩) n ck) L ∧ Below w0.heap.size w0 w') w' → w'.cell? ⟨gw, 2, none⟩ = some (.int .u8 ((A2 : Nat) : Int)) from fun w' hw => by rw [hA2]; exact u0 w' hw.1 2 (by decide))
   have V2 := Lib.hid (show ∀ w', (fun w' => BA w' gw 0 (L.drop m4) ∧ BA w' gB oB boxL ∧ OwL w0.heap.size w' (.slice (some ⟨gk, 0, none⟩) n ck) L ∧ Below w0.heap.size w0 w') w' → w'.cell? ⟨gB, oB + A2, none⟩ = some (.int .u8 ((C2 : Nat) : Int)) from fun w' hw => by rw [hC2]; exact u1 w' hw.2.1 A2 a2)
   have U3 := Lib.hid (show ∀ w', (fun w' => BA w' gw 0 (L.drop m4) ∧ BA w' gB oB boxL ∧ OwL w0.heap.size w' (.slice (some ⟨gk, 0, none⟩) n ck) L ∧ Below w0.heap.size w0 w') w' → w'.cell? ⟨gw, 3, none⟩ = some (.int .u8 ((A3 : Nat) : Int)) from fun w' hw => by rw [hA3]; exact u0 w' hw.1 3 (by decide))
   have V3 := Lib.hid (show ∀ w', (fun w' => BA w' gw 0 (L.drop m4) ∧ BA w' gB oB boxL ∧ OwL w0.heap.size w' (.slice (some ⟨gk, 0, none⟩) n ck) L ∧ Below w0.heap.size w0 w') w' → w'.cell? ⟨gB, oB + A3, none⟩ = some (.int .u8 ((C3 : Nat) : Int)) from fun w' hw => by rw [hC3]; exact u1 w' hw.2.1 A3 a3)
   have EW := kw_box boxL L c n X C2 C3 C0 (by omega) h16 (by rw [hX, hC1, e1, HM4.out]) (by rw [hC2, e2, HM4.out]) (by rw [hC3, e3, HM4.out]) (by rw [hC0, e0, HM4.out])
   clear hA0 hA1 hA2 hA3 hC0 hC1 hC2 hC3 hX e0 e1 e2 e3 u0 u1
   have i0 : (A0 : Int) < 256 := by omega
   have i1 : (A1 : Int) < 256 := by omega
   have i2 : (A2 : Int) < 256 := by omega
   have i3 : (A3 : Int) < 256 := by omega
   have k0 : (0 : Int) ≤ (A0 : Int) := by omega
   have k1 : (0 : Int) ≤ (A1 : Int) := by omega
   have k2 : (0 : Int) ≤ (A2 : Int) := by omega
   have k3 : (0 : Int) ≤ (A3 : Int) := by omega
   have wc : IntKind.u8.wrap (c : Int) = (c : Int) := by rw [IntKind.wrap_u8]; omega
   refine wp_region_S (S := (fun w' => BA w' gw 0 (L.drop m4) ∧ BA w' gB oB boxL ∧ OwL w0.heap.size w' (.slice (some ⟨gk, 0, none⟩) n ck) L ∧ Below w0.heap.size w0 w')) (by kernel_rfl) ?_
   have hS : (fun w' => BA w' gw 0 (L.drop m4) ∧ BA w' gB oB boxL ∧ OwL w0.heap.size w' (.slice (some ⟨gk, 0, none⟩) n ck) L ∧ Below w0.heap.size w0 w') w5.drew := ⟨Aw.drew, X6.drew, O6.below (below_drew (Below.refl _ _)), below_drew bel6⟩
   clear Aw X6 O6 bel6
   generalize w5.drew = V at hS ⊢
   refine anyM 0 h 36 0 rfl rfl rfl rfl rfl rfl (by kernel_rfl) (by kernel_rfl) (by kernel_rfl) (fun c a w h => hQ _ _ _ _ _ h) hS ?_
   clear h
   intro a h
   refine anyM 1 h 37 10 rfl rfl rfl rfl rfl rfl (by kernel_rfl) (by kernel_rfl) (by kernel_rfl) (fun c a w h => hQ _ _ _ _ _ h) hS ?_
   clear h
   intro a h
   refine anyH 2 h 38 (Value.pointer (some ⟨gw, 1, none⟩)) rfl rfl rfl (by kernel_rfl) (by kernel_rfl) (by kernel_rfl) (fun c a w h => hQ _ _ _ _ _ h) (Or.inl ⟨rfl, fun w' hw' => by
     have e37 : a.eval (.tmp 37) = _ := h.ev 37 rfl
     simp only [execOp, e37]
     go_simp⟩) hS ?_
   clear h
   intro a h
   refine anyH 3 h 39 (Value.int .u8 ((A1 : Nat) : Int)) rfl rfl rfl (by kernel_rfl) (by kernel_rfl) (by kernel_rfl) (fun c a w h => hQ _ _ _ _ _ h) (Or.inl ⟨rfl, fun w' hw' => by
     have e38 : a.eval (.tmp 38) = _ := h.ev 38 rfl
     have c9 := U1.out w' hw'
     simp only [execOp, e38]
     go_simp⟩) hS ?_
   clear h
   intro a h
   refine anyH 4 h 40 (Value.pointer (some ⟨gB, oB + A1, none⟩)) rfl rfl rfl (by kernel_rfl) (by kernel_rfl) (by kernel_rfl) (fun c a w h => hQ _ _ _ _ _ h) (Or.inl ⟨rfl, fun w' hw' => by
     have e36 : a.eval (.tmp 36) = _ := h.ev 36 rfl
     have e39 : a.eval (.tmp 39) = _ := h.ev 39 rfl
     simp only [execOp, e36, e39]
     go_simp⟩) hS ?_
   clear h
   intro a h
   refine anyH 5 h 41 (Value.int .u8 ((C1 : Nat) : Int)) rfl rfl rfl (by kernel_rfl) (by kernel_rfl) (by kernel_rfl) (fun c a w h => hQ _ _ _ _ _ h) (Or.inl ⟨rfl, fun w' hw' => by
     have e40 : a.eval (.tmp 40) = _ := h.ev 40 rfl
     have c9 := V1.out w' hw'
     simp only [execOp, e40]
     go_simp⟩) hS ?_
   clear h
   intro a h
   refine anyM 6 h 42 8 rfl rfl rfl rfl rfl rfl (by kernel_rfl) (by kernel_rfl) (by kernel_rfl) (fun c a w h => hQ _ _ _ _ _ h) hS ?_
   clear h
   intro a h
   refine anyH 7 h 43 (Value.int .u8 ((c : Nat) : Int)) rfl rfl rfl (by kernel_rfl) (by kernel_rfl) (by kernel_rfl) (fun c a w h => hQ _ _ _ _ _ h) (Or.inl ⟨rfl, fun w' hw' => by
     have e42 : a.eval (.tmp 42) = _ := h.ev 42 rfl
     simp only [execOp, e42]
     go_simp⟩) hS ?_
   clear h
   intro a h
   refine anyH 8 h 44 (Value.int .u8 ((X : Nat) : Int)) rfl rfl rfl (by kernel_rfl) (by kernel_rfl) (by kernel_rfl) (fun c a w h => hQ _ _ _ _ _ h) (Or.inl ⟨rfl, fun w' hw' => by
     have e41 : a.eval (.tmp 41) = _ := h.ev 41 rfl
     have e43 : a.eval (.tmp 43) = _ := h.ev 43 rfl
     simp only [execOp, e41, e43]
     go_simp⟩) hS ?_
   clear h
   intro a h
   refine anyM 9 h 45 0 rfl rfl rfl rfl rfl rfl (by kernel_rfl) (by kernel_rfl) (by kernel_rfl) (fun c a w h => hQ _ _ _ _ _ h) hS ?_
   clear h
   intro a h
   refine anyM 10 h 46 10 rfl rfl rfl rfl rfl rfl (by kernel_rfl) (by kernel_rfl) (by kernel_rfl) (fun c a w h => hQ _ _ _ _ _ h) hS ?_
   clear h
   intro a h
   refine anyH 11 h 47 (Value.pointer (some ⟨gw, 2, none⟩)) rfl rfl rfl (by kernel_rfl) (by kernel_rfl) (by kernel_rfl) (fun c a w h => hQ _ _ _ _ _ h) (Or.inl ⟨rfl, fun w' hw' => by
     have e46 : a.eval (.tmp 46) = _ := h.ev 46 rfl
     simp only [execOp, e46]
     go_simp⟩) hS ?_
   clear h
   intro a h
   refine anyH 12 h 48 (Value.int .u8 ((A2 : Nat) : Int)) rfl rfl rfl (by kernel_rfl) (by kernel_rfl) (by kernel_rfl) (fun c a w h => hQ _ _ _ _ _ h) (Or.inl ⟨rfl, fun w' hw' => by
     have e47 : a.eval (.tmp 47) = _ := h.ev 47 rfl
     have c9 := U2.out w' hw'
     simp only [execOp, e47]
     go_simp⟩) hS ?_
   clear h
   intro a h
   refine anyH 13 h 49 (Value.pointer (some ⟨gB, oB + A2, none⟩)) rfl rfl rfl (by kernel_rfl) (by kernel_rfl) (by kernel_rfl) (fun c a w h => hQ _ _ _ _ _ h) (Or.inl ⟨rfl, fun w' hw' => by
     have e45 : a.eval (.tmp 45) = _ := h.ev 45 rfl
     have e48 : a.eval (.tmp 48) = _ := h.ev 48 rfl
     simp only [execOp, e45, e48]
     go_simp⟩) hS ?_
   clear h
   intro a h
   refine anyH 14 h 50 (Value.int .u8 ((C2 : Nat) : Int)) rfl rfl rfl (by kernel_rfl) (by kernel_rfl) (by kernel_rfl) (fun c a w h => hQ _ _ _ _ _ h) (Or.inl ⟨rfl, fun w' hw' => by
     have e49 : a.eval (.tmp 49) = _ := h.ev 49 rfl
     have c9 := V2.out w' hw'
     simp only [execOp, e49]
     go_simp⟩) hS ?_
   clear h
   intro a h
   refine anyM 15 h 51 0 rfl rfl rfl rfl rfl rfl (by kernel_rfl) (by kernel_rfl) (by kernel_rfl) (fun c a w h => hQ _ _ _ _ _ h) hS ?_
   clear h
   intro a h
   refine anyM 16 h 52 10 rfl rfl rfl rfl rfl rfl (by kernel_rfl) (by kernel_rfl) (by kernel_rfl) (fun c a w h => hQ _ _ _ _ _ h) hS ?_
   clear h
   intro a h
   refine anyH 17 h 53 (Value.pointer (some ⟨gw, 3, none⟩)) rfl rfl rfl (by kernel_rfl) (by kernel_rfl) (by kernel_rfl) (fun c a w h => hQ _ _ _ _ _ h) (Or.inl ⟨rfl, fun w' hw' => by
     have e52 : a.eval (.tmp 52) = _ := h.ev 52 rfl
     simp only [execOp, e52]
     go_simp⟩) hS ?_
   clear h
   intro a h
   refine anyH 18 h 54 (Value.int .u8 ((A3 : Nat) : Int)) rfl rfl rfl (by kernel_rfl) (by kernel_rfl) (by kernel_rfl) (fun c a w h => hQ _ _ _ _ _ h) (Or.inl ⟨rfl, fun w' hw' => by
     have e53 : a.eval (.tmp 53) = _ := h.ev 53 rfl
     have c9 := U3.out w' hw'
     simp only [execOp, e53]
     go_simp⟩) hS ?_
   clear h
   intro a h
   refine anyH 19 h 55 (Value.pointer (some ⟨gB, oB + A3, none⟩)) rfl rfl rfl (by kernel_rfl) (by kernel_rfl) (by kernel_rfl) (fun c a w h => hQ _ _ _ _ _ h) (Or.inl ⟨rfl, fun w' hw' => by
     have e51 : a.eval (.tmp 51) = _ := h.ev 51 rfl
     have e54 : a.eval (.tmp 54) = _ := h.ev 54 rfl
     simp only [execOp, e51, e54]
     go_simp⟩) hS ?_
   clear h
   intro a h
   refine anyH 20 h 56 (Value.int .u8 ((C3 : Nat) : Int)) rfl rfl rfl (by kernel_rfl) (by kernel_rfl) (by kernel_rfl) (fun c a w h => hQ _ _ _ _ _ h) (Or.inl ⟨rfl, fun w' hw' => by
     have e55 : a.eval (.tmp 55) = _ := h.ev 55 rfl
     have c9 := V3.out w' hw'
     simp only [execOp, e55]
     go_simp⟩) hS ?_
   clear h
   intro a h
   refine anyM 21 h 57 0 rfl rfl rfl rfl rfl rfl (by kernel_rfl) (by kernel_rfl) (by kernel_rfl) (fun c a w h => hQ _ _ _ _ _ h) hS ?_
   clear h
   intro a h
   refine anyM 22 h 58 10 rfl rfl rfl rfl rfl rfl (by kernel_rfl) (by kernel_rfl) (by kernel_rfl) (fun c a w h => hQ _ _ _ _ _ h) hS ?_
   clear h
   intro a h
   refine anyH 23 h 59 (Value.pointer (some ⟨gw, 0, none⟩)) rfl rfl rfl (by kernel_rfl) (by kernel_rfl) (by kernel_rfl) (fun c a w h => hQ _ _ _ _ _ h) (Or.inl ⟨rfl, fun w' hw' => by
     have e58 : a.eval (.tmp 58) = _ := h.ev 58 rfl
     simp only [execOp, e58]
     go_simp⟩) hS ?_
   clear h
   intro a h
   refine anyH 24 h 60 (Value.int .u8 ((A0 : Nat) : Int)) rfl rfl rfl (by kernel_rfl) (by kernel_rfl) (by kernel_rfl) (fun c a w h => hQ _ _ _ _ _ h) (Or.inl ⟨rfl, fun w' hw' => by
     have e59 : a.eval (.tmp 59) = _ := h.ev 59 rfl
     have c9 := U0.out w' hw'
     simp only [execOp, e59]
     go_simp⟩) hS ?_
   clear h
   intro a h
   refine anyH 25 h 61 (Value.pointer (some ⟨gB, oB + A0, none⟩)) rfl rfl rfl (by kernel_rfl) (by kernel_rfl) (by kernel_rfl) (fun c a w h => hQ _ _ _ _ _ h) (Or.inl ⟨rfl, fun w' hw' => by
     have e57 : a.eval (.tmp 57) = _ := h.ev 57 rfl
     have e60 : a.eval (.tmp 60) = _ := h.ev 60 rfl
     simp only [execOp, e57, e60]
     go_simp⟩) hS ?_
   clear h
   intro a h
   refine anyH 26 h 62 (Value.int .u8 ((C0 : Nat) : Int)) rfl rfl rfl (by kernel_rfl) (by kernel_rfl) (by kernel_rfl) (fun c a w h => hQ _ _ _ _ _ h) (Or.inl ⟨rfl, fun w' hw' => by
     have e61 : a.eval (.tmp 61) = _ := h.ev 61 rfl
     have c9 := V0.out w' hw'
     simp only [execOp, e61]
     go_simp⟩) hS ?_
   clear h
   intro a h
   refine anyW 27 h 63 rfl rfl rfl rfl (by kernel_rfl) (fun u w' => u = .slice (some ⟨V.heap.size, 0, none⟩) 4 4 ∧ w' = V.alloc (.cells #[.int .u8 ((X : Nat) : Int), .int .u8 ((C2 : Nat) : Int), .int .u8 ((C3 : Nat) : Int), .int .u8 ((C0 : Nat) : Int)] 5)) (fun K hK => by
    have f44 := h.at_ 44 rfl
    have f50 := h.at_ 50 rfl
    have f56 := h.at_ 56 rfl
    have f62 := h.at_ 62 rfl
    unfold Oper.wp execOp
    go_simp
    exact hK _ _ ⟨rfl, rfl⟩) ?_
   rintro _ _ ⟨rfl, rfl⟩
   have b8 : Below V.heap.size V (V.alloc (.cells #[.int .u8 ((X : Nat) : Int), .int .u8 ((C2 : Nat) : Int), .int .u8 ((C3 : Nat) : Int), .int .u8 ((C0 : Nat) : Int)] 5)) := (Below.refl _ _).alloc (Nat.le_refl _) _
   have Aw : BA (V.alloc (.cells #[.int .u8 ((X : Nat) : Int), .int .u8 ((C2 : Nat) : Int), .int .u8 ((C3 : Nat) : Int), .int .u8 ((C0 : Nat) : Int)] 5)) V.heap.size 0 [X, C2, C3, C0] := BA.of_blk (Blk.new V 5 (Iv .u8 (NI [X, C2, C3, C0])))
   have hS2 : (fun w' => BA w' gw 0 (L.drop m4) ∧ BA w' gB oB boxL ∧ OwL w0.heap.size w' (.slice (some ⟨gk, 0, none⟩) n ck) L ∧ Below w0.heap.size w0 w') (V.alloc (.cells #[.int .u8 ((X : Nat) : Int), .int .u8 ((C2 : Nat) : Int), .int .u8 ((C3 : Nat) : Int), .int .u8 ((C0 : Nat) : Int)] 5)) := ⟨hS.1.below b8, hS.2.1.below b8, hS.2.2.1.below b8, hS.2.2.2.trans (b8.mono hS.2.2.2.size)⟩
   refine ⟨hS2, ?_⟩
   have gkV : gk < V.heap.size := (hS.2.2.1.lt gk rfl).2
   clear h hS b8
   intro a h
   generalize World.alloc V _ = W2 at Aw hS2 ⊢
   have hS := hS2
   clear hS2
   refine anyA 28 h 10 63 rfl rfl rfl rfl rfl rfl (by kernel_rfl) (by kernel_rfl) (by kernel_rfl) (fun c a w h => hQ _ _ _ _ _ h) hS ?_
   clear h
   intro a h
   refine wpAnyS_done (by kernel_rfl) ?_ _
   show Code.wp _ _ _ _ _
   refine wp_region_seq ?_
   have O6 := hS.2.2.1
   have bel6 := hS.2.2.2
   have hne : gk ≠ V.heap.size := by omega
   generalize V.heap.size = gw at *
   clear hS U0 U1 U2 U3 V0 V1 V2 V3
   refine seqM h 64 8 rfl rfl rfl rfl rfl ?_
   clear h
   intro a h
   refine seqK h 65 (fun v w' => v = .int .i64 ((gm c 2 : Nat) : Int) ∧ Below W2.heap.size W2 w') rfl rfl (fun K hK => wp_call_v 53 _ _ _ Tryd.func53 (by kernel_rfl) (by kernel_rfl) rfl 65 rfl #[.int .i64 (c : Int), .int .i64 2] (by simp [h.at_ 64 rfl, Act.eval]) _ ((rbyte_any c 2 lc (by decide) W2).mono fun e w' h => ⟨_, h.1, rfl, h.2⟩) hK) ?_
   rintro _ w6 ⟨rfl, b6⟩
   clear h
   intro a h
   replace O6 := O6.below b6
   replace Aw := Aw.below b6
   replace bel6 := bel6.trans (b6.mono bel6.size)
   clear b6
   refine seqA h 8 65 rfl rfl rfl rfl rfl ?_
   clear h
   intro a h
   refine wpSeq_nil ?_
   show Code.wp _ _ _ _ _
   have lW2 : [X, C2, C3, C0].length = 4 := rfl
   have bW2 : ∀ x ∈ [X, C2, C3, C0], x < 256 := fun x hx => by
    simp only [List.mem_cons, List.not_mem_nil, or_false] at hx
    rcases hx with rfl | rfl | rfl | rfl <;> assumption
   have EC : look ((7, (.slice none 0 0 : Value)) :: (8, .int .i64 ((gm c 2 : Nat) : Int)) :: base0 gB oB cB pb pr) 8 = some (.int .i64 ((kc c n : Nat) : Int)) := by
    unfold kc
    rw [if_pos h16]
    rfl
   refine wp_seq ?_
   refine wp_region_seq ?_
   refine seqC h 11 rfl rfl rfl rfl ?_
   clear h
   intro a h
   refine wpSeq_nil ?_
   show Code.wp _ _ _ _ _
   refine wp_block ?_
   refine eloop1 w0 (.slice (some ⟨gB, oB, none⟩) 256 cB) pb pr (.int .i64 ((gm c 2 : Nat) : Int)) n gw 4 L [X, C2, C3, C0] lL (by omega) (by omega) lW2 (by omega) bL bW2 ?_ a (.slice (some ⟨gk, 0, none⟩) n ck) (h.trim _ ?_) w6 ⟨O6, Aw, fun g hg => (by cases hg; exact hne), bel6⟩ ?_
   · exact fun c a d v w h => hQ c a d v w h
   ·
    intro p hp
    simp only [base1, List.mem_cons, List.not_mem_nil, or_false] at hp
    rcases hp with rfl | rfl | rfl | rfl | rfl | rfl | rfl | rfl <;> rfl
   clear h a
   intro a w7 v7 h O7 b7
   rw [next_keys boxL L _ c i n HN.out EW, ← N1.out] at O7
   refine ⟨⟨i + 1, v7, by omega, h.trim _ ?_, O7, b7⟩, ?_⟩
   ·
    intro p hp
    simp only [base0, List.mem_cons, List.not_mem_nil, or_false] at hp
    rcases hp with rfl | rfl | rfl | rfl | rfl
    · rfl
    · rw [N2.out]; exact EC
    · rfl
    · rfl
    · rfl
   ·
    have hm2 : a.tmps.getD 7 undef = v7 := h.val 7 _ rfl
    rw [hm2]
    obtain ⟨p, c', e, _⟩ := O7.sb
    have l7 := keysF_length boxL kk lkk (i + 1)
    rw [e]
    simp only [lenW, l7]
    have hn := HN.out
    omega
  ·
   have r0 : ¬ (n : Int) % 16 = 0 := by omega
   refine seqM h 33 9 rfl rfl rfl rfl rfl ?_
   clear h
   intro a h
   refine seqH h 34 (Value.int .i64 ((n : Int) % 16)) rfl rfl (Or.inl ⟨rfl, fun w' hw' => by
     subst hw'
     have e33 : a.eval (.tmp 33) = _ := h.ev 33 rfl
     simp only [execOp, e33]
     go_simp⟩) ?_
   clear h
   intro a h
   refine seqH h 35 (Value.bool false) rfl rfl (Or.inl ⟨rfl, fun w' hw' => by
     subst hw'
     have e34 : a.eval (.tmp 34) = _ := h.ev 34 rfl
     simp only [execOp, e34]
     go_simp⟩) ?_
   clear h
   intro a h
   refine wpSeq_nil ?_
   show Code.wp _ _ _ _ _
   refine wp_cond (t := false) (h.ev 35 rfl) ?_
   refine wp_skip ?_
   show Code.wp _ _ _ _ _
   have lW2 := lD
   have bW2 := bW
   have EW : ∀ j, j < 4 → (L.drop m4).getD j 0 = kw boxL L c n j := fun j _ => by rw [HM4.out]; exact kw_plain boxL L c n (by omega) h16 j
   have EC : look ((7, (.slice none 0 0 : Value)) :: (8, .int .i64 (c : Int)) :: base0 gB oB cB pb pr) 8 = some (.int .i64 ((kc c n : Nat) : Int)) := by
    unfold kc
    rw [if_neg h16]
    rfl
   refine wp_seq ?_
   refine wp_region_seq ?_
   refine seqC h 11 rfl rfl rfl rfl ?_
   clear h
   intro a h
   refine wpSeq_nil ?_
   show Code.wp _ _ _ _ _
   refine wp_block ?_
   refine eloop1 w0 (.slice (some ⟨gB, oB, none⟩) 256 cB) pb pr (.int .i64 (c : Int)) n gw cw L (L.drop m4) lL (by omega) (by omega) lW2 (by omega) bL bW2 ?_ a (.slice (some ⟨gk, 0, none⟩) n ck) (h.trim _ ?_) w5 ⟨O6, Aw, fun g hg => (by cases hg; exact hne), bel6⟩ ?_
   · exact fun c a d v w h => hQ c a d v w h
   ·
    intro p hp
    simp only [base1, List.mem_cons, List.not_mem_nil, or_false] at hp
    rcases hp with rfl | rfl | rfl | rfl | rfl | rfl | rfl | rfl <;> rfl
   clear h a
   intro a w7 v7 h O7 b7
   rw [next_keys boxL L _ c i n HN.out EW, ← N1.out] at O7
   refine ⟨⟨i + 1, v7, by omega, h.trim _ ?_, O7, b7⟩, ?_⟩
   ·
    intro p hp
    simp only [base0, List.mem_cons, List.not_mem_nil, or_false] at hp
    rcases hp with rfl | rfl | rfl | rfl | rfl
    · rfl
    · rw [N2.out]; exact EC
    · rfl
    · rfl
    · rfl
   ·
    have hm2 : a.tmps.getD 7 undef = v7 := h.val 7 _ rfl
    rw [hm2]
    obtain ⟨p, c', e, _⟩ := O7.sb
    have l7 := keysF_length boxL kk lkk (i + 1)
    rw [e]
    simp only [lenW, l7]
    have hn := HN.out
    omega
 ·
  have n176 := HO.out hlt
  have l0 : ¬ (n : Int) < 176 := by omega
  clear HI HO n176
  have hO : OwL w0.heap.size w (.slice (some ⟨gk, 0, none⟩) n ck) (keysL boxL kk) := by rw [hlast (by omega), ← lL]; exact O
  refine seqM h 22 7 rfl rfl rfl rfl rfl ?_
  clear h
  intro a h
  refine seqH h 23 (Value.int .i64 ((n : Int))) rfl rfl (Or.inl ⟨rfl, fun w' hw' => by
    subst hw'
    have e22 : a.eval (.tmp 22) = _ := h.ev 22 rfl
    have f22 := h.at_ 22 rfl
    simp only [execOp]
    go_simp⟩) ?_
  clear h
  intro a h
  refine seqH h 24 (Value.bool false) rfl rfl (Or.inl ⟨rfl, fun w' hw' => by
    subst hw'
    have e23 : a.eval (.tmp 23) = _ := h.ev 23 rfl
    simp only [execOp, e23]
    go_simp⟩) ?_
  clear h
  intro a h
  refine wpSeq_nil ?_
  show Code.wp _ _ _ _ _
  refine wp_cond (t := false) (h.ev 24 rfl) ?_
  refine wp_exit ?_
  refine hexit _ _ _ (h.trim _ ?_) hO bel
  ·
   intro p hp
   simp only [base0, List.mem_cons, List.not_mem_nil, or_false] at hp
   rcases hp with rfl | rfl | rfl | rfl <;> rfl
end Go.Proofs.YtpihgljdbpnehaaDoor
