/- The law LadderBits: some bits say nothing (printed by lawladder.py). -/
import Derived.Test.YtgdhlafggdaipaaJk
namespace Go.Proofs.Ytgdhlafggdaipaa
open Go.RowKit

theorem xor_a : ∀ (x : Fin 256) (c : Fin 8), bits .xor .u8 (x.val : Int) (c.val : Int) = ((x.val ^^^ c.val : Nat) : Int) ∧ (x.val ^^^ c.val) / 8 = x.val / 8 ∧ x.val ^^^ c.val < 256 := by decide +kernel
theorem xor_b : ∀ (x : Fin 256) (c : Fin 4), bits .xor .u8 (x.val : Int) ((64 * c.val : Nat) : Int) = ((x.val ^^^ (64 * c.val) : Nat) : Int) ∧ (x.val ^^^ (64 * c.val)) % 64 = x.val % 64 ∧ x.val ^^^ (64 * c.val) < 256 := by decide +kernel
theorem xor_c : ∀ (x : Fin 256) (c : Fin 2), bits .xor .u8 (x.val : Int) ((128 * c.val : Nat) : Int) = ((x.val ^^^ (128 * c.val) : Nat) : Int) ∧ (x.val ^^^ (128 * c.val)) % 128 = x.val % 128 ∧ x.val ^^^ (128 * c.val) < 256 := by decide +kernel
theorem and_a : ∀ b : Fin 256, bits .and .u8 (b.val : Int) 7 = ((b.val % 8 : Nat) : Int) := by decide +kernel
theorem and_b : ∀ b : Fin 256, bits .and .u8 (b.val : Int) 192 = ((64 * (b.val / 64) : Nat) : Int) := by decide +kernel
theorem and_c : ∀ b : Fin 256, bits .and .u8 (((b.val * 4 % 256 : Nat)) : Int) 128 = ((128 * (b.val / 32 % 2) : Nat) : Int) := by decide +kernel
theorem getD_set31 (l : List Int) (v : Int) : (l.set 0 v).getD 31 0 = l.getD 31 0 := by simp [List.getD]
/-- Bytes with one of them changed. -/
def setF (f : Nat → Nat) (k v : Nat) (i : Nat) : Nat := if i = k then v else f i
theorem setF_bytes {l : List Int} {f : Nat → Nat} (hl : Bytes32 l f) (k v : Nat) (hk : k < 32) (hv : v < 256) : Bytes32 (l.set k (v : Int)) (setF f k v) := by
  refine ⟨by simp [hl.len], fun i h => ?_, fun i => ?_⟩
  · unfold setF
    by_cases e : i = k
    · subst e
      have : i < l.length := by rw [hl.len]; exact h
      rw [if_pos rfl]
      simp [List.getD, this]
    · rw [if_neg e, ← hl.get i h]
      simp [List.getD, show ¬ k = i from fun x => e x.symm]
  · unfold setF
    have := hl.lt i
    split <;> omega
theorem leTo_congr (f g : Nat → Nat) (h : ∀ i, i < 32 → f i = g i) : ∀ k, k ≤ 32 → leTo f k = leTo g k
  | 0, _ => rfl
  | k + 1, hk => by
    unfold leTo
    rw [leTo_congr f g h k (by omega), h k (by omega)]
theorem clN_same (A : Nat) (v0 v1 : Nat) (h0 : v0 / 8 = byteAt A 0 / 8) (h1 : v1 % 64 = byteAt A 31 % 64) (l0 : v0 < 256) (l1 : v1 < 256) : clN (leTo (setF (setF (byteAt A) 0 v0) 31 v1) 32) = clN A := by
  unfold clN
  have hb : ∀ i, i < 32 → byteAt (leTo (setF (setF (byteAt A) 0 v0) 31 v1) 32) i = setF (setF (byteAt A) 0 v0) 31 v1 i := fun i hi => by
    refine leTo_byte _ (fun j => ?_) 32 i hi
    unfold setF
    have : byteAt A j < 256 := Nat.mod_lt _ (by decide)
    split
    · exact l1
    · split <;> omega
  refine leTo_congr _ _ (fun i hi => ?_) 32 (Nat.le_refl _)
  unfold clF
  rw [hb i hi, hb 0 (by decide), hb 31 (by decide)]
  unfold setF
  by_cases e0 : i = 0
  · subst e0
    simp
    omega
  · by_cases e1 : i = 31
    · subst e1
      simp
      omega
    · simp [e0, e1]
theorem leTo_low (f : Nat → Nat) (v : Nat) : ∀ k, k ≤ 31 → leTo (setF f 31 v) k = leTo f k
  | 0, _ => rfl
  | k + 1, hk => by
    unfold leTo
    rw [leTo_low f v k (by omega)]
    unfold setF
    rw [if_neg (by omega)]
theorem plN_bits (B v : Nat) (hB : B < p256) (h : v % 128 = byteAt B 31 % 128) (l : v < 256) : plN (leTo (setF (byteAt B) 31 v) 32) = plN B := by
  have hb : ∀ i, byteAt B i < 256 := fun i => Nat.mod_lt _ (by decide)
  have h1 := leTo_lt _ hb 31
  have h2 : B = leTo (byteAt B) 31 + byteAt B 31 * 256 ^ 31 := (leTo_byteAt32 hB).symm
  have h3 : leTo (setF (byteAt B) 31 v) 32 = leTo (byteAt B) 31 + v * 256 ^ 31 := by
    show leTo (setF (byteAt B) 31 v) 31 + setF (byteAt B) 31 v 31 * 256 ^ 31 = _
    rw [leTo_low _ _ 31 (Nat.le_refl _)]
    rfl
  have h4 : (leTo (byteAt B) 31 + v * 256 ^ 31) % 57896044618658097711785492504343953926634992332820282019728792003956564819968 = (leTo (byteAt B) 31 + byteAt B 31 * 256 ^ 31) % 57896044618658097711785492504343953926634992332820282019728792003956564819968 := by
    generalize leTo (byteAt B) 31 = a at *
    generalize byteAt B 31 = c at *
    clear h2 h3 hb
    simp only [Nat.reducePow] at *
    omega
  unfold plN
  rw [h3, h4, ← h2]

set_option maxHeartbeats 8000000 in
set_option maxRecDepth 100000 in
theorem bits_n (NA NB : Nat) (ha : NA < p256) (hb : NB < p256) (k : Nat) (hk : k < 256) (w : World) :
    Calls Try.prog 5 #[Key (keyOf NA), Key (keyOf NB), .int .u8 (k : Int)] w fun e w' => e = .returned (.bool true) ∧ Below w.heap.size w w' := by
  have b0 : byteAt NA 0 < 256 := Nat.mod_lt _ (by decide)
  have b1 : byteAt NA 31 < 256 := Nat.mod_lt _ (by decide)
  have b2 : byteAt NB 31 < 256 := Nat.mod_lt _ (by decide)
  have a0 := and_a ⟨k, hk⟩
  have a1 := and_b ⟨k, hk⟩
  have a2 := and_c ⟨k, hk⟩
  obtain ⟨x0, y0, z0⟩ := xor_a ⟨byteAt NA 0, b0⟩ ⟨k % 8, Nat.mod_lt _ (by decide)⟩
  obtain ⟨x1, y1, z1⟩ := xor_b ⟨byteAt NA 31, b1⟩ ⟨k / 64, by omega⟩
  obtain ⟨x2, y2, z2⟩ := xor_c ⟨byteAt NB 31, b2⟩ ⟨k / 32 % 2, Nat.mod_lt _ (by decide)⟩
  have sh : IntKind.u8.wrap ((k : Int) * 4) = ((k * 4 % 256 : Nat) : Int) := by rw [IntKind.wrap_u8]; omega
  simp only at a0 a1 a2 x0 y0 z0 x1 y1 z1 x2 y2 z2
  have hcl := clN_same NA _ _ y0 y1 z0 z1
  have hpl := plN_bits NB _ hb y2 z2
  have gS := key_of_bytes (setF_bytes (setF_bytes (keyOf_bytes NA) 0 _ (by decide) z0) 31 _ (by decide) z1)
  have gP := key_of_bytes (setF_bytes (keyOf_bytes NB) 31 _ (by decide) z2)
  have kSB : leTo (setF (byteAt NB) 31 (byteAt NB 31 ^^^ (128 * (k / 32 % 2)))) 32 < p256 := leTo_lt256 (setF_bytes (keyOf_bytes NB) 31 _ (by decide) z2).lt
  generalize leTo (setF (setF (byteAt NA) 0 (byteAt NA 0 ^^^ (k % 8))) 31 (byteAt NA 31 ^^^ (64 * (k / 64)))) 32 = SA at *
  generalize leTo (setF (byteAt NB) 31 (byteAt NB 31 ^^^ (128 * (k / 32 % 2)))) 32 = SB at *
  generalize byteAt NA 0 ^^^ (k % 8) = v0 at *
  generalize byteAt NA 31 ^^^ (64 * (k / 64)) = v1 at *
  generalize byteAt NB 31 ^^^ (128 * (k / 32 % 2)) = v2 at *
  generalize k % 8 = q0 at *
  generalize 64 * (k / 64) = q1 at *
  generalize 128 * (k / 32 % 2) = q2 at *
  generalize k * 4 % 256 = q3 at *
  have kN : ladN (clN NA) (plN NB) < p256 := Nat.lt_trans (ladN_lt _ _) pp_lt256
  have m1 := fun W => mul_n SA SB (ladN (clN NA) (plN NB)) kSB (by rw [hcl, hpl]) W
  have m2 := fun W => mul_n NA NB _ hb rfl W
  generalize ladN (clN NA) (plN NB) = N at *
  have CSA := Lib.hid m1
  have CNA := Lib.hid m2
  have HS := Lib.hid gS
  have HP := Lib.hid gP
  clear m1 m2 gS gP hcl hpl y0 y1 y2 z0 z1 z2
  unfold Key
  go_enter Try.func5, Try.ntmps5
  go_wp2_with fail
  refine (awake_any _).mono ?_
  rintro e w1 ⟨rfl, b⟩
  have hS : Facts [.blk (w.heap.size) 23 (Iv .u8 (keyOf NA)), .blk (w.heap.size + 1) 23 (Iv .u8 (keyOf NB))] w1 := Facts.below (Facts.cons (f := .blk (w.heap.size) 23 (Iv .u8 (keyOf NA))) ((Blk.new' (by simp) _ _).alloc _) (Facts.cons (f := .blk (w.heap.size + 1) 23 (Iv .u8 (keyOf NB))) ((Blk.new' (by simp) _ _)) (Facts.nil))) b
  have hB : Below w.heap.size w w1 := (((Below.refl w.heap.size w).alloc (Nat.le_refl _) _).alloc (by simp) _).trans (b.mono (by simp; omega))
  clear b
  have K1 : Blk w1 (w.heap.size + 1) 23 (Iv .u8 (keyOf NB)) := hS.blkAt _ _ _ (.tail _ (.head _))
  go_upto_region 3 with fail
  replace hS := hS.drew
  replace hB := below_drew hB
  replace K1 := K1.drew
  refine wp_region_Z (S := Facts [.blk (w.heap.size) 23 (Iv .u8 (keyOf NA)), .blk (w.heap.size + 1) 23 (Iv .u8 (keyOf NB))]) 5 (by kernel_rfl) ?_
  refine wpAnyZ_takeL 0 rfl (by kernel_rfl) (by kernel_rfl) (by kernel_rfl) (by kernel_rfl) (by kernel_rfl) (fun _ _ _ h => h) (show YieldsIf _ _ _ _ (Key (keyOf NA)) _ from yieldsIf_load rfl 23 _ rfl (w.heap.size) rfl 23 _ _ (.head _) Try.underlying23 rfl (info_key _ (keyOf_length _))) hS ?_
  simp only [Act.put, List.setIfInBounds_toArray, List.set_cons_zero, List.set_cons_succ]
  refine wpAnyZ_takeL 1 rfl (by kernel_rfl) (by kernel_rfl) (by kernel_rfl) (by kernel_rfl) (by kernel_rfl) (fun _ _ _ h => h) (show YieldsIf _ _ _ _ (Key (keyOf NB)) _ from yieldsIf_load rfl 23 _ rfl (w.heap.size + 1) rfl 23 _ _ (.tail _ (.head _)) Try.underlying23 rfl (info_key _ (keyOf_length _))) hS ?_
  simp only [Act.put, List.setIfInBounds_toArray, List.set_cons_zero, List.set_cons_succ]
  refine wpAnyZ_jobsL [(⟨2, 7⟩, .rel (fun v w' => ∃ g, v = .pointer (some ⟨g, 0, none⟩) ∧ Blk w' g 23 (Iv .u8 (List.replicate 32 0)))), (⟨3, 8⟩, .rel (fun v w' => ∃ g, v = .pointer (some ⟨g, 0, none⟩) ∧ Blk w' g 23 (Iv .u8 (List.replicate 32 0))))] [] 2 _ _ _ (by kernel_rfl) (fun _ _ _ _ _ h => h) ?_ (fun _ _ _ _ _ h => h) (fun _ _ h hb => h.below hb) hS ?_ ?_ ?_
  · exact fun _ _ h => by cases h
  · intro j hj
    simp only [List.map_cons, List.map_nil, List.mem_cons, List.not_mem_nil, or_false] at hj
    rcases hj with rfl | rfl
    · intro v w1 w2 h hb
      obtain ⟨g, e, H⟩ : ∃ g, v = .pointer (some ⟨g, 0, none⟩) ∧ Blk w1 g 23 (Iv .u8 (List.replicate 32 0)) := h
      exact ⟨g, e, H.below' hb⟩
    · intro v w1 w2 h hb
      obtain ⟨g, e, H⟩ : ∃ g, v = .pointer (some ⟨g, 0, none⟩) ∧ Blk w1 g 23 (Iv .u8 (List.replicate 32 0)) := h
      exact ⟨g, e, H.below' hb⟩
  · intro j hj
    simp only [List.map_cons, List.map_nil, List.mem_cons, List.not_mem_nil, or_false] at hj
    rcases hj with rfl | rfl
    · refine job_frame [] (by kernel_rfl) ?_
      show JobAt _ _ _ _ _ _ _
      exact job_alloc 23 (Iv .u8 (List.replicate 32 0)) _ _ rfl rfl rfl (fun W => by go_simp; rfl)
    · refine job_frame [] (by kernel_rfl) ?_
      show JobAt _ _ _ _ _ _ _
      exact job_alloc 23 (Iv .u8 (List.replicate 32 0)) _ _ rfl rfl rfl (fun W => by go_simp; rfl)
  · intro f W hS2 hB1 hR hF hA
    obtain ⟨g2r3, e2, A2⟩ : ∃ g, f 2 = .pointer (some ⟨g, 0, none⟩) ∧ Blk W g 23 (Iv .u8 (List.replicate 32 0)) := hR ⟨2, 7⟩ (by simp)
    have n2 : _ ≤ g2r3 := (hF ⟨2, 7⟩ (by simp) g2r3 (by show blockOf (f 2) = _; rw [e2]; rfl)).1
    have m2 : w.heap.size ≤ g2r3 := Nat.le_trans hB.size n2
    have u2 := Nat.lt_of_lt_of_le K1.lt n2
    obtain ⟨g3r3, e3, A3⟩ : ∃ g, f 3 = .pointer (some ⟨g, 0, none⟩) ∧ Blk W g 23 (Iv .u8 (List.replicate 32 0)) := hR ⟨3, 8⟩ (by simp)
    have n3 : _ ≤ g3r3 := (hF ⟨3, 8⟩ (by simp) g3r3 (by show blockOf (f 3) = _; rw [e3]; rfl)).1
    have m3 : w.heap.size ≤ g3r3 := Nat.le_trans hB.size n3
    have u3 := Nat.lt_of_lt_of_le K1.lt n3
    have d2_3 : g2r3 ≠ g3r3 := fun h => hA ⟨2, 7⟩ (by simp) ⟨3, 8⟩ (by simp) (by decide) g2r3 (by show blockOf (f 2) = _; rw [e2]; rfl) (by show blockOf (f 3) = _; rw [e3, h]; rfl)
    clear hA hF hR
    simp only [setAll, putAll, List.map_cons, List.map_nil, List.foldr_cons, List.foldr_nil, Act.put, List.setIfInBounds_toArray, List.set_cons_zero, List.set_cons_succ, e2, e3]
    clear e2 e3
    have hBs := hB1
    replace hB1 := below_setRow hB1 n2 (Iv .u8 (keyOf NA))
    refine wpAnyZ_store_row 4 rfl (by kernel_rfl) rfl _ _ _ rfl g2r3 (Iv .u8 (keyOf NA)) rfl rfl _ _ A2 (info_key _ (keyOf_length _)) (by rw [Iv_size, Iv_size, keyOf_length]; rfl) (Iv_one _ _) (hS.below hB1) ?_
    try simp only [Act.put, List.setIfInBounds_toArray, List.set_cons_zero, List.set_cons_succ]
    replace A3 := A3.rowFar (Ne.symm d2_3) (Iv .u8 (keyOf NA))
    replace A2 := A2.row (Iv .u8 (keyOf NA))
    replace hB1 := below_setRow hB1 n3 (Iv .u8 (keyOf NB))
    refine wpAnyZ_store_row 5 rfl (by kernel_rfl) rfl _ _ _ rfl g3r3 (Iv .u8 (keyOf NB)) rfl rfl _ _ A3 (info_key _ (keyOf_length _)) (by rw [Iv_size, Iv_size, keyOf_length]; rfl) (Iv_one _ _) (hS.below hB1) ?_
    try simp only [Act.put, List.setIfInBounds_toArray, List.set_cons_zero, List.set_cons_succ]
    replace A2 := A2.rowFar d2_3 (Iv .u8 (keyOf NB))
    replace A3 := A3.row (Iv .u8 (keyOf NB))
    refine wpAnyZ_done (by kernel_rfl) ?_ _
    replace K1 := K1.below' hB1
    have hS3 := hS.below hB1
    replace hB := hB.trans (hB1.mono hB.size)
    clear hS hS2 hB1 hBs
    have hS : Facts [.blk (g2r3) 23 (Iv .u8 (keyOf NA)), .blk (g3r3) 23 (Iv .u8 (keyOf NB)), .blk (w.heap.size) 23 (Iv .u8 (keyOf NA)), .blk (w.heap.size + 1) 23 (Iv .u8 (keyOf NB))] _ := Facts.cons (f := .blk g2r3 23 (Iv .u8 (keyOf NA))) A2 (Facts.cons (f := .blk g3r3 23 (Iv .u8 (keyOf NB))) A3 (hS3))
    clear hS3
    try clear n2 n3
    clear A2 A3
    generalize hWn : World.setRow _ _ _ = Wn at *
    clear hWn
    have P7 := (hS.blkAt (g2r3) 23 (Iv .u8 (keyOf NA)) (.head _))
    have P8 := (hS.blkAt (g3r3) 23 (Iv .u8 (keyOf NB)) (.tail _ (.head _)))
    have P3 := (hS.blkAt (w.heap.size) 23 (Iv .u8 (keyOf NA)) (.tail _ (.tail _ (.head _))))
    have P4 := (hS.blkAt (w.heap.size + 1) 23 (Iv .u8 (keyOf NB)) (.tail _ (.tail _ (.tail _ (.head _)))))
    clear hS K1
    have c4 := P7.cell 0
    rw [Iv_get _ _ _ (by rw [keyOf_length]; decide), (keyOf_bytes NA).get 0 (by decide)] at c4
    have fr4 := P7.frozen 0
    go_upto_region 5 with fail
    replace P7 := P7.set 0 (.int .u8 (v0 : Int))
    rw [Iv_set] at P7
    replace P8 : Blk _ _ _ _ := P8.far (p := ⟨g2r3, 0, none⟩) (by show g3r3 ≠ g2r3; first | exact d2_3 | exact Ne.symm d2_3 | omega) (.int .u8 (v0 : Int))
    replace P3 : Blk _ _ _ _ := P3.far (p := ⟨g2r3, 0, none⟩) (by show w.heap.size ≠ g2r3; first | exact d2_3 | exact Ne.symm d2_3 | omega) (.int .u8 (v0 : Int))
    replace P4 : Blk _ _ _ _ := P4.far (p := ⟨g2r3, 0, none⟩) (by show w.heap.size + 1 ≠ g2r3; first | exact d2_3 | exact Ne.symm d2_3 | omega) (.int .u8 (v0 : Int))
    replace hB := hB.setCell (p := ⟨g2r3, 0, none⟩) (by show _ ≤ _; omega) (.int .u8 (v0 : Int))
    generalize hWn : World.setCell _ _ _ = Wn at *
    clear hWn c4 fr4
    have c5 := P7.cell 31
    rw [Iv_get _ _ _ (by rw [List.length_set, keyOf_length]; decide), getD_set31, (keyOf_bytes NA).get 31 (by decide)] at c5
    have fr5 := P7.frozen 31
    go_upto_region 6 with fail
    replace P7 := P7.set 31 (.int .u8 (v1 : Int))
    rw [Iv_set] at P7
    replace P8 : Blk _ _ _ _ := P8.far (p := ⟨g2r3, 31, none⟩) (by show g3r3 ≠ g2r3; first | exact d2_3 | exact Ne.symm d2_3 | omega) (.int .u8 (v1 : Int))
    replace P3 : Blk _ _ _ _ := P3.far (p := ⟨g2r3, 31, none⟩) (by show w.heap.size ≠ g2r3; first | exact d2_3 | exact Ne.symm d2_3 | omega) (.int .u8 (v1 : Int))
    replace P4 : Blk _ _ _ _ := P4.far (p := ⟨g2r3, 31, none⟩) (by show w.heap.size + 1 ≠ g2r3; first | exact d2_3 | exact Ne.symm d2_3 | omega) (.int .u8 (v1 : Int))
    replace hB := hB.setCell (p := ⟨g2r3, 31, none⟩) (by show _ ≤ _; omega) (.int .u8 (v1 : Int))
    generalize hWn : World.setCell _ _ _ = Wn at *
    clear hWn c5 fr5
    have c6 := P8.cell 31
    rw [Iv_get _ _ _ (by rw [keyOf_length]; decide), (keyOf_bytes NB).get 31 (by decide)] at c6
    have fr6 := P8.frozen 31
    go_upto_region 7 with fail
    replace P8 := P8.set 31 (.int .u8 (v2 : Int))
    rw [Iv_set] at P8
    replace P7 : Blk _ _ _ _ := P7.far (p := ⟨g3r3, 31, none⟩) (by show g2r3 ≠ g3r3; first | exact d2_3 | exact Ne.symm d2_3 | omega) (.int .u8 (v2 : Int))
    replace P3 : Blk _ _ _ _ := P3.far (p := ⟨g3r3, 31, none⟩) (by show w.heap.size ≠ g3r3; first | exact d2_3 | exact Ne.symm d2_3 | omega) (.int .u8 (v2 : Int))
    replace P4 : Blk _ _ _ _ := P4.far (p := ⟨g3r3, 31, none⟩) (by show w.heap.size + 1 ≠ g3r3; first | exact d2_3 | exact Ne.symm d2_3 | omega) (.int .u8 (v2 : Int))
    replace hB := hB.setCell (p := ⟨g3r3, 31, none⟩) (by show _ ≤ _; omega) (.int .u8 (v2 : Int))
    generalize hWn : World.setCell _ _ _ = Wn at *
    clear hWn c6 fr6
    rw [HS.out] at P7
    rw [HP.out] at P8
    have hS : Facts [.blk (g2r3) 23 (Iv .u8 (keyOf SA)), .blk (g3r3) 23 (Iv .u8 (keyOf SB)), .blk (w.heap.size) 23 (Iv .u8 (keyOf NA)), .blk (w.heap.size + 1) 23 (Iv .u8 (keyOf NB))] _ := Facts.cons (f := .blk (g2r3) 23 (Iv .u8 (keyOf SA))) P7 (Facts.cons (f := .blk (g3r3) 23 (Iv .u8 (keyOf SB))) P8 (Facts.cons (f := .blk (w.heap.size) 23 (Iv .u8 (keyOf NA))) P3 (Facts.cons (f := .blk (w.heap.size + 1) 23 (Iv .u8 (keyOf NB))) P4 Facts.nil)))
    clear P7 P8 P3 P4
    replace hS := hS.drew
    replace hB := below_drew hB
    refine wp_region_Z (S := Facts [.blk (g2r3) 23 (Iv .u8 (keyOf SA)), .blk (g3r3) 23 (Iv .u8 (keyOf SB)), .blk (w.heap.size) 23 (Iv .u8 (keyOf NA)), .blk (w.heap.size + 1) 23 (Iv .u8 (keyOf NB))]) 7 (by kernel_rfl) ?_
    refine wpAnyZ_takeL 0 rfl (by kernel_rfl) (by kernel_rfl) (by kernel_rfl) (by kernel_rfl) (by kernel_rfl) (fun _ _ _ h => h) (show YieldsIf _ _ _ _ (Key (keyOf SA)) _ from yieldsIf_load rfl 23 _ rfl (g2r3) rfl 23 _ _ (.head _) Try.underlying23 rfl (info_key _ (keyOf_length _))) hS ?_
    simp only [Act.put, List.setIfInBounds_toArray, List.set_cons_zero, List.set_cons_succ]
    refine wpAnyZ_takeL 1 rfl (by kernel_rfl) (by kernel_rfl) (by kernel_rfl) (by kernel_rfl) (by kernel_rfl) (fun _ _ _ h => h) (show YieldsIf _ _ _ _ (Key (keyOf SB)) _ from yieldsIf_load rfl 23 _ rfl (g3r3) rfl 23 _ _ (.tail _ (.head _)) Try.underlying23 rfl (info_key _ (keyOf_length _))) hS ?_
    simp only [Act.put, List.setIfInBounds_toArray, List.set_cons_zero, List.set_cons_succ]
    refine wpAnyZ_takeL 3 rfl (by kernel_rfl) (by kernel_rfl) (by kernel_rfl) (by kernel_rfl) (by kernel_rfl) (fun _ _ _ h => h) (show YieldsIf _ _ _ _ (Key (keyOf NA)) _ from yieldsIf_load rfl 23 _ rfl (w.heap.size) rfl 23 _ _ (.tail _ (.tail _ (.head _))) Try.underlying23 rfl (info_key _ (keyOf_length _))) hS ?_
    simp only [Act.put, List.setIfInBounds_toArray, List.set_cons_zero, List.set_cons_succ]
    refine wpAnyZ_takeL 4 rfl (by kernel_rfl) (by kernel_rfl) (by kernel_rfl) (by kernel_rfl) (by kernel_rfl) (fun _ _ _ h => h) (show YieldsIf _ _ _ _ (Key (keyOf NB)) _ from yieldsIf_load rfl 23 _ rfl (w.heap.size + 1) rfl 23 _ _ (.tail _ (.tail _ (.tail _ (.head _)))) Try.underlying23 rfl (info_key _ (keyOf_length _))) hS ?_
    simp only [Act.put, List.setIfInBounds_toArray, List.set_cons_zero, List.set_cons_succ]
    refine wpAnyZ_one (i := 2) (by kernel_rfl) ?_
    unfold wpOp
    go_simp
    left
    refine (CSA.out _).mono ?_
    rintro e v1 ⟨rfl, b⟩
    replace hB := hB.trans (b.mono hB.size)
    replace hS := hS.below b
    clear b
    refine ⟨hS, ?_⟩
    refine wpAnyZ_one (i := 5) (by kernel_rfl) ?_
    unfold wpOp
    go_simp
    left
    refine (CNA.out _).mono ?_
    rintro e v2 ⟨rfl, b⟩
    replace hB := hB.trans (b.mono hB.size)
    replace hS := hS.below b
    clear b
    refine ⟨hS, ?_⟩
    refine wpAnyZ_takeL 6 rfl (by kernel_rfl) (by kernel_rfl) (by kernel_rfl) (by kernel_rfl) (by kernel_rfl) (fun _ _ _ h => h) (yieldsIf_eqlk rfl _ _ rfl N N rfl rfl true kN kN (decide_eq_true rfl)) hS ?_
    simp only [Act.put, List.setIfInBounds_toArray, List.set_cons_zero, List.set_cons_succ]
    refine wpAnyZ_one (i := 7) (by kernel_rfl) ?_
    unfold wpOp
    go_simp
    left
    refine wpAnyZ_done (by kernel_rfl) ?_ _
    go_wp2
    exact bodyPost_ret (results_tmp rfl _ _ _) rfl ⟨rfl, hB⟩
theorem bits_k (l0 l1 : List Int) (f0 f1 : Nat → Nat) (hl0 : Bytes32 l0 f0) (hl1 : Bytes32 l1 f1) (k : Nat) (hk : k < 256) (w : World) :
    Calls Try.prog 5 #[Key l0, Key l1, .int .u8 (k : Int)] w fun e w' => e = .returned (.bool true) ∧ Below w.heap.size w w' := by
  rw [key_of_bytes hl0, key_of_bytes hl1]
  exact bits_n _ _ (leTo_lt256 hl0.lt) (leTo_lt256 hl1.lt) k hk w
end Go.Proofs.Ytgdhlafggdaipaa
