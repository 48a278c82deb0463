/- The reference's Frame: spans that are right (printed by gen11/uj.py). -/
import Derived.Test.YtdlhclakdllogaaUd
namespace Go.Proofs.Ytdlhclakdllogaa
open Go.RowKit

set_option maxHeartbeats 8000000 in
set_option maxRecDepth 100000 in
theorem rf2 (i o n c : Nat) (fn : Bool) (d : List Nat) (a : List (Nat × Nat)) (ha : ∀ q ∈ a, q.1 < 18446744073709551616 ∧ q.2 < 18446744073709551616) (p1 p2 : Option Addr) (c1 m c2 : Nat) (hm : m ≤ 1000000) (W : World) (hd : SB W (.slice p1 0 c1) d) (hs : SA W (.slice p2 m c2) a) (hr : rightL a = true) (po : Option (List Nat)) (hpo : putO [] (2 :: ackNums n a) = po) :
    Calls Try.prog 11 #[.agg #[.int .u64 2, .int .u64 (i : Int), .int .u64 (o : Int), .int .u64 (n : Int), .int .u64 (c : Int), .bool fn, .slice p1 0 c1, .slice p2 m c2]] W fun e w' => ∃ v, e = .returned (.tuple #[v, .int .i64 (if po.isSome then 0 else 2)]) ∧ OwL W.heap.size w' v ((po.map (· ++ d)).getD []) ∧ Below W.heap.size W w' := by
  have ld := Lib.hid hd.len.1
  have CK := Lib.hid (fun w => (show Calls Try.prog 22 #[.int .u64 ((2 : Nat) : Int)] w fun e w' => e = .returned (.bool true) ∧ w' = w from known_c 2 w))
  have CR := Lib.hid (fun w (b : Below W.heap.size W w) => (show Calls Try.prog 16 #[.slice p2 m c2] w fun e w' => e = .returned (.bool true) ∧ Below w.heap.size w w' by have := right_c a ha p2 m c2 hm w (hs.below b); rw [hr] at this; exact this))
  obtain ⟨a1, a32, RA⟩ := rightL_at hr
  have em := hs.len.1
  obtain ⟨g2, o2, rfl, A⟩ : ∃ g o, p2 = some ⟨g, o, none⟩ ∧ PA W g o a := by
    rcases hs.at_ with h0 | h0
    · omega
    · exact h0
  clear hs hr
  obtain ⟨p, r, rfl⟩ : ∃ p r, a = p :: r := by
    cases a with
    | nil => simp at a1
    | cons p r => exact ⟨p, r, rfl⟩
  have er : r.length + 1 = m := em.symm
  have R0 := RA 0 (by simp only [List.length_cons]; omega)
  replace R0 : p.1 ≤ p.2 ∧ p.2 ≤ 4611686018427387903 := ⟨R0.1, R0.2.1⟩
  obtain ⟨y0, hy0⟩ : ∃ y, p.2 = y := ⟨_, rfl⟩
  obtain ⟨x0, hx0⟩ : ∃ x, p.1 = x := ⟨_, rfl⟩
  obtain ⟨M1, hM1⟩ : ∃ M, r.length = M := ⟨_, rfl⟩
  obtain ⟨D0, hD0⟩ : ∃ D, y0 - x0 = D := ⟨_, rfl⟩
  have eL : 2 :: ackNums n (p :: r) = [2, y0, n, M1, D0] ++ gaps p r := by
    show 2 :: p.2 :: n :: r.length :: (p.2 - p.1) :: gaps p r = _
    rw [hy0, hx0, hM1, hD0]
    rfl
  have LO : ∀ w', Below W.heap.size W w' → w'.cell? ⟨g2, o2, none⟩ = some (.int .u64 (x0 : Int)) := fun w' h => by
    have := (A.below h).lo 0 (by simp only [List.length_cons]; omega)
    rw [← hx0]
    simpa using this
  have HI : ∀ w', Below W.heap.size W w' → w'.cell? ⟨g2, o2 + 1, none⟩ = some (.int .u64 (y0 : Int)) := fun w' h => by
    have := (A.below h).hi 0 (by simp only [List.length_cons]; omega)
    rw [← hy0]
    simpa using this
  replace LO := Lib.hid LO
  replace HI := Lib.hid HI
  rw [hx0, hy0] at R0
  have RI : ∀ j, j < M1 → ∃ x y z : Nat, ((p :: r).getD j (0, 0)).1 = z ∧ (r.getD j (0, 0)).2 = y ∧ (r.getD j (0, 0)).1 = x ∧ x ≤ y ∧ y + 2 ≤ z ∧ z ≤ 4611686018427387903 ∧
      (∀ w', Below W.heap.size W w' → w'.cell? ⟨g2, o2 + j * 2, none⟩ = some (.int .u64 (z : Int)) ∧ w'.cell? ⟨g2, o2 + (j + 1) * 2, none⟩ = some (.int .u64 (x : Int)) ∧ w'.cell? ⟨g2, o2 + (j + 1) * 2 + 1, none⟩ = some (.int .u64 (y : Int))) := fun j hj => by
    have h1 := RA (j + 1) (by simp only [List.length_cons]; omega)
    have h2 := RA j (by simp only [List.length_cons]; omega)
    have e1 : (p :: r).getD (j + 1) (0, 0) = r.getD j (0, 0) := rfl
    unfold rightAt at h1 h2
    rw [e1, Nat.add_sub_cancel] at h1
    refine ⟨_, _, _, rfl, rfl, rfl, h1.1, h1.2.2 (by omega), by have := h2.1; have := h2.2.1; omega, fun w' h => ?_⟩
    have q1 := (A.below h).lo j (by simp only [List.length_cons]; omega)
    have q2 := (A.below h).lo (j + 1) (by simp only [List.length_cons]; omega)
    have q3 := (A.below h).hi (j + 1) (by simp only [List.length_cons]; omega)
    rw [← getD_lt (by simp only [List.length_cons]; omega)] at q1 q2 q3
    exact ⟨q1, q2, q3⟩
  replace RI := Lib.hid RI
  have GT := Lib.hid (fun j (h : j < M1) => gaps_take r p j (by omega))
  have GL := Lib.hid (gaps_length r p)
  have HM1 := Lib.hid hM1
  rw [eL] at hpo
  have m0 : (0 : Int) < (m : Int) := by omega
  have m1 : ¬ (m : Int) = 0 := by omega
  have m1n : ¬ m = 0 := by omega
  have wm : IntKind.i64.wrap ((m : Int) - 1) = (m : Int) - 1 := by rw [IntKind.wrap_i64]; omega
  have wM : IntKind.u64.wrap ((m : Int) - 1) = (M1 : Int) := by rw [IntKind.wrap_u64]; omega
  have wD : IntKind.u64.wrap ((y0 : Int) - (x0 : Int)) = (D0 : Int) := by rw [IntKind.wrap_u64]; omega
  have m32 := Lib.hid (show m = M1 + 1 ∧ M1 ≤ 31 by simp only [List.length_cons] at a32; omega)
  clear A RA ha a1 a32 em er hx0 hy0 hM1 hD0 R0 eL
  replace hd := Lib.hid hd
  go_enter Try.func11, Try.ntmps11
  go_upto_region 0 with fail
  rename_i aK
  refine wp_region_seq ?_
  refine wpSeq_wp rfl ?_
  unfold Oper.wp execOp
  go_simp
  refine wpSeq_yield (S := fun _ => True) (yieldsIf_assign rfl _ rfl (.slice none 0 0) rfl) trivial ?_
  simp only [AP]
  refine wpSeq_yield (S := fun _ => True) (yieldsIf_assign rfl _ rfl (.int .i64 0) rfl) trivial ?_
  simp only [AP]
  refine wpSeq_nil ?_
  refine aK _ _ ?_
  clear aK
  have K := Blk.new W 26 #[.int .u64 2, .int .u64 (i : Int), .int .u64 (o : Int), .int .u64 (n : Int), .int .u64 (c : Int), .bool fn, .slice p1 0 c1, .slice (some ⟨g2, o2, none⟩) m c2]
  have b0 := (Below.refl W.heap.size W).alloc (Nat.le_refl _) (.cells #[.int .u64 2, .int .u64 (i : Int), .int .u64 (o : Int), .int .u64 (n : Int), .int .u64 (c : Int), .bool fn, .slice p1 0 c1, .slice (some ⟨g2, o2, none⟩) m c2] 26)
  generalize World.alloc W _ = W2 at *
  have b := Below.refl W2.heap.size W2
  replace hd := hd.out.below b0
  replace hd := Lib.hid hd
  have x0 : W2.cell? ⟨W.heap.size, 0, none⟩ = some (.int .u64 2) := K.cell 0
  have x1 : W2.cell? ⟨W.heap.size, 1, none⟩ = some (.int .u64 (i : Int)) := K.cell 1
  have x2 : W2.cell? ⟨W.heap.size, 2, none⟩ = some (.int .u64 (o : Int)) := K.cell 2
  have x3 : W2.cell? ⟨W.heap.size, 3, none⟩ = some (.int .u64 (n : Int)) := K.cell 3
  have x4 : W2.cell? ⟨W.heap.size, 4, none⟩ = some (.int .u64 (c : Int)) := K.cell 4
  have x5 : W2.cell? ⟨W.heap.size, 5, none⟩ = some (.bool fn) := K.cell 5
  have x6 : W2.cell? ⟨W.heap.size, 6, none⟩ = some (.slice p1 0 c1) := K.cell 6
  have x7 : W2.cell? ⟨W.heap.size, 7, none⟩ = some (.slice (some ⟨g2, o2, none⟩) m c2) := K.cell 7
  replace K := Lib.hid K
  have BW := fun w (h : Below W2.heap.size W2 w) => b0.trans (h.mono b0.size)
  go_wp2_with fail
  refine (CK.out _).mono ?_
  rintro _ w3 ⟨he, hw⟩
  subst w3
  subst he
  clear CK
  go_upto_region 8 with fail
  rename_i aK
  refine wp_region_seq ?_
  refine wpSeq_yield (S := fun _ => True) (v := .pointer (some ⟨W.heap.size, 0, none⟩)) (Or.inl ⟨by rfl, fun w' hw' => by go_simp⟩) trivial ?_
  simp only [AP]
  refine wpSeq_yield (S := fun w' => w' = W2) (v := .int .u64 2) (Or.inl ⟨by rfl, fun w' hw' => by (rw [hw']; go_simp)⟩) rfl ?_
  simp only [AP]
  refine wpSeq_wp rfl ?_
  unfold Oper.wp execOp
  go_simp
  refine wpSeq_yield (S := fun _ => True) (yieldsIf_assign rfl _ rfl (.slice (some ⟨W2.heap.size, 0, none⟩) 1 1) rfl) trivial ?_
  simp only [AP]
  refine wpSeq_nil ?_
  refine aK _ _ ?_
  clear aK x0 x1 x2 x3 x4 x5 x6 x7
  have O := OwU.new W2.heap.size W2 [2] (Nat.le_refl _) (by decide)
  replace O : OwU W2.heap.size (W2.alloc (.cells #[.int .u64 2] 22)) (.slice (some ⟨W2.heap.size, 0, none⟩) 1 1) [2] := O
  replace b := b.alloc (Nat.le_refl _) (.cells #[.int .u64 2] 22)
  obtain ⟨v5, hv5⟩ : ∃ v, v = Value.slice (some ⟨W2.heap.size, 0, none⟩) 1 1 := ⟨_, rfl⟩
  rw [← hv5] at O ⊢
  generalize World.alloc W2 _ = W3 at *
  clear hv5
  have K3 := K.out.below' b
  replace O := Lib.hid O
  have x0 : W3.cell? ⟨W.heap.size, 0, none⟩ = some (.int .u64 2) := K3.cell 0
  have x1 : W3.cell? ⟨W.heap.size, 1, none⟩ = some (.int .u64 (i : Int)) := K3.cell 1
  have x2 : W3.cell? ⟨W.heap.size, 2, none⟩ = some (.int .u64 (o : Int)) := K3.cell 2
  have x3 : W3.cell? ⟨W.heap.size, 3, none⟩ = some (.int .u64 (n : Int)) := K3.cell 3
  have x4 : W3.cell? ⟨W.heap.size, 4, none⟩ = some (.int .u64 (c : Int)) := K3.cell 4
  have x5 : W3.cell? ⟨W.heap.size, 5, none⟩ = some (.bool fn) := K3.cell 5
  have x6 : W3.cell? ⟨W.heap.size, 6, none⟩ = some (.slice p1 0 c1) := K3.cell 6
  have x7 : W3.cell? ⟨W.heap.size, 7, none⟩ = some (.slice (some ⟨g2, o2, none⟩) m c2) := K3.cell 7
  clear K3
  go_wp2_with fail
  refine (CR.out _ (BW _ b)).mono ?_
  rintro _ w4 ⟨rfl, b4⟩
  have O4 := O.out.below b4
  replace b := b.trans (b4.mono b.size)
  clear CR b4 O x0 x1 x2 x3 x4 x5 x6 x7
  replace b := below_drew b
  replace O4 := (show OwU W2.heap.size w4.drew v5 [2] from O4.of_block fun _ _ => rfl)
  obtain ⟨v7, w7, h7, O7, B7⟩ := append_words W2.heap.size W2 w4.drew 49 v5 [2] [y0, n, M1, D0] O4 (by simp only [List.length_cons, List.length_nil]; omega) b b.size
  replace h7 : (Builtin.append_ #[49, 49] 49 #[v5, .slice (some ⟨w4.drew.heap.size, 0, none⟩) 4 4]).run Try.prog (w4.drew.alloc (.cells #[.int .u64 (y0 : Int), .int .u64 (n : Int), .int .u64 (M1 : Int), .int .u64 (D0 : Int)] 22)) = .ok v7 w7 := h7
  have b24 := b.alloc b.size (.cells #[.int .u64 (y0 : Int), .int .u64 (n : Int), .int .u64 (M1 : Int), .int .u64 (D0 : Int)] 22)
  replace O7 : OwU W2.heap.size w7 v7 [2, y0, n, M1, D0] := O7
  clear O4
  go_upto_region 13 with fail
  rename_i aK
  refine wp_region_S (S := fun w' => Below W2.heap.size W2 w') (by kernel_rfl) ?_
  refine wpAnyS_takeL 0 (v := v5) rfl (by kernel_rfl) (by kernel_rfl) (by kernel_rfl) (fun _ _ _ H => H) (yieldsIf_move rfl _ rfl (v5) rfl) b ?_
  simp only [AP]
  refine wpAnyS_takeL 1 (v := .pointer (some ⟨W.heap.size, 7, none⟩)) rfl (by kernel_rfl) (by kernel_rfl) (by kernel_rfl) (fun _ _ _ H => H) (Or.inl ⟨by rfl, fun w' hw' => by go_simp⟩) b ?_
  simp only [AP]
  refine wpAnyS_takeL 2 (v := .slice (some ⟨g2, o2, none⟩) m c2) rfl (by kernel_rfl) (by kernel_rfl) (by kernel_rfl) (fun _ _ _ H => H) (Or.inl ⟨by rfl, fun w' hw' => by (have cc : w'.cell? ⟨W.heap.size, 7, none⟩ = some (.slice (some ⟨g2, o2, none⟩) m c2) := (K.out.below' hw').cell 7; go_simp)⟩) b ?_
  simp only [AP]
  refine wpAnyS_takeL 3 (v := .pointer (some ⟨g2, o2, none⟩)) rfl (by kernel_rfl) (by kernel_rfl) (by kernel_rfl) (fun _ _ _ H => H) (Or.inl ⟨by rfl, fun w' hw' => by go_simp⟩) b ?_
  simp only [AP]
  refine wpAnyS_takeL 4 (v := .pointer (some ⟨g2, o2 + 1, none⟩)) rfl (by kernel_rfl) (by kernel_rfl) (by kernel_rfl) (fun _ _ _ H => H) (Or.inl ⟨by rfl, fun w' hw' => by go_simp⟩) b ?_
  simp only [AP]
  refine wpAnyS_takeL 5 (v := .int .u64 (y0 : Int)) rfl (by kernel_rfl) (by kernel_rfl) (by kernel_rfl) (fun _ _ _ H => H) (Or.inl ⟨by rfl, fun w' hw' => by (have cc := HI.out w' (BW w' hw'); go_simp)⟩) b ?_
  simp only [AP]
  refine wpAnyS_takeL 6 (v := .pointer (some ⟨W.heap.size, 3, none⟩)) rfl (by kernel_rfl) (by kernel_rfl) (by kernel_rfl) (fun _ _ _ H => H) (Or.inl ⟨by rfl, fun w' hw' => by go_simp⟩) b ?_
  simp only [AP]
  refine wpAnyS_takeL 7 (v := .int .u64 (n : Int)) rfl (by kernel_rfl) (by kernel_rfl) (by kernel_rfl) (fun _ _ _ H => H) (Or.inl ⟨by rfl, fun w' hw' => by (have cc : w'.cell? ⟨W.heap.size, 3, none⟩ = some (.int .u64 (n : Int)) := (K.out.below' hw').cell 3; go_simp)⟩) b ?_
  simp only [AP]
  refine wpAnyS_takeL 8 (v := .pointer (some ⟨W.heap.size, 7, none⟩)) rfl (by kernel_rfl) (by kernel_rfl) (by kernel_rfl) (fun _ _ _ H => H) (Or.inl ⟨by rfl, fun w' hw' => by go_simp⟩) b ?_
  simp only [AP]
  refine wpAnyS_takeL 9 (v := .slice (some ⟨g2, o2, none⟩) m c2) rfl (by kernel_rfl) (by kernel_rfl) (by kernel_rfl) (fun _ _ _ H => H) (Or.inl ⟨by rfl, fun w' hw' => by (have cc : w'.cell? ⟨W.heap.size, 7, none⟩ = some (.slice (some ⟨g2, o2, none⟩) m c2) := (K.out.below' hw').cell 7; go_simp)⟩) b ?_
  simp only [AP]
  refine wpAnyS_takeL 10 (v := .int .i64 (m : Int)) rfl (by kernel_rfl) (by kernel_rfl) (by kernel_rfl) (fun _ _ _ H => H) (Or.inl ⟨by rfl, fun w' hw' => by go_simp⟩) b ?_
  simp only [AP]
  refine wpAnyS_takeL 11 (v := .int .i64 ((m : Int) - 1)) rfl (by kernel_rfl) (by kernel_rfl) (by kernel_rfl) (fun _ _ _ H => H) (Or.inl ⟨by rfl, fun w' hw' => by go_simp⟩) b ?_
  simp only [AP]
  refine wpAnyS_takeL 12 (v := .int .u64 (M1 : Int)) rfl (by kernel_rfl) (by kernel_rfl) (by kernel_rfl) (fun _ _ _ H => H) (Or.inl ⟨by rfl, fun w' hw' => by go_simp⟩) b ?_
  simp only [AP]
  refine wpAnyS_takeL 13 (v := .pointer (some ⟨W.heap.size, 7, none⟩)) rfl (by kernel_rfl) (by kernel_rfl) (by kernel_rfl) (fun _ _ _ H => H) (Or.inl ⟨by rfl, fun w' hw' => by go_simp⟩) b ?_
  simp only [AP]
  refine wpAnyS_takeL 14 (v := .slice (some ⟨g2, o2, none⟩) m c2) rfl (by kernel_rfl) (by kernel_rfl) (by kernel_rfl) (fun _ _ _ H => H) (Or.inl ⟨by rfl, fun w' hw' => by (have cc : w'.cell? ⟨W.heap.size, 7, none⟩ = some (.slice (some ⟨g2, o2, none⟩) m c2) := (K.out.below' hw').cell 7; go_simp)⟩) b ?_
  simp only [AP]
  refine wpAnyS_takeL 15 (v := .pointer (some ⟨g2, o2, none⟩)) rfl (by kernel_rfl) (by kernel_rfl) (by kernel_rfl) (fun _ _ _ H => H) (Or.inl ⟨by rfl, fun w' hw' => by go_simp⟩) b ?_
  simp only [AP]
  refine wpAnyS_takeL 16 (v := .pointer (some ⟨g2, o2 + 1, none⟩)) rfl (by kernel_rfl) (by kernel_rfl) (by kernel_rfl) (fun _ _ _ H => H) (Or.inl ⟨by rfl, fun w' hw' => by go_simp⟩) b ?_
  simp only [AP]
  refine wpAnyS_takeL 17 (v := .int .u64 (y0 : Int)) rfl (by kernel_rfl) (by kernel_rfl) (by kernel_rfl) (fun _ _ _ H => H) (Or.inl ⟨by rfl, fun w' hw' => by (have cc := HI.out w' (BW w' hw'); go_simp)⟩) b ?_
  simp only [AP]
  refine wpAnyS_takeL 18 (v := .pointer (some ⟨W.heap.size, 7, none⟩)) rfl (by kernel_rfl) (by kernel_rfl) (by kernel_rfl) (fun _ _ _ H => H) (Or.inl ⟨by rfl, fun w' hw' => by go_simp⟩) b ?_
  simp only [AP]
  refine wpAnyS_takeL 19 (v := .slice (some ⟨g2, o2, none⟩) m c2) rfl (by kernel_rfl) (by kernel_rfl) (by kernel_rfl) (fun _ _ _ H => H) (Or.inl ⟨by rfl, fun w' hw' => by (have cc : w'.cell? ⟨W.heap.size, 7, none⟩ = some (.slice (some ⟨g2, o2, none⟩) m c2) := (K.out.below' hw').cell 7; go_simp)⟩) b ?_
  simp only [AP]
  refine wpAnyS_takeL 20 (v := .pointer (some ⟨g2, o2, none⟩)) rfl (by kernel_rfl) (by kernel_rfl) (by kernel_rfl) (fun _ _ _ H => H) (Or.inl ⟨by rfl, fun w' hw' => by go_simp⟩) b ?_
  simp only [AP]
  refine wpAnyS_takeL 21 (v := .pointer (some ⟨g2, o2, none⟩)) rfl (by kernel_rfl) (by kernel_rfl) (by kernel_rfl) (fun _ _ _ H => H) (Or.inl ⟨by rfl, fun w' hw' => by go_simp⟩) b ?_
  simp only [AP]
  refine wpAnyS_takeL 22 (v := .int .u64 (x0 : Int)) rfl (by kernel_rfl) (by kernel_rfl) (by kernel_rfl) (fun _ _ _ H => H) (Or.inl ⟨by rfl, fun w' hw' => by (have cc := LO.out w' (BW w' hw'); go_simp)⟩) b ?_
  simp only [AP]
  refine wpAnyS_takeL 23 (v := .int .u64 (D0 : Int)) rfl (by kernel_rfl) (by kernel_rfl) (by kernel_rfl) (fun _ _ _ H => H) (Or.inl ⟨by rfl, fun w' hw' => by go_simp⟩) b ?_
  simp only [AP]
  refine gstep 24 rfl rfl (by kernel_rfl) ?_
  unfold Oper.wp execOp
  go_simp
  refine ⟨b24, ?_⟩
  refine gstep 25 rfl rfl (by kernel_rfl) ?_
  refine wp_append_run _ _ _ _ rfl _ _ rfl rfl v7 w7 h7 ?_
  simp only [AP]
  refine ⟨B7, ?_⟩
  refine wpAnyS_takeL 26 (v := v7) rfl (by kernel_rfl) (by kernel_rfl) (by kernel_rfl) (fun _ _ _ H => H) (yieldsIf_assign rfl _ rfl (v7) rfl) B7 ?_
  simp only [AP]
  refine wpAnyS_done (by kernel_rfl) ?_ _
  refine aK _ _ ?_
  clear aK h7 b24 b LO HI wm wM wD
  replace O7 := Lib.hid O7
  go_upto_region 15 with fail
  go_loopw [5, 6] (fun v t wr => ∃ j : Nat, j ≤ M1 ∧ t = .int .i64 ((j : Int) + 1) ∧ OwU W2.heap.size wr v ([2, y0, n, M1, D0] ++ (gaps p r).take (2 * j)) ∧ Below W2.heap.size W2 wr) (fun _ t _ => (m - intOf t).toNat)
  case atStart => exact ⟨0, by omega, rfl, by rw [List.take_zero, List.append_nil]; exact O7.out, B7⟩
  case round =>
    clear O7 B7
    obtain ⟨j, hj, rfl, O, b⟩ := hrel
    have x7 : wr.cell? ⟨W.heap.size, 7, none⟩ = some (.slice (some ⟨g2, o2, none⟩) m c2) := (K.out.below' b).cell 7
    by_cases hjm : j = M1
    · subst j
      rw [List.take_of_length_le (by rw [GL.out, HM1.out]; exact Nat.le_refl _)] at O
      have g1 : ¬ (M1 : Int) + 1 < (m : Int) := by have := m32.out; omega
      obtain ⟨LL, hLL⟩ : ∃ LL, [2, y0, n, M1, D0] ++ gaps p r = LL := ⟨_, rfl⟩
      have lLL : LL.length ≤ 1000 := by
        rw [← hLL, List.length_append, GL.out, HM1.out]
        simp only [List.length_cons, List.length_nil]
        have := m32.out
        omega
      rw [hLL] at O hpo
      have O := Lib.hid O
      clear RI GT GL hLL hj
      have sd := hd.out.below b
      obtain ⟨p5, c5, hv⟩ := O.out.shape
      subst hv
      have CP := Lib.hid (rputall_own LL lLL p5 _ c5 _ O.out.su)
      clear O hd
      go_upto_region 41 with fail
      rename_i aK 
      refine wp_region_seq ?_
      refine wpSeq_yield (S := fun _ => True) (yieldsIf_move rfl _ rfl (.slice p5 LL.length c5) rfl) trivial ?_
      simp only [AP]
      refine wpSeq_wp rfl ?_
      unfold Oper.wp execOp
      go_simp
      refine CP.out.mono ?_
      rintro _ w6 ⟨v6, rfl, h6, b6⟩
      have B6 := b.trans (b6.mono b.size)
      have s6 := sd.below b6
      have K6 := K.out.below' B6
      have hb := b.size
      have lr := fun r h => putO_len (l := LL) (r := r) h lLL
      rw [hpo] at h6 lr ⊢
      clear hpo CP sd b6 b K
      cases po with
      | none =>
        clear h6 s6 lr K6
        go_simp
        refine wpSeq_yield (S := fun _ => True) (yieldsIf_move rfl _ rfl (.tuple #[v6, .bool false]) rfl) trivial ?_
        simp only [AP]
        refine wpSeq_yield (S := fun _ => True) (v := v6) (Or.inl ⟨by rfl, fun w' hw' => by go_simp⟩) trivial ?_
        simp only [AP]
        refine wpSeq_yield (S := fun _ => True) (v := .bool false) (Or.inl ⟨by rfl, fun w' hw' => by go_simp⟩) trivial ?_
        simp only [AP]
        refine wpSeq_yield (S := fun _ => True) (yieldsIf_assign rfl _ rfl (v6) rfl) trivial ?_
        simp only [AP]
        refine wpSeq_yield (S := fun _ => True) (yieldsIf_assign rfl _ rfl (.bool false) rfl) trivial ?_
        simp only [AP]
        refine wpSeq_nil ?_
        refine aK _ _ ?_
        clear aK
        go_wp2
        refine bodyPost_ret (results_tmp2 rfl _ _ _) rfl ?_
        exact ⟨_, rfl, OwL.nil _ _, b0.trans (B6.mono b0.size)⟩
      | some r =>
        have O6 := h6 r rfl
        have k6 : w6.cell? ⟨W.heap.size, 6, none⟩ = some (.slice p1 0 c1) := K6.cell 6
        obtain ⟨v7, w7, h7, O7, B7⟩ := append_more W2.heap.size W2 w6 23 v6 (.slice p1 0 c1) r d (O6.mono hb) s6 (by have := lr r rfl; have := ld.out; omega) B6 B6.size
        clear h6 s6 lr K6 O6 B6
        go_simp
        refine wpSeq_yield (S := fun _ => True) (yieldsIf_move rfl _ rfl (.tuple #[v6, .bool true]) rfl) trivial ?_
        simp only [AP]
        refine wpSeq_yield (S := fun _ => True) (v := v6) (Or.inl ⟨by rfl, fun w' hw' => by go_simp⟩) trivial ?_
        simp only [AP]
        refine wpSeq_yield (S := fun _ => True) (v := .bool true) (Or.inl ⟨by rfl, fun w' hw' => by go_simp⟩) trivial ?_
        simp only [AP]
        refine wpSeq_yield (S := fun _ => True) (yieldsIf_assign rfl _ rfl (v6) rfl) trivial ?_
        simp only [AP]
        refine wpSeq_yield (S := fun _ => True) (yieldsIf_assign rfl _ rfl (.bool true) rfl) trivial ?_
        simp only [AP]
        refine wpSeq_nil ?_
        refine aK _ _ ?_
        clear aK
        go_upto_region 44 with fail
        rename_i aK
        refine wp_region_seq ?_
        refine wpSeq_yield (S := fun _ => True) (yieldsIf_move rfl _ rfl (v6) rfl) trivial ?_
        simp only [AP]
        refine wpSeq_yield (S := fun _ => True) (v := .pointer (some ⟨W.heap.size, 6, none⟩)) (Or.inl ⟨by rfl, fun w' hw' => by go_simp⟩) trivial ?_
        simp only [AP]
        refine wpSeq_yield (S := fun w' => w' = w6) (v := .slice p1 0 c1) (Or.inl ⟨by rfl, fun w' hw' => by (rw [hw']; go_simp)⟩) rfl ?_
        simp only [AP]
        refine wpSeq_wp rfl (wp_append_run _ _ _ _ rfl _ _ rfl rfl v7 w7 h7 ?_)
        simp only [AP]
        refine wpSeq_yield (S := fun _ => True) (yieldsIf_assign rfl _ rfl (v7) rfl) trivial ?_
        simp only [AP]
        refine wpSeq_yield (S := fun _ => True) (yieldsIf_assign rfl _ rfl (.int .i64 0) rfl) trivial ?_
        simp only [AP]
        refine wpSeq_nil ?_
        refine aK _ _ ?_
        clear aK k6 h7
        go_wp2
        refine bodyPost_ret (results_tmp2 rfl _ _ _) rfl ?_
        exact ⟨_, rfl, O7.mono b0.size, b0.trans (B7.mono b0.size)⟩
    · have m32' := m32.out
      have g1 : (j : Int) + 1 < (m : Int) := by omega
      obtain ⟨x, y, z, e1, e2, e3, xy, yz, z62, CE⟩ := RI.out j (by omega)
      have gt := GT.out j (by omega)
      rw [e1, e2, e3] at gt
      obtain ⟨G, hG⟩ : ∃ G, z - y - 2 = G := ⟨_, rfl⟩
      obtain ⟨E, hE⟩ : ∃ E, y - x = E := ⟨_, rfl⟩
      rw [hG, hE] at gt
      have CE := Lib.hid CE
      obtain ⟨zy, hzy⟩ : ∃ q, z - y = q := ⟨_, rfl⟩
      have q1 : zy + y = z := by omega
      have q2 : G + 2 = zy := by omega
      have q3 : E + x = y := by omega
      clear hG hE hzy e1 e2 e3
      have w1 : IntKind.u64.wrap ((z : Int) - (y : Int)) = (zy : Int) := by rw [IntKind.wrap_u64]; clear gt hj hjm; omega
      have w2 : IntKind.u64.wrap ((zy : Int) - 2) = (G : Int) := by rw [IntKind.wrap_u64]; clear gt hj hjm; omega
      have w3 : IntKind.u64.wrap ((y : Int) - (x : Int)) = (E : Int) := by rw [IntKind.wrap_u64]; clear gt hj hjm; omega
      have d1 : IntKind.i64.wrap ((j : Int) + 1 - 1) = (j : Int) := by rw [IntKind.wrap_i64]; omega
      have d1' : IntKind.i64.wrap (j : Int) = (j : Int) := by rw [IntKind.wrap_i64]; omega
      have j0 : (0 : Int) ≤ (j : Int) := by omega
      have j1 : (j : Int) < (m : Int) := by omega
      have j2 : (0 : Int) ≤ (j : Int) + 1 := by omega
      replace b := below_drew b
      replace O := (show OwU W2.heap.size wr.drew u5 _ from O.of_block fun _ _ => rfl)
      obtain ⟨v7, w7, h7, O7, B7⟩ := append_words W2.heap.size W2 wr.drew 49 u5 _ [G, E] O (by rw [List.length_append, List.length_take]; simp only [List.length_cons, List.length_nil]; omega) b b.size
      rw [List.append_assoc, ← gt] at O7
      replace h7 : (Builtin.append_ #[49, 49] 49 #[u5, .slice (some ⟨wr.drew.heap.size, 0, none⟩) 2 2]).run Try.prog (wr.drew.alloc (.cells #[.int .u64 (G : Int), .int .u64 (E : Int)] 22)) = .ok v7 w7 := h7
      have b24 := b.alloc b.size (.cells #[.int .u64 (G : Int), .int .u64 (E : Int)] 22)
      have O7 := Lib.hid O7
      clear m32' O gt q1 q2 q3 RI GT GL xy yz z62
      go_upto_region 17 with fail
      rename_i aK
      refine wp_region_S (S := fun w' => Below W2.heap.size W2 w') (by kernel_rfl) ?_
      refine wpAnyS_takeL 0 (v := u5) rfl (by kernel_rfl) (by kernel_rfl) (by kernel_rfl) (fun _ _ _ H => H) (yieldsIf_move rfl _ rfl (u5) rfl) b ?_
      simp only [AP]
      refine wpAnyS_takeL 1 (v := .pointer (some ⟨W.heap.size, 7, none⟩)) rfl (by kernel_rfl) (by kernel_rfl) (by kernel_rfl) (fun _ _ _ H => H) (Or.inl ⟨by rfl, fun w' hw' => by go_simp⟩) b ?_
      simp only [AP]
      refine wpAnyS_takeL 2 (v := .slice (some ⟨g2, o2, none⟩) m c2) rfl (by kernel_rfl) (by kernel_rfl) (by kernel_rfl) (fun _ _ _ H => H) (Or.inl ⟨by rfl, fun w' hw' => by (have cc : w'.cell? ⟨W.heap.size, 7, none⟩ = some (.slice (some ⟨g2, o2, none⟩) m c2) := (K.out.below' hw').cell 7; go_simp)⟩) b ?_
      simp only [AP]
      refine wpAnyS_takeL 3 (v := .int .i64 ((j : Int) + 1)) rfl (by kernel_rfl) (by kernel_rfl) (by kernel_rfl) (fun _ _ _ H => H) (yieldsIf_move rfl _ rfl (.int .i64 ((j : Int) + 1)) rfl) b ?_
      simp only [AP]
      refine wpAnyS_takeL 4 (v := .int .i64 (j : Int)) rfl (by kernel_rfl) (by kernel_rfl) (by kernel_rfl) (fun _ _ _ H => H) (Or.inl ⟨by rfl, fun w' hw' => by (go_simp)⟩) b ?_
      simp only [AP]
      refine wpAnyS_takeL 5 (v := .pointer (some ⟨g2, o2 + j * 2, none⟩)) rfl (by kernel_rfl) (by kernel_rfl) (by kernel_rfl) (fun _ _ _ H => H) (Or.inl ⟨by rfl, fun w' hw' => by go_simp⟩) b ?_
      simp only [AP]
      refine wpAnyS_takeL 6 (v := .pointer (some ⟨g2, o2 + j * 2, none⟩)) rfl (by kernel_rfl) (by kernel_rfl) (by kernel_rfl) (fun _ _ _ H => H) (Or.inl ⟨by rfl, fun w' hw' => by go_simp⟩) b ?_
      simp only [AP]
      refine wpAnyS_takeL 7 (v := .int .u64 (z : Int)) rfl (by kernel_rfl) (by kernel_rfl) (by kernel_rfl) (fun _ _ _ H => H) (Or.inl ⟨by rfl, fun w' hw' => by (have cc := (CE.out w' (BW w' hw')).1; go_simp)⟩) b ?_
      simp only [AP]
      refine wpAnyS_takeL 8 (v := .pointer (some ⟨W.heap.size, 7, none⟩)) rfl (by kernel_rfl) (by kernel_rfl) (by kernel_rfl) (fun _ _ _ H => H) (Or.inl ⟨by rfl, fun w' hw' => by go_simp⟩) b ?_
      simp only [AP]
      refine wpAnyS_takeL 9 (v := .slice (some ⟨g2, o2, none⟩) m c2) rfl (by kernel_rfl) (by kernel_rfl) (by kernel_rfl) (fun _ _ _ H => H) (Or.inl ⟨by rfl, fun w' hw' => by (have cc : w'.cell? ⟨W.heap.size, 7, none⟩ = some (.slice (some ⟨g2, o2, none⟩) m c2) := (K.out.below' hw').cell 7; go_simp)⟩) b ?_
      simp only [AP]
      refine wpAnyS_takeL 10 (v := .int .i64 ((j : Int) + 1)) rfl (by kernel_rfl) (by kernel_rfl) (by kernel_rfl) (fun _ _ _ H => H) (yieldsIf_move rfl _ rfl (.int .i64 ((j : Int) + 1)) rfl) b ?_
      simp only [AP]
      refine wpAnyS_takeL 11 (v := .pointer (some ⟨g2, o2 + (j + 1) * 2, none⟩)) rfl (by kernel_rfl) (by kernel_rfl) (by kernel_rfl) (fun _ _ _ H => H) (Or.inl ⟨by rfl, fun w' hw' => by go_simp⟩) b ?_
      simp only [AP]
      refine wpAnyS_takeL 12 (v := .pointer (some ⟨g2, o2 + (j + 1) * 2 + 1, none⟩)) rfl (by kernel_rfl) (by kernel_rfl) (by kernel_rfl) (fun _ _ _ H => H) (Or.inl ⟨by rfl, fun w' hw' => by go_simp⟩) b ?_
      simp only [AP]
      refine wpAnyS_takeL 13 (v := .int .u64 (y : Int)) rfl (by kernel_rfl) (by kernel_rfl) (by kernel_rfl) (fun _ _ _ H => H) (Or.inl ⟨by rfl, fun w' hw' => by (have cc := (CE.out w' (BW w' hw')).2.2; go_simp)⟩) b ?_
      simp only [AP]
      refine wpAnyS_takeL 14 (v := .int .u64 (zy : Int)) rfl (by kernel_rfl) (by kernel_rfl) (by kernel_rfl) (fun _ _ _ H => H) (Or.inl ⟨by rfl, fun w' hw' => by go_simp⟩) b ?_
      simp only [AP]
      refine wpAnyS_takeL 15 (v := .int .u64 (G : Int)) rfl (by kernel_rfl) (by kernel_rfl) (by kernel_rfl) (fun _ _ _ H => H) (Or.inl ⟨by rfl, fun w' hw' => by go_simp⟩) b ?_
      simp only [AP]
      refine wpAnyS_takeL 16 (v := .pointer (some ⟨W.heap.size, 7, none⟩)) rfl (by kernel_rfl) (by kernel_rfl) (by kernel_rfl) (fun _ _ _ H => H) (Or.inl ⟨by rfl, fun w' hw' => by go_simp⟩) b ?_
      simp only [AP]
      refine wpAnyS_takeL 17 (v := .slice (some ⟨g2, o2, none⟩) m c2) rfl (by kernel_rfl) (by kernel_rfl) (by kernel_rfl) (fun _ _ _ H => H) (Or.inl ⟨by rfl, fun w' hw' => by (have cc : w'.cell? ⟨W.heap.size, 7, none⟩ = some (.slice (some ⟨g2, o2, none⟩) m c2) := (K.out.below' hw').cell 7; go_simp)⟩) b ?_
      simp only [AP]
      refine wpAnyS_takeL 18 (v := .int .i64 ((j : Int) + 1)) rfl (by kernel_rfl) (by kernel_rfl) (by kernel_rfl) (fun _ _ _ H => H) (yieldsIf_move rfl _ rfl (.int .i64 ((j : Int) + 1)) rfl) b ?_
      simp only [AP]
      refine wpAnyS_takeL 19 (v := .pointer (some ⟨g2, o2 + (j + 1) * 2, none⟩)) rfl (by kernel_rfl) (by kernel_rfl) (by kernel_rfl) (fun _ _ _ H => H) (Or.inl ⟨by rfl, fun w' hw' => by go_simp⟩) b ?_
      simp only [AP]
      refine wpAnyS_takeL 20 (v := .pointer (some ⟨g2, o2 + (j + 1) * 2 + 1, none⟩)) rfl (by kernel_rfl) (by kernel_rfl) (by kernel_rfl) (fun _ _ _ H => H) (Or.inl ⟨by rfl, fun w' hw' => by go_simp⟩) b ?_
      simp only [AP]
      refine wpAnyS_takeL 21 (v := .int .u64 (y : Int)) rfl (by kernel_rfl) (by kernel_rfl) (by kernel_rfl) (fun _ _ _ H => H) (Or.inl ⟨by rfl, fun w' hw' => by (have cc := (CE.out w' (BW w' hw')).2.2; go_simp)⟩) b ?_
      simp only [AP]
      refine wpAnyS_takeL 22 (v := .pointer (some ⟨W.heap.size, 7, none⟩)) rfl (by kernel_rfl) (by kernel_rfl) (by kernel_rfl) (fun _ _ _ H => H) (Or.inl ⟨by rfl, fun w' hw' => by go_simp⟩) b ?_
      simp only [AP]
      refine wpAnyS_takeL 23 (v := .slice (some ⟨g2, o2, none⟩) m c2) rfl (by kernel_rfl) (by kernel_rfl) (by kernel_rfl) (fun _ _ _ H => H) (Or.inl ⟨by rfl, fun w' hw' => by (have cc : w'.cell? ⟨W.heap.size, 7, none⟩ = some (.slice (some ⟨g2, o2, none⟩) m c2) := (K.out.below' hw').cell 7; go_simp)⟩) b ?_
      simp only [AP]
      refine wpAnyS_takeL 24 (v := .int .i64 ((j : Int) + 1)) rfl (by kernel_rfl) (by kernel_rfl) (by kernel_rfl) (fun _ _ _ H => H) (yieldsIf_move rfl _ rfl (.int .i64 ((j : Int) + 1)) rfl) b ?_
      simp only [AP]
      refine wpAnyS_takeL 25 (v := .pointer (some ⟨g2, o2 + (j + 1) * 2, none⟩)) rfl (by kernel_rfl) (by kernel_rfl) (by kernel_rfl) (fun _ _ _ H => H) (Or.inl ⟨by rfl, fun w' hw' => by go_simp⟩) b ?_
      simp only [AP]
      refine wpAnyS_takeL 26 (v := .pointer (some ⟨g2, o2 + (j + 1) * 2, none⟩)) rfl (by kernel_rfl) (by kernel_rfl) (by kernel_rfl) (fun _ _ _ H => H) (Or.inl ⟨by rfl, fun w' hw' => by go_simp⟩) b ?_
      simp only [AP]
      refine wpAnyS_takeL 27 (v := .int .u64 (x : Int)) rfl (by kernel_rfl) (by kernel_rfl) (by kernel_rfl) (fun _ _ _ H => H) (Or.inl ⟨by rfl, fun w' hw' => by (have cc := (CE.out w' (BW w' hw')).2.1; go_simp)⟩) b ?_
      simp only [AP]
      refine wpAnyS_takeL 28 (v := .int .u64 (E : Int)) rfl (by kernel_rfl) (by kernel_rfl) (by kernel_rfl) (fun _ _ _ H => H) (Or.inl ⟨by rfl, fun w' hw' => by go_simp⟩) b ?_
      simp only [AP]
      refine gstep 29 rfl rfl (by kernel_rfl) ?_
      unfold Oper.wp execOp
      go_simp
      refine ⟨b24, ?_⟩
      refine gstep 30 rfl rfl (by kernel_rfl) ?_
      refine wp_append_run _ _ _ _ rfl _ _ rfl rfl v7 w7 h7 ?_
      simp only [AP]
      refine ⟨B7, ?_⟩
      refine wpAnyS_takeL 31 (v := v7) rfl (by kernel_rfl) (by kernel_rfl) (by kernel_rfl) (fun _ _ _ H => H) (yieldsIf_assign rfl _ rfl (v7) rfl) B7 ?_
      simp only [AP]
      refine wpAnyS_done (by kernel_rfl) ?_ _
      refine aK _ _ ?_
      clear aK h7 b24 b w1 w2 w3 d1 d1' CE x7
      have m32' := m32.out
      have d2 : wrap64 ((j : Int) + 1 + 1) = (j : Int) + 1 + 1 := wrap64_small _ (by omega) (by omega)
      clear m32'
      go_wp2
      clear d2
      have m32' := m32.out
      exact ⟨⟨j + 1, by omega, rfl, O7.out, B7⟩, by simp only [intOf]; omega⟩
end Go.Proofs.Ytdlhclakdllogaa
