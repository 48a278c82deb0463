/- The law VarintWide, by contract of the Readers (printed by genyi.py). -/
import Derived.Test.YtooiaboaejcmhaaYe
namespace Go.Proofs.Ytooiaboaejcmhaa
open Go.RowKit

theorem vals_set (l : List Nat) (i y : Nat) : (vals l).set i (.int .u8 ((y : Nat) : Int)) = vals (l.set i y) := by
  unfold vals
  rw [List.map_set]
theorem OwL.put {B : Nat} {w : World} {g n c : Nat} {l : List Nat} (h : OwL B w (.slice (some ⟨g, 0, none⟩) n c) l) (i y : Nat) : OwL B (w.setCell ⟨g, i, none⟩ (.int .u8 ((y : Nat) : Int))) (.slice (some ⟨g, 0, none⟩) n c) (l.set i y) := by
  obtain ⟨hl, hr⟩ := h
  rcases hr with ⟨e, _⟩ | ⟨g', cap, cur, e, hB, hg, hnc, hcm, hcs, htake⟩
  · cases e
  · simp only [Value.slice.injEq, Option.some.injEq, Addr.mk.injEq, and_true] at e
    obtain ⟨rfl, rfl, rfl⟩ := e
    refine ⟨by rw [vals_length, Nat.mul_one], .inr ⟨g, c, cur.setIfInBounds i (.int .u8 ((y : Nat) : Int)), by rw [List.length_set], hB, Blk.set hg i _, by rw [List.length_set]; exact hnc, hcm, by rw [Array.size_setIfInBounds]; exact hcs, ?_⟩⟩
    rw [List.length_set, Array.toList_setIfInBounds, List.take_set, htake, vals_set]
theorem OwL.at_cell {B : Nat} {w : World} {g n c : Nat} {l : List Nat} (h : OwL B w (.slice (some ⟨g, 0, none⟩) n c) l) (i : Nat) (hi : i < l.length) : w.cell? ⟨g, i, none⟩ = some (.int .u8 ((l.getD i 0 : Nat) : Int)) ∧ w.frozen? ⟨g, i, none⟩ = false := by
  rcases h.row with ⟨e, _⟩ | ⟨g', c', e, _, _, _, A, cur, KB, _⟩
  · cases e
  · simp only [Value.slice.injEq, Option.some.injEq, Addr.mk.injEq, and_true] at e
    obtain ⟨rfl, _, _⟩ := e
    refine ⟨?_, Blk.frozen KB i⟩
    have := A.cell i hi
    rw [Nat.zero_add] at this
    rw [this]
    simp [List.getD_eq_getElem?_getD, hi]
theorem below_put {B : Nat} {w w1 : World} {g i : Nat} (h : Below B w w1) (hg : B ≤ g) (v : Value) : Below B w (w1.setCell ⟨g, i, none⟩ v) := h.setCell (p := ⟨g, i, none⟩) hg v
theorem beL_take (m : Nat) : ∀ s j, j < s → (beL m s).take (j + 1) = (beL m s).take j ++ [m / 256 ^ (s - 1 - j) % 256]
  | 0, j, h => absurd h (Nat.not_lt_zero _)
  | s + 1, 0, _ => rfl
  | s + 1, j + 1, h => by
    show m / 256 ^ s % 256 :: (beL m s).take (j + 1) = m / 256 ^ s % 256 :: ((beL m s).take j ++ _)
    rw [beL_take m s j (by omega), show s + 1 - 1 - (j + 1) = s - 1 - j by omega]
theorem wide_set (m k : Nat) : (beL m (2 ^ k)).set 0 ((beL m (2 ^ k)).getD 0 0 + 64 * k) = wide m k := by
  unfold wide
  cases beL m (2 ^ k) <;> rfl
theorem first_lt (m k : Nat) (hk : k ≤ 3) (hm : m < 2 ^ (8 * 2 ^ k - 2)) : (beL m (2 ^ k)).getD 0 0 < 64 := by
  have h4 : k = 0 ∨ k = 1 ∨ k = 2 ∨ k = 3 := by omega
  rcases h4 with rfl | rfl | rfl | rfl
  · show m / 256 ^ 0 % 256 < 64
    rw [Nat.pow_zero, Nat.div_one]
    have : m < 64 := hm
    omega
  · show m / 256 ^ 1 % 256 < 64
    have : m < 16384 := hm
    omega
  · show m / 256 ^ 3 % 256 < 64
    have : m < 1073741824 := hm
    omega
  · show m / 256 ^ 7 % 256 < 64
    have : m < 4611686018427387904 := hm
    omega
theorem numS_wide (m k : Nat) (hk : k ≤ 3) (hm : m < 2 ^ (8 * 2 ^ k - 2)) (r : List Nat) : numS (wide m k ++ r) 0 = (m, r, 0) := by
  unfold numS
  rw [if_neg (by decide), takeV_wide m k hk hm]
theorem or_0 : ∀ x : Nat, x < 64 → bits BinOp.or IntKind.u8 (x : Int) 0 = (x : Int) := by decide +kernel
theorem or_64 : ∀ x : Nat, x < 64 → bits BinOp.or IntKind.u8 (x : Int) 64 = (x : Int) + 64 := by decide +kernel
theorem or_128 : ∀ x : Nat, x < 64 → bits BinOp.or IntKind.u8 (x : Int) 128 = (x : Int) + 128 := by decide +kernel
theorem or_192 : ∀ x : Nat, x < 64 → bits BinOp.or IntKind.u8 (x : Int) 192 = (x : Int) + 192 := by decide +kernel
variable {R : Nat → World → Option Addr → List Nat → Nat → Prop}
set_option maxHeartbeats 4000000 in
set_option maxRecDepth 100000 in
theorem wide_c (PC : PutC) (RC : ReaderC R) (n : Nat) (_hn : n < 18446744073709551616) (l : List Nat) (bb : ∀ x ∈ l, x < 256) (pl : Option Addr) (nl cl : Nat) (w : World) (hl : SB w (.slice pl nl cl) l) :
    Calls Try.prog 6 #[.int .u64 (n : Int), .slice pl nl cl] w fun e w' => e = .returned (.bool true) ∧ Below w.heap.size w w' := by
  have AW := Lib.hid (vawake_c PC RC w)
  have EL := Lib.hid hl.len.1
  clear PC
  replace RC := Lib.hid RC
  go_enter Try.func6, Try.ntmps6
  go_wp2_with fail
  refine AW.out.mono ?_
  rintro _ w1 ⟨rfl, b1⟩
  clear AW
  by_cases h3 : 100 < nl
  · have h4 : (100 : Int) < (nl : Int) := by omega
    go_wp2
    go_ret
    exact ⟨rfl, b1⟩
  have h4 : ¬ (100 : Int) < (nl : Int) := by omega
  go_upto_region 6 with fail
  clear h4
  go_loopw [16] (fun t wr => ∃ k : Nat, k ≤ 4 ∧ t = .int .i64 (k : Int) ∧ Below w.heap.size w wr) (fun t _ => (4 - intOf t).toNat)
  case atStart => exact ⟨0, by omega, rfl, b1⟩
  case round =>
    clear b1
    obtain ⟨k, hk, rfl, b1⟩ := hrel
    by_cases hk4 : k = 4
    · subst k
      go_wp2
      go_ret
      exact ⟨rfl, b1⟩
    · have k1 : (k : Int) < 4 := by omega
      have k0 : (0 : Int) ≤ (k : Int) := by omega
      have h4 : k = 0 ∨ k = 1 ∨ k = 2 ∨ k = 3 := by omega
      go_upto_region 8 with fail
      rename_i aK
      obtain ⟨s, hs⟩ : ∃ s, 2 ^ k = s := ⟨_, rfl⟩
      obtain ⟨e, he⟩ : ∃ e, 8 * 2 ^ k - 2 = e := ⟨_, rfl⟩
      obtain ⟨M, hM⟩ : ∃ M, 2 ^ (8 * 2 ^ k - 2) = M := ⟨_, rfl⟩
      obtain ⟨m, hm⟩ : ∃ m, n % M = m := ⟨_, rfl⟩
      have HS := Lib.hid hs
      have HE := Lib.hid he
      have HM := Lib.hid hM
      have HMm := Lib.hid hm
      have q4 : (k = 0 ∧ s = 1 ∧ e = 6 ∧ M = 64) ∨ (k = 1 ∧ s = 2 ∧ e = 14 ∧ M = 16384) ∨ (k = 2 ∧ s = 4 ∧ e = 30 ∧ M = 1073741824) ∨ (k = 3 ∧ s = 8 ∧ e = 62 ∧ M = 4611686018427387904) := by
        rcases h4 with rfl | rfl | rfl | rfl <;> (subst hs he hM; decide)
      have Q4 := Lib.hid q4
      have s8 : s ≤ 8 ∧ 1 ≤ s ∧ 0 < M := by rcases h4 with rfl | rfl | rfl | rfl <;> (subst hs he hM; decide)
      have hml : m < M := by rw [← hm]; exact Nat.mod_lt _ s8.2.2
      have tm : ((n : Nat) : Int).tmod (M : Int) = (m : Int) := by rw [← hm]; exact (Int.ofNat_tmod n M).symm
      have mz : ¬ M = 0 := by omega
      clear hs he hM hm h4 q4
      refine wp_region_seq ?_
      refine wpSeq_yield (S := fun _ => True) (yieldsIf_move rfl _ rfl (.int .i64 (k : Int)) rfl) trivial ?_
      simp only [Act.put, List.setIfInBounds_toArray, List.set_cons_zero, List.set_cons_succ]
      refine wpSeq_yield (S := fun _ => True) (v := .int .i64 (s : Int)) (Or.inl ⟨by rfl, fun w' hw' => by (rcases Q4.out with ⟨rfl, rfl, rfl, rfl⟩ | ⟨rfl, rfl, rfl, rfl⟩ | ⟨rfl, rfl, rfl, rfl⟩ | ⟨rfl, rfl, rfl, rfl⟩ <;> (go_simp; try decide))⟩) trivial ?_
      simp only [Act.put, List.setIfInBounds_toArray, List.set_cons_zero, List.set_cons_succ]
      refine wpSeq_yield (S := fun _ => True) (yieldsIf_assign rfl _ rfl (.int .i64 (s : Int)) rfl) trivial ?_
      simp only [Act.put, List.setIfInBounds_toArray, List.set_cons_zero, List.set_cons_succ]
      refine wpSeq_nil ?_
      refine aK _ _ ?_
      clear aK
      go_upto_region 9 with fail
      rename_i aK
      refine wp_region_seq ?_
      refine wpSeq_yield (S := fun _ => True) (yieldsIf_move rfl _ rfl (.int .u64 (n : Int)) rfl) trivial ?_
      simp only [Act.put, List.setIfInBounds_toArray, List.set_cons_zero, List.set_cons_succ]
      refine wpSeq_yield (S := fun _ => True) (yieldsIf_move rfl _ rfl (.int .i64 (s : Int)) rfl) trivial ?_
      simp only [Act.put, List.setIfInBounds_toArray, List.set_cons_zero, List.set_cons_succ]
      refine wpSeq_yield (S := fun _ => True) (v := .int .i64 (8 * (s : Int))) (Or.inl ⟨by rfl, fun w' hw' => by (rcases Q4.out with ⟨rfl, rfl, rfl, rfl⟩ | ⟨rfl, rfl, rfl, rfl⟩ | ⟨rfl, rfl, rfl, rfl⟩ | ⟨rfl, rfl, rfl, rfl⟩ <;> (go_simp; try decide))⟩) trivial ?_
      simp only [Act.put, List.setIfInBounds_toArray, List.set_cons_zero, List.set_cons_succ]
      refine wpSeq_yield (S := fun _ => True) (v := .int .i64 (e : Int)) (Or.inl ⟨by rfl, fun w' hw' => by (rcases Q4.out with ⟨rfl, rfl, rfl, rfl⟩ | ⟨rfl, rfl, rfl, rfl⟩ | ⟨rfl, rfl, rfl, rfl⟩ | ⟨rfl, rfl, rfl, rfl⟩ <;> (go_simp; try decide))⟩) trivial ?_
      simp only [Act.put, List.setIfInBounds_toArray, List.set_cons_zero, List.set_cons_succ]
      refine wpSeq_yield (S := fun _ => True) (v := .int .u64 (M : Int)) (Or.inl ⟨by rfl, fun w' hw' => by (rcases Q4.out with ⟨rfl, rfl, rfl, rfl⟩ | ⟨rfl, rfl, rfl, rfl⟩ | ⟨rfl, rfl, rfl, rfl⟩ | ⟨rfl, rfl, rfl, rfl⟩ <;> (go_simp; try decide))⟩) trivial ?_
      simp only [Act.put, List.setIfInBounds_toArray, List.set_cons_zero, List.set_cons_succ]
      refine wpSeq_yield (S := fun _ => True) (v := .int .u64 (m : Int)) (Or.inl ⟨by rfl, fun w' hw' => by go_simp⟩) trivial ?_
      simp only [Act.put, List.setIfInBounds_toArray, List.set_cons_zero, List.set_cons_succ]
      refine wpSeq_yield (S := fun _ => True) (yieldsIf_assign rfl _ rfl (.int .u64 (m : Int)) rfl) trivial ?_
      simp only [Act.put, List.setIfInBounds_toArray, List.set_cons_zero, List.set_cons_succ]
      refine wpSeq_nil ?_
      refine aK _ _ ?_
      clear aK
      go_upto_region 12 with fail
      clear tm mz
      have s8' := Lib.hid s8
      go_loopw [8, 9] (fun v t wr2 => ∃ j : Nat, j ≤ s ∧ t = .int .i64 ((s : Int) - 1 - (j : Int)) ∧ OwL w.heap.size wr2 v ((beL m s).take j) ∧ Below w.heap.size w wr2) (fun _ t _ => (intOf t + 1).toNat)
      case atStart => exact ⟨0, by omega, by show Value.int .i64 _ = Value.int .i64 ((s : Int) - 1 - 0); rw [Int.sub_zero], OwL.nil _ _, b1⟩
      case round =>
        clear b1
        obtain ⟨j, hj, rfl, hO, b1⟩ := hrel
        by_cases hjs : j = s
        · subst j
          have ei : (s : Int) - 1 - (s : Int) = -1 := by omega
          rw [ei]
          rw [List.take_of_length_le (by rw [beL_length]; exact Nat.le_refl _)] at hO
          clear ei hj
          obtain ⟨g, c, hg, rfl⟩ : ∃ g c, w.heap.size ≤ g ∧ u8 = .slice (some ⟨g, 0, none⟩) s c := by
            rcases hO.row with ⟨_, h0⟩ | ⟨g, c, e, hg, _, _, _, _⟩
            · have := congrArg List.length h0
              rw [beL_length] at this
              simp at this
              omega
            · rw [beL_length] at e
              exact ⟨g, c, hg, e⟩
          obtain ⟨cx, fx⟩ := hO.at_cell 0 (by rw [beL_length]; omega)
          have x64 : (beL m s).getD 0 0 < 64 := by
            rw [← HS.out]
            exact first_lt m k (by omega) (by rw [HM.out]; exact hml)
          have WS : (beL m s).set 0 ((beL m s).getD 0 0 + 64 * k) = wide m k := by
            rw [← HS.out]
            exact wide_set m k
          replace hO := hO.put 0 ((beL m s).getD 0 0 + 64 * k)
          rw [WS] at hO
          clear WS
          generalize (beL m s).getD 0 0 = x at *
          obtain ⟨y, hy⟩ : ∃ y, x + 64 * k = y := ⟨_, rfl⟩
          rw [hy] at hO
          replace hy := Lib.hid hy
          have s1 : (0 : Int) < (s : Int) := by omega
          go_upto_region 15 with fail
          rename_i aK
          refine wp_region_seq ?_
          refine wpSeq_yield (S := fun w' => w' = wr) (yieldsIf_move rfl _ rfl ((.slice (some ⟨g, 0, none⟩) s c)) rfl) rfl ?_
          simp only [Act.put, List.setIfInBounds_toArray, List.set_cons_zero, List.set_cons_succ]
          refine wpSeq_yield (S := fun w' => w' = wr) (v := .pointer (some ⟨g, 0, none⟩)) (Or.inl ⟨by rfl, fun w' hw' => by (go_simp; exact fun h => absurd h (by omega))⟩) rfl ?_
          simp only [Act.put, List.setIfInBounds_toArray, List.set_cons_zero, List.set_cons_succ]
          refine wpSeq_yield (S := fun w' => w' = wr) (v := .int .u8 (x : Int)) (Or.inl ⟨by rfl, fun w' hw' => by rw [hw']; go_simp⟩) rfl ?_
          simp only [Act.put, List.setIfInBounds_toArray, List.set_cons_zero, List.set_cons_succ]
          refine wpSeq_yield (S := fun w' => w' = wr) (yieldsIf_move rfl _ rfl (.int .i64 (k : Int)) rfl) rfl ?_
          simp only [Act.put, List.setIfInBounds_toArray, List.set_cons_zero, List.set_cons_succ]
          refine wpSeq_yield (S := fun w' => w' = wr) (v := .int .i64 ((64 * k : Nat) : Int)) (Or.inl ⟨by rfl, fun w' hw' => by (rcases Q4.out with ⟨rfl, rfl, rfl, rfl⟩ | ⟨rfl, rfl, rfl, rfl⟩ | ⟨rfl, rfl, rfl, rfl⟩ | ⟨rfl, rfl, rfl, rfl⟩ <;> (go_simp; try decide))⟩) rfl ?_
          simp only [Act.put, List.setIfInBounds_toArray, List.set_cons_zero, List.set_cons_succ]
          refine wpSeq_yield (S := fun w' => w' = wr) (v := .int .u8 ((64 * k : Nat) : Int)) (Or.inl ⟨by rfl, fun w' hw' => by (rcases Q4.out with ⟨rfl, rfl, rfl, rfl⟩ | ⟨rfl, rfl, rfl, rfl⟩ | ⟨rfl, rfl, rfl, rfl⟩ | ⟨rfl, rfl, rfl, rfl⟩ <;> (go_simp; try decide))⟩) rfl ?_
          simp only [Act.put, List.setIfInBounds_toArray, List.set_cons_zero, List.set_cons_succ]
          refine wpSeq_yield (S := fun w' => w' = wr) (v := .int .u8 (y : Int)) (Or.inl ⟨by rfl, fun w' hw' => by (have q := hy.out; rcases Q4.out with ⟨rfl, rfl, rfl, rfl⟩ | ⟨rfl, rfl, rfl, rfl⟩ | ⟨rfl, rfl, rfl, rfl⟩ | ⟨rfl, rfl, rfl, rfl⟩ <;> (subst q; go_simp; first | exact or_0 x x64 | exact or_64 x x64 | exact or_128 x x64 | exact or_192 x x64))⟩) rfl ?_
          simp only [Act.put, List.setIfInBounds_toArray, List.set_cons_zero, List.set_cons_succ]
          refine wpSeq_yield (S := fun w' => w' = wr) (v := .pointer (some ⟨g, 0, none⟩)) (Or.inl ⟨by rfl, fun w' hw' => by (go_simp; exact fun h => absurd h (by omega))⟩) rfl ?_
          simp only [Act.put, List.setIfInBounds_toArray, List.set_cons_zero, List.set_cons_succ]
          refine wpSeq_wp rfl ?_
          unfold Oper.wp execOp
          go_simp
          have b4 := below_put (i := 0) b1 hg (.int .u8 (y : Int))
          generalize World.setCell wr _ _ = w4 at *
          refine wpSeq_nil ?_
          refine aK _ _ ?_
          clear aK b1 cx fx hy Q4
          have mf : m < 2 ^ (8 * 2 ^ k - 2) := by rw [HM.out]; exact hml
          have wl : (wide m k).length ≤ 8 := by rw [wide_length, HS.out]; omega
          have NW := numS_wide m k (by omega) mf l
          have wb := wide_bytes m k (by omega) mf
          have AB : ∀ x ∈ wide m k ++ l, x < 256 := fun x hx => (List.mem_append.1 hx).elim (wb x) (bb x)
          clear mf wb
          obtain ⟨v5, w5, hr5, O5, g5, _⟩ := append_sb w.heap.size w4 22 _ (.slice pl nl cl) (wide m k) l hO (hl.below b4) (by have := EL.out; omega) b4.size
          have b5 := below_grown' b4 g5 (fun k hk => (hO.lt k hk).1) b4.size
          clear g5 b4 hO
          obtain ⟨p5, c5, hv⟩ := O5.shape
          obtain ⟨N, hN⟩ : ∃ N, (wide m k ++ l).length = N := ⟨_, rfl⟩
          rw [hN] at hv
          subst hv
          have n8 : N ≤ 108 := by rw [← hN, List.length_append]; have := EL.out; omega
          have s5 := O5.sb
          generalize wide m k ++ l = A at *
          have CN := Lib.hid (RC.out.new A p5 N c5 AB (by omega) _ s5)
          have CNum := RC.out.num w5.heap.size
          have CL := RC.out.left w5.heap.size
          have CC := RC.out.code w5.heap.size
          replace CNum := Lib.hid CNum
          replace CL := Lib.hid CL
          replace CC := Lib.hid CC
          clear AB hN wl O5 s5 s1
          replace NW := Lib.hid NW
          go_upto_region 16 with fail
          rename_i aK
          refine wp_region_seq ?_
          refine wpSeq_yield (S := fun _ => True) (yieldsIf_move rfl _ rfl ((.slice (some ⟨g, 0, none⟩) s c)) rfl) trivial ?_
          simp only [Act.put, List.setIfInBounds_toArray, List.set_cons_zero, List.set_cons_succ]
          refine wpSeq_yield (S := fun _ => True) (yieldsIf_move rfl _ rfl (.slice pl nl cl) rfl) trivial ?_
          simp only [Act.put, List.setIfInBounds_toArray, List.set_cons_zero, List.set_cons_succ]
          refine wpSeq_wp rfl (wp_append_run _ _ _ _ rfl _ _ rfl rfl _ w5 hr5 ?_)
          simp only [Act.put, List.setIfInBounds_toArray, List.set_cons_zero, List.set_cons_succ]
          refine wpSeq_wp rfl ?_
          unfold Oper.wp execOp
          go_simp
          refine CN.out.mono ?_
          rintro _ w6 ⟨q, rfl, HR, b6⟩
          go_simp
          refine wpSeq_yield (S := fun _ => True) (yieldsIf_assign rfl _ rfl (.pointer q) rfl) trivial ?_
          simp only [Act.put, List.setIfInBounds_toArray, List.set_cons_zero, List.set_cons_succ]
          refine wpSeq_nil ?_
          refine aK _ _ ?_
          clear aK hr5 CN
          go_upto_region 17 with fail
          rename_i aK
          refine wp_region_seq ?_
          refine wpSeq_yield (S := fun _ => True) (yieldsIf_move rfl _ rfl (.pointer q) rfl) trivial ?_
          simp only [Act.put, List.setIfInBounds_toArray, List.set_cons_zero, List.set_cons_succ]
          refine wpSeq_wp rfl ?_
          unfold Oper.wp execOp
          go_simp
          refine (CNum.out q A 0 _ HR b6.size).mono ?_
          rw [NW.out]
          rintro _ w7 ⟨rfl, HR7, b7⟩
          go_simp
          refine wpSeq_yield (S := fun _ => True) (yieldsIf_move rfl _ rfl (.int .u64 (m : Int)) rfl) trivial ?_
          simp only [Act.put, List.setIfInBounds_toArray, List.set_cons_zero, List.set_cons_succ]
          refine wpSeq_yield (S := fun _ => True) (v := .bool false) (Or.inl ⟨by rfl, fun w' hw' => by go_simp⟩) trivial ?_
          simp only [Act.put, List.setIfInBounds_toArray, List.set_cons_zero, List.set_cons_succ]
          refine wpSeq_yield (S := fun _ => True) (yieldsIf_move rfl _ rfl (.bool false) rfl) trivial ?_
          simp only [Act.put, List.setIfInBounds_toArray, List.set_cons_zero, List.set_cons_succ]
          refine wpSeq_yield (S := fun _ => True) (yieldsIf_move rfl _ rfl (.pointer q) rfl) trivial ?_
          simp only [Act.put, List.setIfInBounds_toArray, List.set_cons_zero, List.set_cons_succ]
          refine wpSeq_wp rfl ?_
          unfold Oper.wp execOp
          go_simp
          refine (CL.out q _ _ _ HR7 (b6.trans b7).size).mono ?_
          rintro _ w8 ⟨rfl, HR8, b8⟩
          rw [← EL.out]
          go_simp
          refine wpSeq_yield (S := fun _ => True) (yieldsIf_move rfl _ rfl (.slice pl nl cl) rfl) trivial ?_
          simp only [Act.put, List.setIfInBounds_toArray, List.set_cons_zero, List.set_cons_succ]
          refine wpSeq_yield (S := fun _ => True) (v := .int .i64 (nl : Int)) (Or.inl ⟨by rfl, fun w' hw' => by go_simp⟩) trivial ?_
          simp only [Act.put, List.setIfInBounds_toArray, List.set_cons_zero, List.set_cons_succ]
          refine wpSeq_yield (S := fun _ => True) (v := .bool false) (Or.inl ⟨by rfl, fun w' hw' => by go_simp⟩) trivial ?_
          simp only [Act.put, List.setIfInBounds_toArray, List.set_cons_zero, List.set_cons_succ]
          refine wpSeq_yield (S := fun _ => True) (yieldsIf_pick rfl _ _ _ rfl false rfl (.bool false) rfl) trivial ?_
          simp only [Act.put, List.setIfInBounds_toArray, List.set_cons_zero, List.set_cons_succ]
          refine wpSeq_yield (S := fun _ => True) (yieldsIf_move rfl _ rfl (.bool false) rfl) trivial ?_
          simp only [Act.put, List.setIfInBounds_toArray, List.set_cons_zero, List.set_cons_succ]
          refine wpSeq_yield (S := fun _ => True) (yieldsIf_move rfl _ rfl (.pointer q) rfl) trivial ?_
          simp only [Act.put, List.setIfInBounds_toArray, List.set_cons_zero, List.set_cons_succ]
          refine wpSeq_wp rfl ?_
          unfold Oper.wp execOp
          go_simp
          refine (CC.out q _ _ _ HR8 ((b6.trans b7).trans b8).size).mono ?_
          rintro _ w9 ⟨rfl, _, b9⟩
          go_simp
          refine wpSeq_yield (S := fun _ => True) (v := .bool false) (Or.inl ⟨by rfl, fun w' hw' => by go_simp⟩) trivial ?_
          simp only [Act.put, List.setIfInBounds_toArray, List.set_cons_zero, List.set_cons_succ]
          refine wpSeq_yield (S := fun _ => True) (yieldsIf_pick rfl _ _ _ rfl false rfl (.bool false) rfl) trivial ?_
          simp only [Act.put, List.setIfInBounds_toArray, List.set_cons_zero, List.set_cons_succ]
          refine wpSeq_nil ?_
          refine aK _ _ ?_
          replace b5 := b5.trans ((((b6.trans b7).trans b8).trans b9).mono b5.size)
          clear aK HR HR7 HR8 b6 b7 b8 b9 CNum CL CC NW x64
          go_wp2
          exact ⟨⟨k + 1, by omega, rfl, b5⟩, by simp only [intOf]; omega⟩
        · obtain ⟨i, hi⟩ : ∃ i : Nat, i = s - 1 - j := ⟨_, rfl⟩
          have ei : (s : Int) - 1 - (j : Int) = (i : Int) := by omega
          rw [ei]
          obtain ⟨X, hX⟩ : ∃ X, m / 256 ^ i = X := ⟨_, rfl⟩
          obtain ⟨Y, hY⟩ : ∃ Y, X % 256 = Y := ⟨_, rfl⟩
          have q8 : (i = 0 ∧ X = m) ∨ (i = 1 ∧ X = m / 256) ∨ (i = 2 ∧ X = m / 65536) ∨ (i = 3 ∧ X = m / 16777216) ∨ (i = 4 ∧ X = m / 4294967296) ∨ (i = 5 ∧ X = m / 1099511627776) ∨ (i = 6 ∧ X = m / 281474976710656) ∨ (i = 7 ∧ X = m / 72057594037927936) := by
            have i8 : i = 0 ∨ i = 1 ∨ i = 2 ∨ i = 3 ∨ i = 4 ∨ i = 5 ∨ i = 6 ∨ i = 7 := by omega
            rcases i8 with h | h | h | h | h | h | h | h <;> (rw [h] at hX; rw [h, ← hX])
            · exact Or.inl ⟨rfl, by rw [Nat.pow_zero, Nat.div_one]⟩
            · exact Or.inr (Or.inl ⟨rfl, rfl⟩)
            · exact Or.inr (Or.inr (Or.inl ⟨rfl, rfl⟩))
            · exact Or.inr (Or.inr (Or.inr (Or.inl ⟨rfl, rfl⟩)))
            · exact Or.inr (Or.inr (Or.inr (Or.inr (Or.inl ⟨rfl, rfl⟩))))
            · exact Or.inr (Or.inr (Or.inr (Or.inr (Or.inr (Or.inl ⟨rfl, rfl⟩)))))
            · exact Or.inr (Or.inr (Or.inr (Or.inr (Or.inr (Or.inr (Or.inl ⟨rfl, rfl⟩))))))
            · exact Or.inr (Or.inr (Or.inr (Or.inr (Or.inr (Or.inr (Or.inr ⟨rfl, rfl⟩))))))
          have bt := beL_take m s j (by omega)
          rw [← hi, hX, hY] at bt
          have fy : IntKind.u8.wrap (X : Int) = (Y : Int) := by rw [IntKind.wrap_u8]; omega
          have d8 : IntKind.i64.wrap (8 * (i : Int)) = 8 * (i : Int) := by rw [IntKind.wrap_i64]; omega
          have i0 : (0 : Int) ≤ (i : Int) := by omega
          have i7 : (i : Int) ≤ 7 := by omega
          have d9 : wrap64 ((i : Int) - 1) = (i : Int) - 1 := by
            unfold wrap64
            omega
          have Q8 := Lib.hid q8
          have BT := Lib.hid bt
          have HI := Lib.hid hi
          clear q8 bt hX hY hi ei
          obtain ⟨v2, w2, hr2, O2, b2⟩ := append_new wr w.heap.size 22 u8 _ [Y] hO (by simp only [List.length_cons, List.length_nil, List.length_take, beL_length]; omega) b1.size w b1
          rw [← BT.out] at O2
          go_upto_region 14 with fail
          rename_i aK
          refine wp_region_seq ?_
          refine wpSeq_yield (S := fun _ => True) (yieldsIf_move rfl _ rfl (u8) rfl) trivial ?_
          simp only [Act.put, List.setIfInBounds_toArray, List.set_cons_zero, List.set_cons_succ]
          refine wpSeq_yield (S := fun _ => True) (yieldsIf_move rfl _ rfl (.int .u64 (m : Int)) rfl) trivial ?_
          simp only [Act.put, List.setIfInBounds_toArray, List.set_cons_zero, List.set_cons_succ]
          refine wpSeq_yield (S := fun _ => True) (yieldsIf_move rfl _ rfl (.int .i64 (i : Int)) rfl) trivial ?_
          simp only [Act.put, List.setIfInBounds_toArray, List.set_cons_zero, List.set_cons_succ]
          refine wpSeq_yield (S := fun _ => True) (v := .int .i64 (8 * (i : Int))) (Or.inl ⟨by rfl, fun w' hw' => by go_simp⟩) trivial ?_
          simp only [Act.put, List.setIfInBounds_toArray, List.set_cons_zero, List.set_cons_succ]
          refine wpSeq_yield (S := fun _ => True) (v := .int .u64 (X : Int)) (Or.inl ⟨by rfl, fun w' hw' => by (rcases Q8.out with ⟨rfl, rfl⟩ | ⟨rfl, rfl⟩ | ⟨rfl, rfl⟩ | ⟨rfl, rfl⟩ | ⟨rfl, rfl⟩ | ⟨rfl, rfl⟩ | ⟨rfl, rfl⟩ | ⟨rfl, rfl⟩ <;> (go_simp; try decide))⟩) trivial ?_
          simp only [Act.put, List.setIfInBounds_toArray, List.set_cons_zero, List.set_cons_succ]
          refine wpSeq_yield (S := fun _ => True) (v := .int .u8 (Y : Int)) (Or.inl ⟨by rfl, fun w' hw' => by go_simp⟩) trivial ?_
          simp only [Act.put, List.setIfInBounds_toArray, List.set_cons_zero, List.set_cons_succ]
          refine wpSeq_wp rfl ?_
          unfold Oper.wp execOp
          go_simp
          refine wpSeq_wp rfl (wp_append_run _ _ _ _ rfl _ _ rfl rfl v2 w2 hr2 ?_)
          simp only [Act.put, List.setIfInBounds_toArray, List.set_cons_zero, List.set_cons_succ]
          refine wpSeq_yield (S := fun _ => True) (yieldsIf_assign rfl _ rfl (v2) rfl) trivial ?_
          simp only [Act.put, List.setIfInBounds_toArray, List.set_cons_zero, List.set_cons_succ]
          refine wpSeq_nil ?_
          refine aK _ _ ?_
          clear aK hr2 hO fy d8 b1
          go_wp2
          exact ⟨⟨j + 1, by omega, by have := HI.out; congr 1; omega, O2, b2⟩, by simp only [intOf]; omega⟩
end Go.Proofs.Ytooiaboaejcmhaa
