/- The program's join, shown: their contracts (printed by gen13/qc.py). GCM's blocks as pairs of words of 64 bits: the program's reckoning against the reference's. A polynomial in two words: the program's plus, timesX, bits: their contracts. -/
import Derived.Test.YtpihgljdbpnehaaDoorQb0Ta
import Derived.Test.YtpihgljdbpnehaaDoorHSj0Bm
import Derived.Test.YtpihgljdbpnehaaDoorGa0Va
import Derived.Test.YtpihgljdbpnehaaDoorPc0Pe
import Derived.Laws.BitsLemmas
namespace Go.Proofs.YtpihgljdbpnehaaDoor
open Go.RowKit
theorem bitG_is (x : Nat) : bitG x = 15 ∨ bitG x = 31 := by
  unfold bitG
  split
  · exact Or.inr rfl
  · exact Or.inl rfl
/-- A row of one's own, cut at its end. -/
theorem OwL.cut {B : Nat} {w : World} {g n c : Nat} {l : List Nat} (h : OwL B w (.slice (some ⟨g, 0, none⟩) n c) l) (k : Nat) (hk : k ≤ n) : OwL B w (.slice (some ⟨g, 0, none⟩) k c) (l.take k) := by
  obtain ⟨hl, hr⟩ := h
  rcases hr with ⟨e, _⟩ | ⟨g', cap, cur, e, hB, hg, hnc, hcm, hcs, htake⟩
  · cases e
  · simp only [Value.slice.injEq, Option.some.injEq, Addr.mk.injEq, and_true] at e
    obtain ⟨rfl, rfl, rfl⟩ := e
    have lk : (l.take k).length = k := by rw [List.length_take]; omega
    refine ⟨by rw [vals_length, Nat.mul_one], .inr ⟨g, c, cur, by rw [lk], hB, hg, by rw [lk]; omega, hcm, hcs, ?_⟩⟩
    rw [lk]
    have := congrArg (List.take k) htake
    rw [List.take_take] at this
    rw [← show vals (l.take k) = (vals l).take k from by simp [vals, List.map_take]] at this
    rw [← this]
    congr 1
    omega
theorem OwL.len {B : Nat} {w : World} {p : Option Addr} {n c : Nat} {l : List Nat} (h : OwL B w (.slice p n c) l) : n = l.length := by
  rcases h.row with ⟨e, rfl⟩ | ⟨g, cap, e, _⟩
  · simp only [Value.slice.injEq] at e
    exact e.2.1
  · simp only [Value.slice.injEq] at e
    exact e.2.1
theorem beN_snoc : ∀ (l : List Nat) (a y : Nat), beN a (l ++ [y]) = beN a l * 256 + y
  | [], _, _ => rfl
  | x :: r, a, y => beN_snoc r (a * 256 + x) y
theorem beN_lt : ∀ (l : List Nat), Bytes l → ∀ a, beN a l < (a + 1) * 256 ^ l.length
  | [], _, a => by
    show a < _
    simp
  | x :: r, h, a => by
    have hx := h x (List.mem_cons_self ..)
    have := beN_lt r (fun y hy => h y (List.mem_cons_of_mem _ hy)) (a * 256 + x)
    show beN (a * 256 + x) r < _
    rw [List.length_cons, Nat.pow_succ, Nat.mul_comm (256 ^ r.length) 256, ← Nat.mul_assoc]
    exact Nat.lt_of_lt_of_le this (Nat.mul_le_mul_right _ (by omega))
set_option maxHeartbeats 8000000 in
set_option maxRecDepth 100000 in
theorem join_c (B : Nat) (M X : List Nat) (a n L c g gm b : Nat) (t : TypeId) (ha : 1 ≤ a) (hL : a + n ≤ L) (n4 : n ≤ 4) (lX : X.length = L) (l1 : L ≤ 2000) (lM : M.length = 16) (bX : Bytes X) (bM : Bytes M) (ng : gm ≠ g) (W : World)
    (O : OwL B W (.slice (some ⟨g, 0, none⟩) L c) (hidN M a 0 b X)) (MB : Blk W gm t (Iv .u8 (NI M))) :
    Calls Tryd.prog 31 #[.slice (some ⟨g, a, none⟩) n (c - a), .slice (some ⟨gm, 1, none⟩) 15 15] W fun e w' => (∃ v, e = .returned v) ∧ OwL B w' (.slice (some ⟨g, 0, none⟩) L c) (hidN M a n b X) ∧ W.grownBy w' (some g) := by
  go_enter Tryd.func31, Tryd.ntmps31
  go_upto_region 0 with fail
  rename_i aK
  refine wp_region_seq ?_
  refine wpSeq_yield (S := fun _ => True) (yieldsIf_move rfl _ rfl (.slice (some ⟨g, a, none⟩) n (c - a)) rfl) trivial ?_
  simp only [AP]
  refine wpSeq_yield (S := fun _ => True) (v := .int .i64 (n : Int)) (Or.inl ⟨by rfl, fun w' hw' => by go_simp⟩) trivial ?_
  simp only [AP]
  refine wpSeq_yield (S := fun _ => True) (yieldsIf_move rfl _ rfl (.int .i64 0) rfl) trivial ?_
  simp only [AP]
  refine wpSeq_nil ?_
  refine (by assumption : ∀ (a : Act) (w : World), _ → _) _ _ ?_
  go_upto_region 1 with fail
  go_loopw [7] (fun v wr => ∃ j : Nat, j ≤ n ∧ v = .int .i64 (j : Int) ∧ OwL B wr (.slice (some ⟨g, 0, none⟩) L c) (hidN M a j b X) ∧ Blk wr gm t (Iv .u8 (NI M)) ∧ W.grownBy wr (some g)) (fun v _ => (n - intOf v).toNat)
  case atStart => exact ⟨0, by omega, rfl, O, MB, ⟨rfl, rfl, rfl, Nat.le_refl _, fun _ _ _ => rfl⟩⟩
  case round =>
    clear O MB
    obtain ⟨j, jn, rfl, O, MB, G⟩ := hrel
    by_cases jj : j = n
    · subst jj
      go_upto_region 1 with fail
      rename_i aK
      refine wp_region_seq ?_
      refine wpSeq_yield (S := fun _ => True) (v := .bool false) (Or.inl ⟨by rfl, fun w' hw' => by (go_simp; try omega)⟩) trivial ?_
      simp only [AP]
      refine wpSeq_nil ?_
      refine (by assumption : ∀ (a : Act) (w : World), _ → _) _ _ ?_
      go_wp2
      refine bodyPost_end (results_none rfl _ _ _) rfl ?_
      exact ⟨⟨_, rfl⟩, O, G⟩
    · have jl : j < n := by omega
      have HS := hidN_succ M a j b X ha (by omega)
      have HA := hidN_at M a j b X ha (by omega)
      obtain ⟨x0, hx0⟩ : ∃ x0, X.getD (a + j) 0 = x0 := ⟨_, rfl⟩
      obtain ⟨m0, hm0⟩ : ∃ m0, M.getD (1 + j) 0 = m0 := ⟨_, rfl⟩
      rw [hx0] at HS HA
      rw [hm0] at HS
      have x8 : x0 < 256 := by rw [← hx0]; exact getD_bytes bX _
      have m8 : m0 < 256 := by rw [← hm0]; exact getD_bytes bM _
      have f3 : bits BinOp.xor IntKind.u8 (x0 : Int) (m0 : Int) = ((x0 ^^^ m0 : Nat) : Int) := xor_u8 _ _ x8 m8
      have f4 : IntKind.i64.wrap ((j : Int) + 1) = ((j + 1 : Nat) : Int) := by rw [IntKind.wrap_i64]; omega
      have bd := below_drew (Below.refl wr.heap.size wr)
      have O2 := O.below bd
      have MB2 := MB.below' bd
      have G2 := gb_trans G (show wr.grownBy wr.drew (some g) from ⟨bd.os, bd.tape, bd.output, bd.size, fun k hk _ => bd.block k hk⟩)
      clear bd O MB G hx0
      have cx0 := (O2.at_cell (a + j) (by rw [hidN_length]; omega)).1
      have fx0 := (O2.at_cell (a + j) (by rw [hidN_length]; omega)).2
      rw [HA] at cx0
      have cm0 := cell_list MB2 (1 + j) m0 (by omega) hm0
      have f5 := Lib.hid f4
      have BB := Lib.hid (And.intro bX bM)
      clear f4 HA hm0 jj bX bM
      go_upto_region 1 with fail
      rename_i aK
      refine wp_region_seq ?_
      refine wpSeq_yield (S := fun _ => True) (v := .bool true) (Or.inl ⟨by rfl, fun w' hw' => by (go_simp; try omega)⟩) trivial ?_
      simp only [AP]
      refine wpSeq_nil ?_
      refine (by assumption : ∀ (a : Act) (w : World), _ → _) _ _ ?_
      go_upto_region 2 with fail
      rename_i aK
      refine wp_region_seq ?_
      refine wpSeq_yield (S := fun _ => True) (yieldsIf_move rfl _ rfl (.int .i64 (j : Int)) rfl) trivial ?_
      simp only [AP]
      refine wpSeq_yield (S := fun _ => True) (yieldsIf_assign rfl _ rfl (.int .i64 (j : Int)) rfl) trivial ?_
      simp only [AP]
      refine wpSeq_nil ?_
      refine (by assumption : ∀ (a : Act) (w : World), _ → _) _ _ ?_
      go_upto_region 3 with fail
      rename_i aK
      refine wp_region_Z (S := fun w' => w'.cell? ⟨g, a + j, none⟩ = some (.int .u8 (x0 : Int)) ∧ w'.cell? ⟨gm, 1 + j, none⟩ = some (.int .u8 (m0 : Int))) 10 (by kernel_rfl) ?_
      generalize World.drew wr = w14 at *
      have hS := And.intro cx0 cm0
      refine wpAnyZ_takeL 0 (v := .slice (some ⟨g, a, none⟩) n (c - a)) rfl (by kernel_rfl) (by kernel_rfl) (by kernel_rfl) (by kernel_rfl) (by kernel_rfl) (fun _ _ _ H => H) (yieldsIf_move rfl _ rfl (.slice (some ⟨g, a, none⟩) n (c - a)) rfl) hS ?_
      simp only [AP]
      refine wpAnyZ_takeL 1 (v := .int .i64 (j : Int)) rfl (by kernel_rfl) (by kernel_rfl) (by kernel_rfl) (by kernel_rfl) (by kernel_rfl) (fun _ _ _ H => H) (yieldsIf_move rfl _ rfl (.int .i64 (j : Int)) rfl) hS ?_
      simp only [AP]
      refine wpAnyZ_takeL 2 (v := .pointer (some ⟨g, a + j, none⟩)) rfl (by kernel_rfl) (by kernel_rfl) (by kernel_rfl) (by kernel_rfl) (by kernel_rfl) (fun _ _ _ H => H) (Or.inl ⟨by rfl, fun w' hw' => by (go_simp; try omega)⟩) hS ?_
      simp only [AP]
      refine wpAnyZ_takeL 3 (v := .int .u8 (x0 : Int)) rfl (by kernel_rfl) (by kernel_rfl) (by kernel_rfl) (by kernel_rfl) (by kernel_rfl) (fun _ _ _ H => H) (Or.inl ⟨by rfl, fun w' hw' => by (have cc := hw'.1; go_simp)⟩) hS ?_
      simp only [AP]
      refine wpAnyZ_takeL 4 (v := .slice (some ⟨gm, 1, none⟩) 15 15) rfl (by kernel_rfl) (by kernel_rfl) (by kernel_rfl) (by kernel_rfl) (by kernel_rfl) (fun _ _ _ H => H) (yieldsIf_move rfl _ rfl (.slice (some ⟨gm, 1, none⟩) 15 15) rfl) hS ?_
      simp only [AP]
      refine wpAnyZ_takeL 5 (v := .int .i64 (j : Int)) rfl (by kernel_rfl) (by kernel_rfl) (by kernel_rfl) (by kernel_rfl) (by kernel_rfl) (fun _ _ _ H => H) (yieldsIf_move rfl _ rfl (.int .i64 (j : Int)) rfl) hS ?_
      simp only [AP]
      refine wpAnyZ_takeL 6 (v := .pointer (some ⟨gm, 1 + j, none⟩)) rfl (by kernel_rfl) (by kernel_rfl) (by kernel_rfl) (by kernel_rfl) (by kernel_rfl) (fun _ _ _ H => H) (Or.inl ⟨by rfl, fun w' hw' => by (go_simp; try omega)⟩) hS ?_
      simp only [AP]
      refine wpAnyZ_takeL 7 (v := .int .u8 (m0 : Int)) rfl (by kernel_rfl) (by kernel_rfl) (by kernel_rfl) (by kernel_rfl) (by kernel_rfl) (fun _ _ _ H => H) (Or.inl ⟨by rfl, fun w' hw' => by (have cc := hw'.2; go_simp)⟩) hS ?_
      simp only [AP]
      refine wpAnyZ_takeL 8 (v := .int .u8 ((x0 ^^^ m0 : Nat) : Int)) rfl (by kernel_rfl) (by kernel_rfl) (by kernel_rfl) (by kernel_rfl) (by kernel_rfl) (fun _ _ _ H => H) (Or.inl ⟨by rfl, fun w' hw' => by go_simp⟩) hS ?_
      simp only [AP]
      refine wpAnyZ_takeL 9 (v := .pointer (some ⟨g, a + j, none⟩)) rfl (by kernel_rfl) (by kernel_rfl) (by kernel_rfl) (by kernel_rfl) (by kernel_rfl) (fun _ _ _ H => H) (Or.inl ⟨by rfl, fun w' hw' => by (go_simp; try omega)⟩) hS ?_
      simp only [AP]
      refine hzstep 10 rfl (by kernel_rfl) rfl ?_
      unfold Oper.wp execOp
      go_simp
      refine wpAnyZ_done (by kernel_rfl) ?_ _
      refine (by assumption : ∀ (a : Act) (w : World), _ → _) _ _ ?_
      have O3 := O2.put (a + j) (x0 ^^^ m0)
      rw [← HS] at O3
      have G3 := gb_trans G2 (gb_cell1 w14 g (a + j) (.int .u8 ((x0 ^^^ m0 : Nat) : Int)))
      have MB3 := MB2.far (p := ⟨g, a + j, none⟩) ng (.int .u8 ((x0 ^^^ m0 : Nat) : Int))
      have f4 := f5.out
      clear O2 MB2 HS f3 f5 cx0 fx0 cm0 hS x8 m8 aK G2
      generalize World.setCell w14 _ _ = w15 at *
      go_wp2
      exact ⟨⟨j + 1, by omega, rfl, O3, MB3, G3⟩, by simp only [intOf]; omega⟩
end Go.Proofs.YtpihgljdbpnehaaDoor
namespace Go.Proofs.YtpihgljdbpnehaaDoor
open Go
/-- Bytes as a number, from place o on, the greatest first. -/
def wB (f : Nat → Nat) (o : Nat) : Nat → Nat
  | 0 => 0
  | n + 1 => wB f o n * 256 + f (o + n)
theorem wB_lt {f : Nat → Nat} (h : ∀ i, f i < 256) (o : Nat) : ∀ n, wB f o n < 256 ^ n
  | 0 => by show 0 < 1; decide
  | n + 1 => by
    have := wB_lt h o n
    have := h (o + n)
    show wB f o n * 256 + f (o + n) < 256 ^ (n + 1)
    rw [Nat.pow_succ]
    omega
theorem wB_lt8 {f : Nat → Nat} (h : ∀ i, f i < 256) (o : Nat) : wB f o 8 < 18446744073709551616 := wB_lt h o 8
theorem wB_congr {f g : Nat → Nat} (o : Nat) : ∀ n, (∀ i, i < n → f (o + i) = g (o + i)) → wB f o n = wB g o n
  | 0, _ => rfl
  | n + 1, h => by
    show wB f o n * 256 + f (o + n) = wB g o n * 256 + g (o + n)
    rw [wB_congr o n (fun i hi => h i (by omega)), h n (by omega)]
theorem xor_join (x y a b : Nat) (ha : a < 256) (hb : b < 256) : (x * 256 + a) ^^^ (y * 256 + b) = (x ^^^ y) * 256 + (a ^^^ b) := by
  have hab : a ^^^ b < 256 := Nat.xor_lt_two_pow (n := 8) ha hb
  have h1 : ((x * 256 + a) ^^^ (y * 256 + b)) / 256 = x ^^^ y := by
    have := Nat.shiftRight_xor_distrib (a := x * 256 + a) (b := y * 256 + b) (i := 8)
    rw [Nat.shiftRight_eq_div_pow, Nat.shiftRight_eq_div_pow, Nat.shiftRight_eq_div_pow] at this
    rw [show (256 : Nat) = 2 ^ 8 from rfl, this]
    congr 1 <;> omega
  have h2 : ((x * 256 + a) ^^^ (y * 256 + b)) % 256 = a ^^^ b := by
    have := Nat.xor_mod_two_pow (a := x * 256 + a) (b := y * 256 + b) (n := 8)
    rw [show (256 : Nat) = 2 ^ 8 from rfl, this]
    congr 1 <;> omega
  omega
theorem wB_xor {f g : Nat → Nat} (hf : ∀ i, f i < 256) (hg : ∀ i, g i < 256) (o : Nat) : ∀ n, wB (fun i => f i ^^^ g i) o n = wB f o n ^^^ wB g o n
  | 0 => (Nat.xor_self 0).symm
  | n + 1 => by
    show wB (fun i => f i ^^^ g i) o n * 256 + (f (o + n) ^^^ g (o + n)) = (wB f o n * 256 + f (o + n)) ^^^ (wB g o n * 256 + g (o + n))
    rw [wB_xor hf hg o n, xor_join _ _ _ _ (hf _) (hg _)]
/-- A number's byte. -/
theorem wB_byte {f : Nat → Nat} (h : ∀ i, f i < 256) (o : Nat) : ∀ n j, j < n → wB f o n / 256 ^ (n - 1 - j) % 256 = f (o + j)
  | 0, j, hj => by omega
  | n + 1, j, hj => by
    have h1 := h (o + n)
    show (wB f o n * 256 + f (o + n)) / 256 ^ (n + 1 - 1 - j) % 256 = f (o + j)
    by_cases e : j = n
    · subst e
      rw [show j + 1 - 1 - j = 0 by omega, Nat.pow_zero]
      omega
    · have := wB_byte h o n j (by omega)
      rw [show n + 1 - 1 - j = 1 + (n - 1 - j) by omega, Nat.pow_add, ← Nat.div_div_eq_div_mul, Nat.pow_one, show (wB f o n * 256 + f (o + n)) / 256 = wB f o n by omega, this]
theorem wB_zero (o : Nat) : ∀ n, wB (fun _ => 0) o n = 0
  | 0 => rfl
  | n + 1 => by
    show wB (fun _ => 0) o n * 256 + 0 = 0
    rw [wB_zero o n]
theorem bit_mod (x r : Nat) (hr : r < 8) : x / 2 ^ r % 2 = x % 256 / 2 ^ r % 2 := by
  have : r = 0 ∨ r = 1 ∨ r = 2 ∨ r = 3 ∨ r = 4 ∨ r = 5 ∨ r = 6 ∨ r = 7 := by omega
  rcases this with rfl | rfl | rfl | rfl | rfl | rfl | rfl | rfl <;> omega
/-- A word's bit, of the byte where it stands. -/
theorem wB_bit {f : Nat → Nat} (h : ∀ i, f i < 256) (o t : Nat) (ht : t < 64) : wB f o 8 / 2 ^ (63 - t) % 2 = f (o + t / 8) / 2 ^ (7 - t % 8) % 2 := by
  rw [show 63 - t = 8 * (8 - 1 - t / 8) + (7 - t % 8) by omega, Nat.pow_add, Nat.pow_mul, ← Nat.div_div_eq_div_mul, bit_mod _ _ (by omega), show (2 : Nat) ^ 8 = 256 from rfl, wB_byte h o 8 (t / 8) (by omega)]
theorem shF_zero (f : Nat → Nat) : shF f 0 = f 0 / 2 := by
  unfold shF
  rw [if_pos rfl]
  omega
theorem shF_succ (f : Nat → Nat) (k : Nat) : shF f (k + 1) = f (k + 1) / 2 + f k % 2 * 128 := by
  unfold shF
  rw [if_neg (by omega)]
  rfl
theorem sh_one {f : Nat → Nat} (h : ∀ i, f i < 256) : wB (shF f) 0 8 = wB f 0 8 / 2 := by
  simp only [wB, Nat.zero_add, shF_zero, shF_succ]
  have := h 1; have := h 2; have := h 3; have := h 4; have := h 5; have := h 6; have := h 7
  generalize f 0 = a0 at *; generalize f 1 = a1 at *; generalize f 2 = a2 at *; generalize f 3 = a3 at *
  generalize f 4 = a4 at *; generalize f 5 = a5 at *; generalize f 6 = a6 at *; generalize f 7 = a7 at *
  omega
theorem sh_two {f : Nat → Nat} (h : ∀ i, f i < 256) : wB (shF f) 8 8 = f 7 % 2 * 9223372036854775808 + wB f 8 8 / 2 := by
  simp only [wB, Nat.add_zero, Nat.reduceAdd]
  rw [shF_succ f 7, shF_succ f 8, shF_succ f 9, shF_succ f 10, shF_succ f 11, shF_succ f 12, shF_succ f 13, shF_succ f 14]
  simp only [Nat.reduceAdd]
  have := h 9; have := h 10; have := h 11; have := h 12; have := h 13; have := h 14; have := h 15
  generalize f 7 = a7 at *; generalize f 8 = a0 at *; generalize f 9 = a1 at *; generalize f 10 = a2 at *; generalize f 11 = a3 at *
  generalize f 12 = a4 at *; generalize f 13 = a5 at *; generalize f 14 = a6 at *; generalize f 15 = a8 at *
  omega
theorem wB_odd (f : Nat → Nat) (o : Nat) : wB f o 8 % 2 = f (o + 7) % 2 := by
  show (wB f o 7 * 256 + f (o + 7)) % 2 = _
  omega
theorem turn_one {f : Nat → Nat} (h : ∀ i, f i < 256) : wB (gturnF f) 0 8 = wB f 0 8 / 2 ^^^ (wB f 8 8 % 2) * 16212958658533785600 := by
  rw [wB_odd, ← sh_one h]
  by_cases e : f 15 % 2 = 1
  · have : wB (gturnF f) 0 8 = wB (fun i => shF f i ^^^ (if i = 0 then 225 else 0)) 0 8 := wB_congr 0 8 fun i hi => by
      rw [Nat.zero_add]
      unfold gturnF
      by_cases h0 : i = 0
      · subst h0
        rw [if_pos ⟨rfl, e⟩, if_pos rfl]
      · rw [if_neg (fun h => h0 h.1), if_neg h0, Nat.xor_zero]
    rw [this, wB_xor (shF_lt h) (fun i => by split <;> omega)]
    show _ ^^^ 16212958658533785600 = _ ^^^ f 15 % 2 * 16212958658533785600
    rw [e]
  · have : wB (gturnF f) 0 8 = wB (shF f) 0 8 := wB_congr 0 8 fun i hi => by
      unfold gturnF
      rw [if_neg (fun h => e h.2)]
    rw [this]
    show _ = _ ^^^ f 15 % 2 * 16212958658533785600
    rw [show f 15 % 2 = 0 by omega, Nat.zero_mul, Nat.xor_zero]
theorem turn_two {f : Nat → Nat} (h : ∀ i, f i < 256) : wB (gturnF f) 8 8 = wB f 0 8 % 2 * 9223372036854775808 + wB f 8 8 / 2 := by
  have : wB (gturnF f) 8 8 = wB (shF f) 8 8 := wB_congr 8 8 fun i hi => by
    unfold gturnF
    rw [if_neg (by omega)]
  rw [this, sh_two h, wB_odd]
end Go.Proofs.YtpihgljdbpnehaaDoor
namespace Go.Proofs.YtpihgljdbpnehaaDoor
open Go.RowKit
/-- A polynomial's cells. -/
def pc (a b : Nat) : Array Value := #[.int .u64 (a : Int), .int .u64 (b : Int)]
theorem info_pc (a b : Nat) : (Tryd.prog.info? 119).map (·.size) = some (pc a b).size := by kernel_rfl
theorem pc_one (a b : Nat) : (pc a b).all (·.oneCell') = true := by simp [pc, Value.oneCell']
theorem wraps_u64y (n : Int) (h₀ : 0 ≤ n) (h₁ : n < 2 ^ 64) : IntKind.u64.wrap n = n := by rw [IntKind.wrap_u64]; omega
theorem or64y (i : Nat) (x y : Int) (hx0 : 0 ≤ x) (hx : x % 2 ^ i = 0) (hx1 : x < 2 ^ 64) (h0 : 0 ≤ y) (h1 : y < 2 ^ i) (hi : (2 : Int) ^ i ≤ 2 ^ 64) : bits .or .u64 x y = x + y :=
  bits_join .u64 64 (by decide) wraps_u64y i x y hx0 hx hx1 h0 h1 (by omega)
set_option maxHeartbeats 1000000 in
theorem plus_w (a b c d : Nat) (ha : a < 18446744073709551616) (hb : b < 18446744073709551616) (hc : c < 18446744073709551616) (hd : d < 18446744073709551616) (w : World) :
    Calls Tryd.prog 69 #[.agg (pc a b), .agg (pc c d)] w fun e w' => e = .returned (.agg (pc (a ^^^ c) (b ^^^ d))) ∧ Below w.heap.size w w' := by
  have e1 := u64_xor_nat a c ha hc
  have e2 := u64_xor_nat b d hb hd
  unfold pc
  go_enter Tryd.func69, Tryd.ntmps69
  go_wp2
  generalize hW : World.alloc (World.alloc (World.alloc w _) _) _ = W
  have K : Blk W (w.heap.size + 1 + 1) 119 (pc (a ^^^ c) (b ^^^ d)) := hW ▸ Blk.new' (by simp) _ _
  have B : Below w.heap.size w W := hW ▸ (((Below.refl w.heap.size w).alloc (Nat.le_refl _) _).alloc (by simp) _).alloc (by simp; omega) _
  exact bodyPost_ret (results_cell_row rfl _ _ _ 119 _ (0, 0) _ rfl K Tryd.underlying119 rfl (info_pc _ _)) rfl ⟨rfl, B⟩
set_option maxHeartbeats 1000000 in
theorem bits_w (p : Option Addr) (n c : Nat) (hn : n < 1000000) (w : World) :
    Calls Tryd.prog 70 #[.slice p n c] w fun e w' => e = .returned (.int .u64 ((n * 8 : Nat) : Int)) ∧ Below w.heap.size w w' := by
  have i1 : IntKind.u64.wrap (n : Int) = (n : Int) := by rw [IntKind.wrap_u64]; omega
  have i2 : IntKind.u64.wrap (8 * (n : Int)) = ((n * 8 : Nat) : Int) := by rw [IntKind.wrap_u64]; omega
  go_enter Tryd.func70, Tryd.ntmps70
  go_wp2
  go_ret
  exact ⟨rfl, Below.refl _ _⟩
set_option maxHeartbeats 1000000 in
theorem timesX_w (a b : Nat) (ha : a < 18446744073709551616) (hb : b < 18446744073709551616) (w : World) :
    Calls Tryd.prog 80 #[.agg (pc a b)] w fun e w' => e = .returned (.agg (pc (a / 2 ^^^ (b % 2) * 16212958658533785600) (a % 2 * 9223372036854775808 + b / 2))) ∧ Below w.heap.size w w' := by
  obtain ⟨o, ho⟩ : ∃ o, o = b % 2 := ⟨_, rfl⟩
  obtain ⟨m, hm⟩ : ∃ m, m = o * 16212958658533785600 := ⟨_, rfl⟩
  obtain ⟨x, hx⟩ : ∃ x, x = a / 2 := ⟨_, rfl⟩
  obtain ⟨r, hr⟩ : ∃ r, r = b / 2 := ⟨_, rfl⟩
  obtain ⟨t, ht⟩ : ∃ t, t = a % 2 * 9223372036854775808 := ⟨_, rfl⟩
  have f1 : bits .and .u64 (b : Int) 1 = (o : Int) := by
    have h := u64_and_nat b 1 hb (by decide)
    rw [show b &&& 1 = b % 2 from Nat.and_two_pow_sub_one_eq_mod _ 1] at h
    rw [ho]
    exact h
  have f2 : IntKind.u64.wrap ((o : Int) * 16212958658533785600) = (m : Int) := by rw [IntKind.wrap_u64]; omega
  have q1 : (a : Int) / 2 = (x : Int) := by omega
  have q2 : (b : Int) / 2 = (r : Int) := by omega
  have f3 : bits .xor .u64 (x : Int) (m : Int) = ((x ^^^ m : Nat) : Int) := u64_xor_nat x m (by omega) (by omega)
  have f4 : IntKind.u64.wrap ((a : Int) * 9223372036854775808) = (t : Int) := by rw [IntKind.wrap_u64]; omega
  have f6 : bits .or .u64 (t : Int) (r : Int) = ((t + r : Nat) : Int) := by
    rw [or64y 63 _ _ (by omega) (by omega) (by omega) (by omega) (by omega) (by decide)]
    omega
  rw [← ho, ← hm, ← hx, ← hr, ← ht]
  clear ho hm hx hr ht
  unfold pc
  go_enter Tryd.func80, Tryd.ntmps80
  go_wp2
  generalize hW : World.alloc (World.alloc w _) _ = W
  have K : Blk W (w.heap.size + 1) 119 (pc (x ^^^ m) (t + r)) := hW ▸ Blk.new' (by simp) _ _
  have B : Below w.heap.size w W := hW ▸ ((Below.refl w.heap.size w).alloc (Nat.le_refl _) _).alloc (by simp) _
  exact bodyPost_ret (results_cell_row rfl _ _ _ 119 _ (0, 0) _ rfl K Tryd.underlying119 rfl (info_pc _ _)) rfl ⟨rfl, B⟩
/-- A polynomial in block g. -/
def PB (w : World) (g : Nat) (a b : Nat) : Prop := Blk w g 119 (pc a b)
theorem PB.c0 {w : World} {g a b : Nat} (h : PB w g a b) : w.cell? ⟨g, 0, none⟩ = some (.int .u64 (a : Int)) := Blk.cell h 0
theorem PB.c1 {w : World} {g a b : Nat} (h : PB w g a b) : w.cell? ⟨g, 1, none⟩ = some (.int .u64 (b : Int)) := Blk.cell h 1
theorem PB.set0 {w : World} {g a b : Nat} (h : PB w g a b) (x : Nat) : PB (w.setCell ⟨g, 0, none⟩ (.int .u64 (x : Int))) g x b := Blk.set h 0 _
theorem PB.set1 {w : World} {g a b : Nat} (h : PB w g a b) (x : Nat) : PB (w.setCell ⟨g, 1, none⟩ (.int .u64 (x : Int))) g a x := Blk.set h 1 _
end Go.Proofs.YtpihgljdbpnehaaDoor
