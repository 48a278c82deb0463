/- Contracts by number: Reduce of a key, Check, MulAdd; the reference's L. -/
import Derived.Test.YtnglancehmdlpaaSg
namespace Go.Proofs.Ytnglancehmdlpaa
open Go.RowKit

theorem pw4_bytes : pw 4 = 256 ^ 32 := by decide
theorem leTo_byteAt (n : Nat) : ∀ k, leTo (byteAt n) k = n % 256 ^ k
  | 0 => by simp [leTo, Nat.mod_one]
  | k + 1 => by
    unfold leTo
    rw [leTo_byteAt n k, Nat.pow_succ, Nat.mod_mul]
    unfold byteAt
    rw [Nat.mul_comm (256 ^ k)]
theorem keyOf_bytes (n : Nat) : Bytes32 (keyOf n) (byteAt n) :=
  ⟨keyOf_length n, fun i h => by simp [keyOf, h], fun i => Nat.mod_lt _ (by decide)⟩
theorem keyOf_num (n : Nat) (h : n < pw 4) : leTo (byteAt n) 32 = n := by
  rw [leTo_byteAt, Nat.mod_eq_of_lt (pw4_bytes ▸ h)]
theorem key_of_bytes {l : List Int} {f : Nat → Nat} (hl : Bytes32 l f) : l = keyOf (leTo f 32) := by
  apply List.ext_getElem (by rw [hl.len, keyOf_length])
  intro i h1 h2
  have h3 : i < 32 := by rw [hl.len] at h1; exact h1
  have h4 := hl.get i h3
  simp [List.getD, h1] at h4
  rw [h4]
  simp only [keyOf, List.getElem_map, List.getElem_range]
  rw [byteAt, leTo_byte f hl.lt 32 i h3]
theorem keyOf_inj (a b : Nat) (ha : a < pw 4) (hb : b < pw 4) (h : keyOf a = keyOf b) : a = b := by
  have hb2 : ∀ i, i < 32 → byteAt a i = byteAt b i := fun i hi => by
    have h1 := congrArg (fun l : List Int => l.getD i 0) h
    simp only [keyOf, List.getD, List.getElem?_map, List.getElem?_range hi, Option.map_some, Option.getD_some] at h1
    omega
  have hsame : ∀ k, k ≤ 32 → leTo (byteAt a) k = leTo (byteAt b) k := by
    intro k
    induction k with
    | zero => intro _; rfl
    | succ k ih => intro hk; unfold leTo; rw [ih (by omega), hb2 k (by omega)]
  have h2 := hsame 32 (Nat.le_refl _)
  rw [keyOf_num a ha, keyOf_num b hb] at h2
  exact h2
theorem LL_lt : LL < pw 4 := by rw [pw_four]; decide
theorem mod_lt4 (x : Nat) : x % LL < pw 4 := Nat.lt_trans (Nat.mod_lt _ LL_pos) LL_lt
theorem key_dec (a b : Nat) (c : Bool) (ha : a < pw 4) (hb : b < pw 4) (hc : decide (a = b) = c) (W : World) : (binOp .eql 24 (.agg (Iv .u8 (keyOf a))) (.agg (Iv .u8 (keyOf b)))).run Try.prog W = .ok (.bool c) W := by
  rw [eql_keys _ _ (keyOf_length a) (keyOf_length b), ← hc]
  congr 2
  exact decide_eq_decide.2 ⟨keyOf_inj a b ha hb, fun h => by rw [h]⟩
theorem eqg_api_Key : Try.prog.eqGuardType Try.prog.depth 24 = false := by kernel_rfl

theorem muladd_n (a b c r : Nat) (ha : a < pw 4) (hb : b < pw 4) (hc : c < pw 4) (hr : r = (a * b + c) % LL) (w : World) :
    Calls Try.prog 22 #[Key (keyOf a), Key (keyOf b), Key (keyOf c)] w fun e w' => e = .returned (Key (keyOf r)) ∧ Below w.heap.size w w' := by
  have h := muladd_any _ _ _ _ _ _ (keyOf_bytes a) (keyOf_bytes b) (keyOf_bytes c) w
  rw [keyOf_num a ha, keyOf_num b hb, keyOf_num c hc, ← hr] at h
  exact h
theorem By.of_key {w : World} {g : Nat} {t : TypeId} {n : Nat} (h : Blk w g t (Iv .u8 (keyOf n))) : By w g 0 32 (byteAt n) :=
  ⟨fun i hi => by rw [h.cell, Nat.zero_add, Iv_get _ _ _ (by rw [keyOf_length]; exact hi), (keyOf_bytes n).get i hi], (keyOf_bytes n).lt, h.lt⟩
theorem reduce_n (g : Nat) (t : TypeId) (a r : Nat) (w : World) (h : Blk w g t (Iv .u8 (keyOf a))) (ha : a < pw 4) (hr : r = a % LL) :
    Calls Try.prog 10 #[.slice (some ⟨g, 0, none⟩) 32 32] w fun e w' => e = .returned (Key (keyOf r)) ∧ Below w.heap.size w w' := by
  have h := reduce_any g 0 32 32 (byteAt a) w (By.of_key h) (by decide) (by decide)
  rw [keyOf_num a ha, ← hr] at h
  exact h

set_option maxHeartbeats 1000000 in
set_option maxRecDepth 100000 in
theorem check_n (a : Nat) (c : Bool) (ha : a < pw 4) (hc : decide (a < LL) = c) (w : World) : Calls Try.prog 12 #[Key (keyOf a)] w fun e w' => e = .returned (.bool c) ∧ Below w.heap.size w w' := by
  obtain ⟨r, hr⟩ : ∃ r, r = a % LL := ⟨_, rfl⟩
  have lr : r < pw 4 := hr ▸ mod_lt4 a
  have hk := key_dec r a c lr ha (by
    rw [← hc]
    refine decide_eq_decide.2 ⟨fun h => ?_, fun h => ?_⟩
    · rw [← h, hr]; exact Nat.mod_lt _ LL_pos
    · rw [hr, Nat.mod_eq_of_lt h])
  have HR := Lib.hid hr
  have HK := Lib.hid hk
  clear hr hk hc
  unfold Key
  go_enter Try.func12, Try.ntmps12
  go_wp2_with fail
  have hS : Facts [.blk w.heap.size 24 (Iv .u8 (keyOf a))] (World.alloc w (.cells (Iv .u8 (keyOf a)) 24)).drew := Facts.drew (Facts.cons (f := .blk _ _ _) (Blk.new _ _ _) Facts.nil)
  have hB : Below w.heap.size w (World.alloc w (.cells (Iv .u8 (keyOf a)) 24)).drew := below_drew ((Below.refl _ _).alloc (Nat.le_refl _) _)
  refine wp_region_Z (S := Facts [.blk w.heap.size 24 (Iv .u8 (keyOf a))]) 4 (by kernel_rfl) ?_
  refine wpAnyZ_takeL 0 (v := .slice (some ⟨w.heap.size, 0, none⟩) 32 32) rfl (by kernel_rfl) (by kernel_rfl) (by kernel_rfl) (by kernel_rfl) (by kernel_rfl) (fun _ _ _ h => h) (Or.inl ⟨by rfl, ?_⟩) hS ?_
  · intro w' _
    go_simp
  simp only [Act.put, List.setIfInBounds_toArray, List.set_cons_zero, List.set_cons_succ]
  refine wpAnyZ_takeL 2 rfl (by kernel_rfl) (by kernel_rfl) (by kernel_rfl) (by kernel_rfl) (by kernel_rfl) (fun _ _ _ h => h) (show YieldsIf _ _ _ _ (Key (keyOf a)) _ from yieldsIf_load rfl 24 _ rfl (w.heap.size) rfl _ _ _ (.head _) Try.underlying24 rfl (info_key _ (keyOf_length _))) hS ?_
  simp only [Act.put, List.setIfInBounds_toArray, List.set_cons_zero, List.set_cons_succ]
  refine wpAnyZ_one (i := 1) (by kernel_rfl) ?_
  unfold wpOp
  go_simp
  left
  refine (reduce_n _ _ a r _ (hS.blkAt _ _ _ (.head _)) ha HR.out).mono ?_
  rintro e v1 ⟨rfl, b⟩
  replace hB := hB.trans (b.mono hB.size)
  replace hS := hS.below b
  clear b
  refine ⟨hS, ?_⟩
  refine wpAnyZ_takeL 3 rfl (by kernel_rfl) (by kernel_rfl) (by kernel_rfl) (by kernel_rfl) (by kernel_rfl) (fun _ _ _ h => h) (yieldsIf_eql rfl 24 _ _ _ rfl _ _ rfl rfl eqg_api_Key c HK.out) hS ?_
  simp only [Act.put, List.setIfInBounds_toArray, List.set_cons_zero, List.set_cons_succ]
  refine wpAnyZ_one (i := 4) (by kernel_rfl) ?_
  unfold wpOp
  go_simp
  left
  refine wpAnyZ_done (by kernel_rfl) ?_ _
  go_wp2
  go_ret
  exact ⟨rfl, hB⟩

theorem l_digits : ((List.range 16).map fun i => ((dAt LL i : Nat) : Int)) = [54253, 23797, 25370, 22546, 40150, 41719, 63966, 5342, 0, 0, 0, 0, 0, 0, 0, 4096] := by decide +kernel
theorem dAt_high (v : Nat) (hv : v < pw 4) (i : Nat) (h : 16 ≤ i) : dAt v i = 0 := by
  have : v < 65536 ^ i := Nat.lt_of_lt_of_le hv (by
    rw [pw4_bytes, show (256 : Nat) ^ 32 = 65536 ^ 16 from by decide]
    exact Nat.pow_le_pow_right (by decide) h)
  unfold dAt
  rw [Nat.div_eq_of_lt this]
theorem l_any (w : World) : Calls Try.prog 15 #[] w (RetSl w 16 (dAt LL)) := by
  go_enter Try.func15, Try.ntmps15
  go_wp2
  go_ret
  refine ⟨w.heap.size, 16, rfl, Sl.of_blk (t := 37) ?_ (dAt_lt LL) (dAt_high LL LL_lt), Nat.le_refl _, ?_⟩
  · rw [l_digits]
    exact Blk.new _ _ _
  · exact (Below.refl _ _).alloc (Nat.le_refl _) _
theorem d_val (v : Nat) (hv : v < pw 4) : lv (dAt v) 16 = v := by
  rw [d_num, Nat.mod_eq_of_lt]
  rw [show (65536 : Nat) ^ 16 = pw 4 from by decide]
  exact hv
end Go.Proofs.Ytnglancehmdlpaa
