/- The contracts of scalar's small and Reduce. Contracts by number: Reduce of a key, Check, MulAdd; the reference's L. -/
import Derived.Test.YtegbnadnodlalaaDoorGSl0GSf
import Derived.Deep.Cut
namespace Go.Proofs.YtegbnadnodlalaaDoor.Sc
open Go.RowKit
/-- n bytes in block gb, from cell o on. -/
structure By (w : World) (gb o n : Nat) (f : Nat → Nat) : Prop where
  cell : ∀ i, i < n → w.cell? ⟨gb, o + i, none⟩ = some (.int .u8 ((f i : Nat) : Int))
  lt : ∀ i, f i < 256
  blk : gb < w.heap.size
theorem By.below {w w1 : World} {gb o n : Nat} {f : Nat → Nat} (h : By w gb o n f) (hb : Below w.heap.size w w1) : By w1 gb o n f :=
  ⟨fun i hi => (hb.cell (p := ⟨gb, o + i, none⟩) h.blk).trans (h.cell i hi), h.lt, Nat.lt_of_lt_of_le h.blk hb.size⟩
theorem By.drew {w : World} {gb o n : Nat} {f : Nat → Nat} (h : By w gb o n f) : By w.drew gb o n f := ⟨h.cell, h.lt, h.blk⟩
theorem By.part {w : World} {gb o n : Nat} {f : Nat → Nat} (h : By w gb o n f) (a m : Nat) (hm : a + m ≤ n) : By w gb (o + a) m (fun i => f (a + i)) :=
  ⟨fun i hi => by rw [Nat.add_assoc]; exact h.cell (a + i) (by omega), fun i => h.lt (a + i), h.blk⟩
theorem leTo_split (f : Nat → Nat) (a : Nat) : ∀ b, leTo f (a + b) = leTo f a + 256 ^ a * leTo (fun i => f (a + i)) b
  | 0 => by simp [leTo]
  | b + 1 => by
    show leTo f (a + b) + f (a + b) * 256 ^ (a + b) = leTo f a + 256 ^ a * (leTo (fun i => f (a + i)) b + f (a + b) * 256 ^ b)
    rw [leTo_split f a b, Nat.mul_add, Nat.pow_add, Nat.add_assoc, Nat.mul_left_comm (256 ^ a)]
theorem or_small (f : Nat → Nat) (hf : ∀ i, f i < 256) (k : Nat) (hk : k < 4) : bits .or .u32 ((leTo f k : Nat) : Int) (IntKind.u32.wrap (((f k : Nat) : Int) * 2 ^ (k * 8))) = ((leTo f (k + 1) : Nat) : Int) := by
  have h1 := leTo_lt f hf k
  have h2 := hf k
  have e : leTo f (k + 1) = leTo f k + f k * 256 ^ k := rfl
  rw [e]
  generalize leTo f k = v at *
  generalize f k = b at *
  have hk' : k = 0 ∨ k = 1 ∨ k = 2 ∨ k = 3 := by omega
  rcases hk' with rfl | rfl | rfl | rfl <;> simp only [Nat.reducePow, Nat.reduceMul, Int.reducePow] at * <;> rw [IntKind.wrap_u32, or_comm32]
  · rw [or32 0 _ _ (by omega) (by omega) (by omega) (by omega) (by omega) (by decide)]; omega
  · rw [or32 8 _ _ (by omega) (by omega) (by omega) (by omega) (by omega) (by decide)]; omega
  · rw [or32 16 _ _ (by omega) (by omega) (by omega) (by omega) (by omega) (by decide)]; omega
  · rw [or32 24 _ _ (by omega) (by omega) (by omega) (by omega) (by omega) (by decide)]; omega
set_option maxHeartbeats 1000000 in
theorem small_any (gb o m c : Nat) (f : Nat → Nat) (w : World) (h : By w gb o m f) (hm : m ≤ 4) :
    Calls Tryd.prog 81 #[.slice (some ⟨gb, o, none⟩) m c] w fun e w' => e = .returned (.int .u32 ((leTo f m : Nat) : Int)) ∧ w = w' := by
  go_enter Tryd.func81, Tryd.ntmps81
  go_wp2
  go_loop [3, 7] (fun n i => ∃ k : Nat, k ≤ m ∧ i = .int .i64 k ∧ n = .int .u32 ((leTo f k : Nat) : Int)) (fun _ i => 4 - (intOf i).toNat)
  case atStart => exact ⟨0, by omega, rfl, rfl⟩
  case round =>
    obtain ⟨k, hk, rfl, rfl⟩ := hrel
    by_cases hlt : k < m
    · have c1 := h.cell k hlt
      have bk := h.lt k
      have ho := or_small f h.lt k (by omega)
      have i1 : (0 : Int) ≤ (k : Int) := by omega
      have i2 : (k : Int) < (m : Int) := by omega
      have i3 : IntKind.i64.wrap ((k : Int) * 8) = (k : Int) * 8 := by rw [IntKind.wrap_i64]; omega
      have i4 : ((k : Int) * 8).toNat = k * 8 := by omega
      have i5 : min (k * 8) 32 = k * 8 := by omega
      have i6 : (0 : Int) ≤ (k : Int) * 8 := by omega
      have i7 : IntKind.u32.wrap ((f k : Nat) : Int) = ((f k : Nat) : Int) := by rw [IntKind.wrap_u32]; omega
      generalize leTo f k = v at *
      generalize hv2 : leTo f (k + 1) = v2 at *
      have H2 := Lib.hid hv2
      rw [IntKind.wrap_u32] at ho
      have HO := Lib.hid ho
      clear hv2 ho
      go_wp2
      exact ⟨⟨k + 1, by omega, by go_num, by rw [H2.out]; exact congrArg _ HO.out⟩, by simp [intOf]; omega⟩
    · obtain rfl : k = m := by omega
      go_wp2
      go_ret
      exact ⟨rfl, rfl⟩
theorem set_self_true (l : Array Bool) (z : Nat) : (l.setIfInBounds z true).getD z true = true := by
  rcases Nat.lt_or_ge z l.size with h | h
  · exact getD_set_self h true
  · simp [Array.getElem?_eq_none h]
/-- A whole row stored at the region's last operation. -/
theorem wpAnyZ_store_last {P : Program} {md : Region.Mode} {ops : Array Oper} {Q : Exit → Act → World → Prop} {S : World → Prop} {fuel : Nat} {listed : Array Bool} {a : Act} {w : World} (z : Nat) {oi : Oper} (hi : ops.toList[z]? = some oi) (hr : Region.ready md ops listed = [z]) (hgd : oi.guard = none)
    (ty : TypeId) (x y : Operand) (ho : oi.op = .store ty x y) (g : Nat) (cells : Array Value) (hx : a.eval x = .pointer (some ⟨g, 0, none⟩)) (hy : a.eval y = .agg cells)
    (t : TypeId) (old : Array Value) (hg : Blk w g t old) (hinf : (P.info? ty).map (·.size) = some cells.size) (hold : old.size = cells.size) (h1 : cells.all (·.oneCell') = true)
    (h : wpAnyZ P md ops Q S z fuel (listed.setIfInBounds z true) (a.put oi.dst undef) (w.setRow g cells)) : wpAnyZ P md ops Q S z (fuel + 1) listed a w := by
  refine wpAnyZ_one hr ?_
  unfold wpOp
  rw [← Array.getElem?_toList, hi]
  have hw : Region.wanted oi (yielded ops a.tmps) = true := by simp [Region.wanted, hgd]
  simp only [hw, if_true]
  left
  exact wp_store_row ty x y ho g cells hx hy t old hg hinf hold h1 ⟨fun hf => (by rw [set_self_true] at hf; cases hf), h⟩
/-- The value of the bytes from m on. -/
def hiTo (f : Nat → Nat) (n m : Nat) : Nat := leTo (fun i => f (m + i)) (n - m)
theorem hiTo_all (f : Nat → Nat) (n : Nat) : hiTo f n 0 = leTo f n := by
  unfold hiTo
  simp
theorem hiTo_none (f : Nat → Nat) (n : Nat) : hiTo f n n = 0 := by
  unfold hiTo
  rw [Nat.sub_self]
  rfl
theorem hiTo_step (f : Nat → Nat) (n a m : Nat) (ha : a ≤ m) (hm : m ≤ n) : hiTo f n a = leTo (fun i => f (a + i)) (m - a) + 256 ^ (m - a) * hiTo f n m := by
  unfold hiTo
  rw [show n - a = (m - a) + (n - m) by omega, leTo_split]
  congr 3
  funext i
  congr 1
  omega
/-- The memory of Reduce. -/
structure ReW (gb o n : Nat) (f : Nat → Nat) (w wr : World) (v : Nat) : Prop where
  by_ : By wr gb o n f
  res : Blk wr w.heap.size 34 (Iv .u8 (List.replicate 32 0))
  num : Blk wr (w.heap.size + 1) 102 (Nm_cells v)
  k : Below w.heap.size w wr
  lo : gb < w.heap.size
theorem ReW.below {gb o n : Nat} {f : Nat → Nat} {w wr w1 : World} {v : Nat} (h : ReW gb o n f w wr v) (hb : Below wr.heap.size wr w1) : ReW gb o n f w w1 v := ⟨h.by_.below hb, h.res.below' hb, h.num.below' hb, h.k.trans (hb.mono h.k.size), h.lo⟩
theorem ReW.drew {gb o n : Nat} {f : Nat → Nat} {w wr : World} {v : Nat} (h : ReW gb o n f w wr v) : ReW gb o n f w wr.drew v := ⟨h.by_.drew, h.res, h.num, below_drew h.k, h.lo⟩
theorem ReW.row {gb o n : Nat} {f : Nat → Nat} {w wr : World} {v : Nat} (h : ReW gb o n f w wr v) (m : Nat) : ReW gb o n f w (wr.setRow (w.heap.size + 1) (Nm_cells m)) m := by
  have hlo := h.lo
  refine ⟨⟨fun i hi => ?_, h.by_.lt, by rw [setRow_size]; exact h.by_.blk⟩, h.res.rowFar (by omega) _, h.num.row _, below_setRow h.k (by omega) _, h.lo⟩
  rw [← h.by_.cell i hi]
  simp only [World.cell?]
  rw [setRow_other wr (w.heap.size + 1) gb _ (by omega)]
def lenOfV : Value → Nat
  | .slice _ n _ => n
  | _ => 0
set_option maxHeartbeats 2000000 in
set_option maxRecDepth 100000 in
theorem reduce_any (gb o n c : Nat) (f : Nat → Nat) (w : World) (h : By w gb o n f) (hn : n < 4294967296) (hc : n ≤ c) :
    Calls Tryd.prog 61 #[.slice (some ⟨gb, o, none⟩) n c] w fun e w' => e = .returned (Key (keyOf (leTo f n % LL))) ∧ Below w.heap.size w w' := by
  obtain ⟨R, hR⟩ : ∃ R, R = leTo f n % LL := ⟨_, rfl⟩
  rw [← hR]
  have HR := Lib.hid hR
  clear hR
  unfold Key
  go_enter Tryd.func61, Tryd.ntmps61
  go_wp2_with fail
  generalize hW : World.alloc (World.alloc w _) _ = W
  have F0 : ReW gb o n f w W (hiTo f n n % LL) := by
    subst hW
    rw [hiTo_none, Nat.zero_mod]
    refine ⟨h.below (((Below.refl _ _).alloc (Nat.le_refl _) _).alloc (by simp) _), (Blk.new _ _ _).alloc _, ?_, ((Below.refl _ _).alloc (Nat.le_refl _) _).alloc (by simp) _, h.blk⟩
    show Blk _ _ _ (Nm_cells 0)
    rw [Nm_zero]
    exact Blk.new' (by simp) _ _
  clear hW
  go_loopw [0] (fun b wr => ∃ m : Nat, m ≤ n ∧ (m = n ∨ m % 4 = 0) ∧ b = .slice (some ⟨gb, o, none⟩) m c ∧ ReW gb o n f w wr (hiTo f n m % LL)) (fun b _ => lenOfV b)
  case atStart => exact ⟨n, Nat.le_refl _, Or.inl rfl, rfl, F0⟩
  case round =>
    obtain ⟨m, hm, hm4, rfl, F⟩ := hrel
    clear F0
    by_cases hlt : 0 < m
    · obtain ⟨a, ha⟩ : ∃ a, a = (m - 1) / 4 * 4 := ⟨_, rfl⟩
      have ham : a < m ∧ m - a ≤ 4 ∧ a % 4 = 0 := by omega
      have i1 : (((m - 1 : Nat)) : Int) / 4 * 4 = (a : Int) := by omega
      have i2 : IntKind.i64.wrap ((m : Int) - 1) = (m : Int) - 1 := by rw [IntKind.wrap_i64]; omega
      have i3 : (0 : Int) ≤ (m : Int) - 1 := by omega
      have i4 : IntKind.i64.wrap (a : Int) = (a : Int) := by rw [IntKind.wrap_i64]; omega
      have i5 : (0 : Int) < (m : Int) := by omega
      go_upto_region 4 with fail
      have E1 : Hid (((m : Int) - 1) / 4 * 4 = (a : Int)) := Lib.hid (by omega)
      have E2 : Hid ((((m - 1 : Nat)) : Int) / 4 * 4 = (a : Int)) := Lib.hid (by omega)
      clear i1 i2 i3 i4 i5
      have j1 : (0 : Int) ≤ (a : Int) := by omega
      have j2 : (a : Int) ≤ (m : Int) := by omega
      have j3 : (m : Int) ≤ (c : Int) := by omega
      have j4 : ¬ (c = a) := by omega
      have hstep := hiTo_step f n a m (by omega) hm
      have lsm := leTo_lt (fun i => f (a + i)) (fun i => h.lt (a + i)) (m - a)
      have hsm : ∀ W, By W gb o n f → Calls Tryd.prog 81 #[.slice (some ⟨gb, o + a, none⟩) (m - a) (c - a)] W fun e w' => e = .returned (.int .u32 ((leTo (fun i => f (a + i)) (m - a) : Nat) : Int)) ∧ W = w' := fun W hW => small_any gb (o + a) (m - a) (c - a) (fun i => f (a + i)) W (hW.part a (m - a) (by omega)) ham.2.1
      have hval : (hiTo f n m % LL * 4294967296 + leTo (fun i => f (a + i)) (m - a)) % LL = hiTo f n a % LL := by
        rw [hstep]
        rcases hm4 with h4 | h4
        · subst h4
          rw [hiTo_none]
          simp
        · rw [show m - a = 4 by omega, Nat.add_mod, Nat.mod_mul_mod, ← Nat.add_mod]
          congr 1
          rw [show (256 : Nat) ^ 4 = 4294967296 from rfl, Nat.add_comm, Nat.mul_comm]
      have lsm2 : leTo (fun i => f (a + i)) (m - a) < 4294967296 := Nat.lt_of_lt_of_le lsm (by
        have : (256 : Nat) ^ (m - a) ≤ 256 ^ 4 := Nat.pow_le_pow_right (by decide) ham.2.1
        exact this)
      obtain ⟨sm, hsm0⟩ : ∃ x, x = leTo (fun i => f (a + i)) (m - a) := ⟨_, rfl⟩
      obtain ⟨v0, hv0⟩ : ∃ x, x = hiTo f n m % LL := ⟨_, rfl⟩
      obtain ⟨v1, hv1⟩ : ∃ x, x = hiTo f n a % LL := ⟨_, rfl⟩
      have lv0 : v0 < LL := hv0 ▸ Nat.mod_lt _ LL_pos
      rw [← hsm0] at hval lsm2
      simp only [← hsm0] at hsm
      rw [← hv0] at F hval
      rw [← hv1] at hval
      have cF : ∀ W, Calls Tryd.prog 64 #[.agg (Nm_cells v0), .int .u32 ((sm : Nat) : Int)] W fun e w' => e = .returned (.agg (Nm_cells v1)) ∧ Below W.heap.size W w' := fun W => by
        have := followed_any v0 sm W lv0 lsm2
        rw [hval] at this
        exact this
      have CS := Lib.hid hsm
      have CF := Lib.hid cF
      have HV := Lib.hid hv1
      have HA := Lib.hid ha
      clear hsm cF hv1 hval hstep lsm lsm2 hsm0 hv0 lv0 ha
      have G := F.drew
      clear F
      refine wp_region_Z (S := fun w' => ReW gb o n f w w' v0) 6 (by kernel_rfl) ?_
      refine wpAnyZ_takeL 0 rfl (by kernel_rfl) (by kernel_rfl) (by kernel_rfl) (by kernel_rfl) (by kernel_rfl) (fun _ _ _ h => h) (show YieldsIf _ _ _ _ (.agg (Nm_cells v0)) _ from yieldsIf_row_wanted rfl 102 _ rfl (w.heap.size + 1) rfl 102 _ _ (fun w' h => h.num) Tryd.underlying102 rfl (info_nm _)) G ?_
      simp only [Act.put, List.setIfInBounds_toArray, List.set_cons_zero, List.set_cons_succ]
      refine wpAnyZ_takeL 1 rfl (by kernel_rfl) (by kernel_rfl) (by kernel_rfl) (by kernel_rfl) (by kernel_rfl) (fun _ _ _ h => h) (yieldsIf_move rfl _ rfl _ rfl) G ?_
      simp only [Act.put, List.setIfInBounds_toArray, List.set_cons_zero, List.set_cons_succ]
      refine wpAnyZ_takeL 2 rfl (by kernel_rfl) (by kernel_rfl) (by kernel_rfl) (by kernel_rfl) (by kernel_rfl) (fun _ _ _ h => h) (yieldsIf_move rfl _ rfl _ rfl) G ?_
      simp only [Act.put, List.setIfInBounds_toArray, List.set_cons_zero, List.set_cons_succ]
      refine wpAnyZ_takeL 3 (v := .slice (some ⟨gb, o + a, none⟩) (m - a) (c - a)) rfl (by kernel_rfl) (by kernel_rfl) (by kernel_rfl) (by kernel_rfl) (by kernel_rfl) (fun _ _ _ h => h) (Or.inl ⟨by rfl, ?_⟩) G ?_
      · intro w' hw'
        go_simp
        simp only [E1.out, E2.out]
        go_simp
      simp only [Act.put, List.setIfInBounds_toArray, List.set_cons_zero, List.set_cons_succ]
      refine wpAnyZ_one (i := 4) (by kernel_rfl) ?_
      unfold wpOp
      go_simp
      left
      refine (CS.out _ G.by_).mono ?_
      rintro e w1 ⟨rfl, rfl⟩
      refine ⟨G, ?_⟩
      refine wpAnyZ_one (i := 5) (by kernel_rfl) ?_
      unfold wpOp
      go_simp
      left
      refine (CF.out _).mono ?_
      rintro e w1 ⟨rfl, b1⟩
      have G1 := G.below b1
      clear b1 G
      refine ⟨G1, ?_⟩
      have Bn := G1.num
      refine wpAnyZ_store_last 6 rfl (by kernel_rfl) rfl _ _ _ rfl (w.heap.size + 1) (Nm_cells v1) rfl rfl _ _ Bn (info_nm _) (by rw [Nm_size, Nm_size]) (Nm_one _) ?_
      refine wpAnyZ_done (by kernel_rfl) ?_ _
      have G2 := G1.row v1
      clear G1 Bn
      generalize World.setRow w1 _ _ = W2 at *
      go_wp2
      exact ⟨⟨a, by omega, Or.inr ham.2.2, by rw [HA.out], HV.out ▸ G2⟩, show (m - 1) / 4 * 4 < m by omega⟩
    · obtain rfl : m = 0 := by omega
      rw [hiTo_all] at F
      rw [← HR.out] at F
      have Bn := F.num
      have cB := fun W => sbytes_any R W
      unfold Nm Key at cB
      have CB := Lib.hid cB
      clear cB
      go_wp2_with (refine wpList_load_row rfl 102 _ rfl (w.heap.size + 1) rfl 102 _ (0, 0) _ Bn Tryd.underlying102 rfl (info_nm _) ?_)
      refine (CB.out _).mono ?_
      rintro e v1 ⟨rfl, b1⟩
      have F1 := F.below b1
      clear b1 F Bn
      have Br := F1.res
      go_wp2_with (refine wpList_store_row rfl 34 _ _ rfl (w.heap.size) (Iv .u8 (keyOf R)) rfl rfl 34 _ Br (info_key _ (keyOf_length _)) (by rw [Iv_size, Iv_size, keyOf_length]; rfl) (Iv_one _ _) ?_)
      exact bodyPost_ret (results_cell_row rfl _ _ _ 34 _ (0, 0) _ rfl (Br.row _) Tryd.underlying34 rfl (info_key _ (keyOf_length _))) rfl ⟨rfl, below_setRow F1.k (by omega) _⟩
end Go.Proofs.YtegbnadnodlalaaDoor.Sc
namespace Go.Proofs.YtegbnadnodlalaaDoor.Sc
open Go.RowKit
theorem pw4_bytes : pw 4 = 256 ^ 32 := by decide
theorem leTo_byteAt (n : Nat) : ∀ k, leTo (byteAt n) k = n % 256 ^ k
  | 0 => by simp [leTo, Nat.mod_one]
  | k + 1 => by
    unfold leTo
    rw [leTo_byteAt n k, Nat.pow_succ, Nat.mod_mul]
    unfold byteAt
    rw [Nat.mul_comm (256 ^ k)]
theorem keyOf_bytes (n : Nat) : Bytes32 (keyOf n) (byteAt n) :=
  ⟨keyOf_length n, fun i h => by simp [keyOf, h], fun i => Nat.mod_lt _ (by decide)⟩
theorem keyOf_num (n : Nat) (h : n < pw 4) : leTo (byteAt n) 32 = n := by
  rw [leTo_byteAt, Nat.mod_eq_of_lt (pw4_bytes ▸ h)]
theorem key_of_bytes {l : List Int} {f : Nat → Nat} (hl : Bytes32 l f) : l = keyOf (leTo f 32) := by
  apply List.ext_getElem (by rw [hl.len, keyOf_length])
  intro i h1 h2
  have h3 : i < 32 := by rw [hl.len] at h1; exact h1
  have h4 := hl.get i h3
  simp [List.getD, h1] at h4
  rw [h4]
  simp only [keyOf, List.getElem_map, List.getElem_range]
  rw [byteAt, leTo_byte f hl.lt 32 i h3]
theorem keyOf_inj (a b : Nat) (ha : a < pw 4) (hb : b < pw 4) (h : keyOf a = keyOf b) : a = b := by
  have hb2 : ∀ i, i < 32 → byteAt a i = byteAt b i := fun i hi => by
    have h1 := congrArg (fun l : List Int => l.getD i 0) h
    simp only [keyOf, List.getD, List.getElem?_map, List.getElem?_range hi, Option.map_some, Option.getD_some] at h1
    omega
  have hsame : ∀ k, k ≤ 32 → leTo (byteAt a) k = leTo (byteAt b) k := by
    intro k
    induction k with
    | zero => intro _; rfl
    | succ k ih => intro hk; unfold leTo; rw [ih (by omega), hb2 k (by omega)]
  have h2 := hsame 32 (Nat.le_refl _)
  rw [keyOf_num a ha, keyOf_num b hb] at h2
  exact h2
theorem LL_lt : LL < pw 4 := by rw [pw_four]; decide
theorem mod_lt4 (x : Nat) : x % LL < pw 4 := Nat.lt_trans (Nat.mod_lt _ LL_pos) LL_lt
theorem key_dec (a b : Nat) (c : Bool) (ha : a < pw 4) (hb : b < pw 4) (hc : decide (a = b) = c) (W : World) : (binOp .eql 34 (.agg (Iv .u8 (keyOf a))) (.agg (Iv .u8 (keyOf b)))).run Tryd.prog W = .ok (.bool c) W := by
  rw [eql_keys _ _ (keyOf_length a) (keyOf_length b), ← hc]
  congr 2
  exact decide_eq_decide.2 ⟨keyOf_inj a b ha hb, fun h => by rw [h]⟩
theorem eqg_api_Key : Tryd.prog.eqGuardType Tryd.prog.depth 34 = false := by kernel_rfl
theorem muladd_n (a b c r : Nat) (ha : a < pw 4) (hb : b < pw 4) (hc : c < pw 4) (hr : r = (a * b + c) % LL) (w : World) :
    Calls Tryd.prog 44 #[Key (keyOf a), Key (keyOf b), Key (keyOf c)] w fun e w' => e = .returned (Key (keyOf r)) ∧ Below w.heap.size w w' := by
  have h := muladd_any _ _ _ _ _ _ (keyOf_bytes a) (keyOf_bytes b) (keyOf_bytes c) w
  rw [keyOf_num a ha, keyOf_num b hb, keyOf_num c hc, ← hr] at h
  exact h
theorem By.of_key {w : World} {g : Nat} {t : TypeId} {n : Nat} (h : Blk w g t (Iv .u8 (keyOf n))) : By w g 0 32 (byteAt n) :=
  ⟨fun i hi => by rw [h.cell, Nat.zero_add, Iv_get _ _ _ (by rw [keyOf_length]; exact hi), (keyOf_bytes n).get i hi], (keyOf_bytes n).lt, h.lt⟩
theorem reduce_n (g : Nat) (t : TypeId) (a r : Nat) (w : World) (h : Blk w g t (Iv .u8 (keyOf a))) (ha : a < pw 4) (hr : r = a % LL) :
    Calls Tryd.prog 61 #[.slice (some ⟨g, 0, none⟩) 32 32] w fun e w' => e = .returned (Key (keyOf r)) ∧ Below w.heap.size w w' := by
  have h := reduce_any g 0 32 32 (byteAt a) w (By.of_key h) (by decide) (by decide)
  rw [keyOf_num a ha, ← hr] at h
  exact h
set_option maxHeartbeats 1000000 in
set_option maxRecDepth 100000 in
theorem check_n (a : Nat) (c : Bool) (ha : a < pw 4) (hc : decide (a < LL) = c) (w : World) : Calls Tryd.prog 48 #[Key (keyOf a)] w fun e w' => e = .returned (.bool c) ∧ Below w.heap.size w w' := by
  obtain ⟨r, hr⟩ : ∃ r, r = a % LL := ⟨_, rfl⟩
  have lr : r < pw 4 := hr ▸ mod_lt4 a
  have hk := key_dec r a c lr ha (by
    rw [← hc]
    refine decide_eq_decide.2 ⟨fun h => ?_, fun h => ?_⟩
    · rw [← h, hr]; exact Nat.mod_lt _ LL_pos
    · rw [hr, Nat.mod_eq_of_lt h])
  have HR := Lib.hid hr
  have HK := Lib.hid hk
  clear hr hk hc
  unfold Key
  go_enter Tryd.func48, Tryd.ntmps48
  go_wp2_with fail
  have hS : Facts [.blk w.heap.size 34 (Iv .u8 (keyOf a))] (World.alloc w (.cells (Iv .u8 (keyOf a)) 34)).drew := Facts.drew (Facts.cons (f := .blk _ _ _) (Blk.new _ _ _) Facts.nil)
  have hB : Below w.heap.size w (World.alloc w (.cells (Iv .u8 (keyOf a)) 34)).drew := below_drew ((Below.refl _ _).alloc (Nat.le_refl _) _)
  refine wp_region_Z (S := Facts [.blk w.heap.size 34 (Iv .u8 (keyOf a))]) 4 (by kernel_rfl) ?_
  refine wpAnyZ_takeL 0 (v := .slice (some ⟨w.heap.size, 0, none⟩) 32 32) rfl (by kernel_rfl) (by kernel_rfl) (by kernel_rfl) (by kernel_rfl) (by kernel_rfl) (fun _ _ _ h => h) (Or.inl ⟨by rfl, ?_⟩) hS ?_
  · intro w' _
    go_simp
  simp only [Act.put, List.setIfInBounds_toArray, List.set_cons_zero, List.set_cons_succ]
  refine wpAnyZ_takeL 2 rfl (by kernel_rfl) (by kernel_rfl) (by kernel_rfl) (by kernel_rfl) (by kernel_rfl) (fun _ _ _ h => h) (show YieldsIf _ _ _ _ (Key (keyOf a)) _ from yieldsIf_load rfl 34 _ rfl (w.heap.size) rfl _ _ _ (.head _) Tryd.underlying34 rfl (info_key _ (keyOf_length _))) hS ?_
  simp only [Act.put, List.setIfInBounds_toArray, List.set_cons_zero, List.set_cons_succ]
  refine wpAnyZ_one (i := 1) (by kernel_rfl) ?_
  unfold wpOp
  go_simp
  left
  refine (reduce_n _ _ a r _ (hS.blkAt _ _ _ (.head _)) ha HR.out).mono ?_
  rintro e v1 ⟨rfl, b⟩
  replace hB := hB.trans (b.mono hB.size)
  replace hS := hS.below b
  clear b
  refine ⟨hS, ?_⟩
  refine wpAnyZ_takeL 3 rfl (by kernel_rfl) (by kernel_rfl) (by kernel_rfl) (by kernel_rfl) (by kernel_rfl) (fun _ _ _ h => h) (yieldsIf_eql rfl 34 _ _ _ rfl _ _ rfl rfl eqg_api_Key c HK.out) hS ?_
  simp only [Act.put, List.setIfInBounds_toArray, List.set_cons_zero, List.set_cons_succ]
  refine wpAnyZ_one (i := 4) (by kernel_rfl) ?_
  unfold wpOp
  go_simp
  left
  refine wpAnyZ_done (by kernel_rfl) ?_ _
  go_wp2
  go_ret
  exact ⟨rfl, hB⟩
end Go.Proofs.YtegbnadnodlalaaDoor.Sc
