/- Contracts of field.Swap and field.ones. Contracts of field.ones and field.Power. A region that draws its order, taken operation by operation under a fact S on the memory that is asked only as long as operation z has not come up: for a statement whose last operation is a store into what it has read. -/
import Derived.Test.YtegbnadnodlalaaDoorGFg0GFh
import Derived.Test.YtegbnadnodlalaaDoorGFd0GFf
import Derived.OrdersHeld
namespace Go.Proofs.YtegbnadnodlalaaDoor
open Go.RowKit
theorem and_all (x : Nat) (hx : x < 18446744073709551616) : bits .and .u64 18446744073709551615 ((x : Nat) : Int) = ((x : Nat) : Int) := by
  have h := u64_and_nat 18446744073709551615 x (by omega) hx
  have e : 18446744073709551615 &&& x = x := by
    rw [Nat.and_comm]
    have := Nat.and_two_pow_sub_one_eq_mod x 64
    simp only [Nat.reducePow, Nat.reduceSub] at this
    rw [this]
    omega
  rw [e] at h
  exact h
theorem and_none (x : Nat) (hx : x < 18446744073709551616) : bits .and .u64 0 ((x : Nat) : Int) = 0 := by
  have h := u64_and_nat 0 x (by omega) hx
  rw [Nat.zero_and] at h
  exact h
/-- The mask of a swap. -/
def maskOf (s : Nat) : Int := IntKind.u64.wrap (-(bits .and .u64 (s : Int) 1))
theorem maskOf_odd (s : Nat) (hs : s < 18446744073709551616) (h : s % 2 = 1) : maskOf s = 18446744073709551615 := by
  unfold maskOf
  rw [and1 _ (by omega) (by omega), IntKind.wrap_u64]; omega
theorem maskOf_even (s : Nat) (hs : s < 18446744073709551616) (h : s % 2 = 0) : maskOf s = 0 := by
  unfold maskOf
  rw [and1 _ (by omega) (by omega), IntKind.wrap_u64]; omega
theorem swap_one (s x y : Nat) (hs : s < 18446744073709551616) (hx : x < 18446744073709551616) (hy : y < 18446744073709551616) :
    bits .xor .u64 (x : Int) (bits .and .u64 (maskOf s) (bits .xor .u64 (x : Int) (y : Int))) = ((if s % 2 = 1 then y else x : Nat) : Int) ∧
    bits .xor .u64 (y : Int) (bits .and .u64 (maskOf s) (bits .xor .u64 (x : Int) (y : Int))) = ((if s % 2 = 1 then x else y : Nat) : Int) := by
  have hxy : x ^^^ y < 18446744073709551616 := Nat.xor_lt_two_pow (n := 64) hx hy
  rw [u64_xor_nat x y hx hy]
  by_cases h : s % 2 = 1
  · rw [maskOf_odd s hs h, and_all _ hxy, u64_xor_nat _ _ hx hxy, u64_xor_nat _ _ hy hxy, if_pos h, if_pos h, ← Nat.xor_assoc, Nat.xor_self, Nat.zero_xor, Nat.xor_comm x y, ← Nat.xor_assoc, Nat.xor_self, Nat.zero_xor]
    exact ⟨rfl, rfl⟩
  · rw [maskOf_even s hs (by omega), and_none _ hxy, if_neg h, if_neg h]
    have h1 := u64_xor_nat x 0 hx (by omega)
    have h2 := u64_xor_nat y 0 hy (by omega)
    rw [Nat.xor_zero] at h1 h2
    exact ⟨h1, h2⟩
/-- The first k of n numbers are f's, the others g's. -/
def mix (n : Nat) (f g : Nat → Nat) (k : Nat) : List Int := (List.range n).map fun i => ((if i < k then f i else g i : Nat) : Int)
theorem mix_set (n : Nat) (f g : Nat → Nat) (k : Nat) : (mix n f g k).set k ((f k : Nat) : Int) = mix n f g (k + 1) := by
  apply List.ext_getElem (by simp [mix])
  intro i h1 h2
  simp only [mix, List.length_map, List.length_range] at h2
  simp only [mix, List.getElem_set, List.getElem_map, List.getElem_range]
  by_cases h : k = i
  · subst h; simp
  · rw [if_neg h]
    by_cases h3 : i < k
    · rw [if_pos h3, if_pos (by omega)]
    · rw [if_neg h3, if_neg (by omega)]
theorem mix_length (n : Nat) (f g : Nat → Nat) (k : Nat) : (mix n f g k).length = n := by simp [mix]
theorem mix_getD (n : Nat) (f g : Nat → Nat) (k i : Nat) (h : i < n) : (mix n f g k).getD i 0 = ((if i < k then f i else g i : Nat) : Int) := by simp [mix, h]
/-- Part i of a number. -/
def partAt (n i : Nat) : Nat := if i < 4 then n / 2 ^ (51 * i) % 2 ^ 51 else n / 2 ^ 204
theorem El_mix (n : Nat) (g : Nat → Nat) : El_cells n = Iv .u64 (mix 5 (partAt n) g 5) := by
  rw [El_Iv]
  simp only [mix, List.range, List.range.loop, List.map_cons, List.map_nil, partAt]
  simp only [Nat.reduceMul, Nat.reducePow, Nat.reduceLT, if_true, if_false, Int.natCast_emod, Int.natCast_ediv, Nat.div_one]
  rfl
theorem El_mix0 (n : Nat) (f : Nat → Nat) : El_cells n = Iv .u64 (mix 5 f (partAt n) 0) := by
  rw [El_Iv]
  simp only [mix, List.range, List.range.loop, List.map_cons, List.map_nil, partAt]
  simp only [Nat.reduceMul, Nat.reducePow, Nat.reduceLT, if_true, if_false, Int.natCast_emod, Int.natCast_ediv, Nat.div_one, Nat.not_lt_zero]
  rfl
theorem partAt_lt (n i : Nat) (hn : n < pp) : partAt n i < 18446744073709551616 := by
  rw [pp_eq] at hn
  unfold partAt
  split <;> omega
/-- The first of two, or the second, if s is odd. -/
def swapped (s a b : Nat) : Nat := if s % 2 = 1 then b else a
/-- The memory of a call of Swap behind k rounds. -/
structure SwapW (s a b : Nat) (w wr : World) (k : Nat) : Prop where
  x : Blk wr w.heap.size 78 (Iv .u64 (mix 5 (partAt (swapped s a b)) (partAt a) k))
  y : Blk wr (w.heap.size + 1) 78 (Iv .u64 (mix 5 (partAt (swapped s b a)) (partAt b) k))
  r : Blk wr (w.heap.size + 1 + 1) 78 #[.int .u64 0, .int .u64 0, .int .u64 0, .int .u64 0, .int .u64 0]
  q : Blk wr (w.heap.size + 1 + 1 + 1) 78 #[.int .u64 0, .int .u64 0, .int .u64 0, .int .u64 0, .int .u64 0]
  b : Below w.heap.size w wr
theorem SwapW.drewN {s a b : Nat} {w wr : World} {k : Nat} (h : SwapW s a b w wr k) (n : Nat) : SwapW s a b w (wr.drewN n) k := ⟨h.x, h.y, h.r, h.q, below_drewN h.b n⟩
theorem SwapW.drew {s a b : Nat} {w wr : World} {k : Nat} (h : SwapW s a b w wr k) : SwapW s a b w wr.drew k := ⟨h.x, h.y, h.r, h.q, below_drew h.b⟩
theorem SwapW.step {s a b : Nat} {w wr : World} {k : Nat} (h : SwapW s a b w wr k) (hs : s < 18446744073709551616) (ha : a < pp) (hb : b < pp) :
    SwapW s a b w ((wr.setCell ⟨w.heap.size, k, none⟩ (.int .u64 (bits .xor .u64 ((partAt a k : Nat) : Int) (bits .and .u64 (maskOf s) (bits .xor .u64 ((partAt a k : Nat) : Int) ((partAt b k : Nat) : Int)))))).setCell ⟨w.heap.size + 1, k, none⟩
      (.int .u64 (bits .xor .u64 ((partAt b k : Nat) : Int) (bits .and .u64 (maskOf s) (bits .xor .u64 ((partAt a k : Nat) : Int) ((partAt b k : Nat) : Int)))))) (k + 1) := by
  obtain ⟨e1, e2⟩ := swap_one s (partAt a k) (partAt b k) hs (partAt_lt a k ha) (partAt_lt b k hb)
  rw [e1, e2]
  have d1 : (if s % 2 = 1 then partAt b k else partAt a k) = partAt (swapped s a b) k := by unfold swapped; split <;> rfl
  have d2 : (if s % 2 = 1 then partAt a k else partAt b k) = partAt (swapped s b a) k := by unfold swapped; split <;> rfl
  rw [d1, d2]
  refine ⟨?_, ?_, (h.r.far (by simp; omega) _).far (by simp) _, (h.q.far (by simp; omega) _).far (by simp; omega) _, (h.b.setCell (by simp) _).setCell (by simp) _⟩
  · have := (h.x.set k (.int .u64 ((partAt (swapped s a b) k : Nat) : Int))).far (p := ⟨w.heap.size + 1, k, none⟩) (by simp) (.int .u64 ((partAt (swapped s b a) k : Nat) : Int))
    rw [Iv_set, mix_set] at this
    exact this
  · have := (h.y.far (p := ⟨w.heap.size, k, none⟩) (by simp) (.int .u64 ((partAt (swapped s a b) k : Nat) : Int))).set k (.int .u64 ((partAt (swapped s b a) k : Nat) : Int))
    rw [Iv_set, mix_set] at this
    exact this
set_option maxHeartbeats 4000000 in
set_option maxRecDepth 100000 in
theorem swap_any (s a b : Nat) (w : World) (hs : s < 18446744073709551616) (ha : a < pp) (hb : b < pp) :
    Calls Tryd.prog 90 #[.int .u64 s, El a, El b] w fun e w' => e = .returned (.tuple #[El (swapped s a b), El (swapped s b a)]) ∧ Below w.heap.size w w' := by
  unfold El
  go_enter Tryd.func90, Tryd.ntmps90
  go_wp2
  generalize hW : World.alloc (World.alloc (World.alloc (World.alloc w _) _) _) _ = W
  have F0 : SwapW s a b w W 0 := by
    subst hW
    exact ⟨El_mix0 a _ ▸ (((Blk.new _ _ _).alloc _).alloc _).alloc _, El_mix0 b _ ▸ ((Blk.new' (by simp) _ _).alloc _).alloc _, (Blk.new' (by simp) _ _).alloc _, Blk.new' (by simp) _ _,
      ((((Below.refl _ _).alloc (Nat.le_refl _) _).alloc (by simp) _).alloc (by simp; omega) _).alloc (by simp; omega) _⟩
  clear hW
  go_loopw [14] (fun i wr => ∃ k : Nat, k ≤ 5 ∧ i = .int .i64 k ∧ SwapW s a b w wr k) (fun i _ => 5 - (intOf i).toNat)
  case atStart => exact ⟨0, by omega, rfl, F0⟩
  case round =>
    obtain ⟨k, hk, rfl, F⟩ := hrel
    clear F0
    by_cases hlt : k < 5
    · have cx : wr.cell? ⟨w.heap.size, k, none⟩ = some (.int .u64 ((partAt a k : Nat) : Int)) := by
        rw [F.x.cell, Iv_get _ _ _ (by rw [mix_length]; omega), mix_getD _ _ _ _ _ hlt, if_neg (by omega)]
      have cy : wr.cell? ⟨w.heap.size + 1, k, none⟩ = some (.int .u64 ((partAt b k : Nat) : Int)) := by
        rw [F.y.cell, Iv_get _ _ _ (by rw [mix_length]; omega), mix_getD _ _ _ _ _ hlt, if_neg (by omega)]
      have i1 : (0 : Int) ≤ (k : Int) := by omega
      have i2 : (k : Int) < 5 := by omega
      go_wp2
      go_quiet (fail)
      have G := F.drewN nq
      clear F cx cy
      generalize World.drewN wr nq = V at G ⊢
      have cx : V.cell? ⟨w.heap.size, k, none⟩ = some (.int .u64 ((partAt a k : Nat) : Int)) := by
        rw [G.x.cell, Iv_get _ _ _ (by rw [mix_length]; omega), mix_getD _ _ _ _ _ hlt, if_neg (by omega)]
      have cy : V.cell? ⟨w.heap.size + 1, k, none⟩ = some (.int .u64 ((partAt b k : Nat) : Int)) := by
        rw [G.y.cell, Iv_get _ _ _ (by rw [mix_length]; omega), mix_getD _ _ _ _ _ hlt, if_neg (by omega)]
      have fx := G.x.frozen k
      have fy := G.y.frozen k
      go_wp2
      exact ⟨⟨k + 1, by omega, by go_num, G.step hs ha hb⟩, by simp [intOf]; omega⟩
    · obtain rfl : k = 5 := by omega
      obtain ⟨HX, HY, HR, HQ, HB⟩ := F
      rw [← El_mix] at HX HY
      obtain ⟨x0, x1, x2, x3, x4, ex⟩ : ∃ x0 x1 x2 x3 x4 : Int, El_cells (swapped s a b) = #[.int .u64 x0, .int .u64 x1, .int .u64 x2, .int .u64 x3, .int .u64 x4] := ⟨_, _, _, _, _, rfl⟩
      obtain ⟨y0, y1, y2, y3, y4, ey⟩ : ∃ x0 x1 x2 x3 x4 : Int, El_cells (swapped s b a) = #[.int .u64 x0, .int .u64 x1, .int .u64 x2, .int .u64 x3, .int .u64 x4] := ⟨_, _, _, _, _, rfl⟩
      rw [ex] at HX
      rw [ey] at HY
      have EX := Lib.hid ex
      have EY := Lib.hid ey
      clear ex ey
      obtain ⟨p0, p1, p2, p3, p4⟩ := HX.five
      obtain ⟨q0, q1, q2, q3, q4⟩ := HY.five
      obtain ⟨r0, r1, r2, r3, r4⟩ := HR.five
      obtain ⟨s0, s1, s2, s3, s4⟩ := HQ.five
      have fr := HR.frozen
      have fq := HQ.frozen
      have fr0 := fr 0; have fr1 := fr 1; have fr2 := fr 2; have fr3 := fr 3; have fr4 := fr 4
      have fq0 := fq 0; have fq1 := fq 1; have fq2 := fq 2; have fq3 := fq 3; have fq4 := fq 4
      clear fr fq HX HY
      go_wp2
      go_region
      go_wp2
      refine bodyPost_ret (results_two rfl _ _ (w.heap.size + 1 + 1) (w.heap.size + 1 + 1 + 1) 78 78 _ _ _ rfl rfl ((HR.set5 _ _ _ _ _).far5 (by omega) _ _ _ _ _).drew ((HQ.far5 (by omega) _ _ _ _ _).set5 _ _ _ _ _).drew Tryd.underlying78 rfl (info_El 0) (info_El 0)) rfl ⟨by rw [EX.out, EY.out], below_drew (below_set5 (below_set5 HB (by omega) _ _ _ _ _) (by omega) _ _ _ _ _)⟩
end Go.Proofs.YtegbnadnodlalaaDoor
namespace Go.Proofs.YtegbnadnodlalaaDoor
open Go.RowKit
/-- 32 bytes 255, but for the lowest and the highest one. -/
def onesOf (lo hi i : Nat) : Nat := if i = 0 then lo else if i = 31 then hi else 255
structure OnesW (w wr : World) (k : Nat) : Prop where
  res : Blk wr w.heap.size 34 (Iv .u8 (List.replicate 32 0))
  key : Blk wr (w.heap.size + 1) 34 (Iv .u8 (fill 32 (fun _ => 255) k))
  b : Below w.heap.size w wr
theorem OnesW.step {w wr : World} {k : Nat} (h : OnesW w wr k) : OnesW w (wr.setCell ⟨w.heap.size + 1, k, none⟩ (.int .u8 255)) (k + 1) := by
  refine ⟨h.res.far (by simp) _, ?_, h.b.setCell (by simp) _⟩
  have := h.key.set k (.int .u8 255)
  rw [Iv_set, fill_set 32 (fun _ => 255) k] at this
  exact this
theorem ones_list (lo hi : Nat) : ((fill 32 (fun _ => 255) 32).set 0 ((lo : Nat) : Int)).set 31 ((hi : Nat) : Int) = (List.range 32).map fun i => ((onesOf lo hi i : Nat) : Int) := by
  simp [fill, List.range, List.range.loop, onesOf]
set_option maxHeartbeats 1000000 in
set_option maxRecDepth 100000 in
theorem ones_any (lo hi : Nat) (w : World) : Calls Tryd.prog 78 #[.int .u8 lo, .int .u8 hi] w fun e w' => e = .returned (Key ((List.range 32).map fun i => ((onesOf lo hi i : Nat) : Int))) ∧ Below w.heap.size w w' := by
  go_enter Tryd.func78, Tryd.ntmps78
  go_wp2
  generalize hW : World.alloc (World.alloc w _) _ = W
  have F0 : OnesW w W 0 := by
    subst hW
    exact ⟨(Blk.new _ _ _).alloc _, Blk.new' (by simp) _ _, ((Below.refl _ _).alloc (Nat.le_refl _) _).alloc (by simp) _⟩
  clear hW
  go_loopw [7] (fun i wr => ∃ k : Nat, k ≤ 32 ∧ i = .int .i64 k ∧ OnesW w wr k) (fun i _ => 32 - (intOf i).toNat)
  case atStart => exact ⟨0, by omega, rfl, F0⟩
  case round =>
    obtain ⟨k, hk, rfl, F⟩ := hrel
    clear F0
    by_cases hlt : k < 32
    · have c5 : wr.cell? ⟨w.heap.size + 1, k, none⟩ = some (.int .u8 0) := by
        rw [F.key.cell, Iv_get _ _ _ (by rw [fill_length]; omega), fill_getD _ _ _ _ hlt, if_neg (by omega)]
      have f5 := F.key.frozen k
      go_wp2
      exact ⟨⟨k + 1, by omega, by go_num, F.step⟩, by simp [intOf]; omega⟩
    · obtain rfl : k = 32 := by omega
      obtain ⟨HR, HK, HB⟩ := F
      have c0 : wr.cell? ⟨w.heap.size + 1, 0, none⟩ = some (.int .u8 255) := HK.cell 0
      have c31 : wr.cell? ⟨w.heap.size + 1, 31, none⟩ = some (.int .u8 255) := HK.cell 31
      have f0 := HK.frozen 0
      have f31 := HK.frozen 31
      have HK2 := (HK.set 0 (.int .u8 ((lo : Nat) : Int))).set 31 (.int .u8 ((hi : Nat) : Int))
      rw [Iv_set, Iv_set, ones_list] at HK2
      have HR2 := (HR.far (p := ⟨w.heap.size + 1, 0, none⟩) (by simp) (.int .u8 ((lo : Nat) : Int))).far (p := ⟨w.heap.size + 1, 31, none⟩) (by simp) (.int .u8 ((hi : Nat) : Int))
      have HB2 := (HB.setCell (p := ⟨w.heap.size + 1, 0, none⟩) (by simp) (.int .u8 ((lo : Nat) : Int))).setCell (p := ⟨w.heap.size + 1, 31, none⟩) (by simp) (.int .u8 ((hi : Nat) : Int))
      clear HR HK HB
      go_wp2_with (first | (refine wpList_load_row rfl 34 _ rfl (w.heap.size + 1) rfl 34 _ (0, 0) _ HK2 Tryd.underlying34 rfl (info_key _ (by simp)) ?_) | (refine wpList_store_row rfl 34 _ _ rfl w.heap.size _ rfl rfl 34 _ HR2 (info_key _ (by simp)) (by simp [Iv_size]) (Iv_one _ _) ?_))
      exact bodyPost_ret (results_cell_row rfl _ _ _ 34 _ (0, 0) _ rfl (HR2.row _) Tryd.underlying34 rfl (info_key _ (by simp))) rfl ⟨rfl, below_setRow HB2 (by omega) _⟩
end Go.Proofs.YtegbnadnodlalaaDoor
namespace Go.Proofs.YtegbnadnodlalaaDoor
open Go.RowKit
section
variable {P : Program} {md : Region.Mode} {ops : Array Oper} {Q : Exit → Act → World → Prop} {S : World → Prop}
def wpAnyZ (P : Program) (md : Region.Mode) (ops : Array Oper) (Q : Exit → Act → World → Prop) (S : World → Prop) (z : Nat) : Nat → Array Bool → Act → World → Prop
  | 0, listed, a, w => Region.ready md ops listed = [] ∧ Q .normal a w
  | fuel + 1, listed, a, w =>
    (Region.ready md ops listed = [] → Q .normal a w) ∧
    ∀ i ∈ Region.ready md ops listed, wpOp P ops Q i (fun a' w' => ((listed.setIfInBounds i true).getD z true = false → S w') ∧ wpAnyZ P md ops Q S z fuel (listed.setIfInBounds i true) a' w') a w
theorem wpAny_of_Z {z : Nat} : ∀ (fuel : Nat) (listed : Array Bool) (a : Act) (w : World), wpAnyZ P md ops Q S z fuel listed a w → wpAny P md ops Q fuel listed a w
  | 0, _, _, _, h => h
  | fuel + 1, _, _, _, h => ⟨h.1, fun i hi => wpOp_mono (fun a' w' h' => wpAny_of_Z fuel _ a' w' h'.2) (h.2 i hi)⟩
theorem wpAnyZ_first {i z : Nat} {oi : Oper} {v : Value} (hi : ops[i]? = some oi) (hsel : ∀ (j : Nat) (o : Oper) cs b, ops[j]? = some o → o.op ≠ .select cs b)
    (hQ : ∀ c a w, Q (.panic c) (a.put oi.dst v) w → Q (.panic c) a w) (hiz : i ≠ z) (hz : ∃ oz, ops[z]? = some oz ∧ ∃ e ∈ oz.after, Region.binds md e = true ∧ e.on = i) :
    ∀ (fuel : Nat) (listed : Array Bool) (a : Act) (w : World),
      (∀ j oj, ops[j]? = some oj → j ≠ i → listed.getD j true = false → (∀ e ∈ oj.after, Region.binds md e = true → e.on ≠ i) → oi.apart ops oj = true) →
      i ∈ Region.ready md ops listed → YieldsIf P ops S oi v a → S w → listed.getD z true = false →
      wpAnyZ P md ops Q S z fuel (listed.setIfInBounds i true) (a.put oi.dst v) w → wpAnyZ P md ops Q S z (fuel + 1) listed a w := by
  intro fuel
  induction fuel with
  | zero =>
    intro listed a w _ hr hy hS _ H
    refine ⟨fun h => (by rw [h] at hr; cases hr), fun j hj => ?_⟩
    by_cases hji : j = i
    · subst hji; exact hy.wpOp hi hS ⟨fun _ => hS, H⟩
    · have := ready_mono hj hji
      rw [H.1] at this
      cases this
  | succ fuel ih =>
    intro listed a w hfree hr hy hS hlz H
    refine ⟨fun h => (by rw [h] at hr; cases hr), fun j hj => ?_⟩
    by_cases hji : j = i
    · subst hji; exact hy.wpOp hi hS ⟨fun _ => hS, H⟩
    · have h1 := H.2 j (ready_mono hj hji)
      obtain ⟨hjun, oj, hoj, hall⟩ := mem_ready.1 hj
      have hnot : ∀ e ∈ oj.after, Region.binds md e = true → e.on ≠ i := fun e he hb heq => by
        have h1 := hall e he hb
        have h0 := (mem_ready.1 hr).1
        rw [heq] at h1
        rcases Nat.lt_or_ge i listed.size with h' | h'
        · simp [h'] at h0 h1; rw [h0] at h1; cases h1
        · simp [Array.getElem?_eq_none h'] at h1
      have hjz : j ≠ z := fun hjz => by
        obtain ⟨oz, hoz, e, he, hb, hon⟩ := hz
        subst hjz
        have := Option.some.inj (hoj.symm.trans hoz)
        subst this
        exact hnot e he hb hon
      have hl2 : ((listed.setIfInBounds i true).setIfInBounds j true).getD z true = false := by
        rw [getD_set_ne true hjz, getD_set_ne true hiz]; exact hlz
      have h2 := wpOp_putIf hoj (hfree j oj hoj hji hjun hnot) (fun cs b => hsel i oi cs b hi) (fun cs b => hsel j oj cs b hoj) hQ hy h1
      have hfree' : ∀ k ok, ops[k]? = some ok → k ≠ i → (listed.setIfInBounds j true).getD k true = false →
          (∀ e ∈ ok.after, Region.binds md e = true → e.on ≠ i) → oi.apart ops ok = true := fun k ok hk hki hun hno => by
        refine hfree k ok hk hki ?_ hno
        by_cases hjk : j = k
        · subst hjk; exact hjun
        · rw [getD_set_ne true hjk] at hun; exact hun
      refine wpOp_mono (fun a' w' h3 => ⟨fun _ => h3.2.1 hl2, ih (listed.setIfInBounds j true) a' w' hfree' (ready_mono hr (Ne.symm hji)) h3.1 (h3.2.1 hl2) (by rw [getD_set_ne true hjz]; exact hlz) ?_⟩) h2
      rw [Array.setIfInBounds_comm _ _ hji]
      exact h3.2.2
theorem wpAnyZ_take {i z : Nat} {oi : Oper} {v : Value} {fuel : Nat} {listed : Array Bool} {a : Act} {w : World} (hi : ops[i]? = some oi)
    (hs : Region.noSelect ops = true) (hf : Region.free md ops listed i = true) (hr : (Region.ready md ops listed).contains i = true) (hwz : (Region.waitsFor md ops z i && i != z) = true) (hlz : listed.getD z true = false)
    (hQ : ∀ c a w, Q (.panic c) (a.put oi.dst v) w → Q (.panic c) a w) (hy : YieldsIf P ops S oi v a) (hS : S w)
    (h : wpAnyZ P md ops Q S z fuel (listed.setIfInBounds i true) (a.put oi.dst v) w) : wpAnyZ P md ops Q S z (fuel + 1) listed a w := by
  rw [Bool.and_eq_true] at hwz
  exact wpAnyZ_first hi (Region.noSelect_spec hs) hQ (by simpa using hwz.2) (Region.waitsFor_spec hwz.1) fuel listed a w (Region.free_spec hi hf) (by simpa using hr) hy hS hlz h
theorem wpAnyZ_one {i z : Nat} {fuel : Nat} {listed : Array Bool} {a : Act} {w : World} (hr : Region.ready md ops listed = [i])
    (h : wpOp P ops Q i (fun a' w' => ((listed.setIfInBounds i true).getD z true = false → S w') ∧ wpAnyZ P md ops Q S z fuel (listed.setIfInBounds i true) a' w') a w) : wpAnyZ P md ops Q S z (fuel + 1) listed a w :=
by
  refine ⟨fun h0 => ?_, fun j hj => ?_⟩
  · rw [hr] at h0
    cases h0
  · rw [hr, List.mem_singleton] at hj
    subst hj
    exact h
theorem wpAnyZ_two {i j z : Nat} {fuel : Nat} {listed : Array Bool} {a : Act} {w : World} (hr : Region.ready md ops listed = [i, j])
    (h1 : wpOp P ops Q i (fun a' w' => ((listed.setIfInBounds i true).getD z true = false → S w') ∧ wpAnyZ P md ops Q S z fuel (listed.setIfInBounds i true) a' w') a w)
    (h2 : wpOp P ops Q j (fun a' w' => ((listed.setIfInBounds j true).getD z true = false → S w') ∧ wpAnyZ P md ops Q S z fuel (listed.setIfInBounds j true) a' w') a w) : wpAnyZ P md ops Q S z (fuel + 1) listed a w := by
  refine ⟨fun h0 => ?_, fun k hk => ?_⟩
  · rw [hr] at h0
    cases h0
  · rw [hr] at hk
    simp only [List.mem_cons, List.not_mem_nil, or_false] at hk
    rcases hk with rfl | rfl
    · exact h1
    · exact h2
theorem wpAnyZ_done {z : Nat} {listed : Array Bool} {a : Act} {w : World} (hr : Region.ready md ops listed = []) (h : Q .normal a w) : ∀ fuel, wpAnyZ P md ops Q S z fuel listed a w
  | 0 => ⟨hr, h⟩
  | _ + 1 => ⟨fun _ => h, by rw [hr]; simp⟩
theorem wp_region_Z (z : Nat) {id : Nat} {a : Act} {w : World} (hm : P.follows .mixedOrders = true)
    (h : wpAnyZ P .any ops Q S z ops.size (Array.replicate ops.size false) a w.drew) : (Code.region id ops true).wp P Q a w :=
  wp_region_any hm (wpAny_of_Z _ _ _ _ h)
end
end Go.Proofs.YtegbnadnodlalaaDoor
