/- Contracts of field.Swap and field.ones. -/
import Derived.Test.YtmceebdaaegkeaaDoorFh
import Derived.OrdersHeld
import Derived.Deep.RegionHeld3
namespace Go.Proofs.YtmceebdaaegkeaaDoor
open Go.RowKit

theorem and_all (x : Nat) (hx : x < 18446744073709551616) : bits .and .u64 18446744073709551615 ((x : Nat) : Int) = ((x : Nat) : Int) := by
  have h := u64_and_nat 18446744073709551615 x (by omega) hx
  have e : 18446744073709551615 &&& x = x := by
    rw [Nat.and_comm]
    have := Nat.and_two_pow_sub_one_eq_mod x 64
    simp only [Nat.reducePow, Nat.reduceSub] at this
    rw [this]
    omega
  rw [e] at h
  exact h
theorem and_none (x : Nat) (hx : x < 18446744073709551616) : bits .and .u64 0 ((x : Nat) : Int) = 0 := by
  have h := u64_and_nat 0 x (by omega) hx
  rw [Nat.zero_and] at h
  exact h
/-- The mask of a swap. -/
def maskOf (s : Nat) : Int := IntKind.u64.wrap (-(bits .and .u64 (s : Int) 1))
theorem maskOf_odd (s : Nat) (hs : s < 18446744073709551616) (h : s % 2 = 1) : maskOf s = 18446744073709551615 := by
  unfold maskOf
  rw [and1 _ (by omega) (by omega), IntKind.wrap_u64]; omega
theorem maskOf_even (s : Nat) (hs : s < 18446744073709551616) (h : s % 2 = 0) : maskOf s = 0 := by
  unfold maskOf
  rw [and1 _ (by omega) (by omega), IntKind.wrap_u64]; omega
theorem swap_one (s x y : Nat) (hs : s < 18446744073709551616) (hx : x < 18446744073709551616) (hy : y < 18446744073709551616) :
    bits .xor .u64 (x : Int) (bits .and .u64 (maskOf s) (bits .xor .u64 (x : Int) (y : Int))) = ((if s % 2 = 1 then y else x : Nat) : Int) ∧
    bits .xor .u64 (y : Int) (bits .and .u64 (maskOf s) (bits .xor .u64 (x : Int) (y : Int))) = ((if s % 2 = 1 then x else y : Nat) : Int) := by
  have hxy : x ^^^ y < 18446744073709551616 := Nat.xor_lt_two_pow (n := 64) hx hy
  rw [u64_xor_nat x y hx hy]
  by_cases h : s % 2 = 1
  · rw [maskOf_odd s hs h, and_all _ hxy, u64_xor_nat _ _ hx hxy, u64_xor_nat _ _ hy hxy, if_pos h, if_pos h, ← Nat.xor_assoc, Nat.xor_self, Nat.zero_xor, Nat.xor_comm x y, ← Nat.xor_assoc, Nat.xor_self, Nat.zero_xor]
    exact ⟨rfl, rfl⟩
  · rw [maskOf_even s hs (by omega), and_none _ hxy, if_neg h, if_neg h]
    have h1 := u64_xor_nat x 0 hx (by omega)
    have h2 := u64_xor_nat y 0 hy (by omega)
    rw [Nat.xor_zero] at h1 h2
    exact ⟨h1, h2⟩

/-- The first k of n numbers are f's, the others g's. -/
def mix (n : Nat) (f g : Nat → Nat) (k : Nat) : List Int := (List.range n).map fun i => ((if i < k then f i else g i : Nat) : Int)
theorem mix_set (n : Nat) (f g : Nat → Nat) (k : Nat) : (mix n f g k).set k ((f k : Nat) : Int) = mix n f g (k + 1) := by
  apply List.ext_getElem (by simp [mix])
  intro i h1 h2
  simp only [mix, List.length_map, List.length_range] at h2
  simp only [mix, List.getElem_set, List.getElem_map, List.getElem_range]
  by_cases h : k = i
  · subst h; simp
  · rw [if_neg h]
    by_cases h3 : i < k
    · rw [if_pos h3, if_pos (by omega)]
    · rw [if_neg h3, if_neg (by omega)]
theorem mix_length (n : Nat) (f g : Nat → Nat) (k : Nat) : (mix n f g k).length = n := by simp [mix]
theorem mix_getD (n : Nat) (f g : Nat → Nat) (k i : Nat) (h : i < n) : (mix n f g k).getD i 0 = ((if i < k then f i else g i : Nat) : Int) := by simp [mix, h]

/-- Part i of a number. -/
def partAt (n i : Nat) : Nat := if i < 4 then n / 2 ^ (51 * i) % 2 ^ 51 else n / 2 ^ 204
theorem El_mix (n : Nat) (g : Nat → Nat) : El_cells n = Iv .u64 (mix 5 (partAt n) g 5) := by
  rw [El_Iv]
  simp only [mix, List.range, List.range.loop, List.map_cons, List.map_nil, partAt]
  simp only [Nat.reduceMul, Nat.reducePow, Nat.reduceLT, if_true, if_false, Int.natCast_emod, Int.natCast_ediv, Nat.div_one]
  rfl
theorem El_mix0 (n : Nat) (f : Nat → Nat) : El_cells n = Iv .u64 (mix 5 f (partAt n) 0) := by
  rw [El_Iv]
  simp only [mix, List.range, List.range.loop, List.map_cons, List.map_nil, partAt]
  simp only [Nat.reduceMul, Nat.reducePow, Nat.reduceLT, if_true, if_false, Int.natCast_emod, Int.natCast_ediv, Nat.div_one, Nat.not_lt_zero]
  rfl
theorem partAt_lt (n i : Nat) (hn : n < pp) : partAt n i < 18446744073709551616 := by
  rw [pp_eq] at hn
  unfold partAt
  split <;> omega

/-- The first of two, or the second, if s is odd. -/
def swapped (s a b : Nat) : Nat := if s % 2 = 1 then b else a
/-- The memory of a call of Swap behind k rounds. -/
structure SwapW (s a b : Nat) (w wr : World) (k : Nat) : Prop where
  x : Blk wr w.heap.size 39 (Iv .u64 (mix 5 (partAt (swapped s a b)) (partAt a) k))
  y : Blk wr (w.heap.size + 1) 39 (Iv .u64 (mix 5 (partAt (swapped s b a)) (partAt b) k))
  r : Blk wr (w.heap.size + 1 + 1) 39 #[.int .u64 0, .int .u64 0, .int .u64 0, .int .u64 0, .int .u64 0]
  q : Blk wr (w.heap.size + 1 + 1 + 1) 39 #[.int .u64 0, .int .u64 0, .int .u64 0, .int .u64 0, .int .u64 0]
  b : Below w.heap.size w wr
theorem SwapW.drewN {s a b : Nat} {w wr : World} {k : Nat} (h : SwapW s a b w wr k) (n : Nat) : SwapW s a b w (wr.drewN n) k := ⟨h.x, h.y, h.r, h.q, below_drewN h.b n⟩
theorem SwapW.drew {s a b : Nat} {w wr : World} {k : Nat} (h : SwapW s a b w wr k) : SwapW s a b w wr.drew k := ⟨h.x, h.y, h.r, h.q, below_drew h.b⟩
theorem SwapW.step {s a b : Nat} {w wr : World} {k : Nat} (h : SwapW s a b w wr k) (hs : s < 18446744073709551616) (ha : a < pp) (hb : b < pp) :
    SwapW s a b w ((wr.setCell ⟨w.heap.size, k, none⟩ (.int .u64 (bits .xor .u64 ((partAt a k : Nat) : Int) (bits .and .u64 (maskOf s) (bits .xor .u64 ((partAt a k : Nat) : Int) ((partAt b k : Nat) : Int)))))).setCell ⟨w.heap.size + 1, k, none⟩
      (.int .u64 (bits .xor .u64 ((partAt b k : Nat) : Int) (bits .and .u64 (maskOf s) (bits .xor .u64 ((partAt a k : Nat) : Int) ((partAt b k : Nat) : Int)))))) (k + 1) := by
  obtain ⟨e1, e2⟩ := swap_one s (partAt a k) (partAt b k) hs (partAt_lt a k ha) (partAt_lt b k hb)
  rw [e1, e2]
  have d1 : (if s % 2 = 1 then partAt b k else partAt a k) = partAt (swapped s a b) k := by unfold swapped; split <;> rfl
  have d2 : (if s % 2 = 1 then partAt a k else partAt b k) = partAt (swapped s b a) k := by unfold swapped; split <;> rfl
  rw [d1, d2]
  refine ⟨?_, ?_, (h.r.far (by simp; omega) _).far (by simp) _, (h.q.far (by simp; omega) _).far (by simp; omega) _, (h.b.setCell (by simp) _).setCell (by simp) _⟩
  · have := (h.x.set k (.int .u64 ((partAt (swapped s a b) k : Nat) : Int))).far (p := ⟨w.heap.size + 1, k, none⟩) (by simp) (.int .u64 ((partAt (swapped s b a) k : Nat) : Int))
    rw [Iv_set, mix_set] at this
    exact this
  · have := (h.y.far (p := ⟨w.heap.size, k, none⟩) (by simp) (.int .u64 ((partAt (swapped s a b) k : Nat) : Int))).set k (.int .u64 ((partAt (swapped s b a) k : Nat) : Int))
    rw [Iv_set, mix_set] at this
    exact this

set_option maxHeartbeats 4000000 in
set_option maxRecDepth 100000 in
theorem swap_any (s a b : Nat) (w : World) (hs : s < 18446744073709551616) (ha : a < pp) (hb : b < pp) :
    Calls Tryd.prog 70 #[.int .u64 s, El a, El b] w fun e w' => e = .returned (.tuple #[El (swapped s a b), El (swapped s b a)]) ∧ Below w.heap.size w w' := by
  unfold El
  go_enter Tryd.func70, Tryd.ntmps70
  go_wp2
  generalize hW : World.alloc (World.alloc (World.alloc (World.alloc w _) _) _) _ = W
  have F0 : SwapW s a b w W 0 := by
    subst hW
    exact ⟨El_mix0 a _ ▸ (((Blk.new _ _ _).alloc _).alloc _).alloc _, El_mix0 b _ ▸ ((Blk.new' (by simp) _ _).alloc _).alloc _, (Blk.new' (by simp) _ _).alloc _, Blk.new' (by simp) _ _,
      ((((Below.refl _ _).alloc (Nat.le_refl _) _).alloc (by simp) _).alloc (by simp; omega) _).alloc (by simp; omega) _⟩
  clear hW
  go_loopw [14] (fun i wr => ∃ k : Nat, k ≤ 5 ∧ i = .int .i64 k ∧ SwapW s a b w wr k) (fun i _ => 5 - (intOf i).toNat)
  case atStart => exact ⟨0, by omega, rfl, F0⟩
  case round =>
    obtain ⟨k, hk, rfl, F⟩ := hrel
    clear F0
    by_cases hlt : k < 5
    · have cx : wr.cell? ⟨w.heap.size, k, none⟩ = some (.int .u64 ((partAt a k : Nat) : Int)) := by
        rw [F.x.cell, Iv_get _ _ _ (by rw [mix_length]; omega), mix_getD _ _ _ _ _ hlt, if_neg (by omega)]
      have cy : wr.cell? ⟨w.heap.size + 1, k, none⟩ = some (.int .u64 ((partAt b k : Nat) : Int)) := by
        rw [F.y.cell, Iv_get _ _ _ (by rw [mix_length]; omega), mix_getD _ _ _ _ _ hlt, if_neg (by omega)]
      have i1 : (0 : Int) ≤ (k : Int) := by omega
      have i2 : (k : Int) < 5 := by omega
      go_wp2
      go_quiet (fail)
      have G := F.drewN nq
      clear F cx cy
      generalize World.drewN wr nq = V at G ⊢
      have cx : V.cell? ⟨w.heap.size, k, none⟩ = some (.int .u64 ((partAt a k : Nat) : Int)) := by
        rw [G.x.cell, Iv_get _ _ _ (by rw [mix_length]; omega), mix_getD _ _ _ _ _ hlt, if_neg (by omega)]
      have cy : V.cell? ⟨w.heap.size + 1, k, none⟩ = some (.int .u64 ((partAt b k : Nat) : Int)) := by
        rw [G.y.cell, Iv_get _ _ _ (by rw [mix_length]; omega), mix_getD _ _ _ _ _ hlt, if_neg (by omega)]
      have fx := G.x.frozen k
      have fy := G.y.frozen k
      go_wp2
      exact ⟨⟨k + 1, by omega, by go_num, G.step hs ha hb⟩, by simp [intOf]; omega⟩
    · obtain rfl : k = 5 := by omega
      obtain ⟨HX, HY, HR, HQ, HB⟩ := F
      rw [← El_mix] at HX HY
      obtain ⟨x0, x1, x2, x3, x4, ex⟩ : ∃ x0 x1 x2 x3 x4 : Int, El_cells (swapped s a b) = #[.int .u64 x0, .int .u64 x1, .int .u64 x2, .int .u64 x3, .int .u64 x4] := ⟨_, _, _, _, _, rfl⟩
      obtain ⟨y0, y1, y2, y3, y4, ey⟩ : ∃ x0 x1 x2 x3 x4 : Int, El_cells (swapped s b a) = #[.int .u64 x0, .int .u64 x1, .int .u64 x2, .int .u64 x3, .int .u64 x4] := ⟨_, _, _, _, _, rfl⟩
      rw [ex] at HX
      rw [ey] at HY
      have EX := Lib.hid ex
      have EY := Lib.hid ey
      clear ex ey
      obtain ⟨p0, p1, p2, p3, p4⟩ := HX.five
      obtain ⟨q0, q1, q2, q3, q4⟩ := HY.five
      obtain ⟨r0, r1, r2, r3, r4⟩ := HR.five
      obtain ⟨s0, s1, s2, s3, s4⟩ := HQ.five
      have fr := HR.frozen
      have fq := HQ.frozen
      have fr0 := fr 0; have fr1 := fr 1; have fr2 := fr 2; have fr3 := fr 3; have fr4 := fr 4
      have fq0 := fq 0; have fq1 := fq 1; have fq2 := fq 2; have fq3 := fq 3; have fq4 := fq 4
      clear fr fq HX HY
      go_wp2
      go_region
      go_wp2
      refine bodyPost_ret (results_two rfl _ _ (w.heap.size + 1 + 1) (w.heap.size + 1 + 1 + 1) 39 39 _ _ _ rfl rfl ((HR.set5 _ _ _ _ _).far5 (by omega) _ _ _ _ _).drew ((HQ.far5 (by omega) _ _ _ _ _).set5 _ _ _ _ _).drew Tryd.underlying39 rfl (info_El 0) (info_El 0)) rfl ⟨by rw [EX.out, EY.out], below_drew (below_set5 (below_set5 HB (by omega) _ _ _ _ _) (by omega) _ _ _ _ _)⟩


end Go.Proofs.YtmceebdaaegkeaaDoor
/- Contracts of field.ones and field.Power. -/
namespace Go.Proofs.YtmceebdaaegkeaaDoor
open Go.RowKit

/-- 32 bytes 255, but for the lowest and the highest one. -/
def onesOf (lo hi i : Nat) : Nat := if i = 0 then lo else if i = 31 then hi else 255
theorem info_uint8 : (Tryd.prog.info? 5).map (·.size) = some 1 := by kernel_rfl

structure OnesW (w wr : World) (k : Nat) : Prop where
  res : Blk wr w.heap.size 23 (Iv .u8 (List.replicate 32 0))
  key : Blk wr (w.heap.size + 1) 23 (Iv .u8 (fill 32 (fun _ => 255) k))
  b : Below w.heap.size w wr
theorem OnesW.step {w wr : World} {k : Nat} (h : OnesW w wr k) : OnesW w (wr.setCell ⟨w.heap.size + 1, k, none⟩ (.int .u8 255)) (k + 1) := by
  refine ⟨h.res.far (by simp) _, ?_, h.b.setCell (by simp) _⟩
  have := h.key.set k (.int .u8 255)
  rw [Iv_set, fill_set 32 (fun _ => 255) k] at this
  exact this
theorem ones_list (lo hi : Nat) : ((fill 32 (fun _ => 255) 32).set 0 ((lo : Nat) : Int)).set 31 ((hi : Nat) : Int) = (List.range 32).map fun i => ((onesOf lo hi i : Nat) : Int) := by
  simp [fill, List.range, List.range.loop, onesOf]

set_option maxHeartbeats 1000000 in
set_option maxRecDepth 100000 in
theorem ones_any (lo hi : Nat) (w : World) : Calls Tryd.prog 58 #[.int .u8 lo, .int .u8 hi] w fun e w' => e = .returned (Key ((List.range 32).map fun i => ((onesOf lo hi i : Nat) : Int))) ∧ Below w.heap.size w w' := by
  go_enter Tryd.func58, Tryd.ntmps58
  go_wp2
  generalize hW : World.alloc (World.alloc w _) _ = W
  have F0 : OnesW w W 0 := by
    subst hW
    exact ⟨(Blk.new _ _ _).alloc _, Blk.new' (by simp) _ _, ((Below.refl _ _).alloc (Nat.le_refl _) _).alloc (by simp) _⟩
  clear hW
  go_loopw [7] (fun i wr => ∃ k : Nat, k ≤ 32 ∧ i = .int .i64 k ∧ OnesW w wr k) (fun i _ => 32 - (intOf i).toNat)
  case atStart => exact ⟨0, by omega, rfl, F0⟩
  case round =>
    obtain ⟨k, hk, rfl, F⟩ := hrel
    clear F0
    by_cases hlt : k < 32
    · have c5 : wr.cell? ⟨w.heap.size + 1, k, none⟩ = some (.int .u8 0) := by
        rw [F.key.cell, Iv_get _ _ _ (by rw [fill_length]; omega), fill_getD _ _ _ _ hlt, if_neg (by omega)]
      have f5 := F.key.frozen k
      go_wp2
      exact ⟨⟨k + 1, by omega, by go_num, F.step⟩, by simp [intOf]; omega⟩
    · obtain rfl : k = 32 := by omega
      obtain ⟨HR, HK, HB⟩ := F
      have c0 : wr.cell? ⟨w.heap.size + 1, 0, none⟩ = some (.int .u8 255) := HK.cell 0
      have c31 : wr.cell? ⟨w.heap.size + 1, 31, none⟩ = some (.int .u8 255) := HK.cell 31
      have f0 := HK.frozen 0
      have f31 := HK.frozen 31
      have HK2 := (HK.set 0 (.int .u8 ((lo : Nat) : Int))).set 31 (.int .u8 ((hi : Nat) : Int))
      rw [Iv_set, Iv_set, ones_list] at HK2
      have HR2 := (HR.far (p := ⟨w.heap.size + 1, 0, none⟩) (by simp) (.int .u8 ((lo : Nat) : Int))).far (p := ⟨w.heap.size + 1, 31, none⟩) (by simp) (.int .u8 ((hi : Nat) : Int))
      have HB2 := (HB.setCell (p := ⟨w.heap.size + 1, 0, none⟩) (by simp) (.int .u8 ((lo : Nat) : Int))).setCell (p := ⟨w.heap.size + 1, 31, none⟩) (by simp) (.int .u8 ((hi : Nat) : Int))
      clear HR HK HB
      go_wp2_with (first | (refine wpList_load_row rfl 23 _ rfl (w.heap.size + 1) rfl 23 _ (0, 0) _ HK2 Tryd.underlying23 rfl (info_key _ (by simp)) ?_) | (refine wpList_store_row rfl 23 _ _ rfl w.heap.size _ rfl rfl 23 _ HR2 (info_key _ (by simp)) (by simp [Iv_size]) (Iv_one _ _) ?_))
      exact bodyPost_ret (results_cell_row rfl _ _ _ 23 _ (0, 0) _ rfl (HR2.row _) Tryd.underlying23 rfl (info_key _ (by simp))) rfl ⟨rfl, below_setRow HB2 (by omega) _⟩


end Go.Proofs.YtmceebdaaegkeaaDoor
/- A region that draws its order, taken operation by operation under a fact S on the memory that is asked only as long as operation z has not come up: for a statement whose last operation is a store into what it has read. -/
namespace Go.Proofs.YtmceebdaaegkeaaDoor
open Go.RowKit

section
variable {P : Program} {md : Region.Mode} {ops : Array Oper} {Q : Exit → Act → World → Prop} {S : World → Prop}

def wpAnyZ (P : Program) (md : Region.Mode) (ops : Array Oper) (Q : Exit → Act → World → Prop) (S : World → Prop) (z : Nat) : Nat → Array Bool → Act → World → Prop
  | 0, listed, a, w => Region.ready md ops listed = [] ∧ Q .normal a w
  | fuel + 1, listed, a, w =>
    (Region.ready md ops listed = [] → Q .normal a w) ∧
    ∀ i ∈ Region.ready md ops listed, wpOp P ops Q i (fun a' w' => ((listed.setIfInBounds i true).getD z true = false → S w') ∧ wpAnyZ P md ops Q S z fuel (listed.setIfInBounds i true) a' w') a w

theorem wpAny_of_Z {z : Nat} : ∀ (fuel : Nat) (listed : Array Bool) (a : Act) (w : World), wpAnyZ P md ops Q S z fuel listed a w → wpAny P md ops Q fuel listed a w
  | 0, _, _, _, h => h
  | fuel + 1, _, _, _, h => ⟨h.1, fun i hi => wpOp_mono (fun a' w' h' => wpAny_of_Z fuel _ a' w' h'.2) (h.2 i hi)⟩

theorem wpAnyZ_first {i z : Nat} {oi : Oper} {v : Value} (hi : ops[i]? = some oi) (hsel : ∀ (j : Nat) (o : Oper) cs b, ops[j]? = some o → o.op ≠ .select cs b)
    (hQ : ∀ c a w, Q (.panic c) (a.put oi.dst v) w → Q (.panic c) a w) (hiz : i ≠ z) (hz : ∃ oz, ops[z]? = some oz ∧ ∃ e ∈ oz.after, Region.binds md e = true ∧ e.on = i) :
    ∀ (fuel : Nat) (listed : Array Bool) (a : Act) (w : World),
      (∀ j oj, ops[j]? = some oj → j ≠ i → listed.getD j true = false → (∀ e ∈ oj.after, Region.binds md e = true → e.on ≠ i) → oi.apart ops oj = true) →
      i ∈ Region.ready md ops listed → YieldsIf P ops S oi v a → S w → listed.getD z true = false →
      wpAnyZ P md ops Q S z fuel (listed.setIfInBounds i true) (a.put oi.dst v) w → wpAnyZ P md ops Q S z (fuel + 1) listed a w := by
  intro fuel
  induction fuel with
  | zero =>
    intro listed a w _ hr hy hS _ H
    refine ⟨fun h => (by rw [h] at hr; cases hr), fun j hj => ?_⟩
    by_cases hji : j = i
    · subst hji; exact hy.wpOp hi hS ⟨fun _ => hS, H⟩
    · have := ready_mono hj hji
      rw [H.1] at this
      cases this
  | succ fuel ih =>
    intro listed a w hfree hr hy hS hlz H
    refine ⟨fun h => (by rw [h] at hr; cases hr), fun j hj => ?_⟩
    by_cases hji : j = i
    · subst hji; exact hy.wpOp hi hS ⟨fun _ => hS, H⟩
    · have h1 := H.2 j (ready_mono hj hji)
      obtain ⟨hjun, oj, hoj, hall⟩ := mem_ready.1 hj
      have hnot : ∀ e ∈ oj.after, Region.binds md e = true → e.on ≠ i := fun e he hb heq => by
        have h1 := hall e he hb
        have h0 := (mem_ready.1 hr).1
        rw [heq] at h1
        rcases Nat.lt_or_ge i listed.size with h' | h'
        · simp [h'] at h0 h1; rw [h0] at h1; cases h1
        · simp [Array.getElem?_eq_none h'] at h1
      have hjz : j ≠ z := fun hjz => by
        obtain ⟨oz, hoz, e, he, hb, hon⟩ := hz
        subst hjz
        have := Option.some.inj (hoj.symm.trans hoz)
        subst this
        exact hnot e he hb hon
      have hl2 : ((listed.setIfInBounds i true).setIfInBounds j true).getD z true = false := by
        rw [getD_set_ne true hjz, getD_set_ne true hiz]; exact hlz
      have h2 := wpOp_putIf hoj (hfree j oj hoj hji hjun hnot) (fun cs b => hsel i oi cs b hi) (fun cs b => hsel j oj cs b hoj) hQ hy h1
      have hfree' : ∀ k ok, ops[k]? = some ok → k ≠ i → (listed.setIfInBounds j true).getD k true = false →
          (∀ e ∈ ok.after, Region.binds md e = true → e.on ≠ i) → oi.apart ops ok = true := fun k ok hk hki hun hno => by
        refine hfree k ok hk hki ?_ hno
        by_cases hjk : j = k
        · subst hjk; exact hjun
        · rw [getD_set_ne true hjk] at hun; exact hun
      refine wpOp_mono (fun a' w' h3 => ⟨fun _ => h3.2.1 hl2, ih (listed.setIfInBounds j true) a' w' hfree' (ready_mono hr (Ne.symm hji)) h3.1 (h3.2.1 hl2) (by rw [getD_set_ne true hjz]; exact hlz) ?_⟩) h2
      rw [Array.setIfInBounds_comm _ _ hji]
      exact h3.2.2

theorem wpAnyZ_take {i z : Nat} {oi : Oper} {v : Value} {fuel : Nat} {listed : Array Bool} {a : Act} {w : World} (hi : ops[i]? = some oi)
    (hs : Region.noSelect ops = true) (hf : Region.free md ops listed i = true) (hr : (Region.ready md ops listed).contains i = true) (hwz : (Region.waitsFor md ops z i && i != z) = true) (hlz : listed.getD z true = false)
    (hQ : ∀ c a w, Q (.panic c) (a.put oi.dst v) w → Q (.panic c) a w) (hy : YieldsIf P ops S oi v a) (hS : S w)
    (h : wpAnyZ P md ops Q S z fuel (listed.setIfInBounds i true) (a.put oi.dst v) w) : wpAnyZ P md ops Q S z (fuel + 1) listed a w := by
  rw [Bool.and_eq_true] at hwz
  exact wpAnyZ_first hi (Region.noSelect_spec hs) hQ (by simpa using hwz.2) (Region.waitsFor_spec hwz.1) fuel listed a w (Region.free_spec hi hf) (by simpa using hr) hy hS hlz h
theorem wpAnyZ_one {i z : Nat} {fuel : Nat} {listed : Array Bool} {a : Act} {w : World} (hr : Region.ready md ops listed = [i])
    (h : wpOp P ops Q i (fun a' w' => ((listed.setIfInBounds i true).getD z true = false → S w') ∧ wpAnyZ P md ops Q S z fuel (listed.setIfInBounds i true) a' w') a w) : wpAnyZ P md ops Q S z (fuel + 1) listed a w :=
by
  refine ⟨fun h0 => ?_, fun j hj => ?_⟩
  · rw [hr] at h0
    cases h0
  · rw [hr, List.mem_singleton] at hj
    subst hj
    exact h
theorem wpAnyZ_two {i j z : Nat} {fuel : Nat} {listed : Array Bool} {a : Act} {w : World} (hr : Region.ready md ops listed = [i, j])
    (h1 : wpOp P ops Q i (fun a' w' => ((listed.setIfInBounds i true).getD z true = false → S w') ∧ wpAnyZ P md ops Q S z fuel (listed.setIfInBounds i true) a' w') a w)
    (h2 : wpOp P ops Q j (fun a' w' => ((listed.setIfInBounds j true).getD z true = false → S w') ∧ wpAnyZ P md ops Q S z fuel (listed.setIfInBounds j true) a' w') a w) : wpAnyZ P md ops Q S z (fuel + 1) listed a w := by
  refine ⟨fun h0 => ?_, fun k hk => ?_⟩
  · rw [hr] at h0
    cases h0
  · rw [hr] at hk
    simp only [List.mem_cons, List.not_mem_nil, or_false] at hk
    rcases hk with rfl | rfl
    · exact h1
    · exact h2
theorem wpAnyZ_done {z : Nat} {listed : Array Bool} {a : Act} {w : World} (hr : Region.ready md ops listed = []) (h : Q .normal a w) : ∀ fuel, wpAnyZ P md ops Q S z fuel listed a w
  | 0 => ⟨hr, h⟩
  | _ + 1 => ⟨fun _ => h, by rw [hr]; simp⟩
theorem wp_region_Z (z : Nat) {id : Nat} {a : Act} {w : World} (hm : P.follows .mixedOrders = true)
    (h : wpAnyZ P .any ops Q S z ops.size (Array.replicate ops.size false) a w.drew) : (Code.region id ops true).wp P Q a w :=
  wp_region_any hm (wpAny_of_Z _ _ _ _ h)
end


end Go.Proofs.YtmceebdaaegkeaaDoor
/- The contract of field.Power: to the power that 32 bytes say. -/
namespace Go.Proofs.YtmceebdaaegkeaaDoor
open Go.RowKit

/-- a to the power e, modulo the prime. -/
def mpow (a e : Nat) : Nat := a ^ e % pp
theorem mpow_zero (a : Nat) : mpow a 0 = 1 := by
  unfold mpow
  rw [Nat.pow_zero, pp_eq]
theorem mpow_lt (a e : Nat) : mpow a e < pp := Nat.mod_lt _ pp_pos
theorem mpow_double (a e : Nat) : mpow a e * mpow a e % pp = mpow a (2 * e) := by
  unfold mpow
  rw [← Nat.mul_mod, ← Nat.pow_add]
  congr 2
  omega
theorem mpow_succ (a e : Nat) (ha : a < pp) : mpow a e * a % pp = mpow a (e + 1) := by
  unfold mpow
  rw [Nat.pow_succ, Nat.mul_mod (a ^ e) a, Nat.mod_eq_of_lt ha, Nat.mod_mul_mod]
theorem leTo_byte (f : Nat → Nat) (hf : ∀ i, f i < 256) : ∀ n i, i < n → leTo f n / 256 ^ i % 256 = f i
  | 0, i, h => by omega
  | n + 1, i, h => by
    by_cases hi : i < n
    · have ih := leTo_byte f hf n i hi
      have e : f n * 256 ^ n = 256 ^ i * (256 * (f n * 256 ^ (n - i - 1))) := by
        have : (256 : Nat) ^ n = 256 ^ i * (256 * 256 ^ (n - i - 1)) := by
          rw [← Nat.pow_succ', ← Nat.pow_add]
          congr 1
          omega
        rw [this, Nat.mul_left_comm (f n), Nat.mul_left_comm (f n)]
      simp only [leTo]
      rw [e, Nat.add_mul_div_left _ _ (Nat.pow_pos (by decide)), Nat.add_mul_mod_self_left]
      exact ih
    · have hin : i = n := by omega
      subst hin
      have h1 := leTo_lt f hf i
      simp only [leTo]
      rw [Nat.add_mul_div_right _ _ (Nat.pow_pos (by decide)), Nat.div_eq_of_lt h1, Nat.zero_add, Nat.mod_eq_of_lt (hf i)]
theorem leTo_bit (f : Nat → Nat) (hf : ∀ i, f i < 256) (n j : Nat) (h : j / 8 < n) : f (j / 8) / 2 ^ (j % 8) % 2 = leTo f n / 2 ^ j % 2 := by
  rw [← leTo_byte f hf n (j / 8) h]
  have e : (256 : Nat) = 2 ^ (j % 8) * 2 ^ (8 - j % 8) := by
    rw [← Nat.pow_add, show j % 8 + (8 - j % 8) = 8 by omega]
  have d : (2 : Nat) ∣ 2 ^ (8 - j % 8) := by
    have := Nat.pow_dvd_pow 2 (show 1 ≤ 8 - j % 8 by omega)
    simpa using this
  have h8 : (256 : Nat) ^ (j / 8) = 2 ^ (8 * (j / 8)) := by rw [Nat.pow_mul]
  rw [h8]
  conv => lhs; rw [e]
  rw [Nat.mod_mul_right_div_self, Nat.mod_mod_of_dvd _ d, Nat.div_div_eq_div_mul, ← Nat.pow_add]
  congr 3
  omega
/-- The next power. -/
theorem mpow_step (a v k : Nat) (ha : a < pp) (hk : k < 256) :
    swapped (v / 2 ^ (255 - k)) (mpow a (v / 2 ^ (256 - k)) * mpow a (v / 2 ^ (256 - k)) % pp) (mpow a (v / 2 ^ (256 - k)) * mpow a (v / 2 ^ (256 - k)) % pp * a % pp) = mpow a (v / 2 ^ (256 - (k + 1))) := by
  have e : 2 ^ (256 - k) = 2 ^ (255 - k) * 2 := by rw [← Nat.pow_succ]; congr 1; omega
  have h2 : v / 2 ^ (256 - k) = v / 2 ^ (255 - k) / 2 := by rw [e, Nat.div_div_eq_div_mul]
  have h3 : 256 - (k + 1) = 255 - k := by omega
  rw [mpow_double, mpow_succ _ _ ha, h3]
  unfold swapped
  rw [h2]
  split
  · congr 1; omega
  · congr 1; omega
theorem swapped_mod {s t : Nat} (h : s % 2 = t % 2) (a b : Nat) : swapped s a b = swapped t a b := by unfold swapped; rw [h]

structure PowW (a : Nat) (l : List Int) (f : Nat → Nat) (g : Nat) (w wr : World) (P : Nat) : Prop where
  x : Blk wr w.heap.size 39 (El_cells a)
  e : Blk wr (w.heap.size + 1) 23 (Iv .u8 l)
  r : Blk wr (w.heap.size + 1 + 1) 39 #[.int .u64 0, .int .u64 0, .int .u64 0, .int .u64 0, .int .u64 0]
  p : Blk wr g 39 (El_cells P)
  b : Below w.heap.size w wr
  g1 : w.heap.size + 1 + 1 < g
theorem PowW.below {a : Nat} {l : List Int} {f : Nat → Nat} {g : Nat} {w wr w1 : World} {P : Nat} (h : PowW a l f g w wr P) (hb : Below wr.heap.size wr w1) : PowW a l f g w w1 P :=
  ⟨h.x.below hb h.x.lt, h.e.below hb h.e.lt, h.r.below hb h.r.lt, h.p.below hb h.p.lt, h.b.trans (hb.mono h.b.size), h.g1⟩
theorem PowW.drew {a : Nat} {l : List Int} {f : Nat → Nat} {g : Nat} {w wr : World} {P : Nat} (h : PowW a l f g w wr P) : PowW a l f g w wr.drew P := ⟨h.x, h.e, h.r, h.p, below_drew h.b, h.g1⟩
theorem PowW.row {a : Nat} {l : List Int} {f : Nat → Nat} {g : Nat} {w wr : World} {P : Nat} (h : PowW a l f g w wr P) (Q : Nat) : PowW a l f g w (wr.setRow g (El_cells Q)) Q := by
  have := h.g1
  exact ⟨h.x.rowFar (by omega) _, h.e.rowFar (by omega) _, h.r.rowFar (by omega) _, h.p.row _, below_setRow h.b (by omega) _, h.g1⟩

theorem PowW.put5 {a : Nat} {l : List Int} {f : Nat → Nat} {g : Nat} {w wr : World} {P N : Nat} (h : PowW a l f g w wr P) {n0 n1 n2 n3 n4 : Int} (hn : El_cells N = #[.int .u64 n0, .int .u64 n1, .int .u64 n2, .int .u64 n3, .int .u64 n4]) :
    PowW a l f g w (World.set5 wr g (.int .u64 n0) (.int .u64 n1) (.int .u64 n2) (.int .u64 n3) (.int .u64 n4)) N := by
  have hg := h.g1
  refine ⟨h.x.far5 (by omega) _ _ _ _ _, h.e.far5 (by omega) _ _ _ _ _, h.r.far5 (by omega) _ _ _ _ _, ?_, below_set5 h.b (by omega) _ _ _ _ _, h.g1⟩
  rw [hn]
  have hp := h.p
  unfold El_cells at hp
  exact hp.set5 _ _ _ _ _

set_option maxHeartbeats 4000000 in
set_option maxRecDepth 100000 in
theorem power_any (a : Nat) (l : List Int) (f : Nat → Nat) (hl : Bytes32 l f) (w : World) (ha : a < pp) :
    Calls Tryd.prog 57 #[El a, Key l] w fun e w' => e = .returned (El (mpow a (leTo f 32))) ∧ Below w.heap.size w w' := by
  unfold El Key
  go_enter Tryd.func57, Tryd.ntmps57
  go_wp2_with fail
  refine (small_any 1 _ (by decide)).mono ?_
  rintro e w1 ⟨rfl, hb⟩
  have X1 : Blk w1 w.heap.size 39 (El_cells a) := Blk.below (((Blk.new w _ _).alloc _).alloc _) hb (by simp; omega)
  have E1 : Blk w1 (w.heap.size + 1) 23 (Iv .u8 l) := Blk.below ((Blk.new' (by simp) _ _).alloc _) hb (by simp)
  have R1 : Blk w1 (w.heap.size + 1 + 1) 39 #[.int .u64 0, .int .u64 0, .int .u64 0, .int .u64 0, .int .u64 0] := Blk.below (Blk.new' (by simp) _ _) hb (by simp)
  have B1 : Below w.heap.size w w1 := ((((Below.refl w.heap.size w).alloc (Nat.le_refl _) _).alloc (by simp) _).alloc (by simp; omega) _).trans (hb.mono (by simp; omega))
  have hg : w.heap.size + 1 + 1 < w1.heap.size := R1.lt
  clear hb
  unfold El
  go_wp2_with (refine wpList_store_row rfl 39 _ _ rfl w1.heap.size (El_cells 1) rfl rfl 39 _ (Blk.new w1 _ _) (info_El _) rfl (El_one _) ?_)
  generalize hW : World.setRow _ w1.heap.size (El_cells 1) = W
  have F0 : PowW a l f w1.heap.size w W (mpow a (leTo f 32 / 2 ^ (256 - 0))) := by
    have h0 : leTo f 32 / 2 ^ (256 - 0) = 0 := Nat.div_eq_of_lt (by have := leTo_lt f hl.lt 32; simpa using this)
    rw [h0, mpow_zero]
    subst hW
    exact ⟨(X1.alloc _).rowFar (by omega) _, (E1.alloc _).rowFar (by omega) _, (R1.alloc _).rowFar (by omega) _, (Blk.new w1 _ _).row _, below_setRow (B1.alloc B1.size _) B1.size _, hg⟩
  generalize w1.heap.size = g at *
  clear hW X1 E1 R1 B1 hg
  go_loopw [9] (fun i wr => ∃ k : Nat, k ≤ 256 ∧ i = .int .i64 k ∧ PowW a l f g w wr (mpow a (leTo f 32 / 2 ^ (256 - k)))) (fun i _ => 256 - (intOf i).toNat)
  case atStart => exact ⟨0, by omega, rfl, F0⟩
  case round =>
    obtain ⟨k, hk, rfl, F⟩ := hrel
    clear F0
    by_cases hlt : k < 256
    · obtain ⟨P, hP⟩ : ∃ P, P = mpow a (leTo f 32 / 2 ^ (256 - k)) := ⟨_, rfl⟩
      have hstep := mpow_step a (leTo f 32) k ha hlt
      rw [← hP] at F hstep
      have hPlt : P < pp := hP ▸ mpow_lt _ _
      clear hP
      obtain ⟨N, hN⟩ : ∃ N, N = mpow a (leTo f 32 / 2 ^ (256 - (k + 1))) := ⟨_, rfl⟩
      rw [← hN] at hstep
      have HN := Lib.hid hN
      have HS := Lib.hid hstep
      clear hN hstep
      obtain ⟨j, hj⟩ : ∃ j, j = 255 - k := ⟨_, rfl⟩
      have i0 : (255 : Int) - (k : Int) = (j : Int) := by omega
      have HJ := Lib.hid hj
      clear hj
      have HP := F.p
      go_wp2_with (refine wpList_load_row rfl 39 _ rfl g rfl 39 _ (0, 0) _ HP Tryd.underlying39 rfl (info_El _) ?_)
      refine (mul_any P P _ hPlt hPlt).mono ?_
      rintro e w2 ⟨rfl, hb2⟩
      have F2 := F.below hb2
      have HP2 := F2.p
      clear hb2 HP F
      obtain ⟨P2, hP2⟩ : ∃ q, q = P * P % pp := ⟨_, rfl⟩
      have HP2e := Lib.hid hP2
      unfold El
      rw [← hP2]
      clear hP2
      go_wp2_with (refine wpList_store_row rfl 39 _ _ rfl g (El_cells P2) rfl rfl 39 _ HP2 (info_El _) rfl (El_one _) ?_)
      have F3 := F2.row P2
      clear F2 HP2
      generalize World.setRow w2 g (El_cells P2) = V at F3 ⊢
      have hP2lt : P2 < pp := by rw [HP2e.out]; exact Nat.mod_lt _ pp_pos
      obtain ⟨M, hMe⟩ : ∃ q, q = P2 * a % pp := ⟨_, rfl⟩
      have hMlt : M < pp := by rw [hMe]; exact Nat.mod_lt _ pp_pos
      have hj256 : j < 256 := by have := HJ.out; omega
      have hbyte := hl.lt (j / 8)
      have hslt : f (j / 8) / 2 ^ (j % 8) < 18446744073709551616 := Nat.lt_of_le_of_lt (Nat.div_le_self _ _) (by omega)
      have hN2 : swapped (f (j / 8) / 2 ^ (j % 8)) P2 M = N := by
        rw [swapped_mod (leTo_bit f hl.lt 32 j (by omega)), hMe, HP2e.out, HJ.out]
        exact HS.out
      have cM := fun W => mul_any P2 a W hP2lt ha
      have cS := fun W => swap_any (f (j / 8) / 2 ^ (j % 8)) P2 M W hslt hP2lt hMlt
      rw [← hMe] at cM
      rw [hN2] at cS
      generalize swapped (f (j / 8) / 2 ^ (j % 8)) M P2 = R at cS
      have hsc : ((f (j / 8) / 2 ^ (j % 8) : Nat) : Int) = ((f (j / 8) : Nat) : Int) / 2 ^ (j % 8) := by
        rw [Int.natCast_ediv, Int.natCast_pow]
        rfl
      rw [hsc] at cS
      obtain ⟨gx, ge, gr, gp, gB, gg⟩ := F3
      have H3 : Hid (PowW a l f g w V P2) := Lib.hid ⟨gx, ge, gr, gp, gB, gg⟩
      obtain ⟨x0, x1, x2, x3, x4, ex⟩ : ∃ x0 x1 x2 x3 x4 : Int, El_cells a = #[.int .u64 x0, .int .u64 x1, .int .u64 x2, .int .u64 x3, .int .u64 x4] := ⟨_, _, _, _, _, rfl⟩
      obtain ⟨p0, p1, p2, p3, p4, ep⟩ : ∃ x0 x1 x2 x3 x4 : Int, El_cells P2 = #[.int .u64 x0, .int .u64 x1, .int .u64 x2, .int .u64 x3, .int .u64 x4] := ⟨_, _, _, _, _, rfl⟩
      obtain ⟨m0, m1, m2, m3, m4, em⟩ : ∃ x0 x1 x2 x3 x4 : Int, El_cells M = #[.int .u64 x0, .int .u64 x1, .int .u64 x2, .int .u64 x3, .int .u64 x4] := ⟨_, _, _, _, _, rfl⟩
      obtain ⟨n0, n1, n2, n3, n4, en⟩ : ∃ x0 x1 x2 x3 x4 : Int, El_cells N = #[.int .u64 x0, .int .u64 x1, .int .u64 x2, .int .u64 x3, .int .u64 x4] := ⟨_, _, _, _, _, rfl⟩
      obtain ⟨o0, o1, o2, o3, o4, eo⟩ : ∃ x0 x1 x2 x3 x4 : Int, El_cells R = #[.int .u64 x0, .int .u64 x1, .int .u64 x2, .int .u64 x3, .int .u64 x4] := ⟨_, _, _, _, _, rfl⟩
      simp only [El, ex, ep, em, en, eo] at cM cS
      rw [ex] at gx
      rw [ep] at gp
      obtain ⟨cx0, cx1, cx2, cx3, cx4⟩ := gx.five
      obtain ⟨cp0, cp1, cp2, cp3, cp4⟩ := gp.five
      have ce : V.cell? ⟨w.heap.size + 1, j / 8, none⟩ = some (.int .u8 ((f (j / 8) : Nat) : Int)) := by
        rw [ge.cell, Iv_get _ _ _ (by rw [hl.len]; omega), hl.get (j / 8) (by omega)]
      have sx := gx.lt
      have se := ge.lt
      have sp := gp.lt
      have fp := gp.frozen
      have fp0 := fp 0; have fp1 := fp 1; have fp2 := fp 2; have fp3 := fp 3; have fp4 := fp 4
      have CM := Lib.hid cM
      have CS := Lib.hid cS
      have EN := Lib.hid en
      have j3 : IntKind.u64.wrap (((f (j / 8) : Nat) : Int) / 2 ^ (j % 8)) = ((f (j / 8) : Nat) : Int) / 2 ^ (j % 8) := by rw [← hsc, wraps_u64 _ (Int.natCast_nonneg _) (by omega)]
      clear cM cS en ex ep em eo gx ge gr gp gB gg fp hN2 hMe hsc
      have i1 : (0 : Int) ≤ (j : Int) := by omega
      have i2 : (j : Int) < 256 := by omega
      have i3 : (0 : Int) ≤ (j : Int) / 8 := by omega
      have i4 : (j : Int) / 8 < 32 := by omega
      have i5 : ((j : Int) / 8).toNat = j / 8 := by omega
      have i6 : IntKind.i64.wrap ((j : Int) / 8) = (j : Int) / 8 := by rw [IntKind.wrap_i64]; omega
      have i7 : IntKind.i64.wrap ((j : Int) % 8) = (j : Int) % 8 := by rw [IntKind.wrap_i64]; omega
      have i8 : (0 : Int) ≤ (j : Int) % 8 := by omega
      have i9 : ((j : Int)).tmod 8 = (j : Int) % 8 := Int.tmod_eq_emod_of_nonneg i1
      have j1 : ((j : Int) % 8).toNat = j % 8 := by omega
      have j2 : min (j % 8) 8 = j % 8 := by omega
      have dcx0 : (World.drew V).cell? ⟨w.heap.size, 0, none⟩ = _ := cx0
      have dcx1 : (World.drew V).cell? ⟨w.heap.size, 1, none⟩ = _ := cx1
      have dcx2 : (World.drew V).cell? ⟨w.heap.size, 2, none⟩ = _ := cx2
      have dcx3 : (World.drew V).cell? ⟨w.heap.size, 3, none⟩ = _ := cx3
      have dcx4 : (World.drew V).cell? ⟨w.heap.size, 4, none⟩ = _ := cx4
      have dcp0 : (World.drew V).cell? ⟨g, 0, none⟩ = _ := cp0
      have dcp1 : (World.drew V).cell? ⟨g, 1, none⟩ = _ := cp1
      have dcp2 : (World.drew V).cell? ⟨g, 2, none⟩ = _ := cp2
      have dcp3 : (World.drew V).cell? ⟨g, 3, none⟩ = _ := cp3
      have dcp4 : (World.drew V).cell? ⟨g, 4, none⟩ = _ := cp4
      have dce : (World.drew V).cell? ⟨w.heap.size + 1, j / 8, none⟩ = _ := ce
      have hS0 : (fun w' => w'.cell? ⟨w.heap.size, 0, none⟩ = some (.int .u64 x0) ∧ w'.cell? ⟨w.heap.size, 1, none⟩ = some (.int .u64 x1) ∧ w'.cell? ⟨w.heap.size, 2, none⟩ = some (.int .u64 x2) ∧ w'.cell? ⟨w.heap.size, 3, none⟩ = some (.int .u64 x3) ∧ w'.cell? ⟨w.heap.size, 4, none⟩ = some (.int .u64 x4) ∧ w'.cell? ⟨g, 0, none⟩ = some (.int .u64 p0) ∧ w'.cell? ⟨g, 1, none⟩ = some (.int .u64 p1) ∧ w'.cell? ⟨g, 2, none⟩ = some (.int .u64 p2) ∧ w'.cell? ⟨g, 3, none⟩ = some (.int .u64 p3) ∧ w'.cell? ⟨g, 4, none⟩ = some (.int .u64 p4) ∧ w'.cell? ⟨w.heap.size + 1, j / 8, none⟩ = some (.int .u8 ((f (j / 8) : Nat) : Int))) (World.drew V) := ⟨dcx0, dcx1, dcx2, dcx3, dcx4, dcp0, dcp1, dcp2, dcp3, dcp4, dce⟩
      refine wp_region_noPanic ?_
      refine wp_region_Z (S := (fun w' => w'.cell? ⟨w.heap.size, 0, none⟩ = some (.int .u64 x0) ∧ w'.cell? ⟨w.heap.size, 1, none⟩ = some (.int .u64 x1) ∧ w'.cell? ⟨w.heap.size, 2, none⟩ = some (.int .u64 x2) ∧ w'.cell? ⟨w.heap.size, 3, none⟩ = some (.int .u64 x3) ∧ w'.cell? ⟨w.heap.size, 4, none⟩ = some (.int .u64 x4) ∧ w'.cell? ⟨g, 0, none⟩ = some (.int .u64 p0) ∧ w'.cell? ⟨g, 1, none⟩ = some (.int .u64 p1) ∧ w'.cell? ⟨g, 2, none⟩ = some (.int .u64 p2) ∧ w'.cell? ⟨g, 3, none⟩ = some (.int .u64 p3) ∧ w'.cell? ⟨g, 4, none⟩ = some (.int .u64 p4) ∧ w'.cell? ⟨w.heap.size + 1, j / 8, none⟩ = some (.int .u8 ((f (j / 8) : Nat) : Int)))) 16 (by kernel_rfl) ?_
      refine wpAnyZ_take (i := 0) (v := ?_) rfl (by kernel_rfl) (by kernel_rfl) (by kernel_rfl) (by kernel_rfl) (by kernel_rfl) (fun _ _ _ h => h) (Or.inl ⟨by rfl, ?_⟩) hS0 ?_
      rotate_left
      · intro w' hw'
        obtain ⟨s1, s2, s3, s4, s5, s6, s7, s8, s9, s10, s11⟩ := hw'
        go_simp
        try (with_reducible rfl)
      simp only [Act.put, List.setIfInBounds_toArray]
      refine wpAnyZ_take (i := 1) (v := ?_) rfl (by kernel_rfl) (by kernel_rfl) (by kernel_rfl) (by kernel_rfl) (by kernel_rfl) (fun _ _ _ h => h) (Or.inl ⟨by rfl, ?_⟩) hS0 ?_
      rotate_left
      · intro w' hw'
        obtain ⟨s1, s2, s3, s4, s5, s6, s7, s8, s9, s10, s11⟩ := hw'
        go_simp
        try (with_reducible rfl)
      simp only [Act.put]
      refine wpAnyZ_take (i := 2) (v := ?_) rfl (by kernel_rfl) (by kernel_rfl) (by kernel_rfl) (by kernel_rfl) (by kernel_rfl) (fun _ _ _ h => h) (Or.inl ⟨by rfl, ?_⟩) hS0 ?_
      rotate_left
      · intro w' hw'
        obtain ⟨s1, s2, s3, s4, s5, s6, s7, s8, s9, s10, s11⟩ := hw'
        go_simp
        try (with_reducible rfl)
      simp only [Act.put]
      refine wpAnyZ_take (i := 3) (v := ?_) rfl (by kernel_rfl) (by kernel_rfl) (by kernel_rfl) (by kernel_rfl) (by kernel_rfl) (fun _ _ _ h => h) (Or.inl ⟨by rfl, ?_⟩) hS0 ?_
      rotate_left
      · intro w' hw'
        obtain ⟨s1, s2, s3, s4, s5, s6, s7, s8, s9, s10, s11⟩ := hw'
        go_simp
        try (with_reducible rfl)
      simp only [Act.put]
      refine wpAnyZ_take (i := 4) (v := ?_) rfl (by kernel_rfl) (by kernel_rfl) (by kernel_rfl) (by kernel_rfl) (by kernel_rfl) (fun _ _ _ h => h) (Or.inl ⟨by rfl, ?_⟩) hS0 ?_
      rotate_left
      · intro w' hw'
        obtain ⟨s1, s2, s3, s4, s5, s6, s7, s8, s9, s10, s11⟩ := hw'
        go_simp
        try (with_reducible rfl)
      simp only [Act.put]
      refine wpAnyZ_take (i := 5) (v := ?_) rfl (by kernel_rfl) (by kernel_rfl) (by kernel_rfl) (by kernel_rfl) (by kernel_rfl) (fun _ _ _ h => h) (Or.inl ⟨by rfl, ?_⟩) hS0 ?_
      rotate_left
      · intro w' hw'
        obtain ⟨s1, s2, s3, s4, s5, s6, s7, s8, s9, s10, s11⟩ := hw'
        go_simp
        try (with_reducible rfl)
      simp only [Act.put]
      refine wpAnyZ_take (i := 6) (v := ?_) rfl (by kernel_rfl) (by kernel_rfl) (by kernel_rfl) (by kernel_rfl) (by kernel_rfl) (fun _ _ _ h => h) (Or.inl ⟨by rfl, ?_⟩) hS0 ?_
      rotate_left
      · intro w' hw'
        obtain ⟨s1, s2, s3, s4, s5, s6, s7, s8, s9, s10, s11⟩ := hw'
        go_simp
        try (with_reducible rfl)
      simp only [Act.put]
      refine wpAnyZ_take (i := 7) (v := ?_) rfl (by kernel_rfl) (by kernel_rfl) (by kernel_rfl) (by kernel_rfl) (by kernel_rfl) (fun _ _ _ h => h) (Or.inl ⟨by rfl, ?_⟩) hS0 ?_
      rotate_left
      · intro w' hw'
        obtain ⟨s1, s2, s3, s4, s5, s6, s7, s8, s9, s10, s11⟩ := hw'
        go_simp
        try (with_reducible rfl)
      simp only [Act.put]
      refine wpAnyZ_take (i := 8) (v := ?_) rfl (by kernel_rfl) (by kernel_rfl) (by kernel_rfl) (by kernel_rfl) (by kernel_rfl) (fun _ _ _ h => h) (Or.inl ⟨by rfl, ?_⟩) hS0 ?_
      rotate_left
      · intro w' hw'
        obtain ⟨s1, s2, s3, s4, s5, s6, s7, s8, s9, s10, s11⟩ := hw'
        go_simp
        try (with_reducible rfl)
      simp only [Act.put]
      refine wpAnyZ_take (i := 9) (v := ?_) rfl (by kernel_rfl) (by kernel_rfl) (by kernel_rfl) (by kernel_rfl) (by kernel_rfl) (fun _ _ _ h => h) (Or.inl ⟨by rfl, ?_⟩) hS0 ?_
      rotate_left
      · intro w' hw'
        obtain ⟨s1, s2, s3, s4, s5, s6, s7, s8, s9, s10, s11⟩ := hw'
        go_simp
        try (with_reducible rfl)
      simp only [Act.put]
      refine wpAnyZ_take (i := 10) (v := ?_) rfl (by kernel_rfl) (by kernel_rfl) (by kernel_rfl) (by kernel_rfl) (by kernel_rfl) (fun _ _ _ h => h) (Or.inl ⟨by rfl, ?_⟩) hS0 ?_
      rotate_left
      · intro w' hw'
        obtain ⟨s1, s2, s3, s4, s5, s6, s7, s8, s9, s10, s11⟩ := hw'
        go_simp
        try (with_reducible rfl)
      simp only [Act.put]
      refine wpAnyZ_one (i := 11) (by kernel_rfl) ?_
      unfold wpOp
      go_simp
      left
      refine (CM.out _).mono ?_
      rintro e w3 ⟨rfl, hb3⟩
      have hc3 : ∀ b o, b < V.heap.size → w3.cell? ⟨b, o, none⟩ = V.cell? ⟨b, o, none⟩ := fun b o h => hb3.cell (p := ⟨b, o, none⟩) h
      have hf3 : ∀ b o, b < V.heap.size → w3.frozen? ⟨b, o, none⟩ = V.frozen? ⟨b, o, none⟩ := fun b o h => hb3.frozen (p := ⟨b, o, none⟩) h
      have sx3 : w.heap.size < w3.heap.size := Nat.lt_of_lt_of_le sx hb3.size
      have se3 : w.heap.size + 1 < w3.heap.size := Nat.lt_of_lt_of_le se hb3.size
      have sp3 : g < w3.heap.size := Nat.lt_of_lt_of_le sp hb3.size
      refine ⟨⟨(hc3 _ _ sx).trans cx0, (hc3 _ _ sx).trans cx1, (hc3 _ _ sx).trans cx2, (hc3 _ _ sx).trans cx3, (hc3 _ _ sx).trans cx4, (hc3 _ _ sp).trans cp0, (hc3 _ _ sp).trans cp1, (hc3 _ _ sp).trans cp2, (hc3 _ _ sp).trans cp3, (hc3 _ _ sp).trans cp4, (hc3 _ _ se).trans ce⟩, ?_⟩
      refine wpAnyZ_one (i := 12) (by kernel_rfl) ?_
      unfold wpOp
      go_simp
      left
      refine (CS.out _).mono ?_
      rintro e w4 ⟨rfl, hb4⟩
      have hc4 : ∀ b o, b < w3.heap.size → w4.cell? ⟨b, o, none⟩ = w3.cell? ⟨b, o, none⟩ := fun b o h => hb4.cell (p := ⟨b, o, none⟩) h
      have hf4 : ∀ b o, b < w3.heap.size → w4.frozen? ⟨b, o, none⟩ = w3.frozen? ⟨b, o, none⟩ := fun b o h => hb4.frozen (p := ⟨b, o, none⟩) h
      have F5 : PowW a l f g w w4 P2 := (H3.out.drew.below hb3).below hb4
      have hS4 : (fun w' => w'.cell? ⟨w.heap.size, 0, none⟩ = some (.int .u64 x0) ∧ w'.cell? ⟨w.heap.size, 1, none⟩ = some (.int .u64 x1) ∧ w'.cell? ⟨w.heap.size, 2, none⟩ = some (.int .u64 x2) ∧ w'.cell? ⟨w.heap.size, 3, none⟩ = some (.int .u64 x3) ∧ w'.cell? ⟨w.heap.size, 4, none⟩ = some (.int .u64 x4) ∧ w'.cell? ⟨g, 0, none⟩ = some (.int .u64 p0) ∧ w'.cell? ⟨g, 1, none⟩ = some (.int .u64 p1) ∧ w'.cell? ⟨g, 2, none⟩ = some (.int .u64 p2) ∧ w'.cell? ⟨g, 3, none⟩ = some (.int .u64 p3) ∧ w'.cell? ⟨g, 4, none⟩ = some (.int .u64 p4) ∧ w'.cell? ⟨w.heap.size + 1, j / 8, none⟩ = some (.int .u8 ((f (j / 8) : Nat) : Int))) w4 := ⟨(hc4 _ _ sx3).trans ((hc3 _ _ sx).trans cx0), (hc4 _ _ sx3).trans ((hc3 _ _ sx).trans cx1), (hc4 _ _ sx3).trans ((hc3 _ _ sx).trans cx2), (hc4 _ _ sx3).trans ((hc3 _ _ sx).trans cx3), (hc4 _ _ sx3).trans ((hc3 _ _ sx).trans cx4), (hc4 _ _ sp3).trans ((hc3 _ _ sp).trans cp0), (hc4 _ _ sp3).trans ((hc3 _ _ sp).trans cp1), (hc4 _ _ sp3).trans ((hc3 _ _ sp).trans cp2), (hc4 _ _ sp3).trans ((hc3 _ _ sp).trans cp3), (hc4 _ _ sp3).trans ((hc3 _ _ sp).trans cp4), (hc4 _ _ se3).trans ((hc3 _ _ se).trans ce)⟩
      have t0 : w4.cell? ⟨g, 0, none⟩ = _ := (hc4 _ _ sp3).trans ((hc3 _ _ sp).trans cp0)
      have t1 : w4.cell? ⟨g, 1, none⟩ = _ := (hc4 _ _ sp3).trans ((hc3 _ _ sp).trans cp1)
      have t2 : w4.cell? ⟨g, 2, none⟩ = _ := (hc4 _ _ sp3).trans ((hc3 _ _ sp).trans cp2)
      have t3 : w4.cell? ⟨g, 3, none⟩ = _ := (hc4 _ _ sp3).trans ((hc3 _ _ sp).trans cp3)
      have t4 : w4.cell? ⟨g, 4, none⟩ = _ := (hc4 _ _ sp3).trans ((hc3 _ _ sp).trans cp4)
      have v0 : w4.frozen? ⟨g, 0, none⟩ = false := F5.p.frozen 0
      have v1 : w4.frozen? ⟨g, 1, none⟩ = false := F5.p.frozen 1
      have v2 : w4.frozen? ⟨g, 2, none⟩ = false := F5.p.frozen 2
      have v3 : w4.frozen? ⟨g, 3, none⟩ = false := F5.p.frozen 3
      have v4 : w4.frozen? ⟨g, 4, none⟩ = false := F5.p.frozen 4
      have HF5 := Lib.hid F5
      clear F5 H3 hc3 hf3 hc4 hf4 hb3 hb4 cx0 cx1 cx2 cx3 cx4 cp0 cp1 cp2 cp3 cp4 ce dcx0 dcx1 dcx2 dcx3 dcx4 dcp0 dcp1 dcp2 dcp3 dcp4 dce hS0 fp0 fp1 fp2 fp3 fp4 i0 i1 i2 i3 i4 i5 i6 i7 i8 i9 j1 j2 j3
      refine ⟨hS4, ?_⟩
      refine wpAnyZ_take (i := 13) (v := ?_) rfl (by kernel_rfl) (by kernel_rfl) (by kernel_rfl) (by kernel_rfl) (by kernel_rfl) (fun _ _ _ h => h) (Or.inl ⟨by rfl, ?_⟩) hS4 ?_
      rotate_left
      · intro w' hw'
        obtain ⟨s1, s2, s3, s4, s5, s6, s7, s8, s9, s10, s11⟩ := hw'
        go_simp
        try (with_reducible rfl)
      simp only [Act.put]
      refine wpAnyZ_take (i := 14) (v := ?_) rfl (by kernel_rfl) (by kernel_rfl) (by kernel_rfl) (by kernel_rfl) (by kernel_rfl) (fun _ _ _ h => h) (Or.inl ⟨by rfl, ?_⟩) hS4 ?_
      rotate_left
      · intro w' hw'
        obtain ⟨s1, s2, s3, s4, s5, s6, s7, s8, s9, s10, s11⟩ := hw'
        go_simp
        try (with_reducible rfl)
      simp only [Act.put]
      refine wpAnyZ_two (i := 15) (j := 16) (by kernel_rfl) ?_ ?_
      · unfold wpOp
        go_simp
        left
        refine wpAnyZ_one (fuel := 0) (i := 16) (by kernel_rfl) ?_
        unfold wpOp
        go_simp
        left
        refine wpAnyZ_done (by kernel_rfl) (NoPanic.normal ?_) _
        go_wp2
        exact ⟨⟨k + 1, by omega, by go_num, HN.out ▸ HF5.out.put5 EN.out⟩, by simp [intOf]; omega⟩
      · unfold wpOp
        go_simp
        left
        refine wpAnyZ_one (fuel := 0) (i := 15) (by kernel_rfl) ?_
        unfold wpOp
        go_simp
        left
        refine wpAnyZ_done (by kernel_rfl) (NoPanic.normal ?_) _
        go_wp2
        exact ⟨⟨k + 1, by omega, by go_num, HN.out ▸ HF5.out.put5 EN.out⟩, by simp [intOf]; omega⟩
    · obtain rfl : k = 256 := by omega
      have HR := F.r
      have HP := F.p
      have HB := F.b
      rw [Nat.sub_self, Nat.pow_zero, Nat.div_one] at HP
      clear F
      obtain ⟨M, hM⟩ : ∃ M, M = mpow a (leTo f 32) := ⟨_, rfl⟩
      rw [← hM] at HP
      have HM := Lib.hid hM
      clear hM
      go_wp2_with (first | (refine wpList_load_row rfl 39 _ rfl g rfl 39 _ (0, 0) _ HP Tryd.underlying39 rfl (info_El _) ?_) | (refine wpList_store_row rfl 39 _ _ rfl (w.heap.size + 1 + 1) _ rfl rfl 39 _ HR (info_El _) rfl (El_one _) ?_))
      exact bodyPost_ret (results_cell_row rfl _ _ _ 39 _ (0, 0) _ rfl (HR.row _) Tryd.underlying39 rfl (info_El _)) rfl ⟨by rw [← HM.out], below_setRow HB (by omega) _⟩


end Go.Proofs.YtmceebdaaegkeaaDoor
