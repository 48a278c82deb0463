/- What memory holds, as a list of facts that stand over what the program does elsewhere; contracts by value; what a walk that a program prints needs. A region that draws its order, under a fact on the memory that stands throughout. sha2's words: what a sum of 256 bits is reckoned with; the contracts of right64, either, majority. -/
import Derived.Test.YtegbnadnodlalaaGreatDoorLg0Lj
import Derived.Test.YtegbnadnodlalaaGreatDoorLk
import Derived.Deep.Cut
import Derived.Deep.MidRow
namespace Go.Proofs.YtegbnadnodlalaaGreatDoor
open Go.RowKit
/-- Cells that stand in a block, whatever its type: a package's variable. -/
structure Rng (w : World) (g : Nat) (cs : Array Value) : Prop where
 blk : g < w.heap.size
 there : w.rangeAt g 0 cs.toList
theorem Rng.below {w w1 : World} {g : Nat} {cs : Array Value} (h : Rng w g cs) (hb : Below w.heap.size w w1) : Rng w1 g cs :=
 ⟨Nat.lt_of_lt_of_le h.blk hb.size, fun j v hv => (hb.cell (p := ⟨g, 0 + j, none⟩) h.blk).trans (h.there j v hv)⟩
inductive Fact where
 | blk (g : Nat) (t : TypeId) (cs : Array Value)
 | long (v : Value) (V : Nat)
 | rng (g : Nat) (cs : Array Value)
 | bel (w0 : World)
def Fact.at : Fact → World → Prop
 | .blk g t cs, w => Blk w g t cs
 | .long v V, w => LongIs w v V
 | .rng g cs, w => Rng w g cs
 | .bel w0, w => Below w0.heap.size w0 w
def Facts (L : List Fact) (w : World) : Prop := ∀ f ∈ L, f.at w
theorem Fact.at.below {f : Fact} {w w1 : World} (h : f.at w) (hb : Below w.heap.size w w1) : f.at w1 := by
 cases f with
 | blk g t cs => exact Blk.below' h hb
 | long v V => exact LongIs.below h hb
 | rng g cs => exact Rng.below h hb
 | bel w0 => exact Below.trans h (hb.mono (Below.size h))
theorem Facts.below {L : List Fact} {w w1 : World} (h : Facts L w) (hb : Below w.heap.size w w1) : Facts L w1 := fun f hf => (h f hf).below hb
theorem Facts.drew {L : List Fact} {w : World} (h : Facts L w) : Facts L w.drew := h.below (below_drew (Below.refl _ _))
theorem Facts.nil {w : World} : Facts [] w := fun _ h => by cases h
theorem Facts.cons {f : Fact} {L : List Fact} {w : World} (h : f.at w) (hl : Facts L w) : Facts (f :: L) w := fun x hx => by
 rcases List.mem_cons.1 hx with rfl | hx
 · exact h
 · exact hl x hx
theorem Facts.blkAt {L : List Fact} {w : World} (h : Facts L w) (g : Nat) (t : TypeId) (cs : Array Value) (hm : Fact.blk g t cs ∈ L) : Blk w g t cs := h _ hm
theorem Facts.rngAt {L : List Fact} {w : World} (h : Facts L w) (g : Nat) (cs : Array Value) (hm : Fact.rng g cs ∈ L) : Rng w g cs := h _ hm
theorem Facts.belAt {L : List Fact} {w : World} (h : Facts L w) (w0 : World) (hm : Fact.bel w0 ∈ L) : Below w0.heap.size w0 w := h _ hm
/-- A whole row loaded, named by its value. -/
theorem yieldsIf_load {P : Program} {ops : Array Oper} {L : List Fact} {o : Oper} {a : Act} (hgd : Region.wanted o (yielded ops a.tmps) = true) (ty : TypeId) (x : Operand) (ho : o.op = .load ty x) (g : Nat) (hx : a.eval x = .pointer (some ⟨g, 0, none⟩))
  (t : TypeId) (cs : Array Value) (d : TypeDesc) (hm : Fact.blk g t cs ∈ L) (hu : P.underlying ty = some d) (hd : (match d with | .struct _ | .array _ _ => true | _ => false) = true) (hi : (P.info? ty).map (·.size) = some cs.size) :
  YieldsIf P ops (Facts L) o (.agg cs) a := yieldsIf_row_wanted hgd ty x ho g hx t cs d (fun _ h => h.blkAt g t cs hm) hu hd hi
theorem job_frame {P : Program} {ops : Array Oper} {Q : Exit → Act → World → Prop} {S : World → Prop} {J : List Job} {j : Job} {val : Nat → Value} {a : Act} {R : Value → World → Prop} (J' : List Job) (hp : predsOf ops J j = J') (h : JobAt P ops Q S (putAll val J' a) j R) :
  JobAt P ops Q S (putAll val (predsOf ops J j) a) j R := hp ▸ h
theorem of_v (l : List Int) (f : Nat → Nat) (hl : Bytes32 l f) (X : Nat) (hX : X = leTo f 32 % 57896044618658097711785492504343953926634992332820282019728792003956564819968 % pp) (w : World) :
  Calls Tryz.prog 73 #[Key l] w fun e w' => e = .returned (El X) ∧ Below w.heap.size w w' := hX ▸ of_any l f hl w
theorem add_v (a b r : Nat) (w : World) (ha : a < pp) (hb : b < pp) (hr : r = (a + b) % pp) : Calls Tryz.prog 96 #[El a, El b] w fun e w' => e = .returned (El r) ∧ Below w.heap.size w w' := hr ▸ add_any a b w ha hb
theorem sub_v (a b r : Nat) (w : World) (ha : a < pp) (hb : b < pp) (hr : r = (a + (pp - b)) % pp) : Calls Tryz.prog 94 #[El a, El b] w fun e w' => e = .returned (El r) ∧ Below w.heap.size w w' := hr ▸ sub_any a b w ha hb
theorem mul_v (a b r : Nat) (w : World) (ha : a < pp) (hb : b < pp) (hr : r = a * b % pp) : Calls Tryz.prog 60 #[El a, El b] w fun e w' => e = .returned (El r) ∧ Below w.heap.size w w' := hr ▸ mul_any a b w ha hb
theorem neg_v (b r : Nat) (w : World) (hb : b < pp) (hr : r = (pp - b) % pp) : Calls Tryz.prog 76 #[El b] w fun e w' => e = .returned (El r) ∧ Below w.heap.size w w' := hr ▸ neg_any b w hb
theorem inv_v (a r : Nat) (w : World) (ha : a < pp) (hr : r = mpow a 57896044618658097711785492504343953926634992332820282019728792003956564819947) : Calls Tryz.prog 59 #[El a] w fun e w' => e = .returned (El r) ∧ Below w.heap.size w w' := hr ▸ invert_any a w ha
theorem bytes_v (a : Nat) (w : World) (ha : a < pp) : Calls Tryz.prog 61 #[El a] w fun e w' => e = .returned (Key (keyOf a)) ∧ Below w.heap.size w w' := bytes_any a w ha
theorem same_v (a b : Nat) (c : Bool) (w : World) (hc : decide (a = b) = c) : Calls Tryz.prog 107 #[El a, El b] w fun e w' => e = .returned (.bool c) ∧ Below w.heap.size w w' := hc ▸ same_any a b w
theorem zero_v (a : Nat) (c : Bool) (w : World) (hc : decide (a = 0) = c) : Calls Tryz.prog 75 #[El a] w fun e w' => e = .returned (.bool c) ∧ Below w.heap.size w w' := hc ▸ zero_any a w
theorem odd_v (a : Nat) (c : Bool) (w : World) (hc : decide (a % 2 = 1) = c) : Calls Tryz.prog 62 #[El a] w fun e w' => e = .returned (.bool c) ∧ Below w.heap.size w w' := hc ▸ odd_any a w
theorem swap_v (s a b x y : Nat) (w : World) (hs : s < 18446744073709551616) (ha : a < pp) (hb : b < pp) (hx : x = swapped s a b) (hy : y = swapped s b a) :
  Calls Tryz.prog 97 #[.int .u64 (s : Int), El a, El b] w fun e w' => e = .returned (.tuple #[El x, El y]) ∧ Below w.heap.size w w' := by
 subst hx hy
 exact swap_any s a b w hs ha hb
set_option maxRecDepth 100000 in
theorem small_v (n r : Nat) (w : World) (hn : n < 4294967296) (hr : r = n) : Calls Tryz.prog 93 #[.int .u32 n] w fun e w' => e = .returned (El r) ∧ Below w.heap.size w w' := by subst hr; exact small_any r w hn
theorem swapped_lt (s a b : Nat) (ha : a < pp) (hb : b < pp) : swapped s a b < pp := by unfold swapped; split <;> assumption
theorem blk_ne {w : World} {g k : Nat} {t u : TypeId} {cs ds : Array Value} (h : Blk w g t cs) (h' : Blk w k u ds) (hn : t ≠ u) : g ≠ k := fun e => by
 subst e
 have := h.symm.trans h'
 simp only [Option.some.injEq, Obj.cells.injEq] at this
 exact hn this.2.1
end Go.Proofs.YtegbnadnodlalaaGreatDoor
namespace Go.Proofs.YtegbnadnodlalaaGreatDoor
open Go.RowKit
section
variable {P : Program} {md : Region.Mode} {ops : Array Oper} {Q : Exit → Act → World → Prop} {S : World → Prop}
def wpAnyS (P : Program) (md : Region.Mode) (ops : Array Oper) (Q : Exit → Act → World → Prop) (S : World → Prop) : Nat → Array Bool → Act → World → Prop
 | 0, listed, a, w => Region.ready md ops listed = [] ∧ Q .normal a w
 | fuel + 1, listed, a, w =>
  (Region.ready md ops listed = [] → Q .normal a w) ∧
  ∀ i ∈ Region.ready md ops listed, wpOp P ops Q i (fun a' w' => S w' ∧ wpAnyS P md ops Q S fuel (listed.setIfInBounds i true) a' w') a w
theorem wpAny_of_S : ∀ (fuel : Nat) (listed : Array Bool) (a : Act) (w : World), wpAnyS P md ops Q S fuel listed a w → wpAny P md ops Q fuel listed a w
 | 0, _, _, _, h => h
 | fuel + 1, _, _, _, h => ⟨h.1, fun i hi => wpOp_mono (fun a' w' h' => wpAny_of_S fuel _ a' w' h'.2) (h.2 i hi)⟩
theorem wpAnyS_first {i : Nat} {oi : Oper} {v : Value} (hi : ops[i]? = some oi) (hsel : ∀ (j : Nat) (o : Oper) cs b, ops[j]? = some o → o.op ≠ .select cs b)
  (hQ : ∀ c a w, Q (.panic c) (a.put oi.dst v) w → Q (.panic c) a w) :
  ∀ (fuel : Nat) (listed : Array Bool) (a : Act) (w : World),
   (∀ j oj, ops[j]? = some oj → j ≠ i → listed.getD j true = false → (∀ e ∈ oj.after, Region.binds md e = true → e.on ≠ i) → oi.apart ops oj = true) →
   i ∈ Region.ready md ops listed → YieldsIf P ops S oi v a → S w →
   wpAnyS P md ops Q S fuel (listed.setIfInBounds i true) (a.put oi.dst v) w → wpAnyS P md ops Q S (fuel + 1) listed a w := by
 intro fuel
 induction fuel with
 | zero =>
  intro listed a w _ hr hy hS H
  refine ⟨fun h => (by rw [h] at hr; cases hr), fun j hj => ?_⟩
  by_cases hji : j = i
  · subst hji; exact hy.wpOp hi hS ⟨hS, H⟩
  ·
   have := ready_mono hj hji
   rw [H.1] at this
   cases this
 | succ fuel ih =>
  intro listed a w hfree hr hy hS H
  refine ⟨fun h => (by rw [h] at hr; cases hr), fun j hj => ?_⟩
  by_cases hji : j = i
  · subst hji; exact hy.wpOp hi hS ⟨hS, H⟩
  ·
   have h1 := H.2 j (ready_mono hj hji)
   obtain ⟨hjun, oj, hoj, hall⟩ := mem_ready.1 hj
   have hnot : ∀ e ∈ oj.after, Region.binds md e = true → e.on ≠ i := fun e he hb heq => by
    have h1 := hall e he hb
    have h0 := (mem_ready.1 hr).1
    rw [heq] at h1
    rcases Nat.lt_or_ge i listed.size with h' | h'
    · simp [h'] at h0 h1; rw [h0] at h1; cases h1
    · simp [Array.getElem?_eq_none h'] at h1
   have h2 := wpOp_putIf hoj (hfree j oj hoj hji hjun hnot) (fun cs b => hsel i oi cs b hi) (fun cs b => hsel j oj cs b hoj) hQ hy h1
   have hfree' : ∀ k ok, ops[k]? = some ok → k ≠ i → (listed.setIfInBounds j true).getD k true = false →
     (∀ e ∈ ok.after, Region.binds md e = true → e.on ≠ i) → oi.apart ops ok = true := fun k ok hk hki hun hno => by
    refine hfree k ok hk hki ?_ hno
    by_cases hjk : j = k
    · subst hjk; exact hjun
    · rw [getD_set_ne true hjk] at hun; exact hun
   refine wpOp_mono (fun a' w' h3 => ⟨h3.2.1, ih (listed.setIfInBounds j true) a' w' hfree' (ready_mono hr (Ne.symm hji)) h3.1 h3.2.1 ?_⟩) h2
   rw [Array.setIfInBounds_comm _ _ hji]
   exact h3.2.2
theorem wpAnyS_takeL (i : Nat) {oi : Oper} {v : Value} {fuel : Nat} {listed : Array Bool} {a : Act} {w : World} (hi : ops.toList[i]? = some oi)
  (hs : Region.noSelect ops = true) (hf : Region.free md ops listed i = true) (hr : (Region.ready md ops listed).contains i = true)
  (hQ : ∀ c a w, Q (.panic c) (a.put oi.dst v) w → Q (.panic c) a w) (hy : YieldsIf P ops S oi v a) (hS : S w)
  (h : wpAnyS P md ops Q S fuel (listed.setIfInBounds i true) (a.put oi.dst v) w) : wpAnyS P md ops Q S (fuel + 1) listed a w :=
 wpAnyS_first (by rw [← hi, Array.getElem?_toList]) (Region.noSelect_spec hs) hQ fuel listed a w (Region.free_spec (by rw [← hi, Array.getElem?_toList]) hf) (by simpa using hr) hy hS h
theorem wpAnyS_one {i : Nat} {fuel : Nat} {listed : Array Bool} {a : Act} {w : World} (hr : Region.ready md ops listed = [i])
  (h : wpOp P ops Q i (fun a' w' => S w' ∧ wpAnyS P md ops Q S fuel (listed.setIfInBounds i true) a' w') a w) : wpAnyS P md ops Q S (fuel + 1) listed a w := by
 refine ⟨fun h0 => ?_, fun j hj => ?_⟩
 ·
  rw [hr] at h0
  cases h0
 ·
  rw [hr, List.mem_singleton] at hj
  subst hj
  exact h
theorem wpAnyS_done {listed : Array Bool} {a : Act} {w : World} (hr : Region.ready md ops listed = []) (h : Q .normal a w) : ∀ fuel, wpAnyS P md ops Q S fuel listed a w
 | 0 => ⟨hr, h⟩
 | _ + 1 => ⟨fun _ => h, by rw [hr]; simp⟩
theorem wp_region_S {id : Nat} {a : Act} {w : World} (hm : P.follows .mixedOrders = true)
  (h : wpAnyS P .any ops Q S ops.size (Array.replicate ops.size false) a w.drew) : (Code.region id ops true).wp P Q a w :=
 wp_region_any hm (wpAny_of_S _ _ _ _ h)
end
end Go.Proofs.YtegbnadnodlalaaGreatDoor
namespace Go.Proofs.YtegbnadnodlalaaGreatDoor.H5
open Go.RowKit
/-- A word of 64 bits turned right. -/
def rr (x n : Nat) : Nat := x * 2 ^ (64 - n) % 18446744073709551616 + x / 2 ^ n
theorem rr_lt (x n : Nat) (hx : x < 18446744073709551616) (h0 : 0 < n) (hn : n < 64) : rr x n < 18446744073709551616 := by
 unfold rr
 have h1 : x / 2 ^ n < 2 ^ (64 - n) := by
  rw [Nat.div_lt_iff_lt_mul (Nat.pow_pos (by decide)), ← Nat.pow_add, show 64 - n + n = 64 by omega]
  exact hx
 have h2 : x * 2 ^ (64 - n) % 18446744073709551616 + 2 ^ (64 - n) ≤ 18446744073709551616 := by
  have e : (18446744073709551616 : Nat) = 2 ^ (64 - n) * 2 ^ n := by rw [← Nat.pow_add, show 64 - n + n = 64 by omega]
  rw [e, Nat.mul_comm x, Nat.mul_mod_mul_left, ← Nat.mul_succ]
  exact Nat.mul_le_mul_left _ (Nat.mod_lt _ (Nat.pow_pos (by decide)))
 omega
theorem and_lt (a b : Nat) (ha : a < 18446744073709551616) : a &&& b < 18446744073709551616 := Nat.lt_of_le_of_lt Nat.and_le_left ha
theorem xor_lt (a b : Nat) (ha : a < 18446744073709551616) (hb : b < 18446744073709551616) : a ^^^ b < 18446744073709551616 := Nat.xor_lt_two_pow (n := 64) ha hb
def ei (e f g : Nat) : Nat := e &&& f ^^^ (18446744073709551615 ^^^ e) &&& g
def ma (a b c : Nat) : Nat := a &&& b ^^^ a &&& c ^^^ b &&& c
theorem wraps_u64x (n : Int) (h₀ : 0 ≤ n) (h₁ : n < 2 ^ 64) : IntKind.u64.wrap n = n := by rw [IntKind.wrap_u64]; omega
theorem or64x (i : Nat) (x y : Int) (hx0 : 0 ≤ x) (hx : x % 2 ^ i = 0) (hx1 : x < 2 ^ 64) (h0 : 0 ≤ y) (h1 : y < 2 ^ i) (hi : (2 : Int) ^ i ≤ 2 ^ 64) : bits .or .u64 x y = x + y :=
 bits_join .u64 64 (by decide) wraps_u64x i x y hx0 hx hx1 h0 h1 (by omega)
theorem or_rr (x n : Nat) (hx : x < 18446744073709551616) (h0 : 0 < n) (hn : n < 64) :
  bits .or .u64 (IntKind.u64.wrap ((x : Int) * 2 ^ (64 - n))) ((x : Int) / 2 ^ n) = ((rr x n : Nat) : Int) := by
 have e1 : IntKind.u64.wrap ((x : Int) * 2 ^ (64 - n)) = ((x * 2 ^ (64 - n) % 18446744073709551616 : Nat) : Int) := by
  rw [IntKind.wrap_u64, Int.natCast_emod, Int.natCast_mul, Int.natCast_pow]
  rfl
 have e2 : (x : Int) / 2 ^ n = ((x / 2 ^ n : Nat) : Int) := by simp
 have h1 : x / 2 ^ n < 2 ^ (64 - n) := by
  rw [Nat.div_lt_iff_lt_mul (Nat.pow_pos (by decide)), ← Nat.pow_add, show 64 - n + n = 64 by omega]
  exact hx
 have h3 : 2 ^ (64 - n) ∣ x * 2 ^ (64 - n) % 18446744073709551616 := by
  rw [Nat.dvd_mod_iff (Nat.pow_dvd_pow 2 (show 64 - n ≤ 64 by omega))]
  exact ⟨x, Nat.mul_comm _ _⟩
 have h4 : x * 2 ^ (64 - n) % 18446744073709551616 < 18446744073709551616 := Nat.mod_lt _ (by decide)
 have h5 : 2 ^ (64 - n) ≤ 2 ^ 64 := Nat.pow_le_pow_right (by decide) (by omega)
 have ep : (2 : Int) ^ (64 - n) = ((2 ^ (64 - n) : Nat) : Int) := by rw [Int.natCast_pow]; rfl
 rw [e1, e2]
 unfold rr
 generalize x * 2 ^ (64 - n) % 18446744073709551616 = A at *
 generalize x / 2 ^ n = D at *
 generalize hP : (2 : Nat) ^ (64 - n) = P at *
 rw [or64x (64 - n) _ _ (by omega) (by rw [ep, ← Int.natCast_emod, Nat.mod_eq_zero_of_dvd h3]; rfl) (by omega) (by omega) (by rw [ep]; omega) (by rw [ep]; omega)]
 omega
set_option maxHeartbeats 1000000 in
theorem right64_any (x n : Nat) (w : World) (hx : x < 18446744073709551616) (h0 : 0 < n) (hn : n < 64) : Calls Tryz.prog 101 #[.int .u64 x, .int .i64 n] w fun e w' => e = .returned (.int .u64 ((rr x n : Nat) : Int)) ∧ w = w' := by
 have hr := or_rr x n hx h0 hn
 have i1 : IntKind.i64.wrap (-(n : Int)) = -(n : Int) := by rw [IntKind.wrap_i64]; omega
 have i2 : IntKind.u64.wrap (-(n : Int)) = ((18446744073709551616 - n : Nat) : Int) := by rw [IntKind.wrap_u64]; omega
 have i3 : bits .and .u64 ((18446744073709551616 - n : Nat) : Int) 63 = ((64 - n : Nat) : Int) := by
  have h := u64_and_nat (18446744073709551616 - n) 63 (by omega) (by omega)
  have e : (18446744073709551616 - n) &&& 63 = (18446744073709551616 - n) % 64 := Nat.and_two_pow_sub_one_eq_mod _ 6
  rw [e] at h
  exact h.trans (by congr 1; omega)
 obtain ⟨s, hs⟩ : ∃ s, s = 64 - n := ⟨_, rfl⟩
 rw [← hs] at i3 hr
 have i4 : IntKind.u64.wrap (64 - (s : Int)) = (n : Int) := by rw [IntKind.wrap_u64]; omega
 have i5 : (0 : Int) ≤ (s : Int) := by omega
 have i6 : min s 64 = s := by omega
 have i7 : min n 64 = n := by omega
 rw [IntKind.wrap_u64] at hr
 have HR := Lib.hid hr
 clear hr hs
 go_enter Tryz.func101, Tryz.ntmps101
 go_wp2
 go_ret
 exact ⟨ret_int HR.out, rfl⟩
set_option maxHeartbeats 1000000 in
theorem either_any (e f g : Nat) (w : World) (he : e < 18446744073709551616) (hf : f < 18446744073709551616) (hg : g < 18446744073709551616) : Calls Tryz.prog 102 #[.int .u64 e, .int .u64 f, .int .u64 g] w fun r w' => r = .returned (.int .u64 ((ei e f g : Nat) : Int)) ∧ w = w' := by
 have lm : (18446744073709551615 : Nat) ^^^ e < 18446744073709551616 := xor_lt _ _ (by decide) he
 have e0 : bits .xor .u64 IntKind.u64.max (e : Int) = ((18446744073709551615 ^^^ e : Nat) : Int) := u64_xor_nat 18446744073709551615 e (by decide) he
 have e1 := u64_and_nat e f he hf
 have e2 := u64_and_nat _ g lm hg
 have e3 := u64_xor_nat _ _ (and_lt e f he) (and_lt _ g lm)
 have E : Hid (bits .xor .u64 (bits .and .u64 (e : Int) (f : Int)) (bits .and .u64 (bits .xor .u64 IntKind.u64.max (e : Int)) (g : Int)) = ((ei e f g : Nat) : Int)) := Lib.hid (by rw [e0, e1, e2, e3]; rfl)
 clear e0 e1 e2 e3 lm
 go_enter Tryz.func102, Tryz.ntmps102
 go_wp2
 go_ret
 exact ⟨ret_int E.out, rfl⟩
set_option maxHeartbeats 1000000 in
theorem majority_any (a b c : Nat) (w : World) (ha : a < 18446744073709551616) (hb : b < 18446744073709551616) (hc : c < 18446744073709551616) : Calls Tryz.prog 103 #[.int .u64 a, .int .u64 b, .int .u64 c] w fun r w' => r = .returned (.int .u64 ((ma a b c : Nat) : Int)) ∧ w = w' := by
 have e1 := u64_and_nat a b ha hb
 have e2 := u64_and_nat a c ha hc
 have e3 := u64_and_nat b c hb hc
 have e4 := u64_xor_nat _ _ (and_lt a b ha) (and_lt a c ha)
 have e5 := u64_xor_nat _ _ (xor_lt _ _ (and_lt a b ha) (and_lt a c ha)) (and_lt b c hb)
 have E : Hid (bits .xor .u64 (bits .xor .u64 (bits .and .u64 (a : Int) (b : Int)) (bits .and .u64 (a : Int) (c : Int))) (bits .and .u64 (b : Int) (c : Int)) = ((ma a b c : Nat) : Int)) := Lib.hid (by rw [e1, e2, e3, e4, e5]; rfl)
 clear e1 e2 e3 e4 e5
 go_enter Tryz.func103, Tryz.ntmps103
 go_wp2
 go_ret
 exact ⟨ret_int E.out, rfl⟩
end Go.Proofs.YtegbnadnodlalaaGreatDoor.H5
