/- What memory holds, as a list of facts that stand over what the program does elsewhere; contracts by value; what a walk that a program prints needs. -/
import Derived.Test.YtjaomgildhiddaaDoorLj
import Derived.Test.YtjaomgildhiddaaDoorLk
import Derived.Deep.Cut
import Derived.Deep.MidRow
namespace Go.Proofs.YtjaomgildhiddaaDoor
open Go.RowKit

/-- Cells that stand in a block, whatever its type: a package's variable. -/
structure Rng (w : World) (g : Nat) (cs : Array Value) : Prop where
  blk : g < w.heap.size
  there : w.rangeAt g 0 cs.toList
theorem Rng.below {w w1 : World} {g : Nat} {cs : Array Value} (h : Rng w g cs) (hb : Below w.heap.size w w1) : Rng w1 g cs :=
  ⟨Nat.lt_of_lt_of_le h.blk hb.size, fun j v hv => (hb.cell (p := ⟨g, 0 + j, none⟩) h.blk).trans (h.there j v hv)⟩
inductive Fact where
  | blk (g : Nat) (t : TypeId) (cs : Array Value)
  | long (v : Value) (V : Nat)
  | rng (g : Nat) (cs : Array Value)
def Fact.at : Fact → World → Prop
  | .blk g t cs, w => Blk w g t cs
  | .long v V, w => LongIs w v V
  | .rng g cs, w => Rng w g cs
def Facts (L : List Fact) (w : World) : Prop := ∀ f ∈ L, f.at w
theorem Fact.at.below {f : Fact} {w w1 : World} (h : f.at w) (hb : Below w.heap.size w w1) : f.at w1 := by
  cases f with
  | blk g t cs => exact Blk.below' h hb
  | long v V => exact LongIs.below h hb
  | rng g cs => exact Rng.below h hb
theorem Facts.below {L : List Fact} {w w1 : World} (h : Facts L w) (hb : Below w.heap.size w w1) : Facts L w1 := fun f hf => (h f hf).below hb
theorem Facts.drew {L : List Fact} {w : World} (h : Facts L w) : Facts L w.drew := h.below (below_drew (Below.refl _ _))
theorem Facts.nil {w : World} : Facts [] w := fun _ h => by cases h
theorem Facts.cons {f : Fact} {L : List Fact} {w : World} (h : f.at w) (hl : Facts L w) : Facts (f :: L) w := fun x hx => by
  rcases List.mem_cons.1 hx with rfl | hx
  · exact h
  · exact hl x hx
theorem Facts.blkAt {L : List Fact} {w : World} (h : Facts L w) (g : Nat) (t : TypeId) (cs : Array Value) (hm : Fact.blk g t cs ∈ L) : Blk w g t cs := h _ hm
theorem Facts.rngAt {L : List Fact} {w : World} (h : Facts L w) (g : Nat) (cs : Array Value) (hm : Fact.rng g cs ∈ L) : Rng w g cs := h _ hm
theorem Facts.longAt {L : List Fact} {w : World} (h : Facts L w) (v : Value) (V : Nat) (hm : Fact.long v V ∈ L) : LongIs w v V := h _ hm

/-- A whole row loaded, named by its value. -/
theorem yieldsIf_load {P : Program} {ops : Array Oper} {L : List Fact} {o : Oper} {a : Act} (hgd : Region.wanted o (yielded ops a.tmps) = true) (ty : TypeId) (x : Operand) (ho : o.op = .load ty x) (g : Nat) (hx : a.eval x = .pointer (some ⟨g, 0, none⟩))
    (t : TypeId) (cs : Array Value) (d : TypeDesc) (hm : Fact.blk g t cs ∈ L) (hu : P.underlying ty = some d) (hd : (match d with | .struct _ | .array _ _ => true | _ => false) = true) (hi : (P.info? ty).map (·.size) = some cs.size) :
    YieldsIf P ops (Facts L) o (.agg cs) a := yieldsIf_row_wanted hgd ty x ho g hx t cs d (fun _ h => h.blkAt g t cs hm) hu hd hi

theorem job_frame {P : Program} {ops : Array Oper} {Q : Exit → Act → World → Prop} {S : World → Prop} {J : List Job} {j : Job} {val : Nat → Value} {a : Act} {R : Value → World → Prop} (J' : List Job) (hp : predsOf ops J j = J') (h : JobAt P ops Q S (putAll val J' a) j R) :
    JobAt P ops Q S (putAll val (predsOf ops J j) a) j R := hp ▸ h

theorem of_v (l : List Int) (f : Nat → Nat) (hl : Bytes32 l f) (X : Nat) (hX : X = leTo f 32 % 57896044618658097711785492504343953926634992332820282019728792003956564819968 % pp) (w : World) :
    Calls Tryd.prog 31 #[Key l] w fun e w' => e = .returned (El X) ∧ Below w.heap.size w w' := hX ▸ of_any l f hl w
theorem add_v (a b r : Nat) (w : World) (ha : a < pp) (hb : b < pp) (hr : r = (a + b) % pp) : Calls Tryd.prog 63 #[El a, El b] w fun e w' => e = .returned (El r) ∧ Below w.heap.size w w' := hr ▸ add_any a b w ha hb
theorem sub_v (a b r : Nat) (w : World) (ha : a < pp) (hb : b < pp) (hr : r = (a + (pp - b)) % pp) : Calls Tryd.prog 56 #[El a, El b] w fun e w' => e = .returned (El r) ∧ Below w.heap.size w w' := hr ▸ sub_any a b w ha hb
theorem mul_v (a b r : Nat) (w : World) (ha : a < pp) (hb : b < pp) (hr : r = a * b % pp) : Calls Tryd.prog 48 #[El a, El b] w fun e w' => e = .returned (El r) ∧ Below w.heap.size w w' := hr ▸ mul_any a b w ha hb
theorem neg_v (b r : Nat) (w : World) (hb : b < pp) (hr : r = (pp - b) % pp) : Calls Tryd.prog 36 #[El b] w fun e w' => e = .returned (El r) ∧ Below w.heap.size w w' := hr ▸ neg_any b w hb
theorem inv_v (a r : Nat) (w : World) (ha : a < pp) (hr : r = mpow a 57896044618658097711785492504343953926634992332820282019728792003956564819947) : Calls Tryd.prog 47 #[El a] w fun e w' => e = .returned (El r) ∧ Below w.heap.size w w' := hr ▸ invert_any a w ha
theorem bytes_v (a : Nat) (w : World) (ha : a < pp) : Calls Tryd.prog 32 #[El a] w fun e w' => e = .returned (Key (keyOf a)) ∧ Below w.heap.size w w' := bytes_any a w ha
theorem same_v (a b : Nat) (c : Bool) (w : World) (hc : decide (a = b) = c) : Calls Tryd.prog 51 #[El a, El b] w fun e w' => e = .returned (.bool c) ∧ Below w.heap.size w w' := hc ▸ same_any a b w
theorem zero_v (a : Nat) (c : Bool) (w : World) (hc : decide (a = 0) = c) : Calls Tryd.prog 34 #[El a] w fun e w' => e = .returned (.bool c) ∧ Below w.heap.size w w' := hc ▸ zero_any a w
theorem odd_v (a : Nat) (c : Bool) (w : World) (hc : decide (a % 2 = 1) = c) : Calls Tryd.prog 35 #[El a] w fun e w' => e = .returned (.bool c) ∧ Below w.heap.size w w' := hc ▸ odd_any a w
theorem swap_v (s a b x y : Nat) (w : World) (hs : s < 18446744073709551616) (ha : a < pp) (hb : b < pp) (hx : x = swapped s a b) (hy : y = swapped s b a) :
    Calls Tryd.prog 64 #[.int .u64 (s : Int), El a, El b] w fun e w' => e = .returned (.tuple #[El x, El y]) ∧ Below w.heap.size w w' := by
  subst hx hy
  exact swap_any s a b w hs ha hb
theorem num_w (n r : Nat) (hn : n < 4294967296) (hr : r = n) (w : World) : Calls Tryd.prog 13 #[.int .u32 n] w (RetL w r) := hr ▸ num_v n hn w
theorem small_v (n r : Nat) (w : World) (hn : n < 4294967296) (hr : r = n) : Calls Tryd.prog 52 #[.int .u32 n] w fun e w' => e = .returned (El r) ∧ Below w.heap.size w w' := hr ▸ small_any n w hn
theorem swapped_lt (s a b : Nat) (ha : a < pp) (hb : b < pp) : swapped s a b < pp := by unfold swapped; split <;> assumption
theorem blk_ne {w : World} {g k : Nat} {t u : TypeId} {cs ds : Array Value} (h : Blk w g t cs) (h' : Blk w k u ds) (hn : t ≠ u) : g ≠ k := fun e => by
  subst e
  have := h.symm.trans h'
  simp only [Option.some.injEq, Obj.cells.injEq] at this
  exact hn this.2.1
theorem key_eq (a b : Nat) (h : a = b) (W : World) : (binOp .eql 23 (.agg (Iv .u8 (keyOf a))) (.agg (Iv .u8 (keyOf b)))).run Tryd.prog W = .ok (.bool true) W := h ▸ eql_key_self a W
theorem zeros_El : #[Value.int .u64 0, .int .u64 0, .int .u64 0, .int .u64 0, .int .u64 0] = El_cells 0 := rfl

end Go.Proofs.YtjaomgildhiddaaDoor
