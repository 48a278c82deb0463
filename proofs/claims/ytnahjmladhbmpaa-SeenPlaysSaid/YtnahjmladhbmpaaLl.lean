/- What memory holds, as a list of facts that stand over what the program does elsewhere; contracts by value; what a walk that a program prints needs. -/
import Derived.Test.YtnahjmladhbmpaaLk
import Derived.Test.YtnahjmladhbmpaaLf
import Derived.Deep.Cut
import Derived.Deep.MidRow
namespace Go.Proofs.Ytnahjmladhbmpaa
open Go.RowKit

/-- Cells that stand in a block, whatever its type: a package's variable. -/
structure Rng (w : World) (g : Nat) (cs : Array Value) : Prop where
  blk : g < w.heap.size
  there : w.rangeAt g 0 cs.toList
theorem Rng.below {w w1 : World} {g : Nat} {cs : Array Value} (h : Rng w g cs) (hb : Below w.heap.size w w1) : Rng w1 g cs :=
  ⟨Nat.lt_of_lt_of_le h.blk hb.size, fun j v hv => (hb.cell (p := ⟨g, 0 + j, none⟩) h.blk).trans (h.there j v hv)⟩
inductive Fact where
  | blk (g : Nat) (t : TypeId) (cs : Array Value)
  | rng (g : Nat) (cs : Array Value)
  | bel (w0 : World)
def Fact.at : Fact → World → Prop
  | .blk g t cs, w => Blk w g t cs
  | .rng g cs, w => Rng w g cs
  | .bel w0, w => Below w0.heap.size w0 w
def Facts (L : List Fact) (w : World) : Prop := ∀ f ∈ L, f.at w
theorem Fact.at.below {f : Fact} {w w1 : World} (h : f.at w) (hb : Below w.heap.size w w1) : f.at w1 := by
  cases f with
  | blk g t cs => exact Blk.below' h hb
  | rng g cs => exact Rng.below h hb
  | bel w0 => exact Below.trans h (hb.mono (Below.size h))
theorem Facts.below {L : List Fact} {w w1 : World} (h : Facts L w) (hb : Below w.heap.size w w1) : Facts L w1 := fun f hf => (h f hf).below hb
theorem Facts.drew {L : List Fact} {w : World} (h : Facts L w) : Facts L w.drew := h.below (below_drew (Below.refl _ _))
theorem Facts.nil {w : World} : Facts [] w := fun _ h => by cases h
theorem Facts.cons {f : Fact} {L : List Fact} {w : World} (h : f.at w) (hl : Facts L w) : Facts (f :: L) w := fun x hx => by
  rcases List.mem_cons.1 hx with rfl | hx
  · exact h
  · exact hl x hx
theorem Facts.blkAt {L : List Fact} {w : World} (h : Facts L w) (g : Nat) (t : TypeId) (cs : Array Value) (hm : Fact.blk g t cs ∈ L) : Blk w g t cs := h _ hm
theorem Facts.rngAt {L : List Fact} {w : World} (h : Facts L w) (g : Nat) (cs : Array Value) (hm : Fact.rng g cs ∈ L) : Rng w g cs := h _ hm
theorem Facts.belAt {L : List Fact} {w : World} (h : Facts L w) (w0 : World) (hm : Fact.bel w0 ∈ L) : Below w0.heap.size w0 w := h _ hm

/-- A whole row loaded, named by its value. -/
theorem yieldsIf_load {P : Program} {ops : Array Oper} {L : List Fact} {o : Oper} {a : Act} (hgd : Region.wanted o (yielded ops a.tmps) = true) (ty : TypeId) (x : Operand) (ho : o.op = .load ty x) (g : Nat) (hx : a.eval x = .pointer (some ⟨g, 0, none⟩))
    (t : TypeId) (cs : Array Value) (d : TypeDesc) (hm : Fact.blk g t cs ∈ L) (hu : P.underlying ty = some d) (hd : (match d with | .struct _ | .array _ _ => true | _ => false) = true) (hi : (P.info? ty).map (·.size) = some cs.size) :
    YieldsIf P ops (Facts L) o (.agg cs) a := yieldsIf_row_wanted hgd ty x ho g hx t cs d (fun _ h => h.blkAt g t cs hm) hu hd hi

theorem job_frame {P : Program} {ops : Array Oper} {Q : Exit → Act → World → Prop} {S : World → Prop} {J : List Job} {j : Job} {val : Nat → Value} {a : Act} {R : Value → World → Prop} (J' : List Job) (hp : predsOf ops J j = J') (h : JobAt P ops Q S (putAll val J' a) j R) :
    JobAt P ops Q S (putAll val (predsOf ops J j) a) j R := hp ▸ h

theorem blk_ne {w : World} {g k : Nat} {t u : TypeId} {cs ds : Array Value} (h : Blk w g t cs) (h' : Blk w k u ds) (hn : t ≠ u) : g ≠ k := fun e => by
  subst e
  have := h.symm.trans h'
  simp only [Option.some.injEq, Obj.cells.injEq] at this
  exact hn this.2.1

end Go.Proofs.Ytnahjmladhbmpaa
