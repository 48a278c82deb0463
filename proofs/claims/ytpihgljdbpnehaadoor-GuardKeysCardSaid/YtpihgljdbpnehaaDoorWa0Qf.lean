/- GCM's blocks as pairs of words of 64 bits: the program's reckoning against the reference's. A polynomial in two words: the program's plus, timesX, bits: their contracts. The program's product of polynomials: its contract. The program's sum over blocks: its contract. The program's mask: a counter block encrypted; its contract. The program's masked: bytes joined with the stream; its contract (printed by genwh.py). The program's tag: its contract. The program's Seal: its contract (printed by genwj.py). The program's Open: its contract; SealC, OpenC (printed by genwk.py). The program's Seal: its contract (printed by gen13/qf.py). -/
import Derived.Test.YtpihgljdbpnehaaDoorNc0Va
import Derived.Test.YtpihgljdbpnehaaDoorNd0Gf
import Derived.Laws.BitsLemmas
import Derived.Test.YtpihgljdbpnehaaDoorBg0HSj
import Derived.Laws.CopyOwn
import Derived.Test.YtpihgljdbpnehaaDoorKEc0Qc
import Derived.Maps.Range
import Derived.Laws.BytesArg
import Derived.Laws.MakeOwn
import Derived.Test.YtpihgljdbpnehaaDoorLa0Lo
import Derived.Lib.AppendStr
import Derived.Laws.OwnMore
namespace Go.Proofs.YtpihgljdbpnehaaDoor
open Go
/-- Bytes as a number, from place o on, the greatest first. -/
def wB (f : Nat → Nat) (o : Nat) : Nat → Nat
  | 0 => 0
  | n + 1 => wB f o n * 256 + f (o + n)
end Go.Proofs.YtpihgljdbpnehaaDoor
namespace Go.Proofs.YtpihgljdbpnehaaDoor
open Go.RowKit
/-- A polynomial's cells. -/
def pc (a b : Nat) : Array Value := #[.int .u64 (a : Int), .int .u64 (b : Int)]
/-- A polynomial in block g. -/
def PB (w : World) (g : Nat) (a b : Nat) : Prop := Blk w g 119 (pc a b)
theorem PB.c0 {w : World} {g a b : Nat} (h : PB w g a b) : w.cell? ⟨g, 0, none⟩ = some (.int .u64 (a : Int)) := Blk.cell h 0
theorem PB.c1 {w : World} {g a b : Nat} (h : PB w g a b) : w.cell? ⟨g, 1, none⟩ = some (.int .u64 (b : Int)) := Blk.cell h 1
end Go.Proofs.YtpihgljdbpnehaaDoor
namespace Go.Proofs.YtpihgljdbpnehaaDoor
open Go.RowKit
/-- What stands in times. -/
structure TM (w0 : World) (p0 p1 q0 q1 x0 x1 : Nat) (w : World) : Prop where
  p : PB w w0.heap.size p0 p1
  q : PB w (w0.heap.size + 1) q0 q1
  r : PB w (w0.heap.size + 1 + 1) 0 0
  x : PB w (w0.heap.size + 1 + 1 + 1) x0 x1
  bel : Below w0.heap.size w0 w
section
variable {w0 w w1 : World} {p0 p1 q0 q1 x0 x1 : Nat}
theorem TM.below (h : TM w0 p0 p1 q0 q1 x0 x1 w) (c : Below w.heap.size w w1) : TM w0 p0 p1 q0 q1 x0 x1 w1 := ⟨Blk.below' h.p c, Blk.below' h.q c, Blk.below' h.r c, Blk.below' h.x c, h.bel.trans (c.mono h.bel.size)⟩
end
end Go.Proofs.YtpihgljdbpnehaaDoor
namespace Go.Proofs.YtpihgljdbpnehaaDoor
open Go.RowKit
/-- What stands in sum. -/
structure UM (w0 : World) (h y : Nat → Nat) (w : World) : Prop where
  f : PB w w0.heap.size (wB h 0 8) (wB h 8 8)
  r : PB w (w0.heap.size + 1) 0 0
  y : PB w (w0.heap.size + 1 + 1) (wB y 0 8) (wB y 8 8)
  bel : Below w0.heap.size w0 w
section
variable {w0 w w1 : World} {h y : Nat → Nat}
theorem UM.below (H : UM w0 h y w) (c : Below w.heap.size w w1) : UM w0 h y w1 := ⟨Blk.below' H.f c, Blk.below' H.r c, Blk.below' H.y c, H.bel.trans (c.mono H.bel.size)⟩
theorem UM.upto {G : Nat} (H : UM w0 h y w) (c : Below G w w1) (hG : w0.heap.size + 1 + 1 < G) : UM w0 h y w1 := ⟨Eq.trans (c.block _ (by omega)) H.f, Eq.trans (c.block _ (by omega)) H.r, Eq.trans (c.block _ (by omega)) H.y, H.bel.trans (c.mono (by omega))⟩
theorem UM.drew (H : UM w0 h y w) : UM w0 h y w.drew := ⟨H.f.drew, H.r.drew, H.y.drew, below_drew H.bel⟩
theorem UM.lt (H : UM w0 h y w) : w0.heap.size + 1 + 1 < w.heap.size := Blk.lt H.y
end
/-- With the next block. -/
structure UN (w0 : World) (h y nx : Nat → Nat) (G : Nat) (w : World) : Prop where
  m : UM w0 h y w
  n : BB w G nx
section
variable {w0 w w1 : World} {h y nx : Nat → Nat} {G : Nat}
theorem UN.below (H : UN w0 h y nx G w) (c : Below w.heap.size w w1) : UN w0 h y nx G w1 := ⟨H.m.below c, H.n.below c⟩
theorem UN.drew (H : UN w0 h y nx G w) : UN w0 h y nx G w.drew := ⟨H.m.drew, H.n.of_block rfl⟩
end
end Go.Proofs.YtpihgljdbpnehaaDoor
namespace Go.Proofs.YtpihgljdbpnehaaDoor
open Go.RowKit
/-- A sealer's cells: its cipher, its nonce. -/
def sv (gc : Nat) (nn : List Nat) : Array Value := #[Value.iface 86 (.pointer (some ⟨gc, 0, none⟩))] ++ Iv .u8 (NI nn)
/-- What stands in mask. -/
structure KMM (w0 : World) (gc : Nat) (k nn : List Nat) (y : Nat → Nat) (w : World) : Prop where
  c : CI w gc (KM boxL k 11) boxL
  s : Blk w w0.heap.size 91 (sv gc nn)
  r : BB w (w0.heap.size + 1) (fun _ => 0)
  b : BB w (w0.heap.size + 1 + 1) y
  bel : Below w0.heap.size w0 w
  far : gc < w0.heap.size
section
variable {w0 w w1 : World} {gc : Nat} {k nn : List Nat} {y : Nat → Nat}
theorem KMM.below (H : KMM w0 gc k nn y w) (c : Below w.heap.size w w1) : KMM w0 gc k nn y w1 := ⟨H.c.below c, Blk.below' H.s c, Blk.below' H.r c, Blk.below' H.b c, H.bel.trans (c.mono H.bel.size), H.far⟩
theorem KMM.drew (H : KMM w0 gc k nn y w) : KMM w0 gc k nn y w.drew := ⟨H.c.of_block rfl, H.s.drew, H.r.of_block rfl, H.b.of_block rfl, below_drew H.bel, H.far⟩
end
end Go.Proofs.YtpihgljdbpnehaaDoor
namespace Go.Proofs.YtpihgljdbpnehaaDoor
open Go.RowKit
/-- What stands in masked. -/
structure HMM (w : World) (B gc : Nat) (k nn : List Nat) (row : Option Nat) (v out : Value) (bl o : List Nat) (y : Nat → Nat) (wr : World) : Prop where
  c : CI wr gc (KM boxL k 11) boxL
  s : Blk wr w.heap.size 91 (sv gc nn)
  m : BB wr (w.heap.size + 1) y
  b : SB wr v bl
  o : OwL B wr out o
  gr : w.grownBy wr row
  own : out.ownBlock = row ∨ ∃ j, out.ownBlock = some j ∧ w.heap.size + 1 < j
section
variable {w wr w1 : World} {B gc : Nat} {k nn : List Nat} {row : Option Nat} {v out : Value} {bl o : List Nat} {y : Nat → Nat}
theorem HMM.below (H : HMM w B gc k nn row v out bl o y wr) (b : Below wr.heap.size wr w1) : HMM w B gc k nn row v out bl o y w1 :=
  ⟨H.c.below b, Blk.below' H.s b, Blk.below' H.m b, H.b.below b, H.o.below b, H.gr.andThen (row' := none) ⟨b.os, b.tape, b.output, b.size, fun i hi _ => b.block i hi⟩ (fun _ h => by cases h), H.own⟩
theorem HMM.lt (H : HMM w B gc k nn row v out bl o y wr) : w.heap.size + 1 < wr.heap.size := Blk.lt H.m
end
end Go.Proofs.YtpihgljdbpnehaaDoor
namespace Go.Proofs.YtpihgljdbpnehaaDoor
open Go.RowKit
/-- What stands in tag. -/
structure TGM (w0 : World) (gc : Nat) (k nn : List Nat) (w : World) : Prop where
  c : CI w gc (KM boxL k 11) boxL
  s : Blk w w0.heap.size 91 (sv gc nn)
  r : BB w (w0.heap.size + 1) (fun _ => 0)
  bel : Below w0.heap.size w0 w
  far : gc < w0.heap.size
section
variable {w0 w w1 : World} {gc : Nat} {k nn : List Nat}
theorem TGM.below (H : TGM w0 gc k nn w) (c : Below w.heap.size w w1) : TGM w0 gc k nn w1 := ⟨H.c.below c, Blk.below' H.s c, Blk.below' H.r c, H.bel.trans (c.mono H.bel.size), H.far⟩
theorem TGM.drew (H : TGM w0 gc k nn w) : TGM w0 gc k nn w.drew := ⟨H.c.of_block rfl, H.s.drew, H.r.of_block rfl, below_drew H.bel, H.far⟩
theorem TGM.row (H : TGM w0 gc k nn w) {g : Nat} (hg : w0.heap.size + 1 < g) (cs : Array Value) : TGM w0 gc k nn (w.setRow g cs) :=
  have := H.far
  ⟨Blk.rowFar H.c (by omega) _, Blk.rowFar H.s (by omega) _, Blk.rowFar H.r (by omega) _, below_setRow H.bel (by omega) _, H.far⟩
theorem TGM.lt (H : TGM w0 gc k nn w) : w0.heap.size + 1 < w.heap.size := Blk.lt H.r
end
/-- With the factor, and what has come so far. -/
structure TGY (w0 : World) (gc g7 g8 : Nat) (k nn : List Nat) (h0 h1 y0 y1 : Nat) (w : World) : Prop where
  m : TGM w0 gc k nn w
  f : PB w g7 h0 h1
  y : PB w g8 y0 y1
  f7 : w0.heap.size + 1 < g7
  f8 : g7 < g8
section
variable {w0 w w1 : World} {gc g7 g8 : Nat} {k nn : List Nat} {h0 h1 y0 y1 : Nat}
theorem TGY.below (H : TGY w0 gc g7 g8 k nn h0 h1 y0 y1 w) (c : Below w.heap.size w w1) : TGY w0 gc g7 g8 k nn h0 h1 y0 y1 w1 := ⟨H.m.below c, Blk.below' H.f c, Blk.below' H.y c, H.f7, H.f8⟩
theorem TGY.drew (H : TGY w0 gc g7 g8 k nn h0 h1 y0 y1 w) : TGY w0 gc g7 g8 k nn h0 h1 y0 y1 w.drew := ⟨H.m.drew, H.f.drew, H.y.drew, H.f7, H.f8⟩
end
end Go.Proofs.YtpihgljdbpnehaaDoor
namespace Go.Proofs.YtpihgljdbpnehaaDoor
open Go.RowKit
/-- What stands ahead of the sealer. -/
structure SL1 (w0 : World) (k nn : List Nat) (w : World) : Prop where
  k : Blk w w0.heap.size 27 (Iv .u8 (NI k))
  n : Blk w (w0.heap.size + 1) 28 (Iv .u8 (NI nn))
  bel : Below w0.heap.size w0 w
theorem SL1.below {w0 w w1 : World} {k nn : List Nat} (h : SL1 w0 k nn w) (b : Below w.heap.size w w1) : SL1 w0 k nn w1 := ⟨Blk.below' h.k b, Blk.below' h.n b, h.bel.trans (b.mono h.bel.size)⟩
theorem SL1.drew {w0 w : World} {k nn : List Nat} (h : SL1 w0 k nn w) : SL1 w0 k nn w.drew := ⟨h.k.drew, h.n.drew, below_drew h.bel⟩
/-- What stands in Seal and Open. -/
structure SLM (w0 : World) (gc gs : Nat) (k nn : List Nat) (w : World) : Prop where
  c : CI w gc (KM boxL k 11) boxL
  s : Blk w gs 91 (sv gc nn)
  bel : Below w0.heap.size w0 w
  fc : w0.heap.size ≤ gc
  fs : w0.heap.size ≤ gs
section
variable {w0 w w1 : World} {gc gs : Nat} {k nn : List Nat}
theorem SLM.below (h : SLM w0 gc gs k nn w) (b : Below w.heap.size w w1) : SLM w0 gc gs k nn w1 := ⟨h.c.below b, Blk.below' h.s b, h.bel.trans (b.mono h.bel.size), h.fc, h.fs⟩
theorem SLM.drew (h : SLM w0 gc gs k nn w) : SLM w0 gc gs k nn w.drew := ⟨h.c.of_block rfl, h.s.drew, below_drew h.bel, h.fc, h.fs⟩
theorem SLM.size (h : SLM w0 gc gs k nn w) : gc < w.heap.size ∧ gs < w.heap.size := ⟨h.c.lt, Blk.lt h.s⟩
end
end Go.Proofs.YtpihgljdbpnehaaDoor
namespace Go.Proofs.YtpihgljdbpnehaaDoor
open Go.RowKit
theorem BA.range {w : World} {g o : Nat} {l : List Nat} (h : BA w g o l) : w.rangeAt g o (cl l) := fun j v hv => by
  obtain ⟨hj, rfl⟩ := cl_get _ _ _ hv
  rw [h.cell j hj]
  simp [List.getD_eq_getElem?_getD, hj]
end Go.Proofs.YtpihgljdbpnehaaDoor
namespace Go.Proofs.YtpihgljdbpnehaaDoor
open Go.RowKit
theorem iv_vals (l : List Nat) : (Iv .u8 (NI l)).toList = vals l := by simp [Iv, NI, vals]
theorem iv_of (l : List Nat) : (vals l).toArray = Iv .u8 (NI l) := by rw [← iv_vals]
theorem splice_vals (l m : List Nat) (off : Nat) : (splice (vals l) off (vals m)).toArray = Iv .u8 (NI (splice l off m)) := by
  rw [← iv_of]
  congr 1
  simp [splice, vals]
/-- Bytes copied into a row. -/
theorem wp_copy_in {o : Oper} {a : Act} {w : World} {K : Act → World → Prop} {Q : Exit → Act → World → Prop} (d s : Operand) (ho : o.op = .call { callee := .builtin .copy, args := #[d, s], argTypes := #[24, 24] })
    (g off dLen dCap : Nat) (hd : a.eval d = .slice (some ⟨g, off, none⟩) dLen dCap) (v : Value) (m l : List Nat) (t : TypeId) (hs : a.eval s = v) (hm : SB w v m) (hg : Blk w g t (Iv .u8 (NI l))) (hml : m.length ≤ dLen) (hfit : off + dLen ≤ l.length)
    (h : ∀ w', Blk w' g t (Iv .u8 (NI (splice l off m))) → w.grownBy w' (some g) → K (a.put o.dst (goInt m.length)) w') : o.wp Tryd.prog a w K Q := by
  have hu := Tryd.underlying24
  have hsz : (Tryd.prog.info? 5).map (·.size) = some 1 := by kernel_rfl
  have id0 : w.grownBy w (some g) := ⟨rfl, rfl, rfl, Nat.le_refl _, fun _ _ _ => rfl⟩
  obtain ⟨p, c, rfl, hc, h0⟩ := hm
  by_cases e0 : m.length = 0
  · have e1 := List.length_eq_zero_iff.1 e0
    subst e1
    have hrun := run_copy_none (P := Tryd.prog) w 24 24 o.type 5 (some ⟨g, off, none⟩) p dLen dCap ([] : List Nat).length c hu hsz (Nat.min_eq_left (Nat.zero_le _))
    have hK := h w (by simpa [splice] using hg) id0
    unfold Oper.wp
    simp only [execOp, ho, resolve, invoke, builtin, Sem.run_bind, Sem.run_pure, Result.andThen_ok, List.map_toArray, List.map_cons, List.map_nil, hd, hs, hrun]
    exact hK
  · rcases h0 with h1 | ⟨g1, o1, rfl, hA⟩
    · rw [h1] at e0
      exact absurd rfl e0
    · have hrun := run_copy_row (P := Tryd.prog) w 24 24 o.type 5 g off dLen dCap ⟨g1, o1, none⟩ m.length c (Iv .u8 (NI l)) t (vals m) hu hsz hg (by rw [vals_length]; exact (Nat.min_eq_left hml).symm) (cells_at hA) (by rw [vals_length, Iv_size, NI_length]; omega) (one_at m)
      have hK := h (w.setRow g (Iv .u8 (NI (splice l off m)))) (Blk.row hg _) ⟨rfl, rfl, rfl, by simp [World.setRow], fun k _ hk => setRow_other w g k _ (fun e => hk (by rw [e]))⟩
      unfold Oper.wp
      simp only [execOp, ho, resolve, invoke, builtin, Sem.run_bind, Sem.run_pure, Result.andThen_ok, List.map_toArray, List.map_cons, List.map_nil, hd, hs, hrun]
      rw [show ((Iv IntKind.u8 (NI l)).toList.take off ++ vals m ++ (Iv IntKind.u8 (NI l)).toList.drop (off + (vals m).length)).toArray = Iv .u8 (NI (splice l off m)) by rw [iv_vals, List.append_assoc]; exact splice_vals l m off, vals_length]
      exact hK
/-- What stands while a packet is sealed: the keys. -/
structure KV (W : World) (kc : Array Value) (w : World) : Prop where
  ky : Blk w W.heap.size 30 kc
  bel : Below W.heap.size W w
theorem KV.step {W w w' : World} {kc : Array Value} (h : KV W kc w) (b : Below w.heap.size w w') : KV W kc w' := ⟨h.ky.below' b, h.bel.trans (b.mono h.bel.size)⟩
end Go.Proofs.YtpihgljdbpnehaaDoor
