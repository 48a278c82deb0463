/- Small lemmas on memory: a block that is known whole, kept over what the program does elsewhere. -/
import Derived.WalkKit
import Derived.WalkLawsBesides
import Derived.WalkSpells
import Derived.Lib.Hide
import Derived.StillTailTactics
import Derived.Deep.Draws
import Derived.Deep.RegionLaw
import Derived.Deep.DrawnRows
import Derived.Lib.Mul64
namespace Go.Proofs.YtmceebdaaegkeaaDoor
open Go.RowKit

/-- Block g holds just the cells cs, of element type t, none of them frozen. -/
def Blk (w : World) (g : Nat) (t : TypeId) (cs : Array Value) : Prop := w.heap[g]? = some (.cells cs t (0, 0))
section
variable {w w' : World} {g : Nat} {t : TypeId} {cs : Array Value}
theorem Blk.lt (h : Blk w g t cs) : g < w.heap.size := by
  rcases Nat.lt_or_ge g w.heap.size with h1 | h1
  · exact h1
  · unfold Blk at h; rw [Array.getElem?_eq_none h1] at h; cases h
theorem Blk.cell (h : Blk w g t cs) (i : Nat) : w.cell? ⟨g, i, none⟩ = cs[i]? := cell_of_row w g i cs t (0, 0) h
theorem Blk.frozen (h : Blk w g t cs) (i : Nat) : w.frozen? ⟨g, i, none⟩ = false := frozen_of_row w g i cs t h
theorem Blk.new (w : World) (t : TypeId) (cs : Array Value) : Blk (w.alloc (.cells cs t)) w.heap.size t cs := heap_alloc_new w _
theorem Blk.new' {w : World} {g : Nat} (h : g = w.heap.size) (t : TypeId) (cs : Array Value) : Blk (w.alloc (.cells cs t)) g t cs := h ▸ Blk.new w t cs
theorem Blk.alloc (h : Blk w g t cs) (o : Obj) : Blk (w.alloc o) g t cs := (Below.heap_alloc w o g h.lt).trans h
theorem Blk.drew (h : Blk w g t cs) : Blk w.drew g t cs := h
theorem Blk.below {B : Nat} (h : Blk w g t cs) (hb : Below B w w') (hg : g < B) : Blk w' g t cs := (hb.block g hg).trans h
theorem Blk.row (h : Blk w g t cs) (cs' : Array Value) : Blk (w.setRow g cs') g t cs' := setRow_heap w g cs cs' t (0, 0) h
theorem Blk.rowFar (h : Blk w g t cs) {k : Nat} (hk : g ≠ k) (cs' : Array Value) : Blk (w.setRow k cs') g t cs := (setRow_other w k g cs' hk).trans h
theorem Blk.set (h : Blk w g t cs) (i : Nat) (v : Value) : Blk (w.setCell ⟨g, i, none⟩ v) g t (cs.setIfInBounds i v) := heap_setCell_same w g i cs t v h
theorem Blk.far (h : Blk w g t cs) {p : Addr} (hp : g ≠ p.block) (v : Value) : Blk (w.setCell p v) g t cs := (heap_setCell_other w p g v hp).trans h
end
theorem size_alloc (w : World) (o : Obj) : (w.alloc o).heap.size = w.heap.size + 1 := by
  show (w.heap.push o).size = _
  simp
theorem below_setRow {B : Nat} {a w : World} (h : Below B a w) {g : Nat} (hg : B ≤ g) (cs : Array Value) : Below B a (w.setRow g cs) :=
  ⟨h.os, h.tape, h.output, by rw [setRow_size]; exact h.size, fun i hi => (setRow_other w g i cs (by omega)).trans (h.block i hi)⟩
theorem below_drew {B : Nat} {a w : World} (h : Below B a w) : Below B a w.drew := ⟨h.os, h.tape, h.output, h.size, h.block⟩
theorem below_drewN {B : Nat} {a w : World} (h : Below B a w) (n : Nat) : Below B a (w.drewN n) := ⟨h.os, h.tape, h.output, h.size, h.block⟩

def World.set5 (w : World) (g : Nat) (v0 v1 v2 v3 v4 : Value) : World := ((((w.setCell ⟨g, 0, none⟩ v0).setCell ⟨g, 1, none⟩ v1).setCell ⟨g, 2, none⟩ v2).setCell ⟨g, 3, none⟩ v3).setCell ⟨g, 4, none⟩ v4
theorem Blk.set5 {w : World} {g : Nat} {t : TypeId} {a0 a1 a2 a3 a4 : Value} (h : Blk w g t #[a0, a1, a2, a3, a4]) (v0 v1 v2 v3 v4 : Value) : Blk (World.set5 w g v0 v1 v2 v3 v4) g t #[v0, v1, v2, v3, v4] :=
  ((((h.set 0 v0).set 1 v1).set 2 v2).set 3 v3).set 4 v4
theorem Blk.far5 {w : World} {g k : Nat} {t : TypeId} {cs : Array Value} (h : Blk w g t cs) (hk : g ≠ k) (v0 v1 v2 v3 v4 : Value) : Blk (World.set5 w k v0 v1 v2 v3 v4) g t cs :=
  ((((h.far (p := ⟨k, 0, none⟩) hk v0).far (p := ⟨k, 1, none⟩) hk v1).far (p := ⟨k, 2, none⟩) hk v2).far (p := ⟨k, 3, none⟩) hk v3).far (p := ⟨k, 4, none⟩) hk v4
theorem below_set5 {B : Nat} {a w : World} (h : Below B a w) {g : Nat} (hg : B ≤ g) (v0 v1 v2 v3 v4 : Value) : Below B a (World.set5 w g v0 v1 v2 v3 v4) :=
  ((((h.setCell (p := ⟨g, 0, none⟩) hg v0).setCell (p := ⟨g, 1, none⟩) hg v1).setCell (p := ⟨g, 2, none⟩) hg v2).setCell (p := ⟨g, 3, none⟩) hg v3).setCell (p := ⟨g, 4, none⟩) hg v4
theorem results_two {P : Program} {fn : Func} {p q : Tmp} {ty : TypeId} (h : fn.results = #[.cell p ty, .cell q ty]) (tmps : Array Value) (w : World) (g k : Nat) (t u : TypeId) (cs ds : Array Value) (d : TypeDesc)
    (hp : tmps.getD p undef = .pointer (some ⟨g, 0, none⟩)) (hq : tmps.getD q undef = .pointer (some ⟨k, 0, none⟩)) (hg : Blk w g t cs) (hk : Blk w k u ds)
    (hu : P.underlying ty = some d) (hd : (match d with | .struct _ | .array _ _ => true | _ => false) = true) (hi : (P.info? ty).map (·.size) = some cs.size) (hj : (P.info? ty).map (·.size) = some ds.size) :
    (results fn tmps).run P w = .ok (.tuple #[.agg cs, .agg ds]) w := by
  have hp' : tmps[p]?.getD undef = .pointer (some ⟨g, 0, none⟩) := by simpa using hp
  have hq' : tmps[q]?.getD undef = .pointer (some ⟨k, 0, none⟩) := by simpa using hq
  simp [results, h, hp', hq', asAddr, run_loadVar_row w g t ty cs (0, 0) d hg hu hd hi, run_loadVar_row w k u ty ds (0, 0) d hk hu hd hj]

/-- A whole row loaded, a whole row stored, at a step of a region that draws its order. -/
theorem step_load_row {P : Program} {ops : Array Oper} {o : Oper} {a : Act} {w : World} {K : Act → World → Prop} {Q : Exit → Act → World → Prop} {E : Prop} (hgd : o.guard = none) (ty : TypeId) (x : Operand) (ho : o.op = .load ty x)
    (g : Nat) (hx : a.eval x = .pointer (some ⟨g, 0, none⟩)) (t : TypeId) (cs : Array Value) (d : TypeDesc) (hg : Blk w g t cs)
    (hu : P.underlying ty = some d) (hd : (match d with | .struct _ | .array _ _ => true | _ => false) = true) (hi : (P.info? ty).map (·.size) = some cs.size)
    (h : K (a.put o.dst (.agg cs)) w) : if Region.wanted o (yielded ops a.tmps) = true then Oper.wp P o a w K Q else E := by
  have hw : Region.wanted o (yielded ops a.tmps) = true := by simp [Region.wanted, hgd]
  rw [if_pos hw]
  exact wp_load_row ty x ho g hx t cs (0, 0) d hg hu hd hi h
theorem step_store_row {P : Program} {ops : Array Oper} {o : Oper} {a : Act} {w : World} {K : Act → World → Prop} {Q : Exit → Act → World → Prop} {E : Prop} (hgd : o.guard = none) (ty : TypeId) (x y : Operand) (ho : o.op = .store ty x y)
    (g : Nat) (cells : Array Value) (hx : a.eval x = .pointer (some ⟨g, 0, none⟩)) (hy : a.eval y = .agg cells)
    (t : TypeId) (old : Array Value) (hg : Blk w g t old) (hi : (P.info? ty).map (·.size) = some cells.size) (hold : old.size = cells.size) (h1 : cells.all (·.oneCell') = true)
    (h : K (a.put o.dst undef) (w.setRow g cells)) : if Region.wanted o (yielded ops a.tmps) = true then Oper.wp P o a w K Q else E := by
  have hw : Region.wanted o (yielded ops a.tmps) = true := by simp [Region.wanted, hgd]
  rw [if_pos hw]
  exact wp_store_row ty x y ho g cells hx hy t old hg hi hold h1 h

/-- Five cells of memory, one behind the other, that hold five numbers. -/
structure Five (w : World) (b : Nat) (x0 x1 x2 x3 x4 : Int) : Prop where
  c0 : w.cell? ⟨b, 0, none⟩ = some (.int .u64 x0)
  c1 : w.cell? ⟨b, 1, none⟩ = some (.int .u64 x1)
  c2 : w.cell? ⟨b, 2, none⟩ = some (.int .u64 x2)
  c3 : w.cell? ⟨b, 3, none⟩ = some (.int .u64 x3)
  c4 : w.cell? ⟨b, 4, none⟩ = some (.int .u64 x4)
theorem Blk.five {w : World} {g : Nat} {t : TypeId} {x0 x1 x2 x3 x4 : Int} (h : Blk w g t #[.int .u64 x0, .int .u64 x1, .int .u64 x2, .int .u64 x3, .int .u64 x4]) : Five w g x0 x1 x2 x3 x4 :=
  ⟨h.cell 0, h.cell 1, h.cell 2, h.cell 3, h.cell 4⟩



end Go.Proofs.YtmceebdaaegkeaaDoor
/- Plain arithmetic of the field: five parts of 51 bits, masks, joins; nothing of the program is named here. -/
namespace Go.Proofs.YtmceebdaaegkeaaDoor
open Go.RowKit

/-- The prime 2^255 - 19. -/
def pp : Nat := 57896044618658097711785492504343953926634992332820282019728792003956564819949
theorem pp_eq : pp = 57896044618658097711785492504343953926634992332820282019728792003956564819949 := rfl
theorem pp_pos : 0 < pp := by rw [pp_eq]; decide

theorem and51 (x : Int) (h0 : 0 ≤ x) (h1 : x < 18446744073709551616) : bits .and .u64 x 2251799813685247 = x % 2251799813685248 := by
  obtain ⟨n, rfl⟩ := Int.eq_ofNat_of_zero_le h0
  have h := bits_and_u64_nat n 2251799813685247 (by omega) (by omega)
  have e : n &&& 2251799813685247 = n % 2251799813685248 := Nat.and_two_pow_sub_one_eq_mod n 51
  rw [e] at h
  exact h

theorem wraps_u64 (n : Int) (h₀ : 0 ≤ n) (h₁ : n < 2 ^ 64) : IntKind.u64.wrap n = n := by rw [IntKind.wrap_u64]; omega
/-- 'x | y' where y stands below all of x's bits. -/
theorem or64 (i : Nat) (x y : Int) (hx0 : 0 ≤ x) (hx : x % 2 ^ i = 0) (hx1 : x < 2 ^ 64) (h0 : 0 ≤ y) (h1 : y < 2 ^ i) (hi : (2 : Int) ^ i ≤ 2 ^ 64) : bits .or .u64 x y = x + y :=
  bits_join .u64 64 (by decide) wraps_u64 i x y hx0 hx hx1 h0 h1 (by omega)
theorem or_comm64 (x y : Int) : bits .or .u64 x y = bits .or .u64 y x := by simp only [bits, BitVec.or_comm]

/-- The number of five parts. -/
def val5 (a b c d e : Int) : Int := a + 2251799813685248 * b + 5070602400912917605986812821504 * c + 11417981541647679048466287755595961091061972992 * d + 25711008708143844408671393477458601640355247900524685364822016 * e

/-- A number as the code keeps it: five parts of 51 bits. -/
def El_cells (n : Nat) : Array Value := #[.int .u64 ((n : Int) % 2251799813685248), .int .u64 ((n : Int) / 2251799813685248 % 2251799813685248), .int .u64 ((n : Int) / 5070602400912917605986812821504 % 2251799813685248),
  .int .u64 ((n : Int) / 11417981541647679048466287755595961091061972992 % 2251799813685248), .int .u64 ((n : Int) / 25711008708143844408671393477458601640355247900524685364822016)]
def El (n : Nat) : Value := .agg (El_cells n)
theorem El_of (n : Nat) (a b c d e : Int) (h : (n : Int) = val5 a b c d e) (a0 : 0 ≤ a) (a1 : a < 2251799813685248) (b0 : 0 ≤ b) (b1 : b < 2251799813685248) (c0 : 0 ≤ c) (c1 : c < 2251799813685248) (d0 : 0 ≤ d) (d1 : d < 2251799813685248) :
    Value.agg #[.int .u64 a, .int .u64 b, .int .u64 c, .int .u64 d, .int .u64 e] = El n := by
  unfold val5 at h
  have e0 : (n : Int) % 2251799813685248 = a := by omega
  have e1 : (n : Int) / 2251799813685248 % 2251799813685248 = b := by omega
  have e2 : (n : Int) / 5070602400912917605986812821504 % 2251799813685248 = c := by omega
  have e3 : (n : Int) / 11417981541647679048466287755595961091061972992 % 2251799813685248 = d := by omega
  have e4 : (n : Int) / 25711008708143844408671393477458601640355247900524685364822016 = e := by omega
  unfold El El_cells
  rw [e0, e1, e2, e3, e4]

/-- The carries of five parts, and what is above them all. -/
theorem carry5 (a b c d e : Int) :
    val5 a b c d e = val5 (a % 2251799813685248) ((b + a / 2251799813685248) % 2251799813685248) ((c + (b + a / 2251799813685248) / 2251799813685248) % 2251799813685248)
      ((d + (c + (b + a / 2251799813685248) / 2251799813685248) / 2251799813685248) % 2251799813685248) ((e + (d + (c + (b + a / 2251799813685248) / 2251799813685248) / 2251799813685248) / 2251799813685248) % 2251799813685248)
      + 57896044618658097711785492504343953926634992332820282019728792003956564819968 * ((e + (d + (c + (b + a / 2251799813685248) / 2251799813685248) / 2251799813685248) / 2251799813685248) / 2251799813685248) := by
  unfold val5
  omega

theorem val5_bd (a b c d e : Int) (a0 : 0 ≤ a) (a1 : a < 2251799813685248) (b0 : 0 ≤ b) (b1 : b < 2251799813685248) (c0 : 0 ≤ c) (c1 : c < 2251799813685248) (d0 : 0 ≤ d) (d1 : d < 2251799813685248) (e0 : 0 ≤ e) (e1 : e < 2251799813685248) :
    0 ≤ val5 a b c d e ∧ val5 a b c d e < 57896044618658097711785492504343953926634992332820282019728792003956564819968 := by
  unfold val5; omega
theorem val5_add (a b c d e x : Int) : val5 (a + x) b c d e = val5 a b c d e + x := by unfold val5; omega
theorem reduce_num (n Q R S ab ac ad : Int) (e1 : n = Q + 57896044618658097711785492504343953926634992332820282019728792003956564819968 * ab)
    (e2 : Q + 19 * ab + 19 = R + 57896044618658097711785492504343953926634992332820282019728792003956564819968 * ac) (e3 : Q + 19 * ab + 19 * ac = S + 57896044618658097711785492504343953926634992332820282019728792003956564819968 * ad)
    (q0 : 0 ≤ Q) (q1 : Q < 57896044618658097711785492504343953926634992332820282019728792003956564819968) (r0 : 0 ≤ R) (r1 : R < 57896044618658097711785492504343953926634992332820282019728792003956564819968)
    (s0 : 0 ≤ S) (s1 : S < 57896044618658097711785492504343953926634992332820282019728792003956564819968) (a0 : 0 ≤ ab) (a1 : ab < 8192) (_c0 : 0 ≤ ac) (_d0 : 0 ≤ ad) :
    n % 57896044618658097711785492504343953926634992332820282019728792003956564819949 = S := by
  have hc : ac = 0 ∨ ac = 1 := by omega
  have hd : ad = ac := by rcases hc with rfl | rfl <;> omega
  subst hd
  have hS : S < 57896044618658097711785492504343953926634992332820282019728792003956564819949 := by rcases hc with rfl | rfl <;> omega
  have hn : n = S + 57896044618658097711785492504343953926634992332820282019728792003956564819949 * (ab + ad) := by omega
  rw [hn, Int.add_mul_emod_self_left]
  exact Int.emod_eq_of_lt s0 hS

theorem mul_expand (x0 x1 x2 x3 x4 y0 y1 y2 y3 y4 K : Int) :
   (x0 + K * x1 + K^2 * x2 + K^3 * x3 + K^4 * x4) * (y0 + K * y1 + K^2 * y2 + K^3 * y3 + K^4 * y4) =
    x0*y0 + K * (x0*y1 + x1*y0) + K^2 * (x0*y2 + x1*y1 + x2*y0) + K^3 * (x0*y3+x1*y2+x2*y1+x3*y0) + K^4 * (x0*y4+x1*y3+x2*y2+x3*y1+x4*y0)
   + K^5 * (x1*y4+x2*y3+x3*y2+x4*y1) + K^6 * (x2*y4+x3*y3+x4*y2) + K^7*(x3*y4+x4*y3) + K^8 * (x4*y4) := by
  grind
theorem mul_num (x0 x1 x2 x3 x4 y0 y1 y2 y3 y4 l0 l1 l2 l3 l4 c0 c1 c2 c3 c4 : Int)
  (h0 : x0*y0 + x1*(19*y4) + x2*(19*y3) + x3*(19*y2)+x4*(19*y1) = l0 + 2251799813685248 * c0)
  (h1 : c0 + x0*y1 + x1*y0 + x2*(19*y4) + x3*(19*y3)+x4*(19*y2) = l1 + 2251799813685248 * c1)
  (h2 : c1 + x0*y2 + x1*y1 + x2*y0 + x3*(19*y4)+x4*(19*y3) = l2 + 2251799813685248 * c2)
  (h3 : c2 + x0*y3 + x1*y2 + x2*y1 + x3*y0+x4*(19*y4) = l3 + 2251799813685248 * c3)
  (h4 : c3 + x0*y4 + x1*y3 + x2*y2 + x3*y1+x4*y0 = l4 + 2251799813685248 * c4) :
  val5 x0 x1 x2 x3 x4 * val5 y0 y1 y2 y3 y4 = val5 (l0 + 19 * c4) l1 l2 l3 l4 + 57896044618658097711785492504343953926634992332820282019728792003956564819949 * (c4 + x1*y4+x2*y3+x3*y2+x4*y1 + 2251799813685248 * (x2*y4+x3*y3+x4*y2) + 5070602400912917605986812821504 *(x3*y4+x4*y3) + 11417981541647679048466287755595961091061972992*(x4*y4)) := by
  have e := mul_expand x0 x1 x2 x3 x4 y0 y1 y2 y3 y4 2251799813685248
  unfold val5
  simp only [Int.reducePow] at e
  rw [e]
  simp only [show ∀ a b : Int, a * (19 * b) = 19 * (a * b) by intro a b; rw [Int.mul_left_comm]] at h0 h1 h2 h3
  generalize x0*y0 = p00 at *
  generalize x0*y1 = p01 at *
  generalize x0*y2 = p02 at *
  generalize x0*y3 = p03 at *
  generalize x0*y4 = p04 at *
  generalize x1*y0 = p10 at *
  generalize x1*y1 = p11 at *
  generalize x1*y2 = p12 at *
  generalize x1*y3 = p13 at *
  generalize x1*y4 = p14 at *
  generalize x2*y0 = p20 at *
  generalize x2*y1 = p21 at *
  generalize x2*y2 = p22 at *
  generalize x2*y3 = p23 at *
  generalize x2*y4 = p24 at *
  generalize x3*y0 = p30 at *
  generalize x3*y1 = p31 at *
  generalize x3*y2 = p32 at *
  generalize x3*y3 = p33 at *
  generalize x3*y4 = p34 at *
  generalize x4*y0 = p40 at *
  generalize x4*y1 = p41 at *
  generalize x4*y2 = p42 at *
  generalize x4*y3 = p43 at *
  generalize x4*y4 = p44 at *
  clear e
  omega


end Go.Proofs.YtmceebdaaegkeaaDoor
