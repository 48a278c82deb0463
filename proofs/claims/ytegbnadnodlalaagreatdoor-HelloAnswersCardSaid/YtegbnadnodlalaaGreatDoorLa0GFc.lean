/- Small lemmas on memory: a block that is known whole, kept over what the program does elsewhere. Plain arithmetic of the field: five parts of 51 bits, masks, joins; nothing of the program is named here. Contracts of math/bits.Mul64, Add64 and of field.plus, carried, row, reduce: they turn no memory but what they make. The contract of field.reduce: five parts below 2^63 become the Element of their number modulo 2^255 - 19; nothing that was there turns. -/
import Derived.WalkKit
import Derived.WalkLawsBesides
import Derived.WalkSpells
import Derived.Lib.Hide
import Derived.StillTailTactics
import Derived.Deep.Draws
import Derived.Deep.RegionLaw
import Derived.Deep.DrawnRows
import Derived.Lib.Mul64
import Derived.Test.YtegbnadnodlalaaGreatDoorProg
namespace Go.Proofs.YtegbnadnodlalaaGreatDoor
open Go.RowKit
/-- Block g holds just the cells cs, of element type t, none of them frozen. -/
def Blk (w : World) (g : Nat) (t : TypeId) (cs : Array Value) : Prop := w.heap[g]? = some (.cells cs t (0, 0))
section
variable {w w' : World} {g : Nat} {t : TypeId} {cs : Array Value}
theorem Blk.lt (h : Blk w g t cs) : g < w.heap.size := by
  rcases Nat.lt_or_ge g w.heap.size with h1 | h1
  · exact h1
  · unfold Blk at h; rw [Array.getElem?_eq_none h1] at h; cases h
theorem Blk.cell (h : Blk w g t cs) (i : Nat) : w.cell? ⟨g, i, none⟩ = cs[i]? := cell_of_row w g i cs t (0, 0) h
theorem Blk.frozen (h : Blk w g t cs) (i : Nat) : w.frozen? ⟨g, i, none⟩ = false := frozen_of_row w g i cs t h
theorem Blk.new (w : World) (t : TypeId) (cs : Array Value) : Blk (w.alloc (.cells cs t)) w.heap.size t cs := heap_alloc_new w _
theorem Blk.new' {w : World} {g : Nat} (h : g = w.heap.size) (t : TypeId) (cs : Array Value) : Blk (w.alloc (.cells cs t)) g t cs := h ▸ Blk.new w t cs
theorem Blk.alloc (h : Blk w g t cs) (o : Obj) : Blk (w.alloc o) g t cs := (Below.heap_alloc w o g h.lt).trans h
theorem Blk.drew (h : Blk w g t cs) : Blk w.drew g t cs := h
theorem Blk.below {B : Nat} (h : Blk w g t cs) (hb : Below B w w') (hg : g < B) : Blk w' g t cs := (hb.block g hg).trans h
theorem Blk.row (h : Blk w g t cs) (cs' : Array Value) : Blk (w.setRow g cs') g t cs' := setRow_heap w g cs cs' t (0, 0) h
theorem Blk.rowFar (h : Blk w g t cs) {k : Nat} (hk : g ≠ k) (cs' : Array Value) : Blk (w.setRow k cs') g t cs := (setRow_other w k g cs' hk).trans h
theorem Blk.set (h : Blk w g t cs) (i : Nat) (v : Value) : Blk (w.setCell ⟨g, i, none⟩ v) g t (cs.setIfInBounds i v) := heap_setCell_same w g i cs t v h
theorem Blk.far (h : Blk w g t cs) {p : Addr} (hp : g ≠ p.block) (v : Value) : Blk (w.setCell p v) g t cs := (heap_setCell_other w p g v hp).trans h
end
theorem size_alloc (w : World) (o : Obj) : (w.alloc o).heap.size = w.heap.size + 1 := by
  show (w.heap.push o).size = _
  simp
theorem below_setRow {B : Nat} {a w : World} (h : Below B a w) {g : Nat} (hg : B ≤ g) (cs : Array Value) : Below B a (w.setRow g cs) :=
  ⟨h.os, h.tape, h.output, by rw [setRow_size]; exact h.size, fun i hi => (setRow_other w g i cs (by omega)).trans (h.block i hi)⟩
theorem below_drew {B : Nat} {a w : World} (h : Below B a w) : Below B a w.drew := ⟨h.os, h.tape, h.output, h.size, h.block⟩
theorem below_drewN {B : Nat} {a w : World} (h : Below B a w) (n : Nat) : Below B a (w.drewN n) := ⟨h.os, h.tape, h.output, h.size, h.block⟩
def World.set5 (w : World) (g : Nat) (v0 v1 v2 v3 v4 : Value) : World := ((((w.setCell ⟨g, 0, none⟩ v0).setCell ⟨g, 1, none⟩ v1).setCell ⟨g, 2, none⟩ v2).setCell ⟨g, 3, none⟩ v3).setCell ⟨g, 4, none⟩ v4
theorem Blk.set5 {w : World} {g : Nat} {t : TypeId} {a0 a1 a2 a3 a4 : Value} (h : Blk w g t #[a0, a1, a2, a3, a4]) (v0 v1 v2 v3 v4 : Value) : Blk (World.set5 w g v0 v1 v2 v3 v4) g t #[v0, v1, v2, v3, v4] :=
  ((((h.set 0 v0).set 1 v1).set 2 v2).set 3 v3).set 4 v4
theorem Blk.far5 {w : World} {g k : Nat} {t : TypeId} {cs : Array Value} (h : Blk w g t cs) (hk : g ≠ k) (v0 v1 v2 v3 v4 : Value) : Blk (World.set5 w k v0 v1 v2 v3 v4) g t cs :=
  ((((h.far (p := ⟨k, 0, none⟩) hk v0).far (p := ⟨k, 1, none⟩) hk v1).far (p := ⟨k, 2, none⟩) hk v2).far (p := ⟨k, 3, none⟩) hk v3).far (p := ⟨k, 4, none⟩) hk v4
theorem below_set5 {B : Nat} {a w : World} (h : Below B a w) {g : Nat} (hg : B ≤ g) (v0 v1 v2 v3 v4 : Value) : Below B a (World.set5 w g v0 v1 v2 v3 v4) :=
  ((((h.setCell (p := ⟨g, 0, none⟩) hg v0).setCell (p := ⟨g, 1, none⟩) hg v1).setCell (p := ⟨g, 2, none⟩) hg v2).setCell (p := ⟨g, 3, none⟩) hg v3).setCell (p := ⟨g, 4, none⟩) hg v4
theorem results_two {P : Program} {fn : Func} {p q : Tmp} {ty : TypeId} (h : fn.results = #[.cell p ty, .cell q ty]) (tmps : Array Value) (w : World) (g k : Nat) (t u : TypeId) (cs ds : Array Value) (d : TypeDesc)
    (hp : tmps.getD p undef = .pointer (some ⟨g, 0, none⟩)) (hq : tmps.getD q undef = .pointer (some ⟨k, 0, none⟩)) (hg : Blk w g t cs) (hk : Blk w k u ds)
    (hu : P.underlying ty = some d) (hd : (match d with | .struct _ | .array _ _ => true | _ => false) = true) (hi : (P.info? ty).map (·.size) = some cs.size) (hj : (P.info? ty).map (·.size) = some ds.size) :
    (results fn tmps).run P w = .ok (.tuple #[.agg cs, .agg ds]) w := by
  have hp' : tmps[p]?.getD undef = .pointer (some ⟨g, 0, none⟩) := by simpa using hp
  have hq' : tmps[q]?.getD undef = .pointer (some ⟨k, 0, none⟩) := by simpa using hq
  simp [results, h, hp', hq', asAddr, run_loadVar_row w g t ty cs (0, 0) d hg hu hd hi, run_loadVar_row w k u ty ds (0, 0) d hk hu hd hj]
/-- Five cells of memory, one behind the other, that hold five numbers. -/
structure Five (w : World) (b : Nat) (x0 x1 x2 x3 x4 : Int) : Prop where
  c0 : w.cell? ⟨b, 0, none⟩ = some (.int .u64 x0)
  c1 : w.cell? ⟨b, 1, none⟩ = some (.int .u64 x1)
  c2 : w.cell? ⟨b, 2, none⟩ = some (.int .u64 x2)
  c3 : w.cell? ⟨b, 3, none⟩ = some (.int .u64 x3)
  c4 : w.cell? ⟨b, 4, none⟩ = some (.int .u64 x4)
theorem Blk.five {w : World} {g : Nat} {t : TypeId} {x0 x1 x2 x3 x4 : Int} (h : Blk w g t #[.int .u64 x0, .int .u64 x1, .int .u64 x2, .int .u64 x3, .int .u64 x4]) : Five w g x0 x1 x2 x3 x4 :=
  ⟨h.cell 0, h.cell 1, h.cell 2, h.cell 3, h.cell 4⟩
end Go.Proofs.YtegbnadnodlalaaGreatDoor
namespace Go.Proofs.YtegbnadnodlalaaGreatDoor
open Go.RowKit
/-- The prime 2^255 - 19. -/
def pp : Nat := 57896044618658097711785492504343953926634992332820282019728792003956564819949
theorem pp_eq : pp = 57896044618658097711785492504343953926634992332820282019728792003956564819949 := rfl
theorem pp_pos : 0 < pp := by rw [pp_eq]; decide
theorem and51 (x : Int) (h0 : 0 ≤ x) (h1 : x < 18446744073709551616) : bits .and .u64 x 2251799813685247 = x % 2251799813685248 := by
  obtain ⟨n, rfl⟩ := Int.eq_ofNat_of_zero_le h0
  have h := bits_and_u64_nat n 2251799813685247 (by omega) (by omega)
  have e : n &&& 2251799813685247 = n % 2251799813685248 := Nat.and_two_pow_sub_one_eq_mod n 51
  rw [e] at h
  exact h
theorem wraps_u64 (n : Int) (h₀ : 0 ≤ n) (h₁ : n < 2 ^ 64) : IntKind.u64.wrap n = n := by rw [IntKind.wrap_u64]; omega
/-- 'x | y' where y stands below all of x's bits. -/
theorem or64 (i : Nat) (x y : Int) (hx0 : 0 ≤ x) (hx : x % 2 ^ i = 0) (hx1 : x < 2 ^ 64) (h0 : 0 ≤ y) (h1 : y < 2 ^ i) (hi : (2 : Int) ^ i ≤ 2 ^ 64) : bits .or .u64 x y = x + y :=
  bits_join .u64 64 (by decide) wraps_u64 i x y hx0 hx hx1 h0 h1 (by omega)
theorem or_comm64 (x y : Int) : bits .or .u64 x y = bits .or .u64 y x := by simp only [bits, BitVec.or_comm]
/-- The number of five parts. -/
def val5 (a b c d e : Int) : Int := a + 2251799813685248 * b + 5070602400912917605986812821504 * c + 11417981541647679048466287755595961091061972992 * d + 25711008708143844408671393477458601640355247900524685364822016 * e
/-- A number as the code keeps it: five parts of 51 bits. -/
def El_cells (n : Nat) : Array Value := #[.int .u64 ((n : Int) % 2251799813685248), .int .u64 ((n : Int) / 2251799813685248 % 2251799813685248), .int .u64 ((n : Int) / 5070602400912917605986812821504 % 2251799813685248),
  .int .u64 ((n : Int) / 11417981541647679048466287755595961091061972992 % 2251799813685248), .int .u64 ((n : Int) / 25711008708143844408671393477458601640355247900524685364822016)]
def El (n : Nat) : Value := .agg (El_cells n)
theorem El_of (n : Nat) (a b c d e : Int) (h : (n : Int) = val5 a b c d e) (a0 : 0 ≤ a) (a1 : a < 2251799813685248) (b0 : 0 ≤ b) (b1 : b < 2251799813685248) (c0 : 0 ≤ c) (c1 : c < 2251799813685248) (d0 : 0 ≤ d) (d1 : d < 2251799813685248) :
    Value.agg #[.int .u64 a, .int .u64 b, .int .u64 c, .int .u64 d, .int .u64 e] = El n := by
  unfold val5 at h
  have e0 : (n : Int) % 2251799813685248 = a := by omega
  have e1 : (n : Int) / 2251799813685248 % 2251799813685248 = b := by omega
  have e2 : (n : Int) / 5070602400912917605986812821504 % 2251799813685248 = c := by omega
  have e3 : (n : Int) / 11417981541647679048466287755595961091061972992 % 2251799813685248 = d := by omega
  have e4 : (n : Int) / 25711008708143844408671393477458601640355247900524685364822016 = e := by omega
  unfold El El_cells
  rw [e0, e1, e2, e3, e4]
/-- The carries of five parts, and what is above them all. -/
theorem carry5 (a b c d e : Int) :
    val5 a b c d e = val5 (a % 2251799813685248) ((b + a / 2251799813685248) % 2251799813685248) ((c + (b + a / 2251799813685248) / 2251799813685248) % 2251799813685248)
      ((d + (c + (b + a / 2251799813685248) / 2251799813685248) / 2251799813685248) % 2251799813685248) ((e + (d + (c + (b + a / 2251799813685248) / 2251799813685248) / 2251799813685248) / 2251799813685248) % 2251799813685248)
      + 57896044618658097711785492504343953926634992332820282019728792003956564819968 * ((e + (d + (c + (b + a / 2251799813685248) / 2251799813685248) / 2251799813685248) / 2251799813685248) / 2251799813685248) := by
  unfold val5
  omega
theorem val5_bd (a b c d e : Int) (a0 : 0 ≤ a) (a1 : a < 2251799813685248) (b0 : 0 ≤ b) (b1 : b < 2251799813685248) (c0 : 0 ≤ c) (c1 : c < 2251799813685248) (d0 : 0 ≤ d) (d1 : d < 2251799813685248) (e0 : 0 ≤ e) (e1 : e < 2251799813685248) :
    0 ≤ val5 a b c d e ∧ val5 a b c d e < 57896044618658097711785492504343953926634992332820282019728792003956564819968 := by
  unfold val5; omega
theorem val5_add (a b c d e x : Int) : val5 (a + x) b c d e = val5 a b c d e + x := by unfold val5; omega
theorem reduce_num (n Q R S ab ac ad : Int) (e1 : n = Q + 57896044618658097711785492504343953926634992332820282019728792003956564819968 * ab)
    (e2 : Q + 19 * ab + 19 = R + 57896044618658097711785492504343953926634992332820282019728792003956564819968 * ac) (e3 : Q + 19 * ab + 19 * ac = S + 57896044618658097711785492504343953926634992332820282019728792003956564819968 * ad)
    (q0 : 0 ≤ Q) (q1 : Q < 57896044618658097711785492504343953926634992332820282019728792003956564819968) (r0 : 0 ≤ R) (r1 : R < 57896044618658097711785492504343953926634992332820282019728792003956564819968)
    (s0 : 0 ≤ S) (s1 : S < 57896044618658097711785492504343953926634992332820282019728792003956564819968) (a0 : 0 ≤ ab) (a1 : ab < 8192) (_c0 : 0 ≤ ac) (_d0 : 0 ≤ ad) :
    n % 57896044618658097711785492504343953926634992332820282019728792003956564819949 = S := by
  have hc : ac = 0 ∨ ac = 1 := by omega
  have hd : ad = ac := by rcases hc with rfl | rfl <;> omega
  subst hd
  have hS : S < 57896044618658097711785492504343953926634992332820282019728792003956564819949 := by rcases hc with rfl | rfl <;> omega
  have hn : n = S + 57896044618658097711785492504343953926634992332820282019728792003956564819949 * (ab + ad) := by omega
  rw [hn, Int.add_mul_emod_self_left]
  exact Int.emod_eq_of_lt s0 hS
theorem mul_expand (x0 x1 x2 x3 x4 y0 y1 y2 y3 y4 K : Int) :
   (x0 + K * x1 + K^2 * x2 + K^3 * x3 + K^4 * x4) * (y0 + K * y1 + K^2 * y2 + K^3 * y3 + K^4 * y4) =
    x0*y0 + K * (x0*y1 + x1*y0) + K^2 * (x0*y2 + x1*y1 + x2*y0) + K^3 * (x0*y3+x1*y2+x2*y1+x3*y0) + K^4 * (x0*y4+x1*y3+x2*y2+x3*y1+x4*y0)
   + K^5 * (x1*y4+x2*y3+x3*y2+x4*y1) + K^6 * (x2*y4+x3*y3+x4*y2) + K^7*(x3*y4+x4*y3) + K^8 * (x4*y4) := by
  grind
theorem mul_num (x0 x1 x2 x3 x4 y0 y1 y2 y3 y4 l0 l1 l2 l3 l4 c0 c1 c2 c3 c4 : Int)
  (h0 : x0*y0 + x1*(19*y4) + x2*(19*y3) + x3*(19*y2)+x4*(19*y1) = l0 + 2251799813685248 * c0)
  (h1 : c0 + x0*y1 + x1*y0 + x2*(19*y4) + x3*(19*y3)+x4*(19*y2) = l1 + 2251799813685248 * c1)
  (h2 : c1 + x0*y2 + x1*y1 + x2*y0 + x3*(19*y4)+x4*(19*y3) = l2 + 2251799813685248 * c2)
  (h3 : c2 + x0*y3 + x1*y2 + x2*y1 + x3*y0+x4*(19*y4) = l3 + 2251799813685248 * c3)
  (h4 : c3 + x0*y4 + x1*y3 + x2*y2 + x3*y1+x4*y0 = l4 + 2251799813685248 * c4) :
  val5 x0 x1 x2 x3 x4 * val5 y0 y1 y2 y3 y4 = val5 (l0 + 19 * c4) l1 l2 l3 l4 + 57896044618658097711785492504343953926634992332820282019728792003956564819949 * (c4 + x1*y4+x2*y3+x3*y2+x4*y1 + 2251799813685248 * (x2*y4+x3*y3+x4*y2) + 5070602400912917605986812821504 *(x3*y4+x4*y3) + 11417981541647679048466287755595961091061972992*(x4*y4)) := by
  have e := mul_expand x0 x1 x2 x3 x4 y0 y1 y2 y3 y4 2251799813685248
  unfold val5
  simp only [Int.reducePow] at e
  rw [e]
  simp only [show ∀ a b : Int, a * (19 * b) = 19 * (a * b) by intro a b; rw [Int.mul_left_comm]] at h0 h1 h2 h3
  generalize x0*y0 = p00 at *
  generalize x0*y1 = p01 at *
  generalize x0*y2 = p02 at *
  generalize x0*y3 = p03 at *
  generalize x0*y4 = p04 at *
  generalize x1*y0 = p10 at *
  generalize x1*y1 = p11 at *
  generalize x1*y2 = p12 at *
  generalize x1*y3 = p13 at *
  generalize x1*y4 = p14 at *
  generalize x2*y0 = p20 at *
  generalize x2*y1 = p21 at *
  generalize x2*y2 = p22 at *
  generalize x2*y3 = p23 at *
  generalize x2*y4 = p24 at *
  generalize x3*y0 = p30 at *
  generalize x3*y1 = p31 at *
  generalize x3*y2 = p32 at *
  generalize x3*y3 = p33 at *
  generalize x3*y4 = p34 at *
  generalize x4*y0 = p40 at *
  generalize x4*y1 = p41 at *
  generalize x4*y2 = p42 at *
  generalize x4*y3 = p43 at *
  generalize x4*y4 = p44 at *
  clear e
  omega
end Go.Proofs.YtegbnadnodlalaaGreatDoor
namespace Go.Proofs.YtegbnadnodlalaaGreatDoor
open Go.RowKit
theorem ret_int {k : IntKind} {a b : Int} (h : a = b) : Ending.returned (.int k a) = .returned (.int k b) := by rw [h]
theorem ret2_int {k l : IntKind} {a b c d : Int} (h : a = b) (g : c = d) : Ending.returned (.tuple #[.int k a, .int l c]) = .returned (.tuple #[.int k b, .int l d]) := by rw [h, g]
set_option maxHeartbeats 400000 in
theorem carried_any (p0 p1 p2 p3 p4 : Int) (w : World) (a0 : 0 ≤ p0) (a1 : 0 ≤ p1) (a2 : 0 ≤ p2) (a3 : 0 ≤ p3) (a4 : 0 ≤ p4)
    (h0 : p0 < 13835058055282163712) (h1 : p1 < 13835058055282163712) (h2 : p2 < 13835058055282163712) (h3 : p3 < 13835058055282163712) (h4 : p4 < 13835058055282163712) :
    Calls Tryz.prog 106 #[.int .u64 p0, .int .u64 p1, .int .u64 p2, .int .u64 p3, .int .u64 p4] w fun e w' =>
      e = .returned (.tuple #[.int .u64 (p0 % 2251799813685248), .int .u64 ((p1 + p0 / 2251799813685248) % 2251799813685248), .int .u64 ((p2 + (p1 + p0 / 2251799813685248) / 2251799813685248) % 2251799813685248),
        .int .u64 ((p3 + (p2 + (p1 + p0 / 2251799813685248) / 2251799813685248) / 2251799813685248) % 2251799813685248),
        .int .u64 ((p4 + (p3 + (p2 + (p1 + p0 / 2251799813685248) / 2251799813685248) / 2251799813685248) / 2251799813685248) % 2251799813685248),
        .int .u64 ((p4 + (p3 + (p2 + (p1 + p0 / 2251799813685248) / 2251799813685248) / 2251799813685248) / 2251799813685248) / 2251799813685248)]) ∧ w = w' := by
  go_enter Tryz.func106, Tryz.ntmps106
  go_wp2
  simp (disch := omega) only [and51]
  refine bodyPost_ret (v := .tuple #[_, _, _, _, _, _]) (by simp [results, Tryz.results106, go_sem]) rfl ⟨rfl, rfl⟩
/-- What carried does, without its words. -/
structure Carried (p0 p1 p2 p3 p4 q0 q1 q2 q3 q4 ab : Int) : Prop where
  eq : val5 p0 p1 p2 p3 p4 = val5 q0 q1 q2 q3 q4 + 57896044618658097711785492504343953926634992332820282019728792003956564819968 * ab
theorem carried_ex (p0 p1 p2 p3 p4 : Int) (w : World) (a0 : 0 ≤ p0) (a1 : 0 ≤ p1) (a2 : 0 ≤ p2) (a3 : 0 ≤ p3) (a4 : 0 ≤ p4)
    (h0 : p0 < 13835058055282163712) (h1 : p1 < 13835058055282163712) (h2 : p2 < 13835058055282163712) (h3 : p3 < 13835058055282163712) (h4 : p4 < 13835058055282163712) :
    Calls Tryz.prog 106 #[.int .u64 p0, .int .u64 p1, .int .u64 p2, .int .u64 p3, .int .u64 p4] w fun e w' =>
      ∃ q0 q1 q2 q3 q4 ab : Int, e = .returned (.tuple #[.int .u64 q0, .int .u64 q1, .int .u64 q2, .int .u64 q3, .int .u64 q4, .int .u64 ab]) ∧ w = w' ∧ Carried p0 p1 p2 p3 p4 q0 q1 q2 q3 q4 ab ∧
        0 ≤ q0 ∧ q0 < 2251799813685248 ∧ 0 ≤ q1 ∧ q1 < 2251799813685248 ∧ 0 ≤ q2 ∧ q2 < 2251799813685248 ∧ 0 ≤ q3 ∧ q3 < 2251799813685248 ∧ 0 ≤ q4 ∧ q4 < 2251799813685248 ∧ 0 ≤ ab ∧ ab < 8192 :=
  (carried_any p0 p1 p2 p3 p4 w a0 a1 a2 a3 a4 h0 h1 h2 h3 h4).mono fun e w' ⟨he, hw⟩ =>
    ⟨_, _, _, _, _, _, he, hw, ⟨carry5 p0 p1 p2 p3 p4⟩, by omega, by omega, by omega, by omega, by omega, by omega, by omega, by omega, by omega, by omega, by omega, by omega⟩
theorem m32N (a : Nat) (ha : a < 18446744073709551616) : bits .and .u64 (a : Int) 4294967295 = ((a % 4294967296 : Nat) : Int) := by
  have h := bits_and_u64_nat a 4294967295 ha (by omega)
  have e : a &&& 4294967295 = a % 4294967296 := Nat.and_two_pow_sub_one_eq_mod a 32
  rw [e] at h
  exact h
theorem d32N (a : Nat) : (a : Int) / 4294967296 = ((a / 4294967296 : Nat) : Int) := by omega
theorem wN (a : Nat) (ha : a < 18446744073709551616) : IntKind.u64.wrap (a : Int) = (a : Int) := by rw [IntKind.wrap_u64]; omega
theorem wM (a : Nat) : IntKind.u64.wrap (a : Int) = ((a % 18446744073709551616 : Nat) : Int) := by rw [IntKind.wrap_u64]; omega
set_option maxHeartbeats 1000000 in
theorem mul64_nat (x y : Nat) (hx : x < 18446744073709551616) (hy : y < 18446744073709551616) (w : World) :
    Calls Tryz.prog 89 #[.int .u64 x, .int .u64 y] w fun e w' => e = .returned (.tuple #[.int .u64 ((x * y / 18446744073709551616 : Nat) : Int), .int .u64 ((x * y % 18446744073709551616 : Nat) : Int)]) ∧ w = w' := by
  obtain ⟨bd, bt, bw, hhi⟩ := Lib.mul64_hi x y hx hy
  have ba := Lib.half_mul_le (a := x / 4294967296) (b := y / 4294967296) (by omega) (by omega)
  have bb := Lib.half_mul_le (a := x / 4294967296) (b := y % 4294967296) (by omega) (by omega)
  have bc := Lib.half_mul_le (a := x % 4294967296) (b := y / 4294967296) (by omega) (by omega)
  have ba' : x / 4294967296 * (y / 4294967296) < 18446744073709551616 := by omega
  have bb' : x / 4294967296 * (y % 4294967296) < 18446744073709551616 := by omega
  have bc' : x % 4294967296 * (y / 4294967296) < 18446744073709551616 := by omega
  have bh1 : x / 4294967296 * (y / 4294967296) + (x / 4294967296 * (y % 4294967296) + x % 4294967296 * (y % 4294967296) / 4294967296) / 4294967296 < 18446744073709551616 := by omega
  have bh : x / 4294967296 * (y / 4294967296) + (x / 4294967296 * (y % 4294967296) + x % 4294967296 * (y % 4294967296) / 4294967296) / 4294967296 + ((x / 4294967296 * (y % 4294967296) + x % 4294967296 * (y % 4294967296) / 4294967296) % 4294967296 + x % 4294967296 * (y / 4294967296)) / 4294967296 < 18446744073709551616 := by omega
  go_enter Tryz.func89, Tryz.ntmps89
  go_wp2
  simp only [m32N x hx, m32N y hy, d32N, ← Int.natCast_mul, ← Int.natCast_add, wN _ bd, wN _ bb', wN _ bt, m32N _ bt, wN _ bc', wN _ bw, wN _ ba', wN _ bh1, wN _ bh, wM (x * y)]
  rw [hhi]
  go_ret2
  exact ⟨rfl, rfl⟩
theorem mul64_any (x y : Int) (hx0 : 0 ≤ x) (hy0 : 0 ≤ y) (hx : x < 18446744073709551616) (hy : y < 18446744073709551616) (w : World) :
    Calls Tryz.prog 89 #[.int .u64 x, .int .u64 y] w fun e w' => e = .returned (.tuple #[.int .u64 (x * y / 18446744073709551616), .int .u64 (x * y % 18446744073709551616)]) ∧ w = w' := by
  obtain ⟨a, rfl⟩ := Int.eq_ofNat_of_zero_le hx0
  obtain ⟨b, rfl⟩ := Int.eq_ofNat_of_zero_le hy0
  refine (mul64_nat a b (by omega) (by omega) w).mono fun e w' ⟨he, hw⟩ => ⟨?_, hw⟩
  rw [he, ← Int.natCast_mul]
  rfl
theorem add64_run (x y c : Int) (hx : 0 ≤ x) (hy : 0 ≤ y) (hc0 : 0 ≤ c) (hc : c ≤ 1) (w : World) :
    (callFunc 90 #[.int .u64 x, .int .u64 y, .int .u64 c]).run Tryz.prog w =
      .ok (.value (.tuple #[.int .u64 ((x + y + c) % 18446744073709551616), .int .u64 ((x + y + c) / 18446744073709551616)])) w := by
  rw [run_callFunc_extern Tryz.func90 (by kernel_rfl) (by kernel_rfl) (by kernel_rfl) (e := add64Entry) (by kernel_rfl), run_add64 x y c hx hy hc0 hc]
  rfl
theorem add64_run0 (x y : Int) (hx : 0 ≤ x) (hy : 0 ≤ y) (w : World) :
    (callFunc 90 #[.int .u64 x, .int .u64 y, .int .u64 0]).run Tryz.prog w =
      .ok (.value (.tuple #[.int .u64 ((x + y) % 18446744073709551616), .int .u64 ((x + y) / 18446744073709551616)])) w := by
  rw [add64_run x y 0 hx hy (by decide) (by decide), Int.add_zero]
set_option maxHeartbeats 1000000 in
/-- plus: a number of two words and a product. -/
theorem plus_any (hi lo x y : Int) (w : World) (a0 : 0 ≤ hi) (a1 : 0 ≤ lo) (a2 : 0 ≤ x) (a3 : 0 ≤ y) (b0 : hi < 18446744073709551616) (b1 : lo < 18446744073709551616) (b2 : x < 18446744073709551616) (b3 : y < 18446744073709551616)
    (hT : hi * 18446744073709551616 + lo + x * y < 340282366920938463463374607431768211456) :
    Calls Tryz.prog 105 #[.int .u64 hi, .int .u64 lo, .int .u64 x, .int .u64 y] w fun e w' =>
      e = .returned (.tuple #[.int .u64 ((hi * 18446744073709551616 + lo + x * y) / 18446744073709551616), .int .u64 ((hi * 18446744073709551616 + lo + x * y) % 18446744073709551616)]) ∧ w = w' := by
  have hxy : 0 ≤ x * y := Int.mul_nonneg a2 a3
  have h1 := add64_run0 lo (x * y % 18446744073709551616) a1 (by omega)
  have h2 := add64_run hi (x * y / 18446744073709551616) ((lo + x * y % 18446744073709551616) / 18446744073709551616) a0 (by omega) (by omega) (by omega)
  go_enter Tryz.func105, Tryz.ntmps105
  go_wp2_with (go_at_call 89; refine (mul64_any _ _ a2 a3 b2 b3 _).mono ?_; rintro e w' ⟨rfl, rfl⟩)
  go_ret2
  exact ⟨ret2_int (by omega) (by omega), rfl⟩
theorem plus_0 (lo x y : Int) (w : World) (a1 : 0 ≤ lo) (a2 : 0 ≤ x) (a3 : 0 ≤ y) (b1 : lo < 18446744073709551616) (b2 : x < 18446744073709551616) (b3 : y < 18446744073709551616)
    (hT : lo + x * y < 340282366920938463463374607431768211456) :
    Calls Tryz.prog 105 #[.int .u64 0, .int .u64 lo, .int .u64 x, .int .u64 y] w fun e w' =>
      e = .returned (.tuple #[.int .u64 ((lo + x * y) / 18446744073709551616), .int .u64 ((lo + x * y) % 18446744073709551616)]) ∧ w = w' := by
  have h := plus_any 0 lo x y w (by decide) a1 a2 a3 (by decide) b1 b2 b3 (by omega)
  rw [Int.zero_mul, Int.zero_add] at h
  exact h
theorem plus_T (T x y : Int) (w : World) (a1 : 0 ≤ T) (a2 : 0 ≤ x) (a3 : 0 ≤ y) (b2 : x < 18446744073709551616) (b3 : y < 18446744073709551616)
    (hT : T + x * y < 340282366920938463463374607431768211456) :
    Calls Tryz.prog 105 #[.int .u64 (T / 18446744073709551616), .int .u64 (T % 18446744073709551616), .int .u64 x, .int .u64 y] w fun e w' =>
      e = .returned (.tuple #[.int .u64 ((T + x * y) / 18446744073709551616), .int .u64 ((T + x * y) % 18446744073709551616)]) ∧ w = w' := by
  have hxy : 0 ≤ x * y := Int.mul_nonneg a2 a3
  have h := plus_any (T / 18446744073709551616) (T % 18446744073709551616) x y w (by omega) (by omega) a2 a3 (by omega) (by omega) b2 b3 (by omega)
  rw [show T / 18446744073709551616 * 18446744073709551616 + T % 18446744073709551616 = T by omega] at h
  exact h
theorem prod_le {x y a b : Int} (h0 : 0 ≤ x) (h1 : 0 ≤ y) (hx : x ≤ a) (hy : y ≤ b) : 0 ≤ x * y ∧ x * y ≤ a * b :=
  ⟨Int.mul_nonneg h0 h1, Int.mul_le_mul hx hy h1 (Int.le_trans h0 hx)⟩
set_option maxHeartbeats 1000000 in
/-- row: a carry and the products of the parts that stand under one another. -/
theorem row_any (carry x0 x1 x2 x3 x4 y0 y1 y2 y3 y4 : Int) (b : Nat) (w : World) (hx : Five w b x0 x1 x2 x3 x4)
    (p0 : 0 ≤ x0) (p1 : 0 ≤ x1) (p2 : 0 ≤ x2) (p3 : 0 ≤ x3) (p4 : 0 ≤ x4) (q0 : x0 < 2251799813685248) (q1 : x1 < 2251799813685248) (q2 : x2 < 2251799813685248) (q3 : x3 < 2251799813685248) (q4 : x4 < 2251799813685248)
    (r0 : 0 ≤ y0) (r1 : 0 ≤ y1) (r2 : 0 ≤ y2) (r3 : 0 ≤ y3) (r4 : 0 ≤ y4) (s0 : y0 ≤ 42784196460019712) (s1 : y1 ≤ 42784196460019712) (s2 : y2 ≤ 42784196460019712) (s3 : y3 ≤ 42784196460019712) (s4 : y4 ≤ 42784196460019712)
    (c0 : 0 ≤ carry) (c1 : carry < 18446744073709551616) :
    Calls Tryz.prog 86 #[.int .u64 carry, .pointer (some ⟨b, 0, none⟩), .int .u64 y0, .int .u64 y1, .int .u64 y2, .int .u64 y3, .int .u64 y4] w fun e w' =>
      e = .returned (.tuple #[.int .u64 ((carry + x0 * y0 + x1 * y1 + x2 * y2 + x3 * y3 + x4 * y4) % 2251799813685248), .int .u64 ((carry + x0 * y0 + x1 * y1 + x2 * y2 + x3 * y3 + x4 * y4) / 2251799813685248)]) ∧ w = w' := by
  obtain ⟨d0, d1, d2, d3, d4⟩ := hx
  have z0 := prod_le p0 r0 (Int.le_of_lt q0) s0
  have z1 := prod_le p1 r1 (Int.le_of_lt q1) s1
  have z2 := prod_le p2 r2 (Int.le_of_lt q2) s2
  have z3 := prod_le p3 r3 (Int.le_of_lt q3) s3
  have z4 := prod_le p4 r4 (Int.le_of_lt q4) s4
  simp only [Int.reduceMul] at z0 z1 z2 z3 z4
  go_enter Tryz.func86, Tryz.ntmps86
  go_wp2_with fail
  refine (plus_0 _ _ _ _ c0 p0 r0 c1 (by omega) (by omega) (by omega)).mono ?_
  rintro e w' ⟨rfl, rfl⟩
  go_wp2_with fail
  refine (plus_T _ _ _ _ (by omega) p1 r1 (by omega) (by omega) (by omega)).mono ?_
  rintro e w' ⟨rfl, rfl⟩
  go_wp2_with fail
  refine (plus_T _ _ _ _ (by omega) p2 r2 (by omega) (by omega) (by omega)).mono ?_
  rintro e w' ⟨rfl, rfl⟩
  go_wp2_with fail
  refine (plus_T _ _ _ _ (by omega) p3 r3 (by omega) (by omega) (by omega)).mono ?_
  rintro e w' ⟨rfl, rfl⟩
  go_wp2_with fail
  refine (plus_T _ _ _ _ (by omega) p4 r4 (by omega) (by omega) (by omega)).mono ?_
  rintro e w' ⟨rfl, rfl⟩
  go_wp2
  go_ret2
  refine ⟨ret2_int ?_ ?_, rfl⟩
  · rw [and51 _ (by omega) (by omega)]; omega
  · rw [or64 13 _ _ (by omega) (by omega) (by omega) (by omega) (by omega) (by decide)]; omega
end Go.Proofs.YtegbnadnodlalaaGreatDoor
namespace Go.Proofs.YtegbnadnodlalaaGreatDoor
open Go.RowKit
set_option maxHeartbeats 1000000 in
theorem reduce_any (p0 p1 p2 p3 p4 : Int) (n : Nat) (w : World) (a0 : 0 ≤ p0) (a1 : 0 ≤ p1) (a2 : 0 ≤ p2) (a3 : 0 ≤ p3) (a4 : 0 ≤ p4)
    (h0 : p0 < 9223372036854775808) (h1 : p1 < 9223372036854775808) (h2 : p2 < 9223372036854775808) (h3 : p3 < 9223372036854775808) (h4 : p4 < 9223372036854775808) (hn : val5 p0 p1 p2 p3 p4 = n) :
    Calls Tryz.prog 87 #[.int .u64 p0, .int .u64 p1, .int .u64 p2, .int .u64 p3, .int .u64 p4] w fun e w' => e = .returned (El (n % pp)) ∧ Below w.heap.size w w' := by
  have H := Lib.hid hn
  clear hn
  go_enter Tryz.func87, Tryz.ntmps87
  go_wp2_with fail
  refine (carried_ex _ _ _ _ _ _ a0 a1 a2 a3 a4 (by omega) (by omega) (by omega) (by omega) (by omega)).mono ?_
  rintro e w' ⟨q0, q1, q2, q3, q4, ab, rfl, rfl, C1, b0, b0', b1, b1', b2, b2', b3, b3', b4, b4', b5, b5'⟩
  go_wp2_with fail
  refine (carried_ex _ _ _ _ _ _ (by omega) b1 b2 b3 b4 (by omega) (by omega) (by omega) (by omega) (by omega)).mono ?_
  rintro e w' ⟨r0, r1, r2, r3, r4, ac, rfl, rfl, C2, c0, c0', c1, c1', c2, c2', c3, c3', c4, c4', c5, c5'⟩
  go_wp2_with fail
  refine (carried_ex _ _ _ _ _ _ (by omega) b1 b2 b3 b4 (by omega) (by omega) (by omega) (by omega) (by omega)).mono ?_
  rintro e w' ⟨s0, s1, s2, s3, s4, ad, rfl, rfl, C3, d0, d0', d1, d1', d2, d2', d3, d3', d4, d4', d5, d5'⟩
  go_wp2
  have key : ((n % pp : Nat) : Int) = val5 s0 s1 s2 s3 s4 := by
    have e1 := C1.eq; have e2 := C2.eq; have e3 := C3.eq; have e0 := H.out
    rw [val5_add, val5_add] at e2
    rw [val5_add, val5_add] at e3
    have q := val5_bd q0 q1 q2 q3 q4 b0 b0' b1 b1' b2 b2' b3 b3' b4 b4'
    have r := val5_bd r0 r1 r2 r3 r4 c0 c0' c1 c1' c2 c2' c3 c3' c4 c4'
    have s := val5_bd s0 s1 s2 s3 s4 d0 d0' d1 d1' d2 d2' d3 d3' d4 d4'
    rw [Int.natCast_emod, pp_eq]
    exact reduce_num _ _ _ _ _ _ _ (e0.symm.trans e1) e2 e3 q.1 q.2 r.1 r.2 s.1 s.2 b5 b5' c5 d5
  have hE := El_of _ _ _ _ _ _ key d0 d0' d1 d1' d2 d2' d3 d3'
  refine bodyPost_ret (v := El (n % pp)) ?_ rfl ⟨rfl, ?_⟩
  · rw [← hE]; simp [results, Tryz.results87, go_sem]
  · exact ((Below.refl _ _).alloc (Nat.le_refl _) _)
end Go.Proofs.YtegbnadnodlalaaGreatDoor
