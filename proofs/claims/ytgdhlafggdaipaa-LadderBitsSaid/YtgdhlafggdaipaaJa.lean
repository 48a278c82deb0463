/- Chapter 5's reckoning as plain arithmetic; the contracts of Clamp (the program's and the reference's) and of bitOf. -/
import Derived.Test.YtgdhlafggdaipaaLl
import Derived.Deep.MidRow
/- Two numbers in one block (a place on the curve: x over z): their parts read, both built and stored. -/
/- Parts of a ratio stored; the steps of a printed walk that speak of ratios. -/
namespace Go.Proofs.Ytgdhlafggdaipaa
open Go.RowKit

def fa (a b : Nat) : Nat := (a + b) % pp
def fs (a b : Nat) : Nat := (a + (pp - b)) % pp
def fm (a b : Nat) : Nat := a * b % pp
theorem fa_lt (a b : Nat) : fa a b < pp := Nat.mod_lt _ pp_pos
theorem fs_lt (a b : Nat) : fs a b < pp := Nat.mod_lt _ pp_pos
theorem fm_lt (a b : Nat) : fm a b < pp := Nat.mod_lt _ pp_pos
/-- x2, z2, x3, z3. -/
structure Lst where
  a : Nat
  b : Nat
  c : Nat
  d : Nat
structure Lst.Ok (s : Lst) : Prop where
  a : s.a < pp
  b : s.b < pp
  c : s.c < pp
  d : s.d < pp
def lAA (a b : Nat) : Nat := fm (fa a b) (fa a b)
def lBB (a b : Nat) : Nat := fm (fs a b) (fs a b)
def lE (a b : Nat) : Nat := fs (lAA a b) (lBB a b)
def lx2 (a b : Nat) : Nat := fm (lAA a b) (lBB a b)
def lz2 (a b : Nat) : Nat := fm (lE a b) (fa (lAA a b) (fm 121665 (lE a b)))
def lDA (a b c d : Nat) : Nat := fm (fs c d) (fa a b)
def lCB (a b c d : Nat) : Nat := fm (fa c d) (fs a b)
def lSum (a b c d : Nat) : Nat := fa (lDA a b c d) (lCB a b c d)
def lDif (a b c d : Nat) : Nat := fs (lDA a b c d) (lCB a b c d)
def lx3 (a b c d : Nat) : Nat := fm (lSum a b c d) (lSum a b c d)
def lz3 (x a b c d : Nat) : Nat := fm x (fm (lDif a b c d) (lDif a b c d))
/-- One step of the ladder. -/
def lstep (x : Nat) (s : Lst) : Lst := ⟨lx2 s.a s.b, lz2 s.a s.b, lx3 s.a s.b s.c s.d, lz3 x s.a s.b s.c s.d⟩
def lswap (bit : Nat) (s : Lst) : Lst := ⟨swapped bit s.a s.c, swapped bit s.b s.d, swapped bit s.c s.a, swapped bit s.d s.b⟩
def lad (v x : Nat) : Nat → Lst
  | 0 => ⟨1, 0, x, 1⟩
  | k + 1 => lswap (v / 2 ^ (254 - k)) (lstep x (lswap (v / 2 ^ (254 - k)) (lad v x k)))
/-- What Mul answers, as a number. -/
def ladN (v x : Nat) : Nat := fm (lad v x 255).a (mpow (lad v x 255).b 57896044618658097711785492504343953926634992332820282019728792003956564819947)
theorem lstep_ok (x : Nat) (s : Lst) : (lstep x s).Ok := ⟨fm_lt _ _, fm_lt _ _, fm_lt _ _, fm_lt _ _⟩
theorem lswap_ok (bit : Nat) (s : Lst) (h : s.Ok) : (lswap bit s).Ok := ⟨swapped_lt _ _ _ h.a h.c, swapped_lt _ _ _ h.b h.d, swapped_lt _ _ _ h.c h.a, swapped_lt _ _ _ h.d h.b⟩
theorem lad_ok (v x : Nat) (hx : x < pp) : ∀ k, (lad v x k).Ok
  | 0 => ⟨by rw [pp_eq]; show 1 < _; decide, pp_pos, hx, by rw [pp_eq]; show 1 < _; decide⟩
  | _ + 1 => lswap_ok _ _ (lstep_ok _ _)
theorem lswap_mod {s t : Nat} (h : s % 2 = t % 2) (q : Lst) : lswap s q = lswap t q := by
  unfold lswap
  rw [swapped_mod h, swapped_mod h, swapped_mod h, swapped_mod h]
theorem ladN_lt (v x : Nat) : ladN v x < pp := fm_lt _ _

/-- A secret's bytes as they are used. -/
def clF (f : Nat → Nat) (i : Nat) : Nat := if i = 0 then f 0 / 8 * 8 else if i = 31 then f 31 % 64 + 64 else f i
def clL (l : List Int) (f : Nat → Nat) : List Int := (l.set 0 ((f 0 / 8 * 8 : Nat) : Int)).set 31 ((f 31 % 64 + 64 : Nat) : Int)
theorem clL_bytes {l : List Int} {f : Nat → Nat} (hl : Bytes32 l f) : Bytes32 (clL l f) (clF f) := by
  refine ⟨by simp [clL, hl.len], fun i h => ?_, fun i => ?_⟩
  · have h32 : 31 < l.length := by rw [hl.len]; decide
    have h0 : 0 < l.length := by rw [hl.len]; decide
    unfold clF clL
    by_cases e : i = 0
    · subst e
      simp [List.getD, h0]
    · by_cases e2 : i = 31
      · subst e2
        simp [List.getD, h32]
      · rw [if_neg e, if_neg e2, ← hl.get i h]
        simp [List.getD, show ¬ 31 = i from fun x => e2 x.symm, show ¬ 0 = i from fun x => e x.symm]
  · unfold clF
    have := hl.lt i
    have := hl.lt 0
    have := hl.lt 31
    split
    · omega
    · split <;> omega
theorem byte_248 : ∀ n : Fin 256, bits .and .u8 (n.val : Int) 248 = ((n.val / 8 * 8 : Nat) : Int) := by decide +kernel
theorem byte_127_64 : ∀ n : Fin 256, bits .or .u8 (bits .and .u8 (n.val : Int) 127) 64 = ((n.val % 64 + 64 : Nat) : Int) := by decide +kernel

set_option maxHeartbeats 2000000 in
set_option maxRecDepth 100000 in
theorem clamp_any (l : List Int) (f : Nat → Nat) (hl : Bytes32 l f) (w : World) :
    Calls Try.prog 12 #[Key l] w fun e w' => e = .returned (Key (clL l f)) ∧ Below w.heap.size w w' := by
  have l0 := hl.lt 0
  have l31 := hl.lt 31
  have lc := (clL_bytes hl).len
  obtain ⟨v0, h0⟩ : ∃ v : Nat, v = f 0 / 8 * 8 := ⟨_, rfl⟩
  obtain ⟨v1, h1⟩ : ∃ v : Nat, v = f 31 % 64 + 64 := ⟨_, rfl⟩
  have e0 := byte_248 ⟨f 0, l0⟩
  simp only [← h0] at e0
  have e1 := byte_127_64 ⟨f 31, l31⟩
  simp only [← h1] at e1
  unfold clL at lc ⊢
  unfold Key
  rw [← h0, ← h1] at lc ⊢
  clear h0 h1
  go_enter Try.func12, Try.ntmps12
  go_upto_region 1 with fail
  generalize hW : World.alloc (World.alloc w _) _ = W
  have B0 : Below w.heap.size w W := hW ▸ ((Below.refl w.heap.size w).alloc (Nat.le_refl _) _).alloc (by simp) _
  have K0 : Blk W w.heap.size 23 (Iv .u8 l) := hW ▸ (Blk.new w _ _).alloc _
  have R0 : Blk W (w.heap.size + 1) 23 (Iv .u8 (List.replicate 32 0)) := hW ▸ Blk.new' (by simp) _ _
  clear hW
  have c0 : W.cell? ⟨w.heap.size, 0, none⟩ = some (.int .u8 ((f 0 : Nat) : Int)) := by
    rw [K0.cell, Iv_get _ _ _ (by rw [hl.len]; decide), hl.get 0 (by decide)]
  have f0 := K0.frozen 0
  go_upto_region 2 with fail
  have K1 := K0.set 0 (.int .u8 (v0 : Int))
  rw [Iv_set] at K1
  have R1 : Blk _ _ _ _ := R0.far (p := ⟨w.heap.size, 0, none⟩) (by simp) (.int .u8 (v0 : Int))
  have B1 := B0.setCell (p := ⟨w.heap.size, 0, none⟩) (Nat.le_refl _) (.int .u8 (v0 : Int))
  generalize W.setCell _ _ = V at *
  clear K0 R0 B0 c0 f0 e0
  have c1 : V.cell? ⟨w.heap.size, 31, none⟩ = some (.int .u8 ((f 31 : Nat) : Int)) := by
    rw [K1.cell, Iv_get _ _ _ (by rw [List.length_set, hl.len]; decide), ← hl.get 31 (by decide)]
    simp [List.getD]
  have f1 := K1.frozen 31
  go_upto_region 3 with fail
  have K2 := K1.set 31 (.int .u8 (v1 : Int))
  rw [Iv_set] at K2
  have R2 : Blk _ _ _ _ := R1.far (p := ⟨w.heap.size, 31, none⟩) (by simp) (.int .u8 (v1 : Int))
  have B2 := B1.setCell (p := ⟨w.heap.size, 31, none⟩) (Nat.le_refl _) (.int .u8 (v1 : Int))
  generalize V.setCell _ _ = U at *
  clear K1 R1 B1 c1 f1 e1
  go_wp2_with (first | (refine wpList_load_row rfl 23 _ rfl w.heap.size rfl 23 _ (0, 0) _ K2 Try.underlying23 rfl (info_key _ lc) ?_) | (refine wpList_store_row rfl 23 _ _ rfl (w.heap.size + 1) (Iv .u8 ((l.set 0 (v0 : Int)).set 31 (v1 : Int))) rfl rfl 23 _ R2 (info_key _ lc) (by rw [Iv_size, Iv_size, lc]; rfl) (Iv_one _ _) ?_))
  exact bodyPost_ret (results_cell_row rfl _ _ _ 23 _ (0, 0) _ rfl (R2.row _) Try.underlying23 rfl (info_key _ lc)) rfl ⟨rfl, below_setRow B2 (by omega) _⟩

set_option maxHeartbeats 2000000 in
set_option maxRecDepth 100000 in
theorem rclamp_any (l : List Int) (f : Nat → Nat) (hl : Bytes32 l f) (w : World) :
    Calls Try.prog 13 #[Key l] w fun e w' => e = .returned (Key (clL l f)) ∧ Below w.heap.size w w' := by
  have l0 := hl.lt 0
  have l31 := hl.lt 31
  have lc := (clL_bytes hl).len
  obtain ⟨v0, h0⟩ : ∃ v : Nat, v = f 0 / 8 * 8 := ⟨_, rfl⟩
  obtain ⟨v1, h1⟩ : ∃ v : Nat, v = f 31 % 64 + 64 := ⟨_, rfl⟩
  have i0 : ((f 0 : Nat) : Int).tmod 8 = ((f 0 : Nat) : Int) % 8 := Int.tmod_eq_emod_of_nonneg (by omega)
  have e0 : IntKind.u8.wrap (((f 0 : Nat) : Int) - ((f 0 : Nat) : Int) % 8) = (v0 : Int) := by rw [IntKind.wrap_u8]; omega
  have i1 : ((f 31 : Nat) : Int).tmod 64 = ((f 31 : Nat) : Int) % 64 := Int.tmod_eq_emod_of_nonneg (by omega)
  have e1 : IntKind.u8.wrap (((f 31 : Nat) : Int) % 64 + 64) = (v1 : Int) := by rw [IntKind.wrap_u8]; omega
  unfold clL at lc ⊢
  unfold Key
  rw [← h0, ← h1] at lc ⊢
  clear h0 h1
  go_enter Try.func13, Try.ntmps13
  go_upto_region 1 with fail
  generalize hW : World.alloc (World.alloc w _) _ = W
  have B0 : Below w.heap.size w W := hW ▸ ((Below.refl w.heap.size w).alloc (Nat.le_refl _) _).alloc (by simp) _
  have K0 : Blk W w.heap.size 23 (Iv .u8 l) := hW ▸ (Blk.new w _ _).alloc _
  have R0 : Blk W (w.heap.size + 1) 23 (Iv .u8 (List.replicate 32 0)) := hW ▸ Blk.new' (by simp) _ _
  clear hW
  have c0 : W.cell? ⟨w.heap.size, 0, none⟩ = some (.int .u8 ((f 0 : Nat) : Int)) := by
    rw [K0.cell, Iv_get _ _ _ (by rw [hl.len]; decide), hl.get 0 (by decide)]
  have f0 := K0.frozen 0
  go_upto_region 2 with fail
  have K1 := K0.set 0 (.int .u8 (v0 : Int))
  rw [Iv_set] at K1
  have R1 : Blk _ _ _ _ := R0.far (p := ⟨w.heap.size, 0, none⟩) (by simp) (.int .u8 (v0 : Int))
  have B1 := B0.setCell (p := ⟨w.heap.size, 0, none⟩) (Nat.le_refl _) (.int .u8 (v0 : Int))
  generalize W.setCell _ _ = V at *
  clear K0 R0 B0 c0 f0 e0
  have c1 : V.cell? ⟨w.heap.size, 31, none⟩ = some (.int .u8 ((f 31 : Nat) : Int)) := by
    rw [K1.cell, Iv_get _ _ _ (by rw [List.length_set, hl.len]; decide), ← hl.get 31 (by decide)]
    simp [List.getD]
  have f1 := K1.frozen 31
  go_upto_region 3 with fail
  have K2 := K1.set 31 (.int .u8 (v1 : Int))
  rw [Iv_set] at K2
  have R2 : Blk _ _ _ _ := R1.far (p := ⟨w.heap.size, 31, none⟩) (by simp) (.int .u8 (v1 : Int))
  have B2 := B1.setCell (p := ⟨w.heap.size, 31, none⟩) (Nat.le_refl _) (.int .u8 (v1 : Int))
  generalize V.setCell _ _ = U at *
  clear K1 R1 B1 c1 f1 e1
  go_wp2_with (first | (refine wpList_load_row rfl 23 _ rfl w.heap.size rfl 23 _ (0, 0) _ K2 Try.underlying23 rfl (info_key _ lc) ?_) | (refine wpList_store_row rfl 23 _ _ rfl (w.heap.size + 1) (Iv .u8 ((l.set 0 (v0 : Int)).set 31 (v1 : Int))) rfl rfl 23 _ R2 (info_key _ lc) (by rw [Iv_size, Iv_size, lc]; rfl) (Iv_one _ _) ?_))
  exact bodyPost_ret (results_cell_row rfl _ _ _ 23 _ (0, 0) _ rfl (R2.row _) Try.underlying23 rfl (info_key _ lc)) rfl ⟨rfl, below_setRow B2 (by omega) _⟩

set_option maxHeartbeats 2000000 in
set_option maxRecDepth 100000 in
theorem bitOf_any (l : List Int) (f : Nat → Nat) (hl : Bytes32 l f) (j : Nat) (hj : j < 256) (w : World) :
    Calls Try.prog 26 #[Key l, .int .i64 j] w fun e w' => e = .returned (.int .u64 ((f (j / 8) / 2 ^ (j % 8) : Nat) : Int)) ∧ Below w.heap.size w w' := by
  unfold Key
  go_enter Try.func26, Try.ntmps26
  go_upto_region 1 with fail
  generalize hW : World.alloc w _ = W
  have B0 : Below w.heap.size w W := hW ▸ ((Below.refl w.heap.size w).alloc (Nat.le_refl _) _)
  have K0 : Blk W w.heap.size 23 (Iv .u8 l) := hW ▸ Blk.new w _ _
  clear hW
  have ce : W.cell? ⟨w.heap.size, j / 8, none⟩ = some (.int .u8 ((f (j / 8) : Nat) : Int)) := by
    rw [K0.cell, Iv_get _ _ _ (by rw [hl.len]; omega), hl.get (j / 8) (by omega)]
  have hbyte := hl.lt (j / 8)
  have hsc : ((f (j / 8) / 2 ^ (j % 8) : Nat) : Int) = ((f (j / 8) : Nat) : Int) / 2 ^ (j % 8) := by
    rw [Int.natCast_ediv, Int.natCast_pow]
    rfl
  have hslt : f (j / 8) / 2 ^ (j % 8) < 256 := Nat.lt_of_le_of_lt (Nat.div_le_self _ _) (by omega)
  have j3 : IntKind.u64.wrap (((f (j / 8) : Nat) : Int) / 2 ^ (j % 8)) = ((f (j / 8) : Nat) : Int) / 2 ^ (j % 8) := by rw [← hsc, wraps_u64 _ (Int.natCast_nonneg _) (by omega)]
  have i1 : (0 : Int) ≤ (j : Int) := by omega
  have i2 : (j : Int) < 256 := by omega
  have i3 : (0 : Int) ≤ (j : Int) / 8 := by omega
  have i4 : (j : Int) / 8 < 32 := by omega
  have i5 : ((j : Int) / 8).toNat = j / 8 := by omega
  have i6 : IntKind.i64.wrap ((j : Int) / 8) = (j : Int) / 8 := by rw [IntKind.wrap_i64]; omega
  have i7 : IntKind.i64.wrap ((j : Int) % 8) = (j : Int) % 8 := by rw [IntKind.wrap_i64]; omega
  have i8 : (0 : Int) ≤ (j : Int) % 8 := by omega
  have i9 : ((j : Int)).tmod 8 = (j : Int) % 8 := Int.tmod_eq_emod_of_nonneg i1
  have j1 : ((j : Int) % 8).toNat = j % 8 := by omega
  have j2 : min (j % 8) 8 = j % 8 := by omega
  have HSC := Lib.hid hsc
  clear hsc
  go_wp2
  go_ret
  exact ⟨by rw [HSC.out]; rfl, B0⟩
end Go.Proofs.Ytgdhlafggdaipaa
namespace Go.Proofs.Ytgdhlafggdaipaa
open Go.RowKit

/-- A ratio's cells. -/
def Rt (x z : Nat) : Array Value := El_cells x ++ El_cells z
def RV (x z : Nat) : Value := .agg (Rt x z)
theorem Rt_size (x z : Nat) : (Rt x z).size = 10 := rfl
theorem Rt_one (x z : Nat) : (Rt x z).all (·.oneCell') = true := by simp [Rt, El_cells, Value.oneCell']
theorem info_Rt (x z : Nat) : (Try.prog.info? 50).map (·.size) = some (Rt x z).size := by kernel_rfl
theorem Rt_toList (x z : Nat) : (Rt x z).toList = (El_cells x).toList ++ (El_cells z).toList := by simp [Rt]
theorem rangeRt0 {w : World} {g : Nat} {t : TypeId} {x z : Nat} (h : Blk w g t (Rt x z)) : w.rangeAt g 0 (El_cells x).toList := fun j v hv => by
  have hj : j < 5 := (List.getElem?_eq_some_iff.1 hv).1
  rw [h.cell, Nat.zero_add, ← hv, Rt, Array.getElem?_append_left (by exact hj), Array.getElem?_toList]
theorem rangeRt5 {w : World} {g : Nat} {t : TypeId} {x z : Nat} (h : Blk w g t (Rt x z)) : w.rangeAt g 5 (El_cells z).toList := fun j v hv => by
  have hj : j < 5 := (List.getElem?_eq_some_iff.1 hv).1
  rw [h.cell, ← hv, Rt, Array.getElem?_append_right (by show 5 ≤ 5 + j; omega), Array.getElem?_toList]
  congr 1
  show 5 + j - 5 = j
  omega
theorem info_El5 (n : Nat) : (Try.prog.info? 46).map (·.size) = some (El_cells n).toList.length := by kernel_rfl
/-- The first part read. -/
theorem yieldsIf_part0 {ops : Array Oper} {L : List Fact} {o : Oper} {a : Act} (hgd : Region.wanted o (yielded ops a.tmps) = true) (x : Operand) (ho : o.op = .load 46 x) (g : Nat) (hx : a.eval x = .pointer (some ⟨g, 0, none⟩))
    (t : TypeId) (X Z : Nat) (hm : Fact.blk g t (Rt X Z) ∈ L) : YieldsIf Try.prog ops (Facts L) o (El X) a :=
  yieldsIf_load_mid hgd 46 x ho g 0 hx (El_cells X).toList _ (fun _ h => rangeRt0 (h.blkAt g t _ hm)) Try.underlying46 rfl (info_El5 X)
theorem yieldsIf_part5 {ops : Array Oper} {L : List Fact} {o : Oper} {a : Act} (hgd : Region.wanted o (yielded ops a.tmps) = true) (x : Operand) (ho : o.op = .load 46 x) (g : Nat) (hx : a.eval x = .pointer (some ⟨g, 5, none⟩))
    (t : TypeId) (X Z : Nat) (hm : Fact.blk g t (Rt X Z) ∈ L) : YieldsIf Try.prog ops (Facts L) o (El Z) a :=
  yieldsIf_load_mid hgd 46 x ho g 5 hx (El_cells Z).toList _ (fun _ h => rangeRt5 (h.blkAt g t _ hm)) Try.underlying46 rfl (info_El5 Z)
theorem yieldsIf_fa0 {ops : Array Oper} {S : World → Prop} {o : Oper} {a : Act} (hgd : Region.wanted o (yielded ops a.tmps) = true) (x : Operand) (ho : o.op = .fieldAddr 50 x 0) (g : Nat) (hx : a.eval x = .pointer (some ⟨g, 0, none⟩)) :
    YieldsIf Try.prog ops S o (.pointer (some ⟨g, 0, none⟩)) a := Or.inl ⟨hgd, fun w _ => by
  simp only [execOp, ho, hx]
  go_simp⟩
theorem yieldsIf_fa5 {ops : Array Oper} {S : World → Prop} {o : Oper} {a : Act} (hgd : Region.wanted o (yielded ops a.tmps) = true) (x : Operand) (ho : o.op = .fieldAddr 50 x 1) (g : Nat) (hx : a.eval x = .pointer (some ⟨g, 0, none⟩)) :
    YieldsIf Try.prog ops S o (.pointer (some ⟨g, 5, none⟩)) a := Or.inl ⟨hgd, fun w _ => by
  simp only [execOp, ho, hx]
  go_simp⟩
theorem yieldsIf_rt {ops : Array Oper} {S : World → Prop} {o : Oper} {a : Act} (hgd : Region.wanted o (yielded ops a.tmps) = true) (x y : Operand) (ho : o.op = .build 50 #[(0, x), (1, y)]) (X Z : Nat) (hx : a.eval x = El X) (hy : a.eval y = El Z) :
    YieldsIf Try.prog ops S o (RV X Z) a := Or.inl ⟨hgd, fun w _ => by
  unfold El El_cells at hx hy
  simp only [execOp, ho, List.map_toArray, List.map_cons, List.map_nil, hx, hy, RV, Rt, El_cells]
  go_simp⟩
theorem yieldsIf_rt1 {ops : Array Oper} {S : World → Prop} {o : Oper} {a : Act} (hgd : Region.wanted o (yielded ops a.tmps) = true) (x : Operand) (ho : o.op = .build 50 #[(0, x)]) (X : Nat) (hx : a.eval x = El X) :
    YieldsIf Try.prog ops S o (RV X 0) a := Or.inl ⟨hgd, fun w _ => by
  unfold El El_cells at hx
  simp only [execOp, ho, List.map_toArray, List.map_cons, List.map_nil, hx, RV, Rt, El_cells]
  go_simp⟩
end Go.Proofs.Ytgdhlafggdaipaa
namespace Go.Proofs.Ytgdhlafggdaipaa
open Go.RowKit

theorem Blk.farCells {g k : Nat} {t : TypeId} {cs : Array Value} (hk : g ≠ k) : ∀ (vs : List Value) (o : Nat) {w : World}, Blk w g t cs → Blk (w.setCells k o vs) g t cs
  | [], _, _, h => h
  | _ :: vs, o, _, h => Blk.farCells hk vs (o + 1) (h.far (p := ⟨k, o, none⟩) hk _)
theorem below_setCells {n g : Nat} (hg : n ≤ g) {w : World} : ∀ (vs : List Value) (o : Nat) {w' : World}, Below n w w' → Below n w (w'.setCells g o vs)
  | [], _, _, h => h
  | _ :: vs, o, _, h => below_setCells hg vs (o + 1) (h.setCell (p := ⟨g, o, none⟩) hg _)
theorem Blk.five0 {w : World} {g : Nat} {t : TypeId} {a0 a1 a2 a3 a4 a5 a6 a7 a8 a9 : Value} (h : Blk w g t #[a0, a1, a2, a3, a4, a5, a6, a7, a8, a9]) (v0 v1 v2 v3 v4 : Value) :
    Blk (w.setCells g 0 [v0, v1, v2, v3, v4]) g t #[v0, v1, v2, v3, v4, a5, a6, a7, a8, a9] := ((((h.set 0 v0).set 1 v1).set 2 v2).set 3 v3).set 4 v4
theorem Blk.five5 {w : World} {g : Nat} {t : TypeId} {a0 a1 a2 a3 a4 a5 a6 a7 a8 a9 : Value} (h : Blk w g t #[a0, a1, a2, a3, a4, a5, a6, a7, a8, a9]) (v0 v1 v2 v3 v4 : Value) :
    Blk (w.setCells g 5 [v0, v1, v2, v3, v4]) g t #[a0, a1, a2, a3, a4, v0, v1, v2, v3, v4] := ((((h.set 5 v0).set 6 v1).set 7 v2).set 8 v3).set 9 v4
theorem El_lit (x : Nat) : ∃ v0 v1 v2 v3 v4 : Value, El_cells x = #[v0, v1, v2, v3, v4] := ⟨_, _, _, _, _, rfl⟩
theorem Blk.put0 {w : World} {g : Nat} {t : TypeId} {x z : Nat} (h : Blk w g t (Rt x z)) (X : Nat) : Blk (w.setCells g 0 (El_cells X).toList) g t (Rt X z) := by
  obtain ⟨x0, x1, x2, x3, x4, ex⟩ := El_lit x
  obtain ⟨z0, z1, z2, z3, z4, ez⟩ := El_lit z
  obtain ⟨X0, X1, X2, X3, X4, eX⟩ := El_lit X
  unfold Rt at h ⊢
  rw [ex, ez] at h
  rw [eX, ez]
  exact Blk.five0 h _ _ _ _ _
theorem Blk.put5 {w : World} {g : Nat} {t : TypeId} {x z : Nat} (h : Blk w g t (Rt x z)) (Z : Nat) : Blk (w.setCells g 5 (El_cells Z).toList) g t (Rt x Z) := by
  obtain ⟨x0, x1, x2, x3, x4, ex⟩ := El_lit x
  obtain ⟨z0, z1, z2, z3, z4, ez⟩ := El_lit z
  obtain ⟨X0, X1, X2, X3, X4, eX⟩ := El_lit Z
  unfold Rt at h ⊢
  rw [ex, ez] at h
  rw [eX, ex]
  exact Blk.five5 h _ _ _ _ _
theorem Blk.there {w : World} {g : Nat} {t : TypeId} {x z : Nat} (h : Blk w g t (Rt x z)) (o : Nat) (ho : o + 5 ≤ 10) (N : Nat) : w.there g o (El_cells N).size := fun j hj => by
  refine ⟨?_, h.frozen _⟩
  rw [h.cell]
  have hj5 : j < 5 := hj
  have : o + j < (Rt x z).size := by rw [Rt_size]; omega
  rw [Array.getElem?_eq_getElem this]
  rfl
theorem wpSeq_store_mid {P : Program} {ops : Array Oper} {Q : Exit → Act → World → Prop} {o : Oper} {rest : List Oper} {a : Act} {w : World} (hgd : o.guard = none)
    (ty : TypeId) (x y : Operand) (ho : o.op = .store ty x y) (g k : Nat) (cells : Array Value) (hx : a.eval x = .pointer (some ⟨g, k, none⟩)) (hy : a.eval y = .agg cells)
    (ht : w.there g k cells.size) (hi : (P.info? ty).map (·.size) = some cells.size) (h1 : cells.all (·.oneCell') = true)
    (h : wpSeq P ops Q rest (a.put o.dst undef) (w.setCells g k cells.toList)) : wpSeq P ops Q (o :: rest) a w :=
  wpSeq_wp (by simp [Region.wanted, hgd]) (wp_store_mid ty x y ho g k cells hx hy ht hi h1 h)
/-- The last store of a drawn region: nothing is asked behind it. -/
theorem wpAnyZ_store_last {P : Program} {md : Region.Mode} {ops : Array Oper} {Q : Exit → Act → World → Prop} {S : World → Prop} {z fuel : Nat} {listed : Array Bool} {a : Act} {w : World} (i : Nat) {oi : Oper} (hi : ops.toList[i]? = some oi) (hr : Region.ready md ops listed = [i]) (hgd : oi.guard = none)
    (ty : TypeId) (x y : Operand) (ho : oi.op = .store ty x y) (g : Nat) (cells : Array Value) (hx : a.eval x = .pointer (some ⟨g, 0, none⟩)) (hy : a.eval y = .agg cells)
    (t : TypeId) (old : Array Value) (hg : Blk w g t old) (hinf : (P.info? ty).map (·.size) = some cells.size) (hold : old.size = cells.size) (h1 : cells.all (·.oneCell') = true) (hz : (listed.setIfInBounds i true).getD z true = true)
    (h : wpAnyZ P md ops Q S z fuel (listed.setIfInBounds i true) (a.put oi.dst undef) (w.setRow g cells)) : wpAnyZ P md ops Q S z (fuel + 1) listed a w := by
  refine wpAnyZ_one hr ?_
  unfold wpOp
  rw [← Array.getElem?_toList, hi]
  have hw : Region.wanted oi (yielded ops a.tmps) = true := by simp [Region.wanted, hgd]
  simp only [hw, if_true]
  left
  exact wp_store_row ty x y ho g cells hx hy t old hg hinf hold h1 ⟨fun h0 => (by rw [hz] at h0; cases h0), h⟩
end Go.Proofs.Ytgdhlafggdaipaa
