/- Which 32 bytes are a point: what the program's Decode and the reference's Read reckon, as numbers. Points in memory: four numbers in one block of 20 cells; parts read, built, stored; walks' steps that speak of points (printed by genpa.py). Rows of points in one block (a list that is handed to Add); a key's highest bit. -/
import Derived.Test.YtegbnadnodlalaaGreatDoorGJm0GCh
import Derived.Great.BuildSlice
import Derived.Test.YtegbnadnodlalaaGreatDoorLl0GHa
namespace Go.Proofs.YtegbnadnodlalaaGreatDoor
namespace Ed
set_option maxHeartbeats 4000000
section
variable {n : Nat} [NeZero n]
theorem den_is (c d y : Fin n) (h : (c + 1)*d + c = 0) : (c + 1) - c*(y*y) = (c + 1)*(1 + d*y*y) := by grind
theorem on_of_root {c d x y : Fin n} (h : (c + 1)*d + c = 0) (e : x*x*((c + 1) - c*(y*y)) = (c + 1)*(y*y - 1)) : (y*y - x*x)*(c + 1) = (1 + d*x*x*y*y)*(c + 1) := by grind
theorem root_of_on {c d x y : Fin n} (h : (c + 1)*d + c = 0) (e : y*y - x*x = 1 + d*x*x*y*y) : x*x*((c + 1) - c*(y*y)) = (c + 1)*(y*y - 1) := by grind
end
end Ed
open Go.RowKit Ed
theorem den_any (y : Fin pp) : 1 + dd*y*y ≠ 0 := fun e => by
 by_cases hy : y = 0
 ·
  rw [hy, Fin.mul_zero] at e
  exact ok.one (by rw [← e]; generalize (1 : Fin pp) = o; generalize (0 : Fin pp) = z; exact absurd hy (fun _ => by
   exact absurd e (by decide +kernel)))
 ·
  have h1 := ok.hinv y hy
  refine ok.nsq (finv y) ?_
  generalize finv y = u at *
  generalize dd = d at *
  grind
theorem F_121666 : F 121666 = cc + 1 := by decide +kernel
theorem l121666 : 121666 < pp := by rw [pp_eq]; decide
theorem l121665 : 121665 < pp := by rw [pp_eq]; decide
/-- What the program asks a root of. -/
def dOv (Y : Nat) : Nat := fm 121666 (fs (fm Y Y) 1)
def dUn (Y : Nat) : Nat := fs 121666 (fm 121665 (fm Y Y))
theorem dOv_lt (Y : Nat) : dOv Y < pp := fm_lt _ _
theorem dUn_lt (Y : Nat) : dUn Y < pp := fs_lt _ _
theorem F_dOv (Y : Nat) : F (dOv Y) = (cc + 1)*(F Y*F Y - 1) := by
 unfold dOv
 rw [F_fm, F_fs _ _ one_lt, F_fm, F_121666, F_one]
theorem F_dUn (Y : Nat) : F (dUn Y) = (cc + 1) - cc*(F Y*F Y) := by
 unfold dUn
 rw [F_fs _ _ (fm_lt _ _), F_fm, F_fm, F_121666, F_c]
theorem dUn_ne (Y : Nat) : dUn Y ≠ 0 := fun e => by
 have h := congrArg F e
 rw [F_dUn, F_zero, den_is cc dd (F Y) cc_dd] at h
 exact ok.mul_ne cc_one (den_any (F Y)) h
theorem rOk_of_sq {X Y x : Nat} (hX : X < pp) (hY : Y < pp) (hy : Y ≠ 0) (h : x * x % pp * Y % pp = X) : rOk X Y = true := by
 by_cases h0 : X = 0
 ·
  rw [h0]
  exact rOk_zero _
 ·
  have hy' : Y % pp ≠ 0 := by rwa [Nat.mod_eq_of_lt hY]
  have hx' : X % pp ≠ 0 := by rwa [Nat.mod_eq_of_lt hX]
  have hx : x % pp ≠ 0 := fun e => h0 (by
   rw [← h, Nat.mul_mod x x, e, Nat.zero_mul, Nat.zero_mod, Nat.zero_mul, Nat.zero_mod])
  obtain ⟨Q, q, _⟩ := has_Q
  rw [unit_case q hX hx' hy']
  have hz : x * Y ^ 4 % pp ≠ 0 := not_zero hx (not_zero_pow hy' 4)
  have h4 := fermat4 q hz
  have key : ∀ Q, (x * Y ^ 4) ^ (4 * Q) % pp = 1 → (X * Y ^ 7) ^ (2 * Q) % pp = 1 := fun Q h5 => by
   have e2 : X * Y ^ 7 % pp = (x * Y ^ 4) ^ 2 % pp := by
    rw [← h]
    simp only [Nat.mod_mul_mod]
    congr 1
    rw [Nat.pow_two, show (7 : Nat) = 0 + 1 + 1 + 1 + 1 + 1 + 1 + 1 from rfl, show (4 : Nat) = 0 + 1 + 1 + 1 + 1 from rfl]
    simp only [Nat.pow_succ, Nat.pow_zero, Nat.one_mul, Nat.mul_assoc, Nat.mul_left_comm, Nat.mul_comm]
   rw [Nat.pow_mod, e2, ← Nat.pow_mod, ← Nat.pow_mul, show 2 * (2 * Q) = 4 * Q by omega]
   exact h5
  exact key Q h4
theorem y_of {P : Pt dd} {Y : Nat} (hy : P.y.val = Y) : F Y = P.y := by
 apply Fin.ext
 rw [F_val (by rw [← hy]; exact P.y.isLt), hy]
theorem x_of (a : Fin pp) : F a.val = a := by
 apply Fin.ext
 rw [F_val a.isLt]
theorem rOk_pt {Y : Nat} (P : Pt dd) (hy : P.y.val = Y) : rOk (dOv Y) (dUn Y) = true := by
 refine rOk_of_sq (x := P.x.val) (dOv_lt Y) (dUn_lt Y) (dUn_ne Y) ?_
 have e1 : fm (fm P.x.val P.x.val) (dUn Y) = dOv Y := by
  refine F_inj2 (fm_lt _ _) (dOv_lt Y) ?_
  rw [F_fm, F_fm, x_of, F_dUn, F_dOv, y_of hy]
  exact root_of_on cc_dd P.on
 exact e1
theorem rV_on {I Y : Nat} (hI : IOk I) (h : rOk (dOv Y) (dUn Y) = true) : On dd (F (rV I (dOv Y) (dUn Y))) (F Y) := by
 have h1 := rV_sq hI (dOv_lt Y) h
 generalize rV I (dOv Y) (dUn Y) = r at *
 have e1 : fm (fm r r) (dUn Y) = dOv Y := h1
 have e2 := congrArg F e1
 rw [F_fm, F_fm, F_dUn, F_dOv] at e2
 exact ok.cancel cc_one (on_of_root cc_dd e2)
theorem ptn_y {P : Pt dd} {N : Nat} (h : textN P = N) : P.y.val = N % 57896044618658097711785492504343953926634992332820282019728792003956564819968 := by
 rw [← h, textN_mod]
theorem ptn_x {P : Pt dd} {N : Nat} (h : textN P = N) : P.x.val % 2 = N / 57896044618658097711785492504343953926634992332820282019728792003956564819968 := by
 rw [← h, textN_div]
/-- One root is 0: then there is no odd one. -/
theorem none_odd {N Y : Nat} (hY : N % 57896044618658097711785492504343953926634992332820282019728792003956564819968 = Y) (ho : On dd (F 0) (F Y)) (h : N / 57896044618658097711785492504343953926634992332820282019728792003956564819968 = 1) (P : Pt dd) : textN P ≠ N := fun e => by
 have hy := y_of ((ptn_y e).trans hY)
 have hp := P.on
 unfold On at hp ho
 rw [hy] at ho
 have e1 : P.x*P.x = F 0*F 0 := ok.cancel (den_ne P) (same_sq hp ho)
 have e2 : P.x = 0 := by
  rw [F_zero, Fin.mul_zero] at e1
  exact (ok.dom e1).elim id id
 have h2 := ptn_x e
 rw [e2, h] at h2
 exact absurd h2 (by decide +kernel)
/-- A root, or its opposite: the one that is asked for. -/
def pick (x o : Nat) : Nat := if x % 2 = o then x else fneg x
theorem pick_lt {x : Nat} (hx : x < pp) (o : Nat) : pick x o < pp := by
 unfold pick
 split
 · exact hx
 · exact fneg_lt _
theorem fneg_odd {x : Nat} (hx : x < pp) (h0 : x ≠ 0) : fneg x % 2 = 1 - x % 2 := by
 have := pp_odd
 unfold fneg
 rw [Nat.mod_eq_of_lt (show pp - x < pp by omega)]
 omega
theorem neg_on {x y : Fin pp} (h : On dd x y) : On dd (-x) y := by
 unfold On at *
 generalize dd = d at *
 grind
theorem some_pt {N Y x : Nat} (hN : N < p256) (hY : N % 57896044618658097711785492504343953926634992332820282019728792003956564819968 = Y) (hyp : Y < pp) (hx : x < pp) (ho : On dd (F x) (F Y))
  (h : ¬ (x = 0 ∧ N / 57896044618658097711785492504343953926634992332820282019728792003956564819968 = 1)) :
  ∃ P : Pt dd, textN P = N ∧ F (pick x (N / 57896044618658097711785492504343953926634992332820282019728792003956564819968)) = P.x ∧ F Y = P.y := by
 have hd : N / 57896044618658097711785492504343953926634992332820282019728792003956564819968 < 2 := by unfold p256 at hN; omega
 have hon : On dd (F (pick x (N / 57896044618658097711785492504343953926634992332820282019728792003956564819968))) (F Y) := by
  unfold pick
  split
  · exact ho
  ·
   rw [F_fneg x hx]
   exact neg_on ho
 refine ⟨⟨_, _, hon⟩, ?_, rfl, rfl⟩
 have h1 : pick x (N / 57896044618658097711785492504343953926634992332820282019728792003956564819968) % 2 = N / 57896044618658097711785492504343953926634992332820282019728792003956564819968 := by
  unfold pick
  split
  · assumption
  ·
   next hne =>
   by_cases h0 : x = 0
   ·
    have : N / 57896044618658097711785492504343953926634992332820282019728792003956564819968 ≠ 1 := fun e => h ⟨h0, e⟩
    rw [h0] at hne
    omega
   ·
    rw [fneg_odd hx h0]
    omega
 show (F Y).val + (F (pick x (N / 57896044618658097711785492504343953926634992332820282019728792003956564819968))).val % 2 * 57896044618658097711785492504343953926634992332820282019728792003956564819968 = N
 rw [F_val hyp, F_val (pick_lt hx _), h1, ← hY]
 omega
/-! The reference's. -/
end Go.Proofs.YtegbnadnodlalaaGreatDoor
namespace Go.Proofs.YtegbnadnodlalaaGreatDoor
open Go.RowKit
def el0 (n : Nat) : Value := .int .u64 ((n : Int) % 2251799813685248)
def el1 (n : Nat) : Value := .int .u64 ((n : Int) / 2251799813685248 % 2251799813685248)
def el2 (n : Nat) : Value := .int .u64 ((n : Int) / 5070602400912917605986812821504 % 2251799813685248)
def el3 (n : Nat) : Value := .int .u64 ((n : Int) / 11417981541647679048466287755595961091061972992 % 2251799813685248)
def el4 (n : Nat) : Value := .int .u64 ((n : Int) / 25711008708143844408671393477458601640355247900524685364822016)
theorem El_is (n : Nat) : El_cells n = #[el0 n, el1 n, el2 n, el3 n, el4 n] := rfl
def Pc (p : P4) : Array Value := #[el0 p.x, el1 p.x, el2 p.x, el3 p.x, el4 p.x, el0 p.y, el1 p.y, el2 p.y, el3 p.y, el4 p.y, el0 p.z, el1 p.z, el2 p.z, el3 p.z, el4 p.z, el0 p.t, el1 p.t, el2 p.t, el3 p.t, el4 p.t]
def PV (p : P4) : Value := .agg (Pc p)
theorem Pc_size (p : P4) : (Pc p).size = 20 := rfl
theorem Pc_one (p : P4) : (Pc p).all (·.oneCell') = true := by simp [Pc, el0, el1, el2, el3, el4, Value.oneCell']
theorem info_Pc (p : P4) : (Tryz.prog.info? 85).map (·.size) = some (Pc p).size := by kernel_rfl
theorem info_El5 (n : Nat) : (Tryz.prog.info? 83).map (·.size) = some (El_cells n).toList.length := by kernel_rfl
def p40 : P4 := ⟨0, 0, 0, 0⟩
def P4.at (p : P4) (k : Nat) : Nat := if k = 0 then p.x else if k = 5 then p.y else if k = 10 then p.z else p.t
theorem rangePc0 {w : World} {g : Nat} {t : TypeId} {p : P4} (h : Blk w g t (Pc p)) : w.rangeAt g 0 (El_cells p.x).toList := fun j v hv => by
 have hj : j < 5 := (List.getElem?_eq_some_iff.1 hv).1
 rw [h.cell, ← hv]
 rw [El_is]
 have : j = 0 ∨ j = 1 ∨ j = 2 ∨ j = 3 ∨ j = 4 := by omega
 rcases this with rfl | rfl | rfl | rfl | rfl <;> rfl
theorem yieldsIf_pl0 {ops : Array Oper} {L : List Fact} {o : Oper} {a : Act} (hgd : Region.wanted o (yielded ops a.tmps) = true) (x : Operand) (ho : o.op = .load 83 x) (g : Nat) (hx : a.eval x = .pointer (some ⟨g, 0, none⟩))
  (t : TypeId) (p : P4) (hm : Fact.blk g t (Pc p) ∈ L) : YieldsIf Tryz.prog ops (Facts L) o (El p.x) a :=
 yieldsIf_load_mid hgd 83 x ho g 0 hx (El_cells p.x).toList _ (fun _ h => rangePc0 (h.blkAt g t _ hm)) Tryz.underlying83 rfl (info_El5 p.x)
theorem rangePc5 {w : World} {g : Nat} {t : TypeId} {p : P4} (h : Blk w g t (Pc p)) : w.rangeAt g 5 (El_cells p.y).toList := fun j v hv => by
 have hj : j < 5 := (List.getElem?_eq_some_iff.1 hv).1
 rw [h.cell, ← hv]
 rw [El_is]
 have : j = 0 ∨ j = 1 ∨ j = 2 ∨ j = 3 ∨ j = 4 := by omega
 rcases this with rfl | rfl | rfl | rfl | rfl <;> rfl
theorem yieldsIf_pl5 {ops : Array Oper} {L : List Fact} {o : Oper} {a : Act} (hgd : Region.wanted o (yielded ops a.tmps) = true) (x : Operand) (ho : o.op = .load 83 x) (g : Nat) (hx : a.eval x = .pointer (some ⟨g, 5, none⟩))
  (t : TypeId) (p : P4) (hm : Fact.blk g t (Pc p) ∈ L) : YieldsIf Tryz.prog ops (Facts L) o (El p.y) a :=
 yieldsIf_load_mid hgd 83 x ho g 5 hx (El_cells p.y).toList _ (fun _ h => rangePc5 (h.blkAt g t _ hm)) Tryz.underlying83 rfl (info_El5 p.y)
theorem rangePc10 {w : World} {g : Nat} {t : TypeId} {p : P4} (h : Blk w g t (Pc p)) : w.rangeAt g 10 (El_cells p.z).toList := fun j v hv => by
 have hj : j < 5 := (List.getElem?_eq_some_iff.1 hv).1
 rw [h.cell, ← hv]
 rw [El_is]
 have : j = 0 ∨ j = 1 ∨ j = 2 ∨ j = 3 ∨ j = 4 := by omega
 rcases this with rfl | rfl | rfl | rfl | rfl <;> rfl
theorem yieldsIf_pl10 {ops : Array Oper} {L : List Fact} {o : Oper} {a : Act} (hgd : Region.wanted o (yielded ops a.tmps) = true) (x : Operand) (ho : o.op = .load 83 x) (g : Nat) (hx : a.eval x = .pointer (some ⟨g, 10, none⟩))
  (t : TypeId) (p : P4) (hm : Fact.blk g t (Pc p) ∈ L) : YieldsIf Tryz.prog ops (Facts L) o (El p.z) a :=
 yieldsIf_load_mid hgd 83 x ho g 10 hx (El_cells p.z).toList _ (fun _ h => rangePc10 (h.blkAt g t _ hm)) Tryz.underlying83 rfl (info_El5 p.z)
theorem rangePc15 {w : World} {g : Nat} {t : TypeId} {p : P4} (h : Blk w g t (Pc p)) : w.rangeAt g 15 (El_cells p.t).toList := fun j v hv => by
 have hj : j < 5 := (List.getElem?_eq_some_iff.1 hv).1
 rw [h.cell, ← hv]
 rw [El_is]
 have : j = 0 ∨ j = 1 ∨ j = 2 ∨ j = 3 ∨ j = 4 := by omega
 rcases this with rfl | rfl | rfl | rfl | rfl <;> rfl
theorem yieldsIf_pl15 {ops : Array Oper} {L : List Fact} {o : Oper} {a : Act} (hgd : Region.wanted o (yielded ops a.tmps) = true) (x : Operand) (ho : o.op = .load 83 x) (g : Nat) (hx : a.eval x = .pointer (some ⟨g, 15, none⟩))
  (t : TypeId) (p : P4) (hm : Fact.blk g t (Pc p) ∈ L) : YieldsIf Tryz.prog ops (Facts L) o (El p.t) a :=
 yieldsIf_load_mid hgd 83 x ho g 15 hx (El_cells p.t).toList _ (fun _ h => rangePc15 (h.blkAt g t _ hm)) Tryz.underlying83 rfl (info_El5 p.t)
theorem yieldsIf_pf0 {ops : Array Oper} {S : World → Prop} {o : Oper} {a : Act} (hgd : Region.wanted o (yielded ops a.tmps) = true) (x : Operand) (ho : o.op = .fieldAddr 85 x 0) (g : Nat) (hx : a.eval x = .pointer (some ⟨g, 0, none⟩)) :
  YieldsIf Tryz.prog ops S o (.pointer (some ⟨g, 0, none⟩)) a := Or.inl ⟨hgd, fun w _ => by
 simp only [execOp, ho, hx]
 go_simp⟩
theorem yieldsIf_pf5 {ops : Array Oper} {S : World → Prop} {o : Oper} {a : Act} (hgd : Region.wanted o (yielded ops a.tmps) = true) (x : Operand) (ho : o.op = .fieldAddr 85 x 1) (g : Nat) (hx : a.eval x = .pointer (some ⟨g, 0, none⟩)) :
  YieldsIf Tryz.prog ops S o (.pointer (some ⟨g, 5, none⟩)) a := Or.inl ⟨hgd, fun w _ => by
 simp only [execOp, ho, hx]
 go_simp⟩
theorem yieldsIf_pf10 {ops : Array Oper} {S : World → Prop} {o : Oper} {a : Act} (hgd : Region.wanted o (yielded ops a.tmps) = true) (x : Operand) (ho : o.op = .fieldAddr 85 x 2) (g : Nat) (hx : a.eval x = .pointer (some ⟨g, 0, none⟩)) :
  YieldsIf Tryz.prog ops S o (.pointer (some ⟨g, 10, none⟩)) a := Or.inl ⟨hgd, fun w _ => by
 simp only [execOp, ho, hx]
 go_simp⟩
theorem yieldsIf_pf15 {ops : Array Oper} {S : World → Prop} {o : Oper} {a : Act} (hgd : Region.wanted o (yielded ops a.tmps) = true) (x : Operand) (ho : o.op = .fieldAddr 85 x 3) (g : Nat) (hx : a.eval x = .pointer (some ⟨g, 0, none⟩)) :
  YieldsIf Tryz.prog ops S o (.pointer (some ⟨g, 15, none⟩)) a := Or.inl ⟨hgd, fun w _ => by
 simp only [execOp, ho, hx]
 go_simp⟩
theorem yieldsIf_pt {ops : Array Oper} {S : World → Prop} {o : Oper} {a : Act} (hgd : Region.wanted o (yielded ops a.tmps) = true) (x y z t : Operand) (ho : o.op = .build 85 #[(0, x), (1, y), (2, z), (3, t)]) (X Y Z T : Nat) (hx : a.eval x = El X) (hy : a.eval y = El Y) (hz : a.eval z = El Z) (ht : a.eval t = El T) :
  YieldsIf Tryz.prog ops S o (PV ⟨X, Y, Z, T⟩) a := Or.inl ⟨hgd, fun w _ => by
 unfold El El_cells at hx hy hz ht
 simp only [execOp, ho, List.map_toArray, List.map_cons, List.map_nil, hx, hy, hz, ht, PV, Pc, el0, el1, el2, el3, el4]
 go_simp⟩
theorem Blk.farCells {g k : Nat} {t : TypeId} {cs : Array Value} (hk : g ≠ k) : ∀ (vs : List Value) (o : Nat) {w : World}, Blk w g t cs → Blk (w.setCells k o vs) g t cs
 | [], _, _, h => h
 | _ :: vs, o, _, h => Blk.farCells hk vs (o + 1) (h.far (p := ⟨k, o, none⟩) hk _)
theorem below_setCells {n g : Nat} (hg : n ≤ g) {w : World} : ∀ (vs : List Value) (o : Nat) {w' : World}, Below n w w' → Below n w (w'.setCells g o vs)
 | [], _, _, h => h
 | _ :: vs, o, _, h => below_setCells hg vs (o + 1) (h.setCell (p := ⟨g, o, none⟩) hg _)
theorem Blk.pfive0 {w : World} {g : Nat} {t : TypeId} {a0 a1 a2 a3 a4 a5 a6 a7 a8 a9 a10 a11 a12 a13 a14 a15 a16 a17 a18 a19 : Value} (h : Blk w g t #[a0, a1, a2, a3, a4, a5, a6, a7, a8, a9, a10, a11, a12, a13, a14, a15, a16, a17, a18, a19]) (v0 v1 v2 v3 v4 : Value) :
  Blk (w.setCells g 0 [v0, v1, v2, v3, v4]) g t #[v0, v1, v2, v3, v4, a5, a6, a7, a8, a9, a10, a11, a12, a13, a14, a15, a16, a17, a18, a19] := ((((h.set 0 v0).set 1 v1).set 2 v2).set 3 v3).set 4 v4
theorem Blk.pput0 {w : World} {g : Nat} {t : TypeId} {p : P4} (h : Blk w g t (Pc p)) (X : Nat) : Blk (w.setCells g 0 (El_cells X).toList) g t (Pc ⟨X, p.y, p.z, p.t⟩) := Blk.pfive0 h (el0 X) (el1 X) (el2 X) (el3 X) (el4 X)
theorem Blk.pfive5 {w : World} {g : Nat} {t : TypeId} {a0 a1 a2 a3 a4 a5 a6 a7 a8 a9 a10 a11 a12 a13 a14 a15 a16 a17 a18 a19 : Value} (h : Blk w g t #[a0, a1, a2, a3, a4, a5, a6, a7, a8, a9, a10, a11, a12, a13, a14, a15, a16, a17, a18, a19]) (v0 v1 v2 v3 v4 : Value) :
  Blk (w.setCells g 5 [v0, v1, v2, v3, v4]) g t #[a0, a1, a2, a3, a4, v0, v1, v2, v3, v4, a10, a11, a12, a13, a14, a15, a16, a17, a18, a19] := ((((h.set 5 v0).set 6 v1).set 7 v2).set 8 v3).set 9 v4
theorem Blk.pput5 {w : World} {g : Nat} {t : TypeId} {p : P4} (h : Blk w g t (Pc p)) (X : Nat) : Blk (w.setCells g 5 (El_cells X).toList) g t (Pc ⟨p.x, X, p.z, p.t⟩) := Blk.pfive5 h (el0 X) (el1 X) (el2 X) (el3 X) (el4 X)
theorem Blk.pfive10 {w : World} {g : Nat} {t : TypeId} {a0 a1 a2 a3 a4 a5 a6 a7 a8 a9 a10 a11 a12 a13 a14 a15 a16 a17 a18 a19 : Value} (h : Blk w g t #[a0, a1, a2, a3, a4, a5, a6, a7, a8, a9, a10, a11, a12, a13, a14, a15, a16, a17, a18, a19]) (v0 v1 v2 v3 v4 : Value) :
  Blk (w.setCells g 10 [v0, v1, v2, v3, v4]) g t #[a0, a1, a2, a3, a4, a5, a6, a7, a8, a9, v0, v1, v2, v3, v4, a15, a16, a17, a18, a19] := ((((h.set 10 v0).set 11 v1).set 12 v2).set 13 v3).set 14 v4
theorem Blk.pput10 {w : World} {g : Nat} {t : TypeId} {p : P4} (h : Blk w g t (Pc p)) (X : Nat) : Blk (w.setCells g 10 (El_cells X).toList) g t (Pc ⟨p.x, p.y, X, p.t⟩) := Blk.pfive10 h (el0 X) (el1 X) (el2 X) (el3 X) (el4 X)
theorem Blk.pfive15 {w : World} {g : Nat} {t : TypeId} {a0 a1 a2 a3 a4 a5 a6 a7 a8 a9 a10 a11 a12 a13 a14 a15 a16 a17 a18 a19 : Value} (h : Blk w g t #[a0, a1, a2, a3, a4, a5, a6, a7, a8, a9, a10, a11, a12, a13, a14, a15, a16, a17, a18, a19]) (v0 v1 v2 v3 v4 : Value) :
  Blk (w.setCells g 15 [v0, v1, v2, v3, v4]) g t #[a0, a1, a2, a3, a4, a5, a6, a7, a8, a9, a10, a11, a12, a13, a14, v0, v1, v2, v3, v4] := ((((h.set 15 v0).set 16 v1).set 17 v2).set 18 v3).set 19 v4
theorem Blk.pput15 {w : World} {g : Nat} {t : TypeId} {p : P4} (h : Blk w g t (Pc p)) (X : Nat) : Blk (w.setCells g 15 (El_cells X).toList) g t (Pc ⟨p.x, p.y, p.z, X⟩) := Blk.pfive15 h (el0 X) (el1 X) (el2 X) (el3 X) (el4 X)
theorem Blk.pthere {w : World} {g : Nat} {t : TypeId} {p : P4} (h : Blk w g t (Pc p)) (o : Nat) (ho : o + 5 ≤ 20) (N : Nat) : w.there g o (El_cells N).size := fun j hj => by
 refine ⟨?_, h.frozen _⟩
 rw [h.cell]
 have hj5 : j < 5 := hj
 have : o + j < (Pc p).size := by rw [Pc_size]; omega
 rw [Array.getElem?_eq_getElem this]
 rfl
theorem wpSeq_store_mid {P : Program} {ops : Array Oper} {Q : Exit → Act → World → Prop} {o : Oper} {rest : List Oper} {a : Act} {w : World} (hgd : o.guard = none)
  (ty : TypeId) (x y : Operand) (ho : o.op = .store ty x y) (g k : Nat) (cells : Array Value) (hx : a.eval x = .pointer (some ⟨g, k, none⟩)) (hy : a.eval y = .agg cells)
  (ht : w.there g k cells.size) (hi : (P.info? ty).map (·.size) = some cells.size) (h1 : cells.all (·.oneCell') = true)
  (h : wpSeq P ops Q rest (a.put o.dst undef) (w.setCells g k cells.toList)) : wpSeq P ops Q (o :: rest) a w :=
 wpSeq_wp (by simp [Region.wanted, hgd]) (wp_store_mid ty x y ho g k cells hx hy ht hi h1 h)
/-- The last store of a drawn region: nothing is asked behind it. -/
theorem wpAnyZ_store_end {P : Program} {md : Region.Mode} {ops : Array Oper} {Q : Exit → Act → World → Prop} {S : World → Prop} {z fuel : Nat} {listed : Array Bool} {a : Act} {w : World} (i : Nat) {oi : Oper} (hi : ops.toList[i]? = some oi) (hr : Region.ready md ops listed = [i]) (hgd : oi.guard = none)
  (ty : TypeId) (x y : Operand) (ho : oi.op = .store ty x y) (g : Nat) (cells : Array Value) (hx : a.eval x = .pointer (some ⟨g, 0, none⟩)) (hy : a.eval y = .agg cells)
  (t : TypeId) (old : Array Value) (hg : Blk w g t old) (hinf : (P.info? ty).map (·.size) = some cells.size) (hold : old.size = cells.size) (h1 : cells.all (·.oneCell') = true) (hz : (listed.setIfInBounds i true).getD z true = true)
  (h : wpAnyZ P md ops Q S z fuel (listed.setIfInBounds i true) (a.put oi.dst undef) (w.setRow g cells)) : wpAnyZ P md ops Q S z (fuel + 1) listed a w := by
 refine wpAnyZ_one hr ?_
 unfold wpOp
 rw [← Array.getElem?_toList, hi]
 have hw : Region.wanted oi (yielded ops a.tmps) = true := by simp [Region.wanted, hgd]
 simp only [hw, if_true]
 left
 exact wp_store_row ty x y ho g cells hx hy t old hg hinf hold h1 ⟨fun h0 => (by rw [hz] at h0; cases h0), h⟩
end Go.Proofs.YtegbnadnodlalaaGreatDoor
namespace Go.Proofs.YtegbnadnodlalaaGreatDoor
open Go.RowKit
theorem El_same (a b : Nat) : (El_cells a).size = (El_cells b).size := rfl
theorem Pc_same (a b : P4) : (Pc a).size = (Pc b).size := rfl
/-- The cells of a row of points. -/
def Pl (ps : List P4) : Array Value := ((ps.map PV).flatMap fun v => v.cells.toList).toArray
theorem Pl_get (ps : List P4) (k : Nat) : (Pl ps)[k]? = ((ps.map PV)[k / 20]?).bind (fun v => v.cells[k % 20]?) := by
 unfold Pl
 rw [List.getElem?_toArray]
 exact Go.Great.flat_get (by decide) _ (fun v hv => by obtain ⟨p, _, rfl⟩ := List.mem_map.1 hv; rfl) k
theorem rangePl {w : World} {g : Nat} {t : TypeId} {ps : List P4} (h : Blk w g t (Pl ps)) (i : Nat) (p : P4) (hp : ps[i]? = some p) : w.rangeAt g (i * 20) (Pc p).toList := fun j v hv => by
 have hj : j < 20 := by
  have := (List.getElem?_eq_some_iff.1 hv).1
  rw [Array.length_toList, Pc_size] at this
  exact this
 rw [h.cell, Pl_get, show (i * 20 + j) / 20 = i by omega, show (i * 20 + j) % 20 = j by omega, List.getElem?_map, hp]
 show (Pc p)[j]? = some v
 rw [← hv, Array.getElem?_toList]
theorem info_Pt : (Tryz.prog.info? 85).map (·.size) = some 20 := by kernel_rfl
theorem zero_Pt : ((Tryz.prog.info? 85).bind (·.zero)).isSome = true := by kernel_rfl
theorem under_Pts : Tryz.prog.underlying 126 = some (.slice 85) := by kernel_rfl
theorem run_points (n : Nat) (parts : Array (Nat × Value)) (ps : List P4) (hp : parts.toList = ((ps.map PV).zipIdx 0).map fun x => (x.2, x.1)) (hn : ps.length = n) (hpos : 0 < n) (hs : n ≤ 1000) (w : World) :
  (Instr.buildSlice 126 n parts).run Tryz.prog w = .ok (.slice (some ⟨w.heap.size, 0, none⟩) n n) (w.alloc (.cells (Pl ps) 85)) := by
 have h1 := info_Pt
 have h2 := zero_Pt
 cases hie : Tryz.prog.info? 85 with
 | none => rw [hie] at h1; cases h1
 | some ie =>
  simp only [hie, Option.map_some, Option.some.injEq, Option.bind_some] at h1 h2
  obtain ⟨z, hz⟩ := Option.isSome_iff_exists.1 h2
  refine run_buildSlice w _ _ n parts _ ie z under_Pts hie hz (by rw [h1]; omega) (by rw [h1]; omega) ?_
  rw [hp, h1]
  exact Go.Great.fill_whole (by decide) _ _ (fun v hv => by obtain ⟨p, _, rfl⟩ := List.mem_map.1 hv; rfl) (by simp [hn])
theorem wp_points {o : Oper} {a : Act} {w : World} {K : Act → World → Prop} {Q : Exit → Act → World → Prop} (n : Nat) (parts : Array (Nat × Operand)) (ho : o.op = .buildSlice 126 n parts)
  (ps : List P4) (hp : (parts.map fun (i, x) => (i, a.eval x)).toList = ((ps.map PV).zipIdx 0).map fun x => (x.2, x.1)) (hn : ps.length = n) (hpos : 0 < n) (hs : n ≤ 1000)
  (h : K (a.put o.dst (.slice (some ⟨w.heap.size, 0, none⟩) n n)) (w.alloc (.cells (Pl ps) 85))) : o.wp Tryz.prog a w K Q := by
 unfold Oper.wp execOp
 simp only [ho, Sem.run_bind, run_points n _ ps hp hn hpos hs w, Result.andThen_ok]
 exact h
theorem wpAnyZ_points {md : Region.Mode} {ops : Array Oper} {Q : Exit → Act → World → Prop} {S : World → Prop} {z fuel : Nat} {listed : Array Bool} {a : Act} {w : World} (i : Nat) {oi : Oper} (hi : ops.toList[i]? = some oi) (hr : Region.ready md ops listed = [i]) (hgd : Region.wanted oi (yielded ops a.tmps) = true)
  (n : Nat) (parts : Array (Nat × Operand)) (ho : oi.op = .buildSlice 126 n parts)
  (ps : List P4) (hp : (parts.map fun (i, x) => (i, a.eval x)).toList = ((ps.map PV).zipIdx 0).map fun x => (x.2, x.1)) (hn : ps.length = n) (hpos : 0 < n) (hs : n ≤ 1000)
  (hS : ∀ W, Below w.heap.size w W → S W)
  (h : ∀ g W, Blk W g 85 (Pl ps) → Below w.heap.size w W → w.heap.size ≤ g → wpAnyZ Tryz.prog md ops Q S z fuel (listed.setIfInBounds i true) (a.put oi.dst (.slice (some ⟨g, 0, none⟩) n n)) W) : wpAnyZ Tryz.prog md ops Q S z (fuel + 1) listed a w := by
 refine wpAnyZ_one hr ?_
 unfold wpOp
 rw [← Array.getElem?_toList, hi]
 simp only [hgd, if_true]
 left
 have b := (Below.refl w.heap.size w).alloc (Nat.le_refl _) (.cells (Pl ps) 85)
 exact wp_points n parts ho ps hp hn hpos hs ⟨fun _ => hS _ b, h _ _ (Blk.new _ _ _) b (Nat.le_refl _)⟩
theorem parts2 {a : Act} {x0 x1 : Operand} {p0 p1 : P4} (h0 : a.eval x0 = PV p0) (h1 : a.eval x1 = PV p1) : ((#[(0, x0), (1, x1)] : Array (Nat × Operand)).map fun (i, x) => (i, a.eval x)).toList = (([p0, p1].map PV).zipIdx 0).map fun x => (x.2, x.1) := by
 simp [h0, h1]
/-- A block allocated, in the text's order: its number, and the world behind it. -/
theorem wpSeq_allocQ {P : Program} {ops : Array Oper} {Q : Exit → Act → World → Prop} {o : Oper} {rest : List Oper} {a : Act} {w : World} (t : TypeId) (cs : Array Value) (hw : Region.wanted o (yielded ops a.tmps) = true)
  (hrun : ∀ W, (execOp a.eval o).run P W = .ok (.value (.pointer (some ⟨W.heap.size, 0, none⟩))) (W.alloc (.cells cs t)))
  (h : ∀ g W, Blk W g t cs → Below w.heap.size w W → w.heap.size ≤ g → wpSeq P ops Q rest (a.put o.dst (.pointer (some ⟨g, 0, none⟩))) W) : wpSeq P ops Q (o :: rest) a w :=
 wpSeq_alloc t cs hw hrun (h _ _ (Blk.new _ _ _) ((Below.refl w.heap.size w).alloc (Nat.le_refl _) _) (Nat.le_refl _))
theorem Facts.nilB {n : Nat} {w w' : World} (_ : Below n w w') : Facts [] w' := Facts.nil
theorem Rng.rowFar {w : World} {g : Nat} {cs : Array Value} (h : Rng w g cs) {k : Nat} (hk : g ≠ k) (ds : Array Value) : Rng (w.setRow k ds) g cs :=
 ⟨by rw [setRow_size]; exact h.blk, fun j v hv => by
  rw [← h.there j v hv]
  simp only [World.cell?]
  rw [setRow_other w k g ds hk]⟩
theorem Rng.far {w : World} {g : Nat} {cs : Array Value} (h : Rng w g cs) {p : Addr} (hk : g ≠ p.block) (v : Value) : Rng (w.setCell p v) g cs :=
 ⟨by simpa [World.setCell] using h.blk, fun j x hx => by
  rw [← h.there j x hx]
  simp only [World.cell?]
  rw [heap_setCell_other w p g v hk]⟩
theorem Rng.farCells {g k : Nat} {cs : Array Value} (hk : g ≠ k) : ∀ (vs : List Value) (o : Nat) {w : World}, Rng w g cs → Rng (w.setCells k o vs) g cs
 | [], _, _, h => h
 | _ :: vs, o, _, h => Rng.farCells hk vs (o + 1) (h.far (p := ⟨k, o, none⟩) hk _)
theorem info_keyL (n : Nat) : (Tryz.prog.info? 23).map (·.size) = some (Iv .u8 (keyOf n)).toList.length := by
 rw [Array.length_toList]
 exact info_key _ (keyOf_length n)
/-- A key as a number modulo the prime. -/
def plN (n : Nat) : Nat := n % 57896044618658097711785492504343953926634992332820282019728792003956564819968 % pp
theorem plN_small {n : Nat} (h : n < pp) : plN n = n := by
 have := pp_255
 unfold plN
 rw [Nat.mod_eq_of_lt (show n < 57896044618658097711785492504343953926634992332820282019728792003956564819968 by omega), Nat.mod_eq_of_lt h]
theorem of_n (N X : Nat) (h : N < p256) (hX : X = plN N) (w : World) : Calls Tryz.prog 73 #[Key (keyOf N)] w fun e w' => e = .returned (El X) ∧ Below w.heap.size w w' :=
 of_v _ _ (keyOf_bytes N) X (by rw [leTo_byteAt32 h, hX]; rfl) w
/-- The sum of all. -/
def psum (ps : List P4) : P4 := ps.foldl padd pzero
theorem psum_next (ps : List P4) (k : Nat) (p : P4) (h : ps[k]? = some p) : psum (ps.take (k + 1)) = padd (psum (ps.take k)) p := by
 have hk : k < ps.length := (List.getElem?_eq_some_iff.1 h).1
 have e : ps.take (k + 1) = ps.take k ++ [p] := by
  rw [List.take_add_one, h]
  rfl
 unfold psum
 rw [e, List.foldl_append]
 rfl
theorem psum_ok (ps : List P4) (h : ∀ p ∈ ps, p.Ok) : (psum ps).Ok := by
 have key : ∀ (ps : List P4) (s : P4), s.Ok → (ps.foldl padd s).Ok := by
  intro ps
  induction ps with
  | nil => intro s hs; exact hs
  | cons p ps ih => intro s hs; exact ih _ (padd_ok _ _)
 exact key ps pzero pzero_is.ok
/-! A key's highest bit. -/
theorem byteAt_low (Y i : Nat) (hi : i < 31) : byteAt (Y % 57896044618658097711785492504343953926634992332820282019728792003956564819968) i = byteAt Y i := by
 have e : (57896044618658097711785492504343953926634992332820282019728792003956564819968 : Nat) = 256 ^ i * (256 * 2 ^ (247 - 8 * i)) := by
  rw [show (256 : Nat) = 2 ^ 8 by decide, ← Nat.pow_mul, ← Nat.pow_add, ← Nat.pow_add, show 8 * i + (8 + (247 - 8 * i)) = 255 by omega]
 unfold byteAt
 rw [e, Nat.mod_mul_right_div_self, Nat.mod_mul_right_mod]
theorem byteAt_31 (Y : Nat) : byteAt (Y % 57896044618658097711785492504343953926634992332820282019728792003956564819968) 31 = byteAt Y 31 % 128 := by
 unfold byteAt
 simp only [Nat.reducePow]
 omega
theorem byteAt_top (Y : Nat) (h : Y < p256) : byteAt Y 31 / 128 = Y / 57896044618658097711785492504343953926634992332820282019728792003956564819968 := by
 unfold p256 at h
 unfold byteAt
 simp only [Nat.reducePow]
 omega
theorem keyOf_set (A B v : Nat) (h : ∀ i, i < 31 → byteAt A i = byteAt B i) (hv : byteAt B 31 = v) : (keyOf A).set 31 ((v : Nat) : Int) = keyOf B := by
 apply List.ext_getElem (by rw [List.length_set, keyOf_length, keyOf_length])
 intro i h1 h2
 have hi : i < 32 := by rw [keyOf_length] at h2; exact h2
 rw [List.getElem_set]
 split
 ·
  next e =>
  subst e
  simp [keyOf, hv]
 · next e => simp [keyOf, h i (by omega)]
/-- The bit taken out. -/
theorem key_cut (N : Nat) : (keyOf N).set 31 ((byteAt N 31 % 128 : Nat) : Int) = keyOf (N % 57896044618658097711785492504343953926634992332820282019728792003956564819968) :=
 keyOf_set _ _ _ (fun i hi => (byteAt_low N i hi).symm) (byteAt_31 N)
/-- The bit laid. -/
theorem key_lay (Y b : Nat) (hY : Y < 57896044618658097711785492504343953926634992332820282019728792003956564819968) (hb : b < 2) : (keyOf Y).set 31 ((byteAt Y 31 + b * 128 : Nat) : Int) = keyOf (Y + b * 57896044618658097711785492504343953926634992332820282019728792003956564819968) := by
 have e : (Y + b * 57896044618658097711785492504343953926634992332820282019728792003956564819968) % 57896044618658097711785492504343953926634992332820282019728792003956564819968 = Y := by omega
 refine keyOf_set _ _ _ (fun i hi => ?_) ?_
 ·
  have h1 := byteAt_low (Y + b * 57896044618658097711785492504343953926634992332820282019728792003956564819968) i hi
  rw [e] at h1
  exact h1
 ·
  unfold byteAt
  simp only [Nat.reducePow]
  omega
theorem byteAt_small (Y : Nat) (hY : Y < 57896044618658097711785492504343953926634992332820282019728792003956564819968) : byteAt Y 31 < 128 := by
 unfold byteAt
 simp only [Nat.reducePow]
 omega
end Go.Proofs.YtegbnadnodlalaaGreatDoor
