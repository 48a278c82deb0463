/- Small things that several layers' texts share. Numbers, keys, bytes: what speaks of no function of the program. sha2's words: what a sum of 256 bits is reckoned with; the contracts of right32, either, majority. -/
import Derived.Test.YtdmhngkedgkndaaDoorBg
import Derived.Test.YtdmhngkedgkndaaDoorLq0Us
import Derived.Test.YtdmhngkedgkndaaDoorLf0Lo
import Derived.Lib.AppendStr
import Derived.Test.YtdmhngkedgkndaaDoorProg
import Derived.Lib.Mul64
import Derived.Deep.QuietTactic
import Derived.BigQuiet
import Derived.Deep.RegionHeld3
namespace Go.Proofs.YtdmhngkedgkndaaDoor
open Go.RowKit
theorem ret_int {k : IntKind} {a b : Int} (h : a = b) : Ending.returned (.int k a) = .returned (.int k b) := by rw [h]
theorem byte_row (w : World) (x : Nat) : BA (w.alloc (.cells #[.int .u8 ((x : Nat) : Int)] 5)) w.heap.size 0 [x] :=
  BA.of_blk (Blk.new w 5 (Iv .u8 (NI [x])))
theorem wpList_append_run {P : Program} {ops : Array Oper} {rest : List Oper} {o : Oper} {a : Act} {w : World} {Q : Exit → Act → World → Prop} (hgd : o.guard = none) (s x : Operand) (t u : TypeId)
    (ho : o.op = .call { callee := .builtin .append, args := #[s, x], argTypes := #[t, u] }) (v y : Value) (hs : a.eval s = v) (hx : a.eval x = y) (v' : Value) (w' : World)
    (hr : (Builtin.append_ #[t, u] o.type #[v, y]).run P w = .ok v' w') (h : wpList P ops Q rest (a.put o.dst v') w') : wpList P ops Q (o :: rest) a w :=
  wpList_plain hgd fun K hK => by
    unfold Oper.wp execOp
    simp only [ho, resolve, invoke, builtin, Sem.run_bind, Sem.run_pure, Result.andThen_ok, List.map_toArray, List.map_cons, List.map_nil, hs, hx, hr]
    exact hK _ _ h
/-- A string's bytes. -/
def bL (s : ByteArray) : List Nat := s.data.toList.map UInt8.toNat
theorem bL_length (s : ByteArray) : (bL s).length = s.size := by
  rw [bL, List.length_map, Array.length_toList]
  rfl
theorem strCells_vals (s : ByteArray) : Lib.strCells s = vals (bL s) := by
  simp [Lib.strCells, vals, bL]
section
variable {P : Program} {ops : Array Oper} {Q : Exit → Act → World → Prop}
theorem wpList_yield {S : World → Prop} {o : Oper} {rest : List Oper} {v : Value} {a : Act} {w : World} (hy : YieldsIf P ops S o v a) (hS : S w) (h : wpList P ops Q rest (a.put o.dst v) w) : wpList P ops Q (o :: rest) a w := by
  unfold wpList
  rcases hy with ⟨hw, hv⟩ | ⟨hw, rfl⟩
  · rw [if_pos hw]
    left
    unfold Oper.wp
    rw [hv w hS]
    exact h
  · rw [if_neg (by rw [hw]; decide)]
    exact h
end
end Go.Proofs.YtdmhngkedgkndaaDoor
namespace Go.Proofs.YtdmhngkedgkndaaDoor
open Go.RowKit
theorem wraps_u64 (n : Int) (h₀ : 0 ≤ n) (h₁ : n < 2 ^ 64) : IntKind.u64.wrap n = n := by rw [IntKind.wrap_u64]; omega
/-- 'x | y' where y stands below all of x's bits. -/
theorem or64 (i : Nat) (x y : Int) (hx0 : 0 ≤ x) (hx : x % 2 ^ i = 0) (hx1 : x < 2 ^ 64) (h0 : 0 ≤ y) (h1 : y < 2 ^ i) (hi : (2 : Int) ^ i ≤ 2 ^ 64) : bits .or .u64 x y = x + y :=
  bits_join .u64 64 (by decide) wraps_u64 i x y hx0 hx hx1 h0 h1 (by omega)
theorem or_comm64 (x y : Int) : bits .or .u64 x y = bits .or .u64 y x := by simp only [bits, BitVec.or_comm]
theorem eq_keys (l1 l2 : List Int) (h1 : l1.length = 32) (h2 : l2.length = 32) (w : World) :
    (Op.equalIn 10000 28 (.agg (Iv .u8 l1)) (.agg (Iv .u8 l2))).run Tryd.prog w = .ok (decide (l1 = l2)) w := by
  obtain ⟨i, hi⟩ : ∃ i, Tryd.prog.info? 5 = some i := info_of_underlying Tryd.underlying5
  exact run_eq_ints w 9998 (n := 32) (e := 5) Tryd.underlying28 hi Tryd.underlying5 (by kernel_rfl) (by kernel_rfl) l1 l2 h1 h2
theorem eql_keys (l1 l2 : List Int) (h1 : l1.length = 32) (h2 : l2.length = 32) (w : World) :
    (binOp .eql 28 (.agg (Iv .u8 l1)) (.agg (Iv .u8 l2))).run Tryd.prog w = .ok (.bool (decide (l1 = l2))) w := by
  rw [run_eql_struct, eq_keys l1 l2 h1 h2]
  rfl
def Key (l : List Int) : Value := .agg (Iv .u8 l)
structure OnesW (w wr : World) (k : Nat) : Prop where
  res : Blk wr w.heap.size 28 (Iv .u8 (List.replicate 32 0))
  key : Blk wr (w.heap.size + 1) 28 (Iv .u8 (fill 32 (fun _ => 255) k))
  b : Below w.heap.size w wr
theorem OnesW.step {w wr : World} {k : Nat} (h : OnesW w wr k) : OnesW w (wr.setCell ⟨w.heap.size + 1, k, none⟩ (.int .u8 255)) (k + 1) := by
  refine ⟨h.res.far (by simp) _, ?_, h.b.setCell (by simp) _⟩
  have := h.key.set k (.int .u8 255)
  rw [Iv_set, fill_set 32 (fun _ => 255) k] at this
  exact this
structure AwakeW (w wr : World) (k : Nat) : Prop where
  key : Blk wr w.heap.size 28 (Iv .u8 (fill 32 (fun _ => 255) k))
  b : Below w.heap.size w wr
theorem AwakeW.step {w wr : World} {k : Nat} (h : AwakeW w wr k) : AwakeW w (wr.setCell ⟨w.heap.size, k, none⟩ (.int .u8 255)) (k + 1) := by
  refine ⟨?_, h.b.setCell (by simp) _⟩
  have := h.key.set k (.int .u8 255)
  rw [Iv_set, fill_set 32 (fun _ => 255) k] at this
  exact this
end Go.Proofs.YtdmhngkedgkndaaDoor
namespace Go.Proofs.YtdmhngkedgkndaaDoor
open Go.RowKit
/-- A word of 32 bits turned right. -/
def rr (x n : Nat) : Nat := x * 2 ^ (32 - n) % 4294967296 + x / 2 ^ n
theorem rr_lt (x n : Nat) (hx : x < 4294967296) (h0 : 0 < n) (hn : n < 32) : rr x n < 4294967296 := by
  unfold rr
  have h1 : x / 2 ^ n < 2 ^ (32 - n) := by
    rw [Nat.div_lt_iff_lt_mul (Nat.pow_pos (by decide)), ← Nat.pow_add, show 32 - n + n = 32 by omega]
    exact hx
  have h2 : x * 2 ^ (32 - n) % 4294967296 + 2 ^ (32 - n) ≤ 4294967296 := by
    have e : (4294967296 : Nat) = 2 ^ (32 - n) * 2 ^ n := by rw [← Nat.pow_add, show 32 - n + n = 32 by omega]
    rw [e, Nat.mul_comm x, Nat.mul_mod_mul_left, ← Nat.mul_succ]
    exact Nat.mul_le_mul_left _ (Nat.mod_lt _ (Nat.pow_pos (by decide)))
  omega
theorem and_lt (a b : Nat) (ha : a < 4294967296) : a &&& b < 4294967296 := Nat.lt_of_le_of_lt Nat.and_le_left ha
theorem xor_lt (a b : Nat) (ha : a < 4294967296) (hb : b < 4294967296) : a ^^^ b < 4294967296 := Nat.xor_lt_two_pow (n := 32) ha hb
def ei (e f g : Nat) : Nat := e &&& f ^^^ (4294967295 ^^^ e) &&& g
def ma (a b c : Nat) : Nat := a &&& b ^^^ a &&& c ^^^ b &&& c
theorem ei_lt (e f g : Nat) (he : e < 4294967296) : ei e f g < 4294967296 := xor_lt _ _ (and_lt _ _ he) (and_lt _ _ (xor_lt _ _ (by decide) he))
theorem ma_lt (a b c : Nat) (ha : a < 4294967296) (hb : b < 4294967296) : ma a b c < 4294967296 := xor_lt _ _ (xor_lt _ _ (and_lt _ _ ha) (and_lt _ _ ha)) (and_lt _ _ hb)
theorem wraps_u32 (n : Int) (h₀ : 0 ≤ n) (h₁ : n < 2 ^ 32) : IntKind.u32.wrap n = n := by rw [IntKind.wrap_u32]; omega
theorem or32 (i : Nat) (x y : Int) (hx0 : 0 ≤ x) (hx : x % 2 ^ i = 0) (hx1 : x < 2 ^ 32) (h0 : 0 ≤ y) (h1 : y < 2 ^ i) (hi : (2 : Int) ^ i ≤ 2 ^ 32) : bits .or .u32 x y = x + y :=
  bits_join .u32 32 (by decide) wraps_u32 i x y hx0 hx hx1 h0 h1 (by omega)
theorem or_rr (x n : Nat) (hx : x < 4294967296) (h0 : 0 < n) (hn : n < 32) :
    bits .or .u32 (IntKind.u32.wrap ((x : Int) * 2 ^ (32 - n))) ((x : Int) / 2 ^ n) = ((rr x n : Nat) : Int) := by
  have e1 : IntKind.u32.wrap ((x : Int) * 2 ^ (32 - n)) = ((x * 2 ^ (32 - n) % 4294967296 : Nat) : Int) := by
    rw [IntKind.wrap_u32, Int.natCast_emod, Int.natCast_mul, Int.natCast_pow]
    rfl
  have e2 : (x : Int) / 2 ^ n = ((x / 2 ^ n : Nat) : Int) := by simp
  have h1 : x / 2 ^ n < 2 ^ (32 - n) := by
    rw [Nat.div_lt_iff_lt_mul (Nat.pow_pos (by decide)), ← Nat.pow_add, show 32 - n + n = 32 by omega]
    exact hx
  have h3 : 2 ^ (32 - n) ∣ x * 2 ^ (32 - n) % 4294967296 := by
    rw [Nat.dvd_mod_iff (Nat.pow_dvd_pow 2 (show 32 - n ≤ 32 by omega))]
    exact ⟨x, Nat.mul_comm _ _⟩
  have h4 : x * 2 ^ (32 - n) % 4294967296 < 4294967296 := Nat.mod_lt _ (by decide)
  have h5 : 2 ^ (32 - n) ≤ 2 ^ 32 := Nat.pow_le_pow_right (by decide) (by omega)
  have ep : (2 : Int) ^ (32 - n) = ((2 ^ (32 - n) : Nat) : Int) := by rw [Int.natCast_pow]; rfl
  rw [e1, e2]
  unfold rr
  generalize x * 2 ^ (32 - n) % 4294967296 = A at *
  generalize x / 2 ^ n = D at *
  generalize hP : (2 : Nat) ^ (32 - n) = P at *
  rw [or32 (32 - n) _ _ (by omega) (by rw [ep, ← Int.natCast_emod, Nat.mod_eq_zero_of_dvd h3]; rfl) (by omega) (by omega) (by rw [ep]; omega) (by rw [ep]; omega)]
  omega
set_option maxHeartbeats 1000000 in
theorem right32_any (x n : Nat) (w : World) (hx : x < 4294967296) (h0 : 0 < n) (hn : n < 32) : Calls Tryd.prog 47 #[.int .u32 x, .int .i64 n] w fun e w' => e = .returned (.int .u32 ((rr x n : Nat) : Int)) ∧ w = w' := by
  have hr := or_rr x n hx h0 hn
  have i1 : IntKind.i64.wrap (-(n : Int)) = -(n : Int) := by rw [IntKind.wrap_i64]; omega
  have i2 : IntKind.u64.wrap (-(n : Int)) = ((18446744073709551616 - n : Nat) : Int) := by rw [IntKind.wrap_u64]; omega
  have i3 : bits .and .u64 ((18446744073709551616 - n : Nat) : Int) 31 = ((32 - n : Nat) : Int) := by
    have h := u64_and_nat (18446744073709551616 - n) 31 (by omega) (by omega)
    have e : (18446744073709551616 - n) &&& 31 = (18446744073709551616 - n) % 32 := Nat.and_two_pow_sub_one_eq_mod _ 5
    rw [e] at h
    exact h.trans (by congr 1; omega)
  obtain ⟨s, hs⟩ : ∃ s, s = 32 - n := ⟨_, rfl⟩
  rw [← hs] at i3 hr
  have i4 : IntKind.u64.wrap (32 - (s : Int)) = (n : Int) := by rw [IntKind.wrap_u64]; omega
  have i5 : (0 : Int) ≤ (s : Int) := by omega
  have i6 : min s 32 = s := by omega
  have i7 : min n 32 = n := by omega
  rw [IntKind.wrap_u32] at hr
  have HR := Lib.hid hr
  clear hr hs
  go_enter Tryd.func47, Tryd.ntmps47
  go_wp2
  go_ret
  exact ⟨ret_int HR.out, rfl⟩
set_option maxHeartbeats 1000000 in
theorem either_any (e f g : Nat) (w : World) (he : e < 4294967296) (hf : f < 4294967296) (hg : g < 4294967296) : Calls Tryd.prog 48 #[.int .u32 e, .int .u32 f, .int .u32 g] w fun r w' => r = .returned (.int .u32 ((ei e f g : Nat) : Int)) ∧ w = w' := by
  have lm : (4294967295 : Nat) ^^^ e < 4294967296 := xor_lt _ _ (by decide) he
  have e0 : bits .xor .u32 IntKind.u32.max (e : Int) = ((4294967295 ^^^ e : Nat) : Int) := u32_xor_nat 4294967295 e (by decide) he
  have e1 := u32_and_nat e f he hf
  have e2 := u32_and_nat _ g lm hg
  have e3 := u32_xor_nat _ _ (and_lt e f he) (and_lt _ g lm)
  have E : Hid (bits .xor .u32 (bits .and .u32 (e : Int) (f : Int)) (bits .and .u32 (bits .xor .u32 IntKind.u32.max (e : Int)) (g : Int)) = ((ei e f g : Nat) : Int)) := Lib.hid (by rw [e0, e1, e2, e3]; rfl)
  clear e0 e1 e2 e3 lm
  go_enter Tryd.func48, Tryd.ntmps48
  go_wp2
  go_ret
  exact ⟨ret_int E.out, rfl⟩
set_option maxHeartbeats 1000000 in
theorem majority_any (a b c : Nat) (w : World) (ha : a < 4294967296) (hb : b < 4294967296) (hc : c < 4294967296) : Calls Tryd.prog 49 #[.int .u32 a, .int .u32 b, .int .u32 c] w fun r w' => r = .returned (.int .u32 ((ma a b c : Nat) : Int)) ∧ w = w' := by
  have e1 := u32_and_nat a b ha hb
  have e2 := u32_and_nat a c ha hc
  have e3 := u32_and_nat b c hb hc
  have e4 := u32_xor_nat _ _ (and_lt a b ha) (and_lt a c ha)
  have e5 := u32_xor_nat _ _ (xor_lt _ _ (and_lt a b ha) (and_lt a c ha)) (and_lt b c hb)
  have E : Hid (bits .xor .u32 (bits .xor .u32 (bits .and .u32 (a : Int) (b : Int)) (bits .and .u32 (a : Int) (c : Int))) (bits .and .u32 (b : Int) (c : Int)) = ((ma a b c : Nat) : Int)) := Lib.hid (by rw [e1, e2, e3, e4, e5]; rfl)
  clear e1 e2 e3 e4 e5
  go_enter Tryd.func49, Tryd.ntmps49
  go_wp2
  go_ret
  exact ⟨ret_int E.out, rfl⟩
end Go.Proofs.YtdmhngkedgkndaaDoor
