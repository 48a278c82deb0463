/- Keys as numbers: contracts of Mul, Clamp by number; what Public and Shared need. -/
import Derived.Test.YtgdhlafggdaipaaJf
namespace Go.Proofs.Ytgdhlafggdaipaa
open Go.RowKit

theorem leTo_byteAt (n : Nat) : ∀ k, leTo (byteAt n) k = n % 256 ^ k
  | 0 => by simp [leTo, Nat.mod_one]
  | k + 1 => by
    unfold leTo
    rw [leTo_byteAt n k, Nat.pow_succ, Nat.mod_mul]
    unfold byteAt
    rw [Nat.mul_comm (256 ^ k)]
theorem keyOf_bytes (n : Nat) : Bytes32 (keyOf n) (byteAt n) :=
  ⟨keyOf_length n, fun i h => by simp [keyOf, h], fun i => Nat.mod_lt _ (by decide)⟩
theorem key_of_bytes {l : List Int} {f : Nat → Nat} (hl : Bytes32 l f) : l = keyOf (leTo f 32) := by
  apply List.ext_getElem (by rw [hl.len, keyOf_length])
  intro i h1 h2
  have h3 : i < 32 := by rw [hl.len] at h1; exact h1
  have h4 := hl.get i h3
  simp [List.getD, h1] at h4
  rw [h4]
  simp only [keyOf, List.getElem_map, List.getElem_range]
  rw [byteAt, leTo_byte f hl.lt 32 i h3]
/-- 2^256. -/
def p256 : Nat := 115792089237316195423570985008687907853269984665640564039457584007913129639936
theorem p256_eq : p256 = 256 ^ 32 := by decide
theorem pp_lt256 : pp < p256 := by rw [pp_eq]; decide
theorem leTo_lt256 {f : Nat → Nat} (hf : ∀ i, f i < 256) : leTo f 32 < p256 := by rw [p256_eq]; exact leTo_lt f hf 32
theorem leTo_byteAt32 {n : Nat} (h : n < p256) : leTo (byteAt n) 32 = n := by
  rw [leTo_byteAt, ← p256_eq]
  exact Nat.mod_eq_of_lt h
theorem keyOf_inj {a b : Nat} (ha : a < p256) (hb : b < p256) (h : keyOf a = keyOf b) : a = b := by
  have hb2 : ∀ i, i < 32 → byteAt a i = byteAt b i := fun i hi => by
    have h1 := congrArg (fun l : List Int => l.getD i 0) h
    simp only [keyOf, List.getD, List.getElem?_map, List.getElem?_range hi, Option.map_some, Option.getD_some] at h1
    omega
  have hsame : ∀ k, k ≤ 32 → leTo (byteAt a) k = leTo (byteAt b) k := by
    intro k
    induction k with
    | zero => intro _; rfl
    | succ k ih => intro hk; unfold leTo; rw [ih (by omega), hb2 k (by omega)]
  have h2 := hsame 32 (Nat.le_refl _)
  rw [leTo_byteAt32 ha, leTo_byteAt32 hb] at h2
  exact h2
/-- A secret as it is used, as a number. -/
def clN (n : Nat) : Nat := leTo (clF (byteAt n)) 32
theorem clF_lt {f : Nat → Nat} (hf : ∀ i, f i < 256) (i : Nat) : clF f i < 256 := by
  have := hf i
  have := hf 0
  have := hf 31
  unfold clF
  split
  · omega
  · split <;> omega
theorem clN_lt (n : Nat) : clN n < p256 := leTo_lt256 (clF_lt fun i => Nat.mod_lt _ (by decide))
/-- A place as a number. -/
def plN (n : Nat) : Nat := n % 57896044618658097711785492504343953926634992332820282019728792003956564819968 % pp
theorem plN_lt (n : Nat) : plN n < pp := Nat.mod_lt _ pp_pos
theorem mul_n (A B N : Nat) (hB : B < p256) (hN : N = ladN (clN A) (plN B)) (w : World) :
    Calls Try.prog 11 #[Key (keyOf A), Key (keyOf B)] w fun e w' => e = .returned (Key (keyOf N)) ∧ Below w.heap.size w w' := by
  have h := mul_key _ _ _ _ (keyOf_bytes A) (keyOf_bytes B) w
  rw [leTo_byteAt32 hB] at h
  rw [hN]
  exact h
theorem clamp_n (A : Nat) (w : World) : Calls Try.prog 12 #[Key (keyOf A)] w fun e w' => e = .returned (Key (keyOf (clN A))) ∧ Below w.heap.size w w' := by
  have h := clamp_any _ _ (keyOf_bytes A) w
  rw [key_of_bytes (clL_bytes (keyOf_bytes A))] at h
  exact h
theorem rclamp_n (A : Nat) (w : World) : Calls Try.prog 13 #[Key (keyOf A)] w fun e w' => e = .returned (Key (keyOf (clN A))) ∧ Below w.heap.size w w' := by
  have h := rclamp_any _ _ (keyOf_bytes A) w
  rw [key_of_bytes (clL_bytes (keyOf_bytes A))] at h
  exact h
theorem key_lit (n : Nat) (h : n < 256) : Iv .u8 (keyOf n) = #[.int .u8 (n : Int), .int .u8 0, .int .u8 0, .int .u8 0, .int .u8 0, .int .u8 0, .int .u8 0, .int .u8 0, .int .u8 0, .int .u8 0, .int .u8 0, .int .u8 0, .int .u8 0, .int .u8 0, .int .u8 0, .int .u8 0, .int .u8 0, .int .u8 0, .int .u8 0, .int .u8 0, .int .u8 0, .int .u8 0, .int .u8 0, .int .u8 0, .int .u8 0, .int .u8 0, .int .u8 0, .int .u8 0, .int .u8 0, .int .u8 0, .int .u8 0, .int .u8 0] := by
  have h0 : byteAt n 0 = n := by unfold byteAt; omega
  have h1 : ∀ i, byteAt n (i + 1) = 0 := fun i => by
    unfold byteAt
    rw [Nat.div_eq_of_lt (Nat.lt_of_lt_of_le h (by rw [Nat.pow_succ]; exact Nat.le_mul_of_pos_left _ (Nat.pow_pos (by decide))))]
  simp [keyOf, Iv, h0, h1, List.range, List.range.loop]
theorem yieldsIf_key1 {ops : Array Oper} {S : World → Prop} {o : Oper} {a : Act} (n : Nat) (hn : n < 256) (hgd : Region.wanted o (yielded ops a.tmps) = true) (ho : o.op = .build 23 #[(0, .const (.int .u8 (n : Int)))]) :
    YieldsIf Try.prog ops S o (Key (keyOf n)) a := Or.inl ⟨hgd, fun w _ => by
  unfold Key
  rw [key_lit n hn]
  simp only [execOp, ho, List.map_toArray, List.map_cons, List.map_nil]
  go_simp⟩
theorem yieldsIf_key0 {ops : Array Oper} {S : World → Prop} {o : Oper} {a : Act} (hgd : Region.wanted o (yielded ops a.tmps) = true) (ho : o.op = .build 23 #[]) :
    YieldsIf Try.prog ops S o (Key (keyOf 0)) a := Or.inl ⟨hgd, fun w _ => by
  unfold Key
  rw [key_lit 0 (by decide)]
  simp only [execOp, ho, List.map_toArray, List.map_nil]
  go_simp⟩
theorem neq_keys (a b : Nat) (ha : a < p256) (hb : b < p256) (w : World) :
    (binOp .neq 23 (.agg (Iv .u8 (keyOf a))) (.agg (Iv .u8 (keyOf b)))).run Try.prog w = .ok (.bool (!decide (a = b))) w := by
  have h := eq_keys _ _ (keyOf_length a) (keyOf_length b) w
  have hd : decide (keyOf a = keyOf b) = decide (a = b) := decide_eq_decide.2 ⟨keyOf_inj ha hb, fun h => by rw [h]⟩
  rw [hd] at h
  rw [run_neq_struct, h]
  rfl
theorem eql_keyN (a b : Nat) (ha : a < p256) (hb : b < p256) (w : World) :
    (binOp .eql 23 (.agg (Iv .u8 (keyOf a))) (.agg (Iv .u8 (keyOf b)))).run Try.prog w = .ok (.bool (decide (a = b))) w := by
  rw [eql_keys _ _ (keyOf_length a) (keyOf_length b), decide_eq_decide.2 ⟨keyOf_inj ha hb, fun h => by rw [h]⟩]
theorem yieldsIf_neqk {ops : Array Oper} {S : World → Prop} {o : Oper} {a : Act} (hgd : Region.wanted o (yielded ops a.tmps) = true) (x y : Operand) (ho : o.op = .binOp .neq 23 x y 23) (A B : Nat) (hx : a.eval x = Key (keyOf A)) (hy : a.eval y = Key (keyOf B))
    (c : Bool) (ha : A < p256) (hb : B < p256) (hc : (!decide (A = B)) = c) : YieldsIf Try.prog ops S o (.bool c) a := by
  refine Or.inl ⟨hgd, fun w _ => ?_⟩
  unfold Key at hx hy
  simp only [execOp, ho, hx, hy, Sem.run_bind, Sem.run_pure, Result.andThen_ok, run_eqGuard_agg (hm := eqg_api_Key), neq_keys A B ha hb, hc]
theorem yieldsIf_eqlk {ops : Array Oper} {S : World → Prop} {o : Oper} {a : Act} (hgd : Region.wanted o (yielded ops a.tmps) = true) (x y : Operand) (ho : o.op = .binOp .eql 23 x y 23) (A B : Nat) (hx : a.eval x = Key (keyOf A)) (hy : a.eval y = Key (keyOf B))
    (c : Bool) (ha : A < p256) (hb : B < p256) (hc : decide (A = B) = c) : YieldsIf Try.prog ops S o (.bool c) a := by
  refine Or.inl ⟨hgd, fun w _ => ?_⟩
  unfold Key at hx hy
  simp only [execOp, ho, hx, hy, Sem.run_bind, Sem.run_pure, Result.andThen_ok, run_eqGuard_agg (hm := eqg_api_Key), eql_keyN A B ha hb, hc]
theorem results_cell_tmp {P : Program} {fn : Func} {p q : Tmp} {ty : TypeId} (h : fn.results = #[.cell p ty, .tmp q]) (tmps : Array Value) (w : World) (g : Nat) (t : TypeId) (cs : Array Value) (fr : Nat × Nat) (d : TypeDesc) (v : Value)
    (hp : tmps.getD p undef = .pointer (some ⟨g, 0, none⟩)) (hg : w.heap[g]? = some (.cells cs t fr))
    (hu : P.underlying ty = some d) (hd : (match d with | .struct _ | .array _ _ => true | _ => false) = true) (hi : (P.info? ty).map (·.size) = some cs.size) (hq : tmps.getD q undef = v) :
    (results fn tmps).run P w = .ok (.tuple #[.agg cs, v]) w := by
  have hp' : tmps[p]?.getD undef = .pointer (some ⟨g, 0, none⟩) := by simpa using hp
  have hq' : tmps[q]?.getD undef = v := by simpa using hq
  simp [results, h, hp', hq', asAddr, run_loadVar_row w g t ty cs fr d hg hu hd hi, Sem.run_bind]
end Go.Proofs.Ytgdhlafggdaipaa
