/- Sparse frames: what the slots hold that are looked at, whatever the others hold; walks over them. The reference's sums: words of 32 bits kept in 64. -/
import Derived.Test.YtdmhngkedgkndaaDoorLf0Lo
import Derived.Test.YtdmhngkedgkndaaDoorMHi0MMa
import Derived.Test.YtdmhngkedgkndaaDoorZb0MHa
namespace Go.Proofs.YtdmhngkedgkndaaDoor
open Go.RowKit
def look : List (Nat × Value) → Nat → Option Value
  | [], _ => none
  | (e, v) :: L, d => bif Nat.beq e d then some v else look L d
/-- The frame has N slots; those of the list hold what stands there. -/
structure Has (N : Nat) (L : List (Nat × Value)) (a : Act) : Prop where
  size : a.tmps.size = N
  defers : a.defers = []
  val : ∀ d v, look L d = some v → a.tmps.getD d undef = v
section
variable {N : Nat} {L : List (Nat × Value)} {a : Act}
theorem Has.ev (h : Has N L a) (t : Nat) {v : Value} (hl : look L t = some v) : a.eval (.tmp t) = v := h.val t v hl
theorem Has.at_ (h : Has N L a) (t : Nat) {v : Value} (hl : look L t = some v) : a.tmps[t]?.getD undef = v := by
  have := h.val t v hl
  rwa [Array.getD_eq_getD_getElem?] at this
theorem Has.put (h : Has N L a) (d : Nat) (v : Value) (hd : Nat.ble (d + 1) N = true) : Has N ((d, v) :: L) (a.put (some d) v) := by
  have hd' : d < N := Nat.le_of_ble_eq_true hd
  refine ⟨by simp [Act.put, h.size], h.defers, fun e u hl => ?_⟩
  unfold look at hl
  by_cases he : d = e
  · subst he
    have hb : Nat.beq d d = true := Nat.beq_refl d
    rw [hb] at hl
    simp only [cond_true, Option.some.injEq] at hl
    subst hl
    simp [Act.put, h.size, hd']
  · have hb : Nat.beq d e = false := by
      cases hc : Nat.beq d e with
      | false => rfl
      | true => exact absurd (Nat.eq_of_beq_eq_true hc) he
    rw [hb] at hl
    simp only [cond_false] at hl
    have := h.val e u hl
    simp only [Act.put, Array.getD_eq_getD_getElem?, Array.getElem?_setIfInBounds, if_neg he] at this ⊢
    exact this
/-- Fewer slots are told. -/
theorem Has.trim (h : Has N L a) (L' : List (Nat × Value)) (hl : ∀ p ∈ L', look L p.1 = some p.2) : Has N L' a := by
  refine ⟨h.size, h.defers, fun d v hv => h.val d v ?_⟩
  induction L' with
  | nil => cases hv
  | cons p L' ih =>
    obtain ⟨e, u⟩ := p
    unfold look at hv
    cases hb : Nat.beq e d with
    | true =>
      rw [hb] at hv
      simp only [cond_true, Option.some.injEq] at hv
      rw [← Nat.eq_of_beq_eq_true hb, ← hv]
      exact hl (e, u) (by simp)
    | false =>
      rw [hb] at hv
      simp only [cond_false] at hv
      exact ih (fun q hq => hl q (by simp [hq])) hv
end
section
variable {P : Program} {md : Region.Mode} {ops : Array Oper} {Q : Exit → Act → World → Prop} {S : World → Prop} {N : Nat} {L : List (Nat × Value)} {a : Act} {w : World}
/-- One operation read in its place. -/
theorem seqH {o : Oper} {rest : List Oper} (h : Has N L a) (d : Nat) (v : Value) (hd : o.dst = some d) (hN : Nat.ble (d + 1) N = true) (hy : YieldsIf P ops (fun w' => w' = w) o v a)
    (k : ∀ a', Has N ((d, v) :: L) a' → wpSeq P ops Q rest a' w) : wpSeq P ops Q (o :: rest) a w := by
  refine wpSeq_yield hy rfl ?_
  rw [hd]
  exact k _ (h.put d v hN)
/-- A copy. -/
theorem seqM {o : Oper} {rest : List Oper} (h : Has N L a) (d t : Nat) {v : Value} (hd : o.dst = some d) (hN : Nat.ble (d + 1) N = true) (hgd : o.guard = none) (ho : o.op = .move (.tmp t)) (hl : look L t = some v)
    (k : ∀ a', Has N ((d, v) :: L) a' → wpSeq P ops Q rest a' w) : wpSeq P ops Q (o :: rest) a w :=
  seqH h d v hd hN (yieldsIf_move (by simp [Region.wanted, hgd]) _ ho v (h.ev t hl)) k
/-- An assignment of a slot. -/
theorem seqA {o : Oper} {rest : List Oper} (h : Has N L a) (d t : Nat) {v : Value} (hd : o.dst = some d) (hN : Nat.ble (d + 1) N = true) (hgd : o.guard = none) (ho : o.op = .assign (.tmp t)) (hl : look L t = some v)
    (k : ∀ a', Has N ((d, v) :: L) a' → wpSeq P ops Q rest a' w) : wpSeq P ops Q (o :: rest) a w :=
  seqH h d v hd hN (yieldsIf_assign (by simp [Region.wanted, hgd]) _ ho v (h.ev t hl)) k
/-- An assignment of a constant. -/
theorem seqC {o : Oper} {rest : List Oper} (h : Has N L a) (d : Nat) {v : Value} (hd : o.dst = some d) (hN : Nat.ble (d + 1) N = true) (hgd : o.guard = none) (ho : o.op = .assign (.const v))
    (k : ∀ a', Has N ((d, v) :: L) a' → wpSeq P ops Q rest a' w) : wpSeq P ops Q (o :: rest) a w :=
  seqH h d v hd hN (yieldsIf_assign (by simp [Region.wanted, hgd]) _ ho v rfl) k
/-- Any operation that turns the world. -/
theorem seqW {o : Oper} {rest : List Oper} (h : Has N L a) (d : Nat) (v : Value) (w' : World) (_hd : o.dst = some d) (hN : Nat.ble (d + 1) N = true) (hgd : o.guard = none)
    (hw : ∀ K : Act → World → Prop, K (a.put (some d) v) w' → o.wp P a w K Q) (k : ∀ a', Has N ((d, v) :: L) a' → wpSeq P ops Q rest a' w') : wpSeq P ops Q (o :: rest) a w := by
  refine wpSeq_wp (by simp [Region.wanted, hgd]) (hw _ (k _ (h.put d v hN)))
/-- The same in a region that draws its order: read first. -/
theorem anyH (i : Nat) {oi : Oper} {fuel : Nat} {listed : Array Bool} (h : Has N L a) (d : Nat) (v : Value) (hi : ops.toList[i]? = some oi) (hd : oi.dst = some d) (hN : Nat.ble (d + 1) N = true)
    (hs : Region.noSelect ops = true) (hf : Region.free md ops listed i = true) (hr : (Region.ready md ops listed).contains i = true)
    (hQ : ∀ c a w, Q (.panic c) (a.put oi.dst v) w → Q (.panic c) a w) (hy : YieldsIf P ops S oi v a) (hS : S w)
    (k : ∀ a', Has N ((d, v) :: L) a' → wpAnyS P md ops Q S fuel (listed.setIfInBounds i true) a' w) : wpAnyS P md ops Q S (fuel + 1) listed a w := by
  refine wpAnyS_takeL i hi hs hf hr hQ hy hS ?_
  rw [hd]
  exact k _ (h.put d v hN)
theorem anyM (i : Nat) {oi : Oper} {fuel : Nat} {listed : Array Bool} (h : Has N L a) (d t : Nat) {v : Value} (hi : ops.toList[i]? = some oi) (hd : oi.dst = some d) (hN : Nat.ble (d + 1) N = true) (hgd : oi.guard = none) (ho : oi.op = .move (.tmp t)) (hl : look L t = some v)
    (hs : Region.noSelect ops = true) (hf : Region.free md ops listed i = true) (hr : (Region.ready md ops listed).contains i = true)
    (hQ : ∀ c a w, Q (.panic c) (a.put oi.dst v) w → Q (.panic c) a w) (hS : S w)
    (k : ∀ a', Has N ((d, v) :: L) a' → wpAnyS P md ops Q S fuel (listed.setIfInBounds i true) a' w) : wpAnyS P md ops Q S (fuel + 1) listed a w :=
  anyH i h d v hi hd hN hs hf hr hQ (yieldsIf_move (by simp [Region.wanted, hgd]) _ ho v (h.ev t hl)) hS k
theorem anyA (i : Nat) {oi : Oper} {fuel : Nat} {listed : Array Bool} (h : Has N L a) (d t : Nat) {v : Value} (hi : ops.toList[i]? = some oi) (hd : oi.dst = some d) (hN : Nat.ble (d + 1) N = true) (hgd : oi.guard = none) (ho : oi.op = .assign (.tmp t)) (hl : look L t = some v)
    (hs : Region.noSelect ops = true) (hf : Region.free md ops listed i = true) (hr : (Region.ready md ops listed).contains i = true)
    (hQ : ∀ c a w, Q (.panic c) (a.put oi.dst v) w → Q (.panic c) a w) (hS : S w)
    (k : ∀ a', Has N ((d, v) :: L) a' → wpAnyS P md ops Q S fuel (listed.setIfInBounds i true) a' w) : wpAnyS P md ops Q S (fuel + 1) listed a w :=
  anyH i h d v hi hd hN hs hf hr hQ (yieldsIf_assign (by simp [Region.wanted, hgd]) _ ho v (h.ev t hl)) hS k
/-- An operation that turns the world, as the one that may come up. -/
theorem anyW (i : Nat) {oi : Oper} {fuel : Nat} {listed : Array Bool} (h : Has N L a) (d : Nat) (hi : ops.toList[i]? = some oi) (_hd : oi.dst = some d) (hN : Nat.ble (d + 1) N = true) (hgd : oi.guard = none) (hr : Region.ready md ops listed = [i]) (R : Value → World → Prop)
    (hw : ∀ K : Act → World → Prop, (∀ v w', R v w' → K (a.put (some d) v) w') → oi.wp P a w K Q)
    (k : ∀ v w', R v w' → S w' ∧ ∀ a', Has N ((d, v) :: L) a' → wpAnyS P md ops Q S fuel (listed.setIfInBounds i true) a' w') : wpAnyS P md ops Q S (fuel + 1) listed a w := by
  refine wpAnyS_one hr ?_
  unfold wpOp
  rw [← Array.getElem?_toList, hi]
  have hwd : Region.wanted oi (yielded ops a.tmps) = true := by simp [Region.wanted, hgd]
  simp only [hwd, if_true]
  left
  exact hw _ fun v w' hR => ⟨(k v w' hR).1, (k v w' hR).2 _ (h.put d v hN)⟩
/-- The same where the last operation (z) stores: what stands is asked as long as it has not come up. -/
theorem zanyH (i : Nat) {z : Nat} {oi : Oper} {fuel : Nat} {listed : Array Bool} (h : Has N L a) (d : Nat) (v : Value) (hi : ops.toList[i]? = some oi) (hd : oi.dst = some d) (hN : Nat.ble (d + 1) N = true)
    (hs : Region.noSelect ops = true) (hf : Region.free md ops listed i = true) (hr : (Region.ready md ops listed).contains i = true) (hwz : (Region.waitsFor md ops z i && i != z) = true) (hlz : listed.getD z true = false)
    (hQ : ∀ c a w, Q (.panic c) (a.put oi.dst v) w → Q (.panic c) a w) (hy : YieldsIf P ops S oi v a) (hS : S w)
    (k : ∀ a', Has N ((d, v) :: L) a' → wpAnyZ P md ops Q S z fuel (listed.setIfInBounds i true) a' w) : wpAnyZ P md ops Q S z (fuel + 1) listed a w := by
  refine wpAnyZ_takeL i hi hs hf hr hwz hlz hQ hy hS ?_
  rw [hd]
  exact k _ (h.put d v hN)
theorem zanyM (i : Nat) {z : Nat} {oi : Oper} {fuel : Nat} {listed : Array Bool} (h : Has N L a) (d t : Nat) {v : Value} (hi : ops.toList[i]? = some oi) (hd : oi.dst = some d) (hN : Nat.ble (d + 1) N = true) (hgd : oi.guard = none) (ho : oi.op = .move (.tmp t)) (hl : look L t = some v)
    (hs : Region.noSelect ops = true) (hf : Region.free md ops listed i = true) (hr : (Region.ready md ops listed).contains i = true) (hwz : (Region.waitsFor md ops z i && i != z) = true) (hlz : listed.getD z true = false)
    (hQ : ∀ c a w, Q (.panic c) (a.put oi.dst v) w → Q (.panic c) a w) (hS : S w)
    (k : ∀ a', Has N ((d, v) :: L) a' → wpAnyZ P md ops Q S z fuel (listed.setIfInBounds i true) a' w) : wpAnyZ P md ops Q S z (fuel + 1) listed a w :=
  zanyH i h d v hi hd hN hs hf hr hwz hlz hQ (yieldsIf_move (by simp [Region.wanted, hgd]) _ ho v (h.ev t hl)) hS k
theorem zanyW (i : Nat) {z : Nat} {oi : Oper} {fuel : Nat} {listed : Array Bool} (h : Has N L a) (d : Nat) (hi : ops.toList[i]? = some oi) (_hd : oi.dst = some d) (hN : Nat.ble (d + 1) N = true) (hgd : oi.guard = none) (hr : Region.ready md ops listed = [i]) (R : Value → World → Prop)
    (hw : ∀ K : Act → World → Prop, (∀ v w', R v w' → K (a.put (some d) v) w') → oi.wp P a w K Q)
    (k : ∀ v w', R v w' → S w' ∧ ∀ a', Has N ((d, v) :: L) a' → wpAnyZ P md ops Q S z fuel (listed.setIfInBounds i true) a' w') : wpAnyZ P md ops Q S z (fuel + 1) listed a w := by
  refine wpAnyZ_one hr ?_
  unfold wpOp
  rw [← Array.getElem?_toList, hi]
  have hwd : Region.wanted oi (yielded ops a.tmps) = true := by simp [Region.wanted, hgd]
  simp only [hwd, if_true]
  left
  exact hw _ fun v w' hR => ⟨fun _ => (k v w' hR).1, (k v w' hR).2 _ (h.put d v hN)⟩
theorem wp_store_int {o : Oper} {K : Act → World → Prop} (ty : TypeId) (x y : Operand) (ho : o.op = .store ty x y) (hdn : o.dst = none) (hsz : (P.info? ty).map (·.size) = some 1) (g i : Nat) (kd : IntKind) (n : Int) (hx : a.eval x = .pointer (some ⟨g, i, none⟩)) (hy : a.eval y = .int kd n)
    (u : Value) (hu : w.cell? ⟨g, i, none⟩ = some u) (hf : w.frozen? ⟨g, i, none⟩ = false) (hK : K a (w.setCell ⟨g, i, none⟩ (.int kd n))) : o.wp P a w K Q := by
  unfold Oper.wp execOp
  have hs : (sizeOf ty).run P w = .ok 1 w := by
    cases hi : P.info? ty with
    | none => rw [hi] at hsz; cases hsz
    | some t =>
      rw [hi] at hsz
      simp only [Option.map_some, Option.some.injEq] at hsz
      simp [sizeOf, typeInfo, hi, hsz]
  simp only [ho, hx, hy]
  go_simp
  exact hK
/-- A cell stored, as the last operation. -/
theorem zcell (i : Nat) {z : Nat} {oi : Oper} {fuel : Nat} {listed : Array Bool} (_h : Has N L a) (hi : ops.toList[i]? = some oi) (hgd : oi.guard = none) (hr : Region.ready md ops listed = [i]) (hz : (listed.setIfInBounds i true).getD z true = true)
    (w' : World) (hw : ∀ K : Act → World → Prop, K a w' → oi.wp P a w K Q)
    (k : wpAnyZ P md ops Q S z fuel (listed.setIfInBounds i true) a w') : wpAnyZ P md ops Q S z (fuel + 1) listed a w := by
  refine wpAnyZ_one hr ?_
  unfold wpOp
  rw [← Array.getElem?_toList, hi]
  have hwd : Region.wanted oi (yielded ops a.tmps) = true := by simp [Region.wanted, hgd]
  simp only [hwd, if_true]
  left
  exact hw _ ⟨(fun e => by rw [hz] at e; cases e), k⟩
/-- A call of a function of the program by its contract. -/
theorem wp_call_v {o : Oper} {K : Act → World → Prop} (f : FuncId) (fn : Func) (args : Array Operand) (tys : Array TypeId) (hf : P.funcs[f]? = some fn) (hname : (fn.name == "runtime.NumGoroutine") = false) (hb : fn.body.isNone = false)
    (ho : o.op = .call { callee := .value (.func f), args := args, argTypes := tys }) (d : Nat) (hd : o.dst = some d)
    (vs : Array Value) (hvs : args.map a.eval = vs) (R : Value → World → Prop) (hc : Calls P f vs w fun e w' => ∃ v, e = .returned v ∧ R v w') (hk : ∀ v w', R v w' → K (a.put (some d) v) w') : o.wp P a w K Q := by
  unfold Oper.wp execOp
  have e1 : a.eval (.func f) = .func (.func f) #[] #[] := rfl
  subst hvs
  simp only [ho, resolve, e1]
  go_simp
  have h1 : fn.name ≠ "runtime.NumGoroutine" := by simpa using hname
  cases hbody : fn.body with
  | none => rw [hbody] at hb; cases hb
  | some c =>
    have hr : (callFunc f (Array.map a.eval args)).run P w = .ok (.enter f (Array.map a.eval args)) w := by simp [callFunc, hf, h1, hbody]
    rw [hr, Oper.upon_enter]
    refine hc.mono ?_
    rintro e w' ⟨v, rfl, hR⟩
    rw [hd]
    exact hk v w' hR
end
end Go.Proofs.YtdmhngkedgkndaaDoor
namespace Go.Proofs.YtdmhngkedgkndaaDoor
open Go.RowKit
theorem and32_64 (x : Nat) (h : x < 18446744073709551616) : bits .and .u64 (x : Int) 4294967295 = ((x % 4294967296 : Nat) : Int) := by
  have h := bits_and_u64_nat x 4294967295 (by omega) (by omega)
  have e : x &&& 4294967295 = x % 4294967296 := Nat.and_two_pow_sub_one_eq_mod x 32
  rw [e] at h
  exact h
theorem cut32_any (x : Nat) (w : World) (hx : x < 18446744073709551616) : Calls Tryd.prog 33 #[.int .u64 (x : Int), .int .i64 32] w fun e w' => e = .returned (.int .u64 ((x % 4294967296 : Nat) : Int)) ∧ w = w' := by
  have h := and32_64 x hx
  have HR := Lib.hid h
  clear h
  go_enter Tryd.func33, Tryd.ntmps33
  go_wp2
  go_ret
  exact ⟨ret_int HR.out, rfl⟩
/-- Before the cut: both halves, side by side. -/
def rq (x n : Nat) : Nat := x * 2 ^ (32 - n) + x / 2 ^ n
theorem rq_lt (x n : Nat) (hx : x < 4294967296) (h0 : 0 < n) (hn : n < 32) : rq x n < 18446744073709551616 := by
  unfold rq
  have h1 : x / 2 ^ n ≤ x := Nat.div_le_self _ _
  have h2 : 2 ^ (32 - n) ≤ 2 ^ 31 := Nat.pow_le_pow_right (by decide) (by omega)
  have h3 : x * 2 ^ (32 - n) ≤ 4294967295 * 2 ^ 31 := Nat.mul_le_mul (by omega) h2
  omega
theorem rq_mod (x n : Nat) (hx : x < 4294967296) (h0 : 0 < n) (hn : n < 32) : rq x n % 4294967296 = rr x n := by
  have h := rr_lt x n hx h0 hn
  unfold rq
  unfold rr at h ⊢
  generalize x * 2 ^ (32 - n) = A at *
  generalize x / 2 ^ n = D at *
  omega
theorem or_rq (x n : Nat) (hx : x < 4294967296) (h0 : 0 < n) (hn : n < 32) :
    bits .or .u64 ((x : Int) / 2 ^ n) (IntKind.u64.wrap ((x : Int) * 2 ^ (32 - n))) = ((rq x n : Nat) : Int) := by
  have h2 : 2 ^ (32 - n) ≤ 2 ^ 31 := Nat.pow_le_pow_right (by decide) (by omega)
  have h3 : x * 2 ^ (32 - n) ≤ 4294967295 * 2 ^ 31 := Nat.mul_le_mul (by omega) h2
  have e1 : IntKind.u64.wrap ((x : Int) * 2 ^ (32 - n)) = ((x * 2 ^ (32 - n) : Nat) : Int) := by
    have e : (x : Int) * 2 ^ (32 - n) = ((x * 2 ^ (32 - n) : Nat) : Int) := by rw [Int.natCast_mul, Int.natCast_pow]; rfl
    rw [e, IntKind.wrap_u64]
    omega
  have e2 : (x : Int) / 2 ^ n = ((x / 2 ^ n : Nat) : Int) := by simp
  have h1 : x / 2 ^ n < 2 ^ (32 - n) := by
    rw [Nat.div_lt_iff_lt_mul (Nat.pow_pos (by decide)), ← Nat.pow_add, show 32 - n + n = 32 by omega]
    exact hx
  have h4 : 2 ^ (32 - n) ∣ x * 2 ^ (32 - n) := ⟨x, Nat.mul_comm _ _⟩
  have ep : (2 : Int) ^ (32 - n) = ((2 ^ (32 - n) : Nat) : Int) := by rw [Int.natCast_pow]; rfl
  rw [e1, e2]
  unfold rq
  generalize x * 2 ^ (32 - n) = A at *
  generalize x / 2 ^ n = D at *
  generalize hP : (2 : Nat) ^ (32 - n) = P at *
  rw [or_comm64, or64 (32 - n) _ _ (by omega) (by rw [ep, ← Int.natCast_emod, Nat.mod_eq_zero_of_dvd h4]; rfl) (by omega) (by omega) (by rw [ep]; omega) (by rw [ep]; omega)]
  omega
set_option maxHeartbeats 1000000 in
theorem turn32_any (x n : Nat) (w : World) (hx : x < 4294967296) (h0 : 0 < n) (hn : n < 32) : Calls Tryd.prog 32 #[.int .u64 (x : Int), .int .i64 (n : Int), .int .i64 32] w fun e w' => e = .returned (.int .u64 ((rr x n : Nat) : Int)) ∧ World.drew w = w' := by
  have hr := or_rq x n hx h0 hn
  have hc := cut32_any (rq x n) (World.drew w) (rq_lt x n hx h0 hn)
  rw [rq_mod x n hx h0 hn] at hc
  have HC := Lib.hid hc
  clear hc
  have i1 : IntKind.i64.wrap (32 - (n : Int)) = 32 - (n : Int) := by rw [IntKind.wrap_i64]; omega
  have i2 : (0 : Int) ≤ 32 - (n : Int) := by omega
  have i3 : (32 - (n : Int)).toNat = 32 - n := by omega
  have i4 : min (32 - n) 64 = 32 - n := by omega
  have i5 : min n 64 = n := by omega
  go_enter Tryd.func32, Tryd.ntmps32
  go_upto_region 1 with fail
  refine wp_region_still_tail 10 (by kernel_rfl) (by kernel_rfl) ?_
  simp only [List.take_succ_cons, List.take_zero, List.drop_succ_cons, List.drop_zero]
  change wpStill _ _ (World.drew w) (fun a' => wpList _ _ _ _ a' (World.drew w)) _ _
  repeat still_step
  refine wpStill_nil ?_
  go_wp2_with fail
  all_goals
    refine HC.out.mono ?_
    rintro _ w1 ⟨rfl, rfl⟩
    go_wp2
    go_ret
    exact ⟨rfl, rfl⟩
end Go.Proofs.YtdmhngkedgkndaaDoor
