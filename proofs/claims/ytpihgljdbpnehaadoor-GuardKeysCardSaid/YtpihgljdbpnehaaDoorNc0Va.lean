/- A case's head (printed by gen13/nc.py). Chapter 8's reckoning as plain arithmetic, as the document's answer has it: products of bytes, Sub, the rounds' keys, a block through the rounds. Lists of bytes. Sparse frames: what the slots hold that are looked at, whatever the others hold; walks over them. The reference's Encrypt: its loops, taken out of the program; what memory holds in them (printed by gena9.py). Unlike blocks become unlike ones: Sub, the mixing, the moving and the joining go back. GCM's multiplication as plain arithmetic; the reference's Block, its contract. The reference's counter: its contract. The reference's hash: what memory holds, what it reckons. Sealing and opening as plain arithmetic. -/
import Derived.Test.YtpihgljdbpnehaaDoorBg0HSj
import Derived.Test.YtpihgljdbpnehaaDoorProg
import Derived.Test.YtpihgljdbpnehaaDoorLa0Lo
import Derived.Laws.BitsLemmas
namespace Go.Proofs.YtpihgljdbpnehaaDoor
open Go.RowKit
/-- Bytes that were there ahead lie in no block that came later. -/
theorem SB.old {W : World} {p : Option Addr} {k c : Nat} {l : List Nat} (h : SB W (.slice p k c) l) {g : Nat} (hg : W.heap.size ≤ g) : ∀ g1 o n d, Value.slice p k c = .slice (some ⟨g1, o, none⟩) n d → l = [] ∨ g1 ≠ g := fun g1 o n d e => by
  obtain ⟨q, c2, e2, _, h0 | ⟨g2, o2, rfl, A⟩⟩ := h
  · exact Or.inl h0
  · simp only [Value.slice.injEq] at e e2
    have := A.blk
    obtain ⟨rfl, _, _⟩ := e2
    obtain ⟨e3, _, _⟩ := e
    simp only [Option.some.injEq, Addr.mk.injEq] at e3
    exact Or.inr (by omega)
end Go.Proofs.YtpihgljdbpnehaaDoor
namespace Go.Proofs.YtpihgljdbpnehaaDoor
open Go
/-- One step of a product: doubled modulo the polynomial, joined where the bit is told. -/
def bstep (a b p i : Nat) : Nat := if b / 2 ^ i % 2 = 1 then (if 255 < p * 2 then (p * 2) ^^^ 283 else p * 2) ^^^ a else (if 255 < p * 2 then (p * 2) ^^^ 283 else p * 2)
def byteF (a b : Nat) : Nat → Nat
  | 0 => 0
  | k + 1 => bstep a b (byteF a b k) (7 - k)
/-- The product of two bytes. -/
def gm (a b : Nat) : Nat := byteF a b 8
/-- The byte whose product with x is 1, the last of them. -/
def invF (x : Nat) : Nat → Nat
  | 0 => 0
  | k + 1 => if gm x (k + 1) = 1 then k + 1 else invF x k
def inv8 (x : Nat) : Nat := if x = 0 then 0 else invF x 255
def sbit (y i : Nat) : Nat := (y / 2 ^ i ^^^ y / 2 ^ ((i + 4) % 8) ^^^ y / 2 ^ ((i + 5) % 8) ^^^ y / 2 ^ ((i + 6) % 8) ^^^ y / 2 ^ ((i + 7) % 8)) % 2
def outF (y : Nat) : Nat → Nat
  | 0 => 99
  | k + 1 => outF y k ^^^ (sbit y k * 2 ^ k)
/-- A byte for a byte. -/
def subN (x : Nat) : Nat := outF (inv8 x) 8
def boxL : List Nat := (List.range 256).map subN
/-- Four bytes of a key, as they are joined: B is the table, n how many there are. -/
def kw (B ks : List Nat) (c n j : Nat) : Nat :=
  if n % 16 = 0 then (if j = 0 then B.getD (ks.getD (n - 3) 0) 0 ^^^ c else B.getD (ks.getD (n - 4 + (j + 1) % 4) 0) 0) else ks.getD (n - 4 + j) 0
def kc (c n : Nat) : Nat := if n % 16 = 0 then gm c 2 else c
/-- The keys' bytes behind so many fours, and the power. -/
def keysF (B k : List Nat) : Nat → List Nat × Nat
  | 0 => (k, 1)
  | i + 1 => ((keysF B k i).1 ++ (List.range 4).map (fun j => (keysF B k i).1.getD (4 * i + j) 0 ^^^ kw B (keysF B k i).1 (keysF B k i).2 (16 + 4 * i) j), kc (keysF B k i).2 (16 + 4 * i))
def keysL (B k : List Nat) : List Nat := (keysF B k 40).1
/-- A round's block: Subbed and moved; mixed; joined with the round's key. -/
def shiftB (B b : List Nat) (i : Nat) : Nat := B.getD (b.getD ((i + 4 * (i % 4)) % 16) 0) 0
def mixB (s : Nat → Nat) (i : Nat) : Nat := gm (s i) 2 ^^^ gm (s (i - i % 4 + (i + 1) % 4)) 3 ^^^ s (i - i % 4 + (i + 2) % 4) ^^^ s (i - i % 4 + (i + 3) % 4)
def roundB (B ks b : List Nat) (r : Nat) : List Nat := (List.range 16).map fun i => (if r < 10 then mixB (shiftB B b) i else shiftB B b i) ^^^ ks.getD (16 * r + i) 0
def blockF (B ks b : List Nat) : Nat → List Nat
  | 0 => (List.range 16).map fun i => b.getD i 0 ^^^ ks.getD i 0
  | r + 1 => roundB B ks (blockF B ks b r) (r + 1)
/-- A block, by a key. -/
def encL (B k b : List Nat) : List Nat := blockF B (keysL B k) b 10
end Go.Proofs.YtpihgljdbpnehaaDoor
namespace Go.Proofs.YtpihgljdbpnehaaDoor
open Go.RowKit
def look : List (Nat × Value) → Nat → Option Value
  | [], _ => none
  | (e, v) :: L, d => bif Nat.beq e d then some v else look L d
/-- The frame has N slots; those of the list hold what stands there. -/
structure Has (N : Nat) (L : List (Nat × Value)) (a : Act) : Prop where
  size : a.tmps.size = N
  defers : a.defers = []
  val : ∀ d v, look L d = some v → a.tmps.getD d undef = v
section
variable {N : Nat} {L : List (Nat × Value)} {a : Act}
theorem Has.ev (h : Has N L a) (t : Nat) {v : Value} (hl : look L t = some v) : a.eval (.tmp t) = v := h.val t v hl
theorem Has.at_ (h : Has N L a) (t : Nat) {v : Value} (hl : look L t = some v) : a.tmps[t]?.getD undef = v := by
  have := h.val t v hl
  rwa [Array.getD_eq_getD_getElem?] at this
theorem Has.put (h : Has N L a) (d : Nat) (v : Value) (hd : Nat.ble (d + 1) N = true) : Has N ((d, v) :: L) (a.put (some d) v) := by
  have hd' : d < N := Nat.le_of_ble_eq_true hd
  refine ⟨by simp [Act.put, h.size], h.defers, fun e u hl => ?_⟩
  unfold look at hl
  by_cases he : d = e
  · subst he
    have hb : Nat.beq d d = true := Nat.beq_refl d
    rw [hb] at hl
    simp only [cond_true, Option.some.injEq] at hl
    subst hl
    simp [Act.put, h.size, hd']
  · have hb : Nat.beq d e = false := by
      cases hc : Nat.beq d e with
      | false => rfl
      | true => exact absurd (Nat.eq_of_beq_eq_true hc) he
    rw [hb] at hl
    simp only [cond_false] at hl
    have := h.val e u hl
    simp only [Act.put, Array.getD_eq_getD_getElem?, Array.getElem?_setIfInBounds, if_neg he] at this ⊢
    exact this
/-- Fewer slots are told. -/
theorem Has.trim (h : Has N L a) (L' : List (Nat × Value)) (hl : ∀ p ∈ L', look L p.1 = some p.2) : Has N L' a := by
  refine ⟨h.size, h.defers, fun d v hv => h.val d v ?_⟩
  induction L' with
  | nil => cases hv
  | cons p L' ih =>
    obtain ⟨e, u⟩ := p
    unfold look at hv
    cases hb : Nat.beq e d with
    | true =>
      rw [hb] at hv
      simp only [cond_true, Option.some.injEq] at hv
      rw [← Nat.eq_of_beq_eq_true hb, ← hv]
      exact hl (e, u) (by simp)
    | false =>
      rw [hb] at hv
      simp only [cond_false] at hv
      exact ih (fun q hq => hl q (by simp [hq])) hv
end
section
variable {P : Program} {md : Region.Mode} {ops : Array Oper} {Q : Exit → Act → World → Prop} {S : World → Prop} {N : Nat} {L : List (Nat × Value)} {a : Act} {w : World}
/-- One operation read in its place. -/
theorem seqH {o : Oper} {rest : List Oper} (h : Has N L a) (d : Nat) (v : Value) (hd : o.dst = some d) (hN : Nat.ble (d + 1) N = true) (hy : YieldsIf P ops (fun w' => w' = w) o v a)
    (k : ∀ a', Has N ((d, v) :: L) a' → wpSeq P ops Q rest a' w) : wpSeq P ops Q (o :: rest) a w := by
  refine wpSeq_yield hy rfl ?_
  rw [hd]
  exact k _ (h.put d v hN)
/-- A copy. -/
theorem seqM {o : Oper} {rest : List Oper} (h : Has N L a) (d t : Nat) {v : Value} (hd : o.dst = some d) (hN : Nat.ble (d + 1) N = true) (hgd : o.guard = none) (ho : o.op = .move (.tmp t)) (hl : look L t = some v)
    (k : ∀ a', Has N ((d, v) :: L) a' → wpSeq P ops Q rest a' w) : wpSeq P ops Q (o :: rest) a w :=
  seqH h d v hd hN (yieldsIf_move (by simp [Region.wanted, hgd]) _ ho v (h.ev t hl)) k
/-- An assignment of a slot. -/
theorem seqA {o : Oper} {rest : List Oper} (h : Has N L a) (d t : Nat) {v : Value} (hd : o.dst = some d) (hN : Nat.ble (d + 1) N = true) (hgd : o.guard = none) (ho : o.op = .assign (.tmp t)) (hl : look L t = some v)
    (k : ∀ a', Has N ((d, v) :: L) a' → wpSeq P ops Q rest a' w) : wpSeq P ops Q (o :: rest) a w :=
  seqH h d v hd hN (yieldsIf_assign (by simp [Region.wanted, hgd]) _ ho v (h.ev t hl)) k
/-- An assignment of a constant. -/
theorem seqC {o : Oper} {rest : List Oper} (h : Has N L a) (d : Nat) {v : Value} (hd : o.dst = some d) (hN : Nat.ble (d + 1) N = true) (hgd : o.guard = none) (ho : o.op = .assign (.const v))
    (k : ∀ a', Has N ((d, v) :: L) a' → wpSeq P ops Q rest a' w) : wpSeq P ops Q (o :: rest) a w :=
  seqH h d v hd hN (yieldsIf_assign (by simp [Region.wanted, hgd]) _ ho v rfl) k
/-- Any operation that turns the world. -/
theorem seqW {o : Oper} {rest : List Oper} (h : Has N L a) (d : Nat) (v : Value) (w' : World) (_hd : o.dst = some d) (hN : Nat.ble (d + 1) N = true) (hgd : o.guard = none)
    (hw : ∀ K : Act → World → Prop, K (a.put (some d) v) w' → o.wp P a w K Q) (k : ∀ a', Has N ((d, v) :: L) a' → wpSeq P ops Q rest a' w') : wpSeq P ops Q (o :: rest) a w := by
  refine wpSeq_wp (by simp [Region.wanted, hgd]) (hw _ (k _ (h.put d v hN)))
/-- The same in a region that draws its order: read first. -/
theorem anyH (i : Nat) {oi : Oper} {fuel : Nat} {listed : Array Bool} (h : Has N L a) (d : Nat) (v : Value) (hi : ops.toList[i]? = some oi) (hd : oi.dst = some d) (hN : Nat.ble (d + 1) N = true)
    (hs : Region.noSelect ops = true) (hf : Region.free md ops listed i = true) (hr : (Region.ready md ops listed).contains i = true)
    (hQ : ∀ c a w, Q (.panic c) (a.put oi.dst v) w → Q (.panic c) a w) (hy : YieldsIf P ops S oi v a) (hS : S w)
    (k : ∀ a', Has N ((d, v) :: L) a' → wpAnyS P md ops Q S fuel (listed.setIfInBounds i true) a' w) : wpAnyS P md ops Q S (fuel + 1) listed a w := by
  refine wpAnyS_takeL i hi hs hf hr hQ hy hS ?_
  rw [hd]
  exact k _ (h.put d v hN)
theorem anyM (i : Nat) {oi : Oper} {fuel : Nat} {listed : Array Bool} (h : Has N L a) (d t : Nat) {v : Value} (hi : ops.toList[i]? = some oi) (hd : oi.dst = some d) (hN : Nat.ble (d + 1) N = true) (hgd : oi.guard = none) (ho : oi.op = .move (.tmp t)) (hl : look L t = some v)
    (hs : Region.noSelect ops = true) (hf : Region.free md ops listed i = true) (hr : (Region.ready md ops listed).contains i = true)
    (hQ : ∀ c a w, Q (.panic c) (a.put oi.dst v) w → Q (.panic c) a w) (hS : S w)
    (k : ∀ a', Has N ((d, v) :: L) a' → wpAnyS P md ops Q S fuel (listed.setIfInBounds i true) a' w) : wpAnyS P md ops Q S (fuel + 1) listed a w :=
  anyH i h d v hi hd hN hs hf hr hQ (yieldsIf_move (by simp [Region.wanted, hgd]) _ ho v (h.ev t hl)) hS k
theorem anyA (i : Nat) {oi : Oper} {fuel : Nat} {listed : Array Bool} (h : Has N L a) (d t : Nat) {v : Value} (hi : ops.toList[i]? = some oi) (hd : oi.dst = some d) (hN : Nat.ble (d + 1) N = true) (hgd : oi.guard = none) (ho : oi.op = .assign (.tmp t)) (hl : look L t = some v)
    (hs : Region.noSelect ops = true) (hf : Region.free md ops listed i = true) (hr : (Region.ready md ops listed).contains i = true)
    (hQ : ∀ c a w, Q (.panic c) (a.put oi.dst v) w → Q (.panic c) a w) (hS : S w)
    (k : ∀ a', Has N ((d, v) :: L) a' → wpAnyS P md ops Q S fuel (listed.setIfInBounds i true) a' w) : wpAnyS P md ops Q S (fuel + 1) listed a w :=
  anyH i h d v hi hd hN hs hf hr hQ (yieldsIf_assign (by simp [Region.wanted, hgd]) _ ho v (h.ev t hl)) hS k
/-- An operation that turns the world, as the one that may come up. -/
theorem anyW (i : Nat) {oi : Oper} {fuel : Nat} {listed : Array Bool} (h : Has N L a) (d : Nat) (hi : ops.toList[i]? = some oi) (_hd : oi.dst = some d) (hN : Nat.ble (d + 1) N = true) (hgd : oi.guard = none) (hr : Region.ready md ops listed = [i]) (R : Value → World → Prop)
    (hw : ∀ K : Act → World → Prop, (∀ v w', R v w' → K (a.put (some d) v) w') → oi.wp P a w K Q)
    (k : ∀ v w', R v w' → S w' ∧ ∀ a', Has N ((d, v) :: L) a' → wpAnyS P md ops Q S fuel (listed.setIfInBounds i true) a' w') : wpAnyS P md ops Q S (fuel + 1) listed a w := by
  refine wpAnyS_one hr ?_
  unfold wpOp
  rw [← Array.getElem?_toList, hi]
  have hwd : Region.wanted oi (yielded ops a.tmps) = true := by simp [Region.wanted, hgd]
  simp only [hwd, if_true]
  left
  exact hw _ fun v w' hR => ⟨(k v w' hR).1, (k v w' hR).2 _ (h.put d v hN)⟩
/-- The same where the last operation (z) stores: what stands is asked as long as it has not come up. -/
theorem zanyH (i : Nat) {z : Nat} {oi : Oper} {fuel : Nat} {listed : Array Bool} (h : Has N L a) (d : Nat) (v : Value) (hi : ops.toList[i]? = some oi) (hd : oi.dst = some d) (hN : Nat.ble (d + 1) N = true)
    (hs : Region.noSelect ops = true) (hf : Region.free md ops listed i = true) (hr : (Region.ready md ops listed).contains i = true) (hwz : (Region.waitsFor md ops z i && i != z) = true) (hlz : listed.getD z true = false)
    (hQ : ∀ c a w, Q (.panic c) (a.put oi.dst v) w → Q (.panic c) a w) (hy : YieldsIf P ops S oi v a) (hS : S w)
    (k : ∀ a', Has N ((d, v) :: L) a' → wpAnyZ P md ops Q S z fuel (listed.setIfInBounds i true) a' w) : wpAnyZ P md ops Q S z (fuel + 1) listed a w := by
  refine wpAnyZ_takeL i hi hs hf hr hwz hlz hQ hy hS ?_
  rw [hd]
  exact k _ (h.put d v hN)
theorem zanyM (i : Nat) {z : Nat} {oi : Oper} {fuel : Nat} {listed : Array Bool} (h : Has N L a) (d t : Nat) {v : Value} (hi : ops.toList[i]? = some oi) (hd : oi.dst = some d) (hN : Nat.ble (d + 1) N = true) (hgd : oi.guard = none) (ho : oi.op = .move (.tmp t)) (hl : look L t = some v)
    (hs : Region.noSelect ops = true) (hf : Region.free md ops listed i = true) (hr : (Region.ready md ops listed).contains i = true) (hwz : (Region.waitsFor md ops z i && i != z) = true) (hlz : listed.getD z true = false)
    (hQ : ∀ c a w, Q (.panic c) (a.put oi.dst v) w → Q (.panic c) a w) (hS : S w)
    (k : ∀ a', Has N ((d, v) :: L) a' → wpAnyZ P md ops Q S z fuel (listed.setIfInBounds i true) a' w) : wpAnyZ P md ops Q S z (fuel + 1) listed a w :=
  zanyH i h d v hi hd hN hs hf hr hwz hlz hQ (yieldsIf_move (by simp [Region.wanted, hgd]) _ ho v (h.ev t hl)) hS k
theorem zanyW (i : Nat) {z : Nat} {oi : Oper} {fuel : Nat} {listed : Array Bool} (h : Has N L a) (d : Nat) (hi : ops.toList[i]? = some oi) (_hd : oi.dst = some d) (hN : Nat.ble (d + 1) N = true) (hgd : oi.guard = none) (hr : Region.ready md ops listed = [i]) (R : Value → World → Prop)
    (hw : ∀ K : Act → World → Prop, (∀ v w', R v w' → K (a.put (some d) v) w') → oi.wp P a w K Q)
    (k : ∀ v w', R v w' → S w' ∧ ∀ a', Has N ((d, v) :: L) a' → wpAnyZ P md ops Q S z fuel (listed.setIfInBounds i true) a' w') : wpAnyZ P md ops Q S z (fuel + 1) listed a w := by
  refine wpAnyZ_one hr ?_
  unfold wpOp
  rw [← Array.getElem?_toList, hi]
  have hwd : Region.wanted oi (yielded ops a.tmps) = true := by simp [Region.wanted, hgd]
  simp only [hwd, if_true]
  left
  exact hw _ fun v w' hR => ⟨fun _ => (k v w' hR).1, (k v w' hR).2 _ (h.put d v hN)⟩
theorem wp_store_int {o : Oper} {K : Act → World → Prop} (ty : TypeId) (x y : Operand) (ho : o.op = .store ty x y) (hdn : o.dst = none) (hsz : (P.info? ty).map (·.size) = some 1) (g i : Nat) (kd : IntKind) (n : Int) (hx : a.eval x = .pointer (some ⟨g, i, none⟩)) (hy : a.eval y = .int kd n)
    (u : Value) (hu : w.cell? ⟨g, i, none⟩ = some u) (hf : w.frozen? ⟨g, i, none⟩ = false) (hK : K a (w.setCell ⟨g, i, none⟩ (.int kd n))) : o.wp P a w K Q := by
  unfold Oper.wp execOp
  have hs : (sizeOf ty).run P w = .ok 1 w := by
    cases hi : P.info? ty with
    | none => rw [hi] at hsz; cases hsz
    | some t =>
      rw [hi] at hsz
      simp only [Option.map_some, Option.some.injEq] at hsz
      simp [sizeOf, typeInfo, hi, hsz]
  simp only [ho, hx, hy]
  go_simp
  exact hK
/-- A cell stored, as the last operation. -/
theorem zcell (i : Nat) {z : Nat} {oi : Oper} {fuel : Nat} {listed : Array Bool} (_h : Has N L a) (hi : ops.toList[i]? = some oi) (hgd : oi.guard = none) (hr : Region.ready md ops listed = [i]) (hz : (listed.setIfInBounds i true).getD z true = true)
    (w' : World) (hw : ∀ K : Act → World → Prop, K a w' → oi.wp P a w K Q)
    (k : wpAnyZ P md ops Q S z fuel (listed.setIfInBounds i true) a w') : wpAnyZ P md ops Q S z (fuel + 1) listed a w := by
  refine wpAnyZ_one hr ?_
  unfold wpOp
  rw [← Array.getElem?_toList, hi]
  have hwd : Region.wanted oi (yielded ops a.tmps) = true := by simp [Region.wanted, hgd]
  simp only [hwd, if_true]
  left
  exact hw _ ⟨(fun e => by rw [hz] at e; cases e), k⟩
/-- A call of a function of the program by its contract. -/
theorem wp_call_v {o : Oper} {K : Act → World → Prop} (f : FuncId) (fn : Func) (args : Array Operand) (tys : Array TypeId) (hf : P.funcs[f]? = some fn) (hname : (fn.name == "runtime.NumGoroutine") = false) (hb : fn.body.isNone = false)
    (ho : o.op = .call { callee := .value (.func f), args := args, argTypes := tys }) (d : Nat) (hd : o.dst = some d)
    (vs : Array Value) (hvs : args.map a.eval = vs) (R : Value → World → Prop) (hc : Calls P f vs w fun e w' => ∃ v, e = .returned v ∧ R v w') (hk : ∀ v w', R v w' → K (a.put (some d) v) w') : o.wp P a w K Q := by
  unfold Oper.wp execOp
  have e1 : a.eval (.func f) = .func (.func f) #[] #[] := rfl
  subst hvs
  simp only [ho, resolve, e1]
  go_simp
  have h1 : fn.name ≠ "runtime.NumGoroutine" := by simpa using hname
  cases hbody : fn.body with
  | none => rw [hbody] at hb; cases hb
  | some c =>
    have hr : (callFunc f (Array.map a.eval args)).run P w = .ok (.enter f (Array.map a.eval args)) w := by simp [callFunc, hf, h1, hbody]
    rw [hr, Oper.upon_enter]
    refine hc.mono ?_
    rintro e w' ⟨v, rfl, hR⟩
    rw [hd]
    exact hk v w' hR
end
end Go.Proofs.YtpihgljdbpnehaaDoor
namespace Go.Proofs.YtpihgljdbpnehaaDoor
open Go.RowKit
/-- Sixteen bytes by a function. -/
def LB (f : Nat → Nat) : List Nat := (List.range 16).map f
theorem LB_length (f : Nat → Nat) : (LB f).length = 16 := by simp [LB]
theorem LB_congr {f g : Nat → Nat} (h : ∀ i, i < 16 → f i = g i) : LB f = LB g := List.map_congr_left fun i hi => h i (List.mem_range.1 hi)
/-- Sixteen bytes in block g. -/
def B16 (w : World) (g : Nat) (f : Nat → Nat) : Prop := Blk w g 26 (Iv .u8 (NI (LB f)))
theorem B16.cell {w : World} {g : Nat} {f : Nat → Nat} (h : B16 w g f) (i : Nat) (hi : i < 16) : w.cell? ⟨g, i, none⟩ = some (.int .u8 ((f i : Nat) : Int)) := by
  rw [Blk.cell h, NI_get _ _ (by rw [LB_length]; exact hi)]
  simp [LB]
theorem B16.set {w : World} {g : Nat} {f : Nat → Nat} (h : B16 w g f) (k : Nat) (f' : Nat → Nat) (_hk : k < 16) (ho : ∀ i, i ≠ k → f' i = f i) : B16 (w.setCell ⟨g, k, none⟩ (.int .u8 ((f' k : Nat) : Int))) g f' := by
  have hs := Blk.set h k (.int .u8 ((f' k : Nat) : Int))
  rw [Iv_set] at hs
  have e : (NI (LB f)).set k ((f' k : Nat) : Int) = NI (LB f') := by
    apply List.ext_getElem (by simp [NI, LB])
    intro i h1 h2
    simp only [NI, LB, List.getElem_set, List.getElem_map, List.getElem_range]
    by_cases hj : k = i
    · rw [if_pos hj, hj]
    · rw [if_neg hj, ho i (fun e => hj e.symm)]
  rw [e] at hs
  exact hs
theorem B16.congr {w : World} {g : Nat} {f f' : Nat → Nat} (h : B16 w g f) (e : ∀ i, i < 16 → f i = f' i) : B16 w g f' := by
  unfold B16 at h ⊢
  rwa [LB_congr e] at h
theorem B16.of_block {w w1 : World} {g : Nat} {f : Nat → Nat} (h : B16 w g f) (hb : w1.heap[g]? = w.heap[g]?) : B16 w1 g f := Eq.trans hb h
/-- What stands while a block goes through the rounds: the keys, the table, the block. -/
structure RM (w0 : World) (gk gB oB gb gr : Nat) (ks Bx : List Nat) (f : Nat → Nat) (w : World) : Prop where
  k : BA w gk 0 ks
  x : BA w gB oB Bx
  b : B16 w gb f
  bel : Below w0.heap.size w0 w
  r : B16 w gr (fun _ => 0)
section
variable {w0 : World} {gk gB oB gb gr gs : Nat} {ks Bx : List Nat} {f : Nat → Nat} {w : World}
theorem RM.drew (h : RM w0 gk gB oB gb gr ks Bx f w) : RM w0 gk gB oB gb gr ks Bx f w.drew := ⟨h.k.drew, h.x.drew, h.b.of_block rfl, below_drew h.bel, h.r.of_block rfl⟩
theorem RM.set (h : RM w0 gk gB oB gb gr ks Bx f w) (hk : gk ≠ gb) (hB : gB ≠ gb) (hr : gr ≠ gb) (hb : w0.heap.size ≤ gb) (k : Nat) (f' : Nat → Nat) (h16 : k < 16) (ho : ∀ i, i ≠ k → f' i = f i) : RM w0 gk gB oB gb gr ks Bx f' (w.setCell ⟨gb, k, none⟩ (.int .u8 ((f' k : Nat) : Int))) :=
  ⟨h.k.of_block (heap_setCell_other w _ gk _ hk), h.x.of_block (heap_setCell_other w _ gB _ hB), h.b.set k f' h16 ho, h.bel.setCell (p := ⟨gb, k, none⟩) hb _, h.r.of_block (heap_setCell_other w _ gr _ hr)⟩
theorem RM.far (h : RM w0 gk gB oB gb gr ks Bx f w) (hk : gk ≠ gs) (hB : gB ≠ gs) (hbs : gb ≠ gs) (hrs : gr ≠ gs) (hs : w0.heap.size ≤ gs) (k : Nat) (v : Value) : RM w0 gk gB oB gb gr ks Bx f (w.setCell ⟨gs, k, none⟩ v) :=
  ⟨h.k.of_block (heap_setCell_other w _ gk _ hk), h.x.of_block (heap_setCell_other w _ gB _ hB), h.b.of_block (heap_setCell_other w _ gb _ hbs), h.bel.setCell (p := ⟨gs, k, none⟩) hs _, h.r.of_block (heap_setCell_other w _ gr _ hrs)⟩
theorem RM.below (h : RM w0 gk gB oB gb gr ks Bx f w) {w2 : World} (b : Below w.heap.size w w2) : RM w0 gk gB oB gb gr ks Bx f w2 :=
  ⟨h.k.below b, h.x.below b, Blk.below' h.b b, h.bel.trans (b.mono h.bel.size), Blk.below' h.r b⟩
theorem RM.congr (h : RM w0 gk gB oB gb gr ks Bx f w) {f' : Nat → Nat} (e : ∀ i, i < 16 → f i = f' i) : RM w0 gk gB oB gb gr ks Bx f' w := ⟨h.k, h.x, h.b.congr e, h.bel, h.r⟩
end
theorem BA.at_ {w : World} {g o : Nat} {l : List Nat} (h : BA w g o l) (i : Nat) (hi : i < l.length) : w.cell? ⟨g, o + i, none⟩ = some (.int .u8 ((l.getD i 0 : Nat) : Int)) := by
  rw [h.cell i hi]
  simp [hi]
end Go.Proofs.YtpihgljdbpnehaaDoor
namespace Go.Proofs.YtpihgljdbpnehaaDoor
open Go
theorem cb : ∀ x : Fin 256, gm (gm x.val 3) 14 ^^^ (gm (gm x.val 2) 11 ^^^ (gm x.val 13 ^^^ gm x.val 9)) = 0 := by decide +kernel
end Go.Proofs.YtpihgljdbpnehaaDoor
namespace Go.Proofs.YtpihgljdbpnehaaDoor
open Go.RowKit
/-- What memory holds in Block. -/
structure GS (w : World) (a f p : Nat → Nat) (wr : World) : Prop where
  a : B16 wr w.heap.size a
  b : B16 wr (w.heap.size + 1) f
  r : B16 wr (w.heap.size + 1 + 1) (fun _ => 0)
  p : B16 wr (w.heap.size + 1 + 1 + 1) p
  bl : Below w.heap.size w wr
section
variable {w wr : World} {a f p : Nat → Nat}
theorem GS.drew (h : GS w a f p wr) : GS w a f p wr.drew := ⟨h.a.of_block rfl, h.b.of_block rfl, h.r.of_block rfl, h.p.of_block rfl, below_drew h.bl⟩
theorem GS.congr (h : GS w a f p wr) {f' p' : Nat → Nat} (h1 : ∀ i, i < 16 → f i = f' i) (h2 : ∀ i, i < 16 → p i = p' i) : GS w a f' p' wr := ⟨h.a, h.b.congr h1, h.r, h.p.congr h2, h.bl⟩
end
end Go.Proofs.YtpihgljdbpnehaaDoor
namespace Go.Proofs.YtpihgljdbpnehaaDoor
open Go.RowKit
/-- Twelve bytes by a function. -/
def L12 (f : Nat → Nat) : List Nat := (List.range 12).map f
theorem L12_length (f : Nat → Nat) : (L12 f).length = 12 := by simp [L12]
def N12 (w : World) (g : Nat) (f : Nat → Nat) : Prop := Blk w g 28 (Iv .u8 (NI (L12 f)))
theorem N12.cell {w : World} {g : Nat} {f : Nat → Nat} (h : N12 w g f) (i : Nat) (hi : i < 12) : w.cell? ⟨g, i, none⟩ = some (.int .u8 ((f i : Nat) : Int)) := by
  rw [Blk.cell h, NI_get _ _ (by rw [L12_length]; exact hi)]
  simp [L12]
structure CS (w : World) (f p : Nat → Nat) (wr : World) : Prop where
  n : N12 wr w.heap.size f
  r : B16 wr (w.heap.size + 1) (fun _ => 0)
  p : B16 wr (w.heap.size + 1 + 1) p
  bl : Below w.heap.size w wr
end Go.Proofs.YtpihgljdbpnehaaDoor
namespace Go.Proofs.YtpihgljdbpnehaaDoor
open Go.RowKit
structure HS (w : World) (v : Value) (l : List Nat) (y h : Nat → Nat) (wr : World) : Prop where
  y : B16 wr w.heap.size y
  h : B16 wr (w.heap.size + 1) h
  r : B16 wr (w.heap.size + 1 + 1) (fun _ => 0)
  s : SB wr v l
  bl : Below w.heap.size w wr
section
variable {w wr : World} {v : Value} {l : List Nat} {y h : Nat → Nat}
theorem HS.drew (H : HS w v l y h wr) : HS w v l y h wr.drew := ⟨H.y.of_block rfl, H.h.of_block rfl, H.r.of_block rfl, H.s.below (below_drew (Below.refl _ _)), below_drew H.bl⟩
theorem HS.below (H : HS w v l y h wr) {w1 : World} (b : Below wr.heap.size wr w1) : HS w v l y h w1 := ⟨Blk.below' H.y b, Blk.below' H.h b, Blk.below' H.r b, H.s.below b, H.bl.trans (b.mono H.bl.size)⟩
end
end Go.Proofs.YtpihgljdbpnehaaDoor
namespace Go.Proofs.YtpihgljdbpnehaaDoor
open Go
def hK (k : List Nat) (i : Nat) : Nat := (encL boxL k (LB fun _ => 0)).getD i 0
end Go.Proofs.YtpihgljdbpnehaaDoor
