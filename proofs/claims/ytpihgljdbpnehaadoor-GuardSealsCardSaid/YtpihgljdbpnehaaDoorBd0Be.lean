/- The reference's Box: its contract. Sparse frames: what the slots hold that are looked at, whatever the others hold; walks over them. The reference's Encrypt: its loops, taken out of the program; what memory holds in them (printed by gena9.py). -/
import Derived.Test.YtpihgljdbpnehaaDoorLq0Nb
import Derived.Test.YtpihgljdbpnehaaDoorBc
import Derived.Test.YtpihgljdbpnehaaDoorLo0HSa
import Derived.Test.YtpihgljdbpnehaaDoorAa0Bb
namespace Go.Proofs.YtpihgljdbpnehaaDoor
open Go.RowKit
/-- One byte built into a slice of its own and appended. -/
theorem append_one (B : Nat) (w0 w : World) (ty : TypeId) (v : Value) (l : List Nat) (x : Nat) (O : OwL B w v l) (hl : l.length ≤ 10000) (b : Below B w0 w) (hB : B ≤ w.heap.size) :
    ∃ v' w', (Builtin.append_ #[24, 24] ty #[v, .slice (some ⟨w.heap.size, 0, none⟩) 1 1]).run Tryd.prog (w.alloc (.cells #[.int .u8 ((x : Nat) : Int)] 5)) = .ok v' w' ∧ OwL B w' v' (l ++ [x]) ∧ Below B w0 w' := by
  have b7 : Below w.heap.size w (w.alloc (.cells #[.int .u8 ((x : Nat) : Int)] 5)) := (Below.refl _ _).alloc (Nat.le_refl _) _
  have hB7 : B ≤ (w.alloc (.cells #[.int .u8 ((x : Nat) : Int)] 5)).heap.size := Nat.le_trans hB b7.size
  obtain ⟨v8, w8, r8, O8, g8, _⟩ := append_ba B _ ty v l [x] (O.below b7) w.heap.size 0 1 (byte_row w x) (by simp; omega) hB7
  exact ⟨v8, w8, r8, O8, below_grown' (b.trans (b7.mono hB)) g8 (fun j hj => ((O.below b7).lt j hj).1) hB7⟩
set_option maxHeartbeats 4000000 in
set_option maxRecDepth 100000 in
theorem rbox_any (w : World) :
    Calls Tryd.prog 34 #[] w fun e w' => ∃ v, e = .returned v ∧ OwL w.heap.size w' v boxL ∧ Below w.heap.size w w' := by
  have hT : boxL.take 256 = boxL := List.take_of_length_le (by rw [boxL_length]; exact Nat.le_refl _)
  go_enter Tryd.func34, Tryd.ntmps34
  go_wp2
  go_loopw [1, 2] (fun l i wr => ∃ k : Nat, k ≤ 256 ∧ i = .int .i64 (k : Int) ∧ OwL w.heap.size wr l (boxL.take k) ∧ Below w.heap.size w wr) (fun _ i _ => (256 - intOf i).toNat)
  case atStart => exact ⟨0, by omega, rfl, OwL.nil _ _, Below.refl _ _⟩
  case round =>
    obtain ⟨k, hk, rfl, O, hB⟩ := hrel
    by_cases h8 : k = 256
    · subst h8
      rw [hT] at O
      go_wp2
      go_ret
      exact ⟨_, rfl, O, hB⟩
    · have hlt : k < 256 := by omega
      have i2 : (k : Int) < 256 := by omega
      have i3 : (0 : Int) ≤ (k : Int) := by omega
      have i4 : (k : Int) % 256 = (k : Int) := by omega
      have CS := Lib.hid (fun W => rsub_any k hlt W)
      have hs : boxL.take (k + 1) = boxL.take k ++ [subN k] := by
        rw [List.take_add_one, List.getElem?_eq_getElem (by rw [boxL_length]; exact hlt)]
        simp [boxL]
      have ll : (boxL.take k).length = k := by rw [List.length_take, boxL_length]; omega
      generalize subN k = X at *
      generalize boxL.take k = L at *
      have HS := Lib.hid hs
      clear hs
      go_wp2_with fail
      refine (CS.out _).mono ?_
      rintro e w1 ⟨rfl, b⟩
      have hB1 := hB.trans (b.mono hB.size)
      have O1 := O.below b
      clear CS b O hB
      obtain ⟨v8, w8, r8, O8, B8⟩ := append_one w.heap.size w w1 24 _ L X O1 (by omega) hB1 hB1.size
      clear O1 hB1
      go_wp2_with (refine wpList_append_run rfl _ _ _ _ rfl _ _ rfl rfl _ _ r8 ?_)
      exact ⟨⟨k + 1, by omega, by congr 1, by rw [HS.out]; exact O8, B8⟩, by simp only [intOf]; omega⟩
end Go.Proofs.YtpihgljdbpnehaaDoor
namespace Go.Proofs.YtpihgljdbpnehaaDoor
open Go.RowKit
def look : List (Nat × Value) → Nat → Option Value
  | [], _ => none
  | (e, v) :: L, d => bif Nat.beq e d then some v else look L d
/-- The frame has N slots; those of the list hold what stands there. -/
structure Has (N : Nat) (L : List (Nat × Value)) (a : Act) : Prop where
  size : a.tmps.size = N
  defers : a.defers = []
  val : ∀ d v, look L d = some v → a.tmps.getD d undef = v
section
variable {N : Nat} {L : List (Nat × Value)} {a : Act}
theorem Has.ev (h : Has N L a) (t : Nat) {v : Value} (hl : look L t = some v) : a.eval (.tmp t) = v := h.val t v hl
theorem Has.at_ (h : Has N L a) (t : Nat) {v : Value} (hl : look L t = some v) : a.tmps[t]?.getD undef = v := by
  have := h.val t v hl
  rwa [Array.getD_eq_getD_getElem?] at this
theorem Has.put (h : Has N L a) (d : Nat) (v : Value) (hd : Nat.ble (d + 1) N = true) : Has N ((d, v) :: L) (a.put (some d) v) := by
  have hd' : d < N := Nat.le_of_ble_eq_true hd
  refine ⟨by simp [Act.put, h.size], h.defers, fun e u hl => ?_⟩
  unfold look at hl
  by_cases he : d = e
  · subst he
    have hb : Nat.beq d d = true := Nat.beq_refl d
    rw [hb] at hl
    simp only [cond_true, Option.some.injEq] at hl
    subst hl
    simp [Act.put, h.size, hd']
  · have hb : Nat.beq d e = false := by
      cases hc : Nat.beq d e with
      | false => rfl
      | true => exact absurd (Nat.eq_of_beq_eq_true hc) he
    rw [hb] at hl
    simp only [cond_false] at hl
    have := h.val e u hl
    simp only [Act.put, Array.getD_eq_getD_getElem?, Array.getElem?_setIfInBounds, if_neg he] at this ⊢
    exact this
/-- Fewer slots are told. -/
theorem Has.trim (h : Has N L a) (L' : List (Nat × Value)) (hl : ∀ p ∈ L', look L p.1 = some p.2) : Has N L' a := by
  refine ⟨h.size, h.defers, fun d v hv => h.val d v ?_⟩
  induction L' with
  | nil => cases hv
  | cons p L' ih =>
    obtain ⟨e, u⟩ := p
    unfold look at hv
    cases hb : Nat.beq e d with
    | true =>
      rw [hb] at hv
      simp only [cond_true, Option.some.injEq] at hv
      rw [← Nat.eq_of_beq_eq_true hb, ← hv]
      exact hl (e, u) (by simp)
    | false =>
      rw [hb] at hv
      simp only [cond_false] at hv
      exact ih (fun q hq => hl q (by simp [hq])) hv
end
section
variable {P : Program} {md : Region.Mode} {ops : Array Oper} {Q : Exit → Act → World → Prop} {S : World → Prop} {N : Nat} {L : List (Nat × Value)} {a : Act} {w : World}
/-- One operation read in its place. -/
theorem seqH {o : Oper} {rest : List Oper} (h : Has N L a) (d : Nat) (v : Value) (hd : o.dst = some d) (hN : Nat.ble (d + 1) N = true) (hy : YieldsIf P ops (fun w' => w' = w) o v a)
    (k : ∀ a', Has N ((d, v) :: L) a' → wpSeq P ops Q rest a' w) : wpSeq P ops Q (o :: rest) a w := by
  refine wpSeq_yield hy rfl ?_
  rw [hd]
  exact k _ (h.put d v hN)
/-- A copy. -/
theorem seqM {o : Oper} {rest : List Oper} (h : Has N L a) (d t : Nat) {v : Value} (hd : o.dst = some d) (hN : Nat.ble (d + 1) N = true) (hgd : o.guard = none) (ho : o.op = .move (.tmp t)) (hl : look L t = some v)
    (k : ∀ a', Has N ((d, v) :: L) a' → wpSeq P ops Q rest a' w) : wpSeq P ops Q (o :: rest) a w :=
  seqH h d v hd hN (yieldsIf_move (by simp [Region.wanted, hgd]) _ ho v (h.ev t hl)) k
/-- An assignment of a slot. -/
theorem seqA {o : Oper} {rest : List Oper} (h : Has N L a) (d t : Nat) {v : Value} (hd : o.dst = some d) (hN : Nat.ble (d + 1) N = true) (hgd : o.guard = none) (ho : o.op = .assign (.tmp t)) (hl : look L t = some v)
    (k : ∀ a', Has N ((d, v) :: L) a' → wpSeq P ops Q rest a' w) : wpSeq P ops Q (o :: rest) a w :=
  seqH h d v hd hN (yieldsIf_assign (by simp [Region.wanted, hgd]) _ ho v (h.ev t hl)) k
/-- An assignment of a constant. -/
theorem seqC {o : Oper} {rest : List Oper} (h : Has N L a) (d : Nat) {v : Value} (hd : o.dst = some d) (hN : Nat.ble (d + 1) N = true) (hgd : o.guard = none) (ho : o.op = .assign (.const v))
    (k : ∀ a', Has N ((d, v) :: L) a' → wpSeq P ops Q rest a' w) : wpSeq P ops Q (o :: rest) a w :=
  seqH h d v hd hN (yieldsIf_assign (by simp [Region.wanted, hgd]) _ ho v rfl) k
/-- Any operation that turns the world. -/
theorem seqW {o : Oper} {rest : List Oper} (h : Has N L a) (d : Nat) (v : Value) (w' : World) (_hd : o.dst = some d) (hN : Nat.ble (d + 1) N = true) (hgd : o.guard = none)
    (hw : ∀ K : Act → World → Prop, K (a.put (some d) v) w' → o.wp P a w K Q) (k : ∀ a', Has N ((d, v) :: L) a' → wpSeq P ops Q rest a' w') : wpSeq P ops Q (o :: rest) a w := by
  refine wpSeq_wp (by simp [Region.wanted, hgd]) (hw _ (k _ (h.put d v hN)))
/-- The same in a region that draws its order: read first. -/
theorem anyH (i : Nat) {oi : Oper} {fuel : Nat} {listed : Array Bool} (h : Has N L a) (d : Nat) (v : Value) (hi : ops.toList[i]? = some oi) (hd : oi.dst = some d) (hN : Nat.ble (d + 1) N = true)
    (hs : Region.noSelect ops = true) (hf : Region.free md ops listed i = true) (hr : (Region.ready md ops listed).contains i = true)
    (hQ : ∀ c a w, Q (.panic c) (a.put oi.dst v) w → Q (.panic c) a w) (hy : YieldsIf P ops S oi v a) (hS : S w)
    (k : ∀ a', Has N ((d, v) :: L) a' → wpAnyS P md ops Q S fuel (listed.setIfInBounds i true) a' w) : wpAnyS P md ops Q S (fuel + 1) listed a w := by
  refine wpAnyS_takeL i hi hs hf hr hQ hy hS ?_
  rw [hd]
  exact k _ (h.put d v hN)
theorem anyM (i : Nat) {oi : Oper} {fuel : Nat} {listed : Array Bool} (h : Has N L a) (d t : Nat) {v : Value} (hi : ops.toList[i]? = some oi) (hd : oi.dst = some d) (hN : Nat.ble (d + 1) N = true) (hgd : oi.guard = none) (ho : oi.op = .move (.tmp t)) (hl : look L t = some v)
    (hs : Region.noSelect ops = true) (hf : Region.free md ops listed i = true) (hr : (Region.ready md ops listed).contains i = true)
    (hQ : ∀ c a w, Q (.panic c) (a.put oi.dst v) w → Q (.panic c) a w) (hS : S w)
    (k : ∀ a', Has N ((d, v) :: L) a' → wpAnyS P md ops Q S fuel (listed.setIfInBounds i true) a' w) : wpAnyS P md ops Q S (fuel + 1) listed a w :=
  anyH i h d v hi hd hN hs hf hr hQ (yieldsIf_move (by simp [Region.wanted, hgd]) _ ho v (h.ev t hl)) hS k
theorem anyA (i : Nat) {oi : Oper} {fuel : Nat} {listed : Array Bool} (h : Has N L a) (d t : Nat) {v : Value} (hi : ops.toList[i]? = some oi) (hd : oi.dst = some d) (hN : Nat.ble (d + 1) N = true) (hgd : oi.guard = none) (ho : oi.op = .assign (.tmp t)) (hl : look L t = some v)
    (hs : Region.noSelect ops = true) (hf : Region.free md ops listed i = true) (hr : (Region.ready md ops listed).contains i = true)
    (hQ : ∀ c a w, Q (.panic c) (a.put oi.dst v) w → Q (.panic c) a w) (hS : S w)
    (k : ∀ a', Has N ((d, v) :: L) a' → wpAnyS P md ops Q S fuel (listed.setIfInBounds i true) a' w) : wpAnyS P md ops Q S (fuel + 1) listed a w :=
  anyH i h d v hi hd hN hs hf hr hQ (yieldsIf_assign (by simp [Region.wanted, hgd]) _ ho v (h.ev t hl)) hS k
/-- An operation that turns the world, as the one that may come up. -/
theorem anyW (i : Nat) {oi : Oper} {fuel : Nat} {listed : Array Bool} (h : Has N L a) (d : Nat) (hi : ops.toList[i]? = some oi) (_hd : oi.dst = some d) (hN : Nat.ble (d + 1) N = true) (hgd : oi.guard = none) (hr : Region.ready md ops listed = [i]) (R : Value → World → Prop)
    (hw : ∀ K : Act → World → Prop, (∀ v w', R v w' → K (a.put (some d) v) w') → oi.wp P a w K Q)
    (k : ∀ v w', R v w' → S w' ∧ ∀ a', Has N ((d, v) :: L) a' → wpAnyS P md ops Q S fuel (listed.setIfInBounds i true) a' w') : wpAnyS P md ops Q S (fuel + 1) listed a w := by
  refine wpAnyS_one hr ?_
  unfold wpOp
  rw [← Array.getElem?_toList, hi]
  have hwd : Region.wanted oi (yielded ops a.tmps) = true := by simp [Region.wanted, hgd]
  simp only [hwd, if_true]
  left
  exact hw _ fun v w' hR => ⟨(k v w' hR).1, (k v w' hR).2 _ (h.put d v hN)⟩
/-- The same where the last operation (z) stores: what stands is asked as long as it has not come up. -/
theorem zanyH (i : Nat) {z : Nat} {oi : Oper} {fuel : Nat} {listed : Array Bool} (h : Has N L a) (d : Nat) (v : Value) (hi : ops.toList[i]? = some oi) (hd : oi.dst = some d) (hN : Nat.ble (d + 1) N = true)
    (hs : Region.noSelect ops = true) (hf : Region.free md ops listed i = true) (hr : (Region.ready md ops listed).contains i = true) (hwz : (Region.waitsFor md ops z i && i != z) = true) (hlz : listed.getD z true = false)
    (hQ : ∀ c a w, Q (.panic c) (a.put oi.dst v) w → Q (.panic c) a w) (hy : YieldsIf P ops S oi v a) (hS : S w)
    (k : ∀ a', Has N ((d, v) :: L) a' → wpAnyZ P md ops Q S z fuel (listed.setIfInBounds i true) a' w) : wpAnyZ P md ops Q S z (fuel + 1) listed a w := by
  refine wpAnyZ_takeL i hi hs hf hr hwz hlz hQ hy hS ?_
  rw [hd]
  exact k _ (h.put d v hN)
theorem zanyM (i : Nat) {z : Nat} {oi : Oper} {fuel : Nat} {listed : Array Bool} (h : Has N L a) (d t : Nat) {v : Value} (hi : ops.toList[i]? = some oi) (hd : oi.dst = some d) (hN : Nat.ble (d + 1) N = true) (hgd : oi.guard = none) (ho : oi.op = .move (.tmp t)) (hl : look L t = some v)
    (hs : Region.noSelect ops = true) (hf : Region.free md ops listed i = true) (hr : (Region.ready md ops listed).contains i = true) (hwz : (Region.waitsFor md ops z i && i != z) = true) (hlz : listed.getD z true = false)
    (hQ : ∀ c a w, Q (.panic c) (a.put oi.dst v) w → Q (.panic c) a w) (hS : S w)
    (k : ∀ a', Has N ((d, v) :: L) a' → wpAnyZ P md ops Q S z fuel (listed.setIfInBounds i true) a' w) : wpAnyZ P md ops Q S z (fuel + 1) listed a w :=
  zanyH i h d v hi hd hN hs hf hr hwz hlz hQ (yieldsIf_move (by simp [Region.wanted, hgd]) _ ho v (h.ev t hl)) hS k
theorem zanyW (i : Nat) {z : Nat} {oi : Oper} {fuel : Nat} {listed : Array Bool} (h : Has N L a) (d : Nat) (hi : ops.toList[i]? = some oi) (_hd : oi.dst = some d) (hN : Nat.ble (d + 1) N = true) (hgd : oi.guard = none) (hr : Region.ready md ops listed = [i]) (R : Value → World → Prop)
    (hw : ∀ K : Act → World → Prop, (∀ v w', R v w' → K (a.put (some d) v) w') → oi.wp P a w K Q)
    (k : ∀ v w', R v w' → S w' ∧ ∀ a', Has N ((d, v) :: L) a' → wpAnyZ P md ops Q S z fuel (listed.setIfInBounds i true) a' w') : wpAnyZ P md ops Q S z (fuel + 1) listed a w := by
  refine wpAnyZ_one hr ?_
  unfold wpOp
  rw [← Array.getElem?_toList, hi]
  have hwd : Region.wanted oi (yielded ops a.tmps) = true := by simp [Region.wanted, hgd]
  simp only [hwd, if_true]
  left
  exact hw _ fun v w' hR => ⟨fun _ => (k v w' hR).1, (k v w' hR).2 _ (h.put d v hN)⟩
theorem wp_store_int {o : Oper} {K : Act → World → Prop} (ty : TypeId) (x y : Operand) (ho : o.op = .store ty x y) (hdn : o.dst = none) (hsz : (P.info? ty).map (·.size) = some 1) (g i : Nat) (kd : IntKind) (n : Int) (hx : a.eval x = .pointer (some ⟨g, i, none⟩)) (hy : a.eval y = .int kd n)
    (u : Value) (hu : w.cell? ⟨g, i, none⟩ = some u) (hf : w.frozen? ⟨g, i, none⟩ = false) (hK : K a (w.setCell ⟨g, i, none⟩ (.int kd n))) : o.wp P a w K Q := by
  unfold Oper.wp execOp
  have hs : (sizeOf ty).run P w = .ok 1 w := by
    cases hi : P.info? ty with
    | none => rw [hi] at hsz; cases hsz
    | some t =>
      rw [hi] at hsz
      simp only [Option.map_some, Option.some.injEq] at hsz
      simp [sizeOf, typeInfo, hi, hsz]
  simp only [ho, hx, hy]
  go_simp
  exact hK
/-- A cell stored, as the last operation. -/
theorem zcell (i : Nat) {z : Nat} {oi : Oper} {fuel : Nat} {listed : Array Bool} (_h : Has N L a) (hi : ops.toList[i]? = some oi) (hgd : oi.guard = none) (hr : Region.ready md ops listed = [i]) (hz : (listed.setIfInBounds i true).getD z true = true)
    (w' : World) (hw : ∀ K : Act → World → Prop, K a w' → oi.wp P a w K Q)
    (k : wpAnyZ P md ops Q S z fuel (listed.setIfInBounds i true) a w') : wpAnyZ P md ops Q S z (fuel + 1) listed a w := by
  refine wpAnyZ_one hr ?_
  unfold wpOp
  rw [← Array.getElem?_toList, hi]
  have hwd : Region.wanted oi (yielded ops a.tmps) = true := by simp [Region.wanted, hgd]
  simp only [hwd, if_true]
  left
  exact hw _ ⟨(fun e => by rw [hz] at e; cases e), k⟩
/-- A call of a function of the program by its contract. -/
theorem wp_call_v {o : Oper} {K : Act → World → Prop} (f : FuncId) (fn : Func) (args : Array Operand) (tys : Array TypeId) (hf : P.funcs[f]? = some fn) (hname : (fn.name == "runtime.NumGoroutine") = false) (hb : fn.body.isNone = false)
    (ho : o.op = .call { callee := .value (.func f), args := args, argTypes := tys }) (d : Nat) (hd : o.dst = some d)
    (vs : Array Value) (hvs : args.map a.eval = vs) (R : Value → World → Prop) (hc : Calls P f vs w fun e w' => ∃ v, e = .returned v ∧ R v w') (hk : ∀ v w', R v w' → K (a.put (some d) v) w') : o.wp P a w K Q := by
  unfold Oper.wp execOp
  have e1 : a.eval (.func f) = .func (.func f) #[] #[] := rfl
  subst hvs
  simp only [ho, resolve, e1]
  go_simp
  have h1 : fn.name ≠ "runtime.NumGoroutine" := by simpa using hname
  cases hbody : fn.body with
  | none => rw [hbody] at hb; cases hb
  | some c =>
    have hr : (callFunc f (Array.map a.eval args)).run P w = .ok (.enter f (Array.map a.eval args)) w := by simp [callFunc, hf, h1, hbody]
    rw [hr, Oper.upon_enter]
    refine hc.mono ?_
    rintro e w' ⟨v, rfl, hR⟩
    rw [hd]
    exact hk v w' hR
end
end Go.Proofs.YtpihgljdbpnehaaDoor
namespace Go.Proofs.YtpihgljdbpnehaaDoor
open Go.RowKit
/-- The loops' bodies, in the text's order. -/
def loopsOf : Code → List Code
  | .loop c => c :: loopsOf c
  | .seq a b => loopsOf a ++ loopsOf b
  | .block _ c => loopsOf c
  | .scope c => loopsOf c
  | .cond _ a b => loopsOf a ++ loopsOf b
  | _ => []
noncomputable def encLoop (k : Nat) : Code := ((Tryd.f36.body.map loopsOf).getD []).getD k .skip
/-- Sixteen bytes by a function. -/
def LB (f : Nat → Nat) : List Nat := (List.range 16).map f
theorem LB_length (f : Nat → Nat) : (LB f).length = 16 := by simp [LB]
theorem LB_get (f : Nat → Nat) (i : Nat) (h : i < 16) : (LB f).getD i 0 = f i := by
  simp [LB, List.getD_eq_getElem?_getD, List.getElem?_map, List.getElem?_range h]
theorem LB_congr {f g : Nat → Nat} (h : ∀ i, i < 16 → f i = g i) : LB f = LB g := List.map_congr_left fun i hi => h i (List.mem_range.1 hi)
def MX (f g : Nat → Nat) (k i : Nat) : Nat := if i < k then f i else g i
/-- Sixteen bytes in block g. -/
def B16 (w : World) (g : Nat) (f : Nat → Nat) : Prop := Blk w g 26 (Iv .u8 (NI (LB f)))
theorem B16.cell {w : World} {g : Nat} {f : Nat → Nat} (h : B16 w g f) (i : Nat) (hi : i < 16) : w.cell? ⟨g, i, none⟩ = some (.int .u8 ((f i : Nat) : Int)) := by
  rw [Blk.cell h, NI_get _ _ (by rw [LB_length]; exact hi)]
  simp [LB]
theorem B16.set {w : World} {g : Nat} {f : Nat → Nat} (h : B16 w g f) (k : Nat) (f' : Nat → Nat) (_hk : k < 16) (ho : ∀ i, i ≠ k → f' i = f i) : B16 (w.setCell ⟨g, k, none⟩ (.int .u8 ((f' k : Nat) : Int))) g f' := by
  have hs := Blk.set h k (.int .u8 ((f' k : Nat) : Int))
  rw [Iv_set] at hs
  have e : (NI (LB f)).set k ((f' k : Nat) : Int) = NI (LB f') := by
    apply List.ext_getElem (by simp [NI, LB])
    intro i h1 h2
    simp only [NI, LB, List.getElem_set, List.getElem_map, List.getElem_range]
    by_cases hj : k = i
    · rw [if_pos hj, hj]
    · rw [if_neg hj, ho i (fun e => hj e.symm)]
  rw [e] at hs
  exact hs
theorem B16.congr {w : World} {g : Nat} {f f' : Nat → Nat} (h : B16 w g f) (e : ∀ i, i < 16 → f i = f' i) : B16 w g f' := by
  unfold B16 at h ⊢
  rwa [LB_congr e] at h
theorem B16.of_block {w w1 : World} {g : Nat} {f : Nat → Nat} (h : B16 w g f) (hb : w1.heap[g]? = w.heap[g]?) : B16 w1 g f := Eq.trans hb h
/-- What stands while a block goes through the rounds: the keys, the table, the block. -/
structure RM (w0 : World) (gk gB oB gb gr : Nat) (ks Bx : List Nat) (f : Nat → Nat) (w : World) : Prop where
  k : BA w gk 0 ks
  x : BA w gB oB Bx
  b : B16 w gb f
  bel : Below w0.heap.size w0 w
  r : B16 w gr (fun _ => 0)
section
variable {w0 : World} {gk gB oB gb gr gs : Nat} {ks Bx : List Nat} {f : Nat → Nat} {w : World}
theorem RM.drew (h : RM w0 gk gB oB gb gr ks Bx f w) : RM w0 gk gB oB gb gr ks Bx f w.drew := ⟨h.k.drew, h.x.drew, h.b.of_block rfl, below_drew h.bel, h.r.of_block rfl⟩
theorem RM.set (h : RM w0 gk gB oB gb gr ks Bx f w) (hk : gk ≠ gb) (hB : gB ≠ gb) (hr : gr ≠ gb) (hb : w0.heap.size ≤ gb) (k : Nat) (f' : Nat → Nat) (h16 : k < 16) (ho : ∀ i, i ≠ k → f' i = f i) : RM w0 gk gB oB gb gr ks Bx f' (w.setCell ⟨gb, k, none⟩ (.int .u8 ((f' k : Nat) : Int))) :=
  ⟨h.k.of_block (heap_setCell_other w _ gk _ hk), h.x.of_block (heap_setCell_other w _ gB _ hB), h.b.set k f' h16 ho, h.bel.setCell (p := ⟨gb, k, none⟩) hb _, h.r.of_block (heap_setCell_other w _ gr _ hr)⟩
theorem RM.far (h : RM w0 gk gB oB gb gr ks Bx f w) (hk : gk ≠ gs) (hB : gB ≠ gs) (hbs : gb ≠ gs) (hrs : gr ≠ gs) (hs : w0.heap.size ≤ gs) (k : Nat) (v : Value) : RM w0 gk gB oB gb gr ks Bx f (w.setCell ⟨gs, k, none⟩ v) :=
  ⟨h.k.of_block (heap_setCell_other w _ gk _ hk), h.x.of_block (heap_setCell_other w _ gB _ hB), h.b.of_block (heap_setCell_other w _ gb _ hbs), h.bel.setCell (p := ⟨gs, k, none⟩) hs _, h.r.of_block (heap_setCell_other w _ gr _ hrs)⟩
theorem RM.below (h : RM w0 gk gB oB gb gr ks Bx f w) {w2 : World} (b : Below w.heap.size w w2) : RM w0 gk gB oB gb gr ks Bx f w2 :=
  ⟨h.k.below b, h.x.below b, Blk.below' h.b b, h.bel.trans (b.mono h.bel.size), Blk.below' h.r b⟩
theorem RM.congr (h : RM w0 gk gB oB gb gr ks Bx f w) {f' : Nat → Nat} (e : ∀ i, i < 16 → f i = f' i) : RM w0 gk gB oB gb gr ks Bx f' w := ⟨h.k, h.x, h.b.congr e, h.bel, h.r⟩
end
section
variable {P : Program} {ops : Array Oper} {Q : Exit → Act → World → Prop} {N : Nat} {L : List (Nat × Value)} {a : Act} {w : World}
/-- A call, in the text's order, known by a word. -/
theorem seqK {o : Oper} {rest : List Oper} (h : Has N L a) (d : Nat) (R : Value → World → Prop) (hN : Nat.ble (d + 1) N = true) (hgd : o.guard = none)
    (hw : ∀ K : Act → World → Prop, (∀ v w', R v w' → K (a.put (some d) v) w') → o.wp P a w K Q) (k : ∀ v w', R v w' → ∀ a', Has N ((d, v) :: L) a' → wpSeq P ops Q rest a' w') : wpSeq P ops Q (o :: rest) a w :=
  wpSeq_wp (by simp [Region.wanted, hgd]) (hw _ fun v w' hR => k v w' hR _ (h.put d v hN))
end
theorem BA.at_ {w : World} {g o : Nat} {l : List Nat} (h : BA w g o l) (i : Nat) (hi : i < l.length) : w.cell? ⟨g, o + i, none⟩ = some (.int .u8 ((l.getD i 0 : Nat) : Int)) := by
  rw [h.cell i hi]
  simp [hi]
theorem BA.at0 {w : World} {g : Nat} {l : List Nat} (h : BA w g 0 l) (i : Nat) (hi : i < l.length) : w.cell? ⟨g, i, none⟩ = some (.int .u8 ((l.getD i 0 : Nat) : Int)) := by
  have := h.at_ i hi
  rwa [Nat.zero_add] at this
def baseA (gB oB cB gk ck gb gr : Nat) : List (Nat × Value) := [(0, .slice (some ⟨gB, oB, none⟩) 256 cB), (5, .pointer (some ⟨gb, 0, none⟩)), (6, .pointer (some ⟨gr, 0, none⟩)), (7, .slice (some ⟨gk, 0, none⟩) 176 ck)]
end Go.Proofs.YtpihgljdbpnehaaDoor
