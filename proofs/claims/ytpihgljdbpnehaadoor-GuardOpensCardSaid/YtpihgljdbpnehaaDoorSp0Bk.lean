/- Sparse frames: what the slots hold that are looked at, whatever the others hold; walks over them. The reference's Encrypt: its loops, taken out of the program; what memory holds in them (printed by gena9.py). The reference's Encrypt: four bytes appended to the keys (loop 1) (printed by gena9.py). -/
import Derived.Test.YtpihgljdbpnehaaDoorLk0Lo
import Derived.Test.YtpihgljdbpnehaaDoorBc0Bd
import Derived.Test.YtpihgljdbpnehaaDoorAa0Bb
namespace Go.Proofs.YtpihgljdbpnehaaDoor
open Go.RowKit
def look : List (Nat × Value) → Nat → Option Value
 | [], _ => none
 | (e, v) :: L, d => bif Nat.beq e d then some v else look L d
/-- The frame has N slots; those of the list hold what stands there. -/
structure Has (N : Nat) (L : List (Nat × Value)) (a : Act) : Prop where
 size : a.tmps.size = N
 defers : a.defers = []
 val : ∀ d v, look L d = some v → a.tmps.getD d undef = v
section
variable {N : Nat} {L : List (Nat × Value)} {a : Act}
theorem Has.ev (h : Has N L a) (t : Nat) {v : Value} (hl : look L t = some v) : a.eval (.tmp t) = v := h.val t v hl
theorem Has.at_ (h : Has N L a) (t : Nat) {v : Value} (hl : look L t = some v) : a.tmps[t]?.getD undef = v := by
 have := h.val t v hl
 rwa [Array.getD_eq_getD_getElem?] at this
theorem Has.put (h : Has N L a) (d : Nat) (v : Value) (hd : Nat.ble (d + 1) N = true) : Has N ((d, v) :: L) (a.put (some d) v) := by
 have hd' : d < N := Nat.le_of_ble_eq_true hd
 refine ⟨by simp [Act.put, h.size], h.defers, fun e u hl => ?_⟩
 unfold look at hl
 by_cases he : d = e
 ·
  subst he
  have hb : Nat.beq d d = true := Nat.beq_refl d
  rw [hb] at hl
  simp only [cond_true, Option.some.injEq] at hl
  subst hl
  simp [Act.put, h.size, hd']
 ·
  have hb : Nat.beq d e = false := by
   cases hc : Nat.beq d e with
   | false => rfl
   | true => exact absurd (Nat.eq_of_beq_eq_true hc) he
  rw [hb] at hl
  simp only [cond_false] at hl
  have := h.val e u hl
  simp only [Act.put, Array.getD_eq_getD_getElem?, Array.getElem?_setIfInBounds, if_neg he] at this ⊢
  exact this
/-- Fewer slots are told. -/
theorem Has.trim (h : Has N L a) (L' : List (Nat × Value)) (hl : ∀ p ∈ L', look L p.1 = some p.2) : Has N L' a := by
 refine ⟨h.size, h.defers, fun d v hv => h.val d v ?_⟩
 induction L' with
 | nil => cases hv
 | cons p L' ih =>
  obtain ⟨e, u⟩ := p
  unfold look at hv
  cases hb : Nat.beq e d with
  | true =>
   rw [hb] at hv
   simp only [cond_true, Option.some.injEq] at hv
   rw [← Nat.eq_of_beq_eq_true hb, ← hv]
   exact hl (e, u) (by simp)
  | false =>
   rw [hb] at hv
   simp only [cond_false] at hv
   exact ih (fun q hq => hl q (by simp [hq])) hv
end
section
variable {P : Program} {md : Region.Mode} {ops : Array Oper} {Q : Exit → Act → World → Prop} {S : World → Prop} {N : Nat} {L : List (Nat × Value)} {a : Act} {w : World}
/-- One operation read in its place. -/
theorem seqH {o : Oper} {rest : List Oper} (h : Has N L a) (d : Nat) (v : Value) (hd : o.dst = some d) (hN : Nat.ble (d + 1) N = true) (hy : YieldsIf P ops (fun w' => w' = w) o v a)
  (k : ∀ a', Has N ((d, v) :: L) a' → wpSeq P ops Q rest a' w) : wpSeq P ops Q (o :: rest) a w := by
 refine wpSeq_yield hy rfl ?_
 rw [hd]
 exact k _ (h.put d v hN)
/-- A copy. -/
theorem seqM {o : Oper} {rest : List Oper} (h : Has N L a) (d t : Nat) {v : Value} (hd : o.dst = some d) (hN : Nat.ble (d + 1) N = true) (hgd : o.guard = none) (ho : o.op = .move (.tmp t)) (hl : look L t = some v)
  (k : ∀ a', Has N ((d, v) :: L) a' → wpSeq P ops Q rest a' w) : wpSeq P ops Q (o :: rest) a w :=
 seqH h d v hd hN (yieldsIf_move (by simp [Region.wanted, hgd]) _ ho v (h.ev t hl)) k
/-- An assignment of a slot. -/
theorem seqA {o : Oper} {rest : List Oper} (h : Has N L a) (d t : Nat) {v : Value} (hd : o.dst = some d) (hN : Nat.ble (d + 1) N = true) (hgd : o.guard = none) (ho : o.op = .assign (.tmp t)) (hl : look L t = some v)
  (k : ∀ a', Has N ((d, v) :: L) a' → wpSeq P ops Q rest a' w) : wpSeq P ops Q (o :: rest) a w :=
 seqH h d v hd hN (yieldsIf_assign (by simp [Region.wanted, hgd]) _ ho v (h.ev t hl)) k
/-- An assignment of a constant. -/
theorem seqC {o : Oper} {rest : List Oper} (h : Has N L a) (d : Nat) {v : Value} (hd : o.dst = some d) (hN : Nat.ble (d + 1) N = true) (hgd : o.guard = none) (ho : o.op = .assign (.const v))
  (k : ∀ a', Has N ((d, v) :: L) a' → wpSeq P ops Q rest a' w) : wpSeq P ops Q (o :: rest) a w :=
 seqH h d v hd hN (yieldsIf_assign (by simp [Region.wanted, hgd]) _ ho v rfl) k
/-- Any operation that turns the world. -/
theorem seqW {o : Oper} {rest : List Oper} (h : Has N L a) (d : Nat) (v : Value) (w' : World) (_hd : o.dst = some d) (hN : Nat.ble (d + 1) N = true) (hgd : o.guard = none)
  (hw : ∀ K : Act → World → Prop, K (a.put (some d) v) w' → o.wp P a w K Q) (k : ∀ a', Has N ((d, v) :: L) a' → wpSeq P ops Q rest a' w') : wpSeq P ops Q (o :: rest) a w := by
 refine wpSeq_wp (by simp [Region.wanted, hgd]) (hw _ (k _ (h.put d v hN)))
/-- The same in a region that draws its order: read first. -/
theorem anyH (i : Nat) {oi : Oper} {fuel : Nat} {listed : Array Bool} (h : Has N L a) (d : Nat) (v : Value) (hi : ops.toList[i]? = some oi) (hd : oi.dst = some d) (hN : Nat.ble (d + 1) N = true)
  (hs : Region.noSelect ops = true) (hf : Region.free md ops listed i = true) (hr : (Region.ready md ops listed).contains i = true)
  (hQ : ∀ c a w, Q (.panic c) (a.put oi.dst v) w → Q (.panic c) a w) (hy : YieldsIf P ops S oi v a) (hS : S w)
  (k : ∀ a', Has N ((d, v) :: L) a' → wpAnyS P md ops Q S fuel (listed.setIfInBounds i true) a' w) : wpAnyS P md ops Q S (fuel + 1) listed a w := by
 refine wpAnyS_takeL i hi hs hf hr hQ hy hS ?_
 rw [hd]
 exact k _ (h.put d v hN)
theorem anyM (i : Nat) {oi : Oper} {fuel : Nat} {listed : Array Bool} (h : Has N L a) (d t : Nat) {v : Value} (hi : ops.toList[i]? = some oi) (hd : oi.dst = some d) (hN : Nat.ble (d + 1) N = true) (hgd : oi.guard = none) (ho : oi.op = .move (.tmp t)) (hl : look L t = some v)
  (hs : Region.noSelect ops = true) (hf : Region.free md ops listed i = true) (hr : (Region.ready md ops listed).contains i = true)
  (hQ : ∀ c a w, Q (.panic c) (a.put oi.dst v) w → Q (.panic c) a w) (hS : S w)
  (k : ∀ a', Has N ((d, v) :: L) a' → wpAnyS P md ops Q S fuel (listed.setIfInBounds i true) a' w) : wpAnyS P md ops Q S (fuel + 1) listed a w :=
 anyH i h d v hi hd hN hs hf hr hQ (yieldsIf_move (by simp [Region.wanted, hgd]) _ ho v (h.ev t hl)) hS k
theorem anyA (i : Nat) {oi : Oper} {fuel : Nat} {listed : Array Bool} (h : Has N L a) (d t : Nat) {v : Value} (hi : ops.toList[i]? = some oi) (hd : oi.dst = some d) (hN : Nat.ble (d + 1) N = true) (hgd : oi.guard = none) (ho : oi.op = .assign (.tmp t)) (hl : look L t = some v)
  (hs : Region.noSelect ops = true) (hf : Region.free md ops listed i = true) (hr : (Region.ready md ops listed).contains i = true)
  (hQ : ∀ c a w, Q (.panic c) (a.put oi.dst v) w → Q (.panic c) a w) (hS : S w)
  (k : ∀ a', Has N ((d, v) :: L) a' → wpAnyS P md ops Q S fuel (listed.setIfInBounds i true) a' w) : wpAnyS P md ops Q S (fuel + 1) listed a w :=
 anyH i h d v hi hd hN hs hf hr hQ (yieldsIf_assign (by simp [Region.wanted, hgd]) _ ho v (h.ev t hl)) hS k
/-- An operation that turns the world, as the one that may come up. -/
theorem anyW (i : Nat) {oi : Oper} {fuel : Nat} {listed : Array Bool} (h : Has N L a) (d : Nat) (hi : ops.toList[i]? = some oi) (_hd : oi.dst = some d) (hN : Nat.ble (d + 1) N = true) (hgd : oi.guard = none) (hr : Region.ready md ops listed = [i]) (R : Value → World → Prop)
  (hw : ∀ K : Act → World → Prop, (∀ v w', R v w' → K (a.put (some d) v) w') → oi.wp P a w K Q)
  (k : ∀ v w', R v w' → S w' ∧ ∀ a', Has N ((d, v) :: L) a' → wpAnyS P md ops Q S fuel (listed.setIfInBounds i true) a' w') : wpAnyS P md ops Q S (fuel + 1) listed a w := by
 refine wpAnyS_one hr ?_
 unfold wpOp
 rw [← Array.getElem?_toList, hi]
 have hwd : Region.wanted oi (yielded ops a.tmps) = true := by simp [Region.wanted, hgd]
 simp only [hwd, if_true]
 left
 exact hw _ fun v w' hR => ⟨(k v w' hR).1, (k v w' hR).2 _ (h.put d v hN)⟩
/-- The same where the last operation (z) stores: what stands is asked as long as it has not come up. -/
theorem zanyH (i : Nat) {z : Nat} {oi : Oper} {fuel : Nat} {listed : Array Bool} (h : Has N L a) (d : Nat) (v : Value) (hi : ops.toList[i]? = some oi) (hd : oi.dst = some d) (hN : Nat.ble (d + 1) N = true)
  (hs : Region.noSelect ops = true) (hf : Region.free md ops listed i = true) (hr : (Region.ready md ops listed).contains i = true) (hwz : (Region.waitsFor md ops z i && i != z) = true) (hlz : listed.getD z true = false)
  (hQ : ∀ c a w, Q (.panic c) (a.put oi.dst v) w → Q (.panic c) a w) (hy : YieldsIf P ops S oi v a) (hS : S w)
  (k : ∀ a', Has N ((d, v) :: L) a' → wpAnyZ P md ops Q S z fuel (listed.setIfInBounds i true) a' w) : wpAnyZ P md ops Q S z (fuel + 1) listed a w := by
 refine wpAnyZ_takeL i hi hs hf hr hwz hlz hQ hy hS ?_
 rw [hd]
 exact k _ (h.put d v hN)
theorem zanyM (i : Nat) {z : Nat} {oi : Oper} {fuel : Nat} {listed : Array Bool} (h : Has N L a) (d t : Nat) {v : Value} (hi : ops.toList[i]? = some oi) (hd : oi.dst = some d) (hN : Nat.ble (d + 1) N = true) (hgd : oi.guard = none) (ho : oi.op = .move (.tmp t)) (hl : look L t = some v)
  (hs : Region.noSelect ops = true) (hf : Region.free md ops listed i = true) (hr : (Region.ready md ops listed).contains i = true) (hwz : (Region.waitsFor md ops z i && i != z) = true) (hlz : listed.getD z true = false)
  (hQ : ∀ c a w, Q (.panic c) (a.put oi.dst v) w → Q (.panic c) a w) (hS : S w)
  (k : ∀ a', Has N ((d, v) :: L) a' → wpAnyZ P md ops Q S z fuel (listed.setIfInBounds i true) a' w) : wpAnyZ P md ops Q S z (fuel + 1) listed a w :=
 zanyH i h d v hi hd hN hs hf hr hwz hlz hQ (yieldsIf_move (by simp [Region.wanted, hgd]) _ ho v (h.ev t hl)) hS k
theorem zanyW (i : Nat) {z : Nat} {oi : Oper} {fuel : Nat} {listed : Array Bool} (h : Has N L a) (d : Nat) (hi : ops.toList[i]? = some oi) (_hd : oi.dst = some d) (hN : Nat.ble (d + 1) N = true) (hgd : oi.guard = none) (hr : Region.ready md ops listed = [i]) (R : Value → World → Prop)
  (hw : ∀ K : Act → World → Prop, (∀ v w', R v w' → K (a.put (some d) v) w') → oi.wp P a w K Q)
  (k : ∀ v w', R v w' → S w' ∧ ∀ a', Has N ((d, v) :: L) a' → wpAnyZ P md ops Q S z fuel (listed.setIfInBounds i true) a' w') : wpAnyZ P md ops Q S z (fuel + 1) listed a w := by
 refine wpAnyZ_one hr ?_
 unfold wpOp
 rw [← Array.getElem?_toList, hi]
 have hwd : Region.wanted oi (yielded ops a.tmps) = true := by simp [Region.wanted, hgd]
 simp only [hwd, if_true]
 left
 exact hw _ fun v w' hR => ⟨fun _ => (k v w' hR).1, (k v w' hR).2 _ (h.put d v hN)⟩
theorem wp_store_int {o : Oper} {K : Act → World → Prop} (ty : TypeId) (x y : Operand) (ho : o.op = .store ty x y) (hdn : o.dst = none) (hsz : (P.info? ty).map (·.size) = some 1) (g i : Nat) (kd : IntKind) (n : Int) (hx : a.eval x = .pointer (some ⟨g, i, none⟩)) (hy : a.eval y = .int kd n)
  (u : Value) (hu : w.cell? ⟨g, i, none⟩ = some u) (hf : w.frozen? ⟨g, i, none⟩ = false) (hK : K a (w.setCell ⟨g, i, none⟩ (.int kd n))) : o.wp P a w K Q := by
 unfold Oper.wp execOp
 have hs : (sizeOf ty).run P w = .ok 1 w := by
  cases hi : P.info? ty with
  | none => rw [hi] at hsz; cases hsz
  | some t =>
   rw [hi] at hsz
   simp only [Option.map_some, Option.some.injEq] at hsz
   simp [sizeOf, typeInfo, hi, hsz]
 simp only [ho, hx, hy]
 go_simp
 exact hK
/-- A cell stored, as the last operation. -/
theorem zcell (i : Nat) {z : Nat} {oi : Oper} {fuel : Nat} {listed : Array Bool} (_h : Has N L a) (hi : ops.toList[i]? = some oi) (hgd : oi.guard = none) (hr : Region.ready md ops listed = [i]) (hz : (listed.setIfInBounds i true).getD z true = true)
  (w' : World) (hw : ∀ K : Act → World → Prop, K a w' → oi.wp P a w K Q)
  (k : wpAnyZ P md ops Q S z fuel (listed.setIfInBounds i true) a w') : wpAnyZ P md ops Q S z (fuel + 1) listed a w := by
 refine wpAnyZ_one hr ?_
 unfold wpOp
 rw [← Array.getElem?_toList, hi]
 have hwd : Region.wanted oi (yielded ops a.tmps) = true := by simp [Region.wanted, hgd]
 simp only [hwd, if_true]
 left
 exact hw _ ⟨(fun e => by rw [hz] at e; cases e), k⟩
/-- A call of a function of the program by its contract. -/
theorem wp_call_v {o : Oper} {K : Act → World → Prop} (f : FuncId) (fn : Func) (args : Array Operand) (tys : Array TypeId) (hf : P.funcs[f]? = some fn) (hname : (fn.name == "runtime.NumGoroutine") = false) (hb : fn.body.isNone = false)
  (ho : o.op = .call { callee := .value (.func f), args := args, argTypes := tys }) (d : Nat) (hd : o.dst = some d)
  (vs : Array Value) (hvs : args.map a.eval = vs) (R : Value → World → Prop) (hc : Calls P f vs w fun e w' => ∃ v, e = .returned v ∧ R v w') (hk : ∀ v w', R v w' → K (a.put (some d) v) w') : o.wp P a w K Q := by
 unfold Oper.wp execOp
 have e1 : a.eval (.func f) = .func (.func f) #[] #[] := rfl
 subst hvs
 simp only [ho, resolve, e1]
 go_simp
 have h1 : fn.name ≠ "runtime.NumGoroutine" := by simpa using hname
 cases hbody : fn.body with
 | none => rw [hbody] at hb; cases hb
 | some c =>
  have hr : (callFunc f (Array.map a.eval args)).run P w = .ok (.enter f (Array.map a.eval args)) w := by simp [callFunc, hf, h1, hbody]
  rw [hr, Oper.upon_enter]
  refine hc.mono ?_
  rintro e w' ⟨v, rfl, hR⟩
  rw [hd]
  exact hk v w' hR
end
end Go.Proofs.YtpihgljdbpnehaaDoor
namespace Go.Proofs.YtpihgljdbpnehaaDoor
open Go.RowKit
/-- The loops' bodies, in the text's order. -/
def loopsOf : Code → List Code
 | .loop c => c :: loopsOf c
 | .seq a b => loopsOf a ++ loopsOf b
 | .block _ c => loopsOf c
 | .scope c => loopsOf c
 | .cond _ a b => loopsOf a ++ loopsOf b
 | _ => []
noncomputable def encLoop (k : Nat) : Code := ((Tryd.f36.body.map loopsOf).getD []).getD k .skip
/-- Sixteen bytes by a function. -/
def LB (f : Nat → Nat) : List Nat := (List.range 16).map f
theorem LB_length (f : Nat → Nat) : (LB f).length = 16 := by simp [LB]
theorem LB_get (f : Nat → Nat) (i : Nat) (h : i < 16) : (LB f).getD i 0 = f i := by
 simp [LB, List.getD_eq_getElem?_getD, List.getElem?_map, List.getElem?_range h]
theorem LB_congr {f g : Nat → Nat} (h : ∀ i, i < 16 → f i = g i) : LB f = LB g := List.map_congr_left fun i hi => h i (List.mem_range.1 hi)
def MX (f g : Nat → Nat) (k i : Nat) : Nat := if i < k then f i else g i
/-- Sixteen bytes in block g. -/
def B16 (w : World) (g : Nat) (f : Nat → Nat) : Prop := Blk w g 26 (Iv .u8 (NI (LB f)))
theorem B16.cell {w : World} {g : Nat} {f : Nat → Nat} (h : B16 w g f) (i : Nat) (hi : i < 16) : w.cell? ⟨g, i, none⟩ = some (.int .u8 ((f i : Nat) : Int)) := by
 rw [Blk.cell h, NI_get _ _ (by rw [LB_length]; exact hi)]
 simp [LB]
theorem B16.set {w : World} {g : Nat} {f : Nat → Nat} (h : B16 w g f) (k : Nat) (f' : Nat → Nat) (_hk : k < 16) (ho : ∀ i, i ≠ k → f' i = f i) : B16 (w.setCell ⟨g, k, none⟩ (.int .u8 ((f' k : Nat) : Int))) g f' := by
 have hs := Blk.set h k (.int .u8 ((f' k : Nat) : Int))
 rw [Iv_set] at hs
 have e : (NI (LB f)).set k ((f' k : Nat) : Int) = NI (LB f') := by
  apply List.ext_getElem (by simp [NI, LB])
  intro i h1 h2
  simp only [NI, LB, List.getElem_set, List.getElem_map, List.getElem_range]
  by_cases hj : k = i
  · rw [if_pos hj, hj]
  · rw [if_neg hj, ho i (fun e => hj e.symm)]
 rw [e] at hs
 exact hs
theorem B16.congr {w : World} {g : Nat} {f f' : Nat → Nat} (h : B16 w g f) (e : ∀ i, i < 16 → f i = f' i) : B16 w g f' := by
 unfold B16 at h ⊢
 rwa [LB_congr e] at h
theorem B16.of_block {w w1 : World} {g : Nat} {f : Nat → Nat} (h : B16 w g f) (hb : w1.heap[g]? = w.heap[g]?) : B16 w1 g f := Eq.trans hb h
/-- What stands while a block goes through the rounds: the keys, the table, the block. -/
structure RM (w0 : World) (gk gB oB gb gr : Nat) (ks Bx : List Nat) (f : Nat → Nat) (w : World) : Prop where
 k : BA w gk 0 ks
 x : BA w gB oB Bx
 b : B16 w gb f
 bel : Below w0.heap.size w0 w
 r : B16 w gr (fun _ => 0)
section
variable {w0 : World} {gk gB oB gb gr gs : Nat} {ks Bx : List Nat} {f : Nat → Nat} {w : World}
theorem RM.drew (h : RM w0 gk gB oB gb gr ks Bx f w) : RM w0 gk gB oB gb gr ks Bx f w.drew := ⟨h.k.drew, h.x.drew, h.b.of_block rfl, below_drew h.bel, h.r.of_block rfl⟩
theorem RM.set (h : RM w0 gk gB oB gb gr ks Bx f w) (hk : gk ≠ gb) (hB : gB ≠ gb) (hr : gr ≠ gb) (hb : w0.heap.size ≤ gb) (k : Nat) (f' : Nat → Nat) (h16 : k < 16) (ho : ∀ i, i ≠ k → f' i = f i) : RM w0 gk gB oB gb gr ks Bx f' (w.setCell ⟨gb, k, none⟩ (.int .u8 ((f' k : Nat) : Int))) :=
 ⟨h.k.of_block (heap_setCell_other w _ gk _ hk), h.x.of_block (heap_setCell_other w _ gB _ hB), h.b.set k f' h16 ho, h.bel.setCell (p := ⟨gb, k, none⟩) hb _, h.r.of_block (heap_setCell_other w _ gr _ hr)⟩
theorem RM.far (h : RM w0 gk gB oB gb gr ks Bx f w) (hk : gk ≠ gs) (hB : gB ≠ gs) (hbs : gb ≠ gs) (hrs : gr ≠ gs) (hs : w0.heap.size ≤ gs) (k : Nat) (v : Value) : RM w0 gk gB oB gb gr ks Bx f (w.setCell ⟨gs, k, none⟩ v) :=
 ⟨h.k.of_block (heap_setCell_other w _ gk _ hk), h.x.of_block (heap_setCell_other w _ gB _ hB), h.b.of_block (heap_setCell_other w _ gb _ hbs), h.bel.setCell (p := ⟨gs, k, none⟩) hs _, h.r.of_block (heap_setCell_other w _ gr _ hrs)⟩
theorem RM.below (h : RM w0 gk gB oB gb gr ks Bx f w) {w2 : World} (b : Below w.heap.size w w2) : RM w0 gk gB oB gb gr ks Bx f w2 :=
 ⟨h.k.below b, h.x.below b, Blk.below' h.b b, h.bel.trans (b.mono h.bel.size), Blk.below' h.r b⟩
theorem RM.congr (h : RM w0 gk gB oB gb gr ks Bx f w) {f' : Nat → Nat} (e : ∀ i, i < 16 → f i = f' i) : RM w0 gk gB oB gb gr ks Bx f' w := ⟨h.k, h.x, h.b.congr e, h.bel, h.r⟩
end
section
variable {P : Program} {ops : Array Oper} {Q : Exit → Act → World → Prop} {N : Nat} {L : List (Nat × Value)} {a : Act} {w : World}
/-- A call, in the text's order, known by a word. -/
theorem seqK {o : Oper} {rest : List Oper} (h : Has N L a) (d : Nat) (R : Value → World → Prop) (hN : Nat.ble (d + 1) N = true) (hgd : o.guard = none)
  (hw : ∀ K : Act → World → Prop, (∀ v w', R v w' → K (a.put (some d) v) w') → o.wp P a w K Q) (k : ∀ v w', R v w' → ∀ a', Has N ((d, v) :: L) a' → wpSeq P ops Q rest a' w') : wpSeq P ops Q (o :: rest) a w :=
 wpSeq_wp (by simp [Region.wanted, hgd]) (hw _ fun v w' hR => k v w' hR _ (h.put d v hN))
end
theorem BA.at_ {w : World} {g o : Nat} {l : List Nat} (h : BA w g o l) (i : Nat) (hi : i < l.length) : w.cell? ⟨g, o + i, none⟩ = some (.int .u8 ((l.getD i 0 : Nat) : Int)) := by
 rw [h.cell i hi]
 simp [hi]
theorem BA.at0 {w : World} {g : Nat} {l : List Nat} (h : BA w g 0 l) (i : Nat) (hi : i < l.length) : w.cell? ⟨g, i, none⟩ = some (.int .u8 ((l.getD i 0 : Nat) : Int)) := by
 have := h.at_ i hi
 rwa [Nat.zero_add] at this
def baseA (gB oB cB gk ck gb gr : Nat) : List (Nat × Value) := [(0, .slice (some ⟨gB, oB, none⟩) 256 cB), (5, .pointer (some ⟨gb, 0, none⟩)), (6, .pointer (some ⟨gr, 0, none⟩)), (7, .slice (some ⟨gk, 0, none⟩) 176 ck)]
end Go.Proofs.YtpihgljdbpnehaaDoor
namespace Go.Proofs.YtpihgljdbpnehaaDoor
open Go.RowKit
section
variable {P : Program} {md : Region.Mode} {ops : Array Oper} {Q : Exit → Act → World → Prop} {S : World → Prop} {N : Nat} {L : List (Nat × Value)} {a : Act} {w : World}
/-- The assign that ends a region. -/
theorem zendA (i : Nat) {z : Nat} {oi : Oper} {fuel : Nat} {listed : Array Bool} (h : Has N L a) (d t : Nat) {v : Value} (hi : ops.toList[i]? = some oi) (hd : oi.dst = some d) (hN : Nat.ble (d + 1) N = true) (hgd : oi.guard = none) (ho : oi.op = .assign (.tmp t)) (hl : look L t = some v) (hr : Region.ready md ops listed = [i]) (hz : (listed.setIfInBounds i true).getD z true = true)
  (hend : Region.ready md ops (listed.setIfInBounds i true) = []) (k : ∀ a', Has N ((d, v) :: L) a' → Q .normal a' w) : wpAnyZ P md ops Q S z (fuel + 1) listed a w := by
 refine wpAnyZ_one hr ?_
 have hwd : Region.wanted oi (yielded ops a.tmps) = true := by simp [Region.wanted, hgd]
 have hy : YieldsIf P ops (fun _ => True) oi v a := yieldsIf_assign hwd _ ho v (h.ev t hl)
 refine hy.wpOp (by rw [← hi, Array.getElem?_toList]) trivial ⟨fun e => (by rw [hz] at e; cases e), wpAnyZ_done hend ?_ _⟩
 rw [hd]
 exact k _ (h.put d v hN)
end
/-- One byte built and appended, beside another row. -/
theorem append_keep (w0 w : World) (ty : TypeId) (v : Value) (l m : List Nat) (x gw : Nat) (O : OwL w0.heap.size w v l) (hl : l.length ≤ 10000) (b : Below w0.heap.size w0 w) (A : BA w gw 0 m) (hne : ∀ g, v.ownBlock = some g → g ≠ gw) :
  ∃ v' w', (Builtin.append_ #[24, 24] ty #[v, .slice (some ⟨w.heap.size, 0, none⟩) 1 1]).run Tryd.prog (w.alloc (.cells #[.int .u8 ((x : Nat) : Int)] 5)) = .ok v' w' ∧ OwL w0.heap.size w' v' (l ++ [x]) ∧ Below w0.heap.size w0 w' ∧ BA w' gw 0 m ∧ (∀ g, v'.ownBlock = some g → g ≠ gw) := by
 have b7 : Below w.heap.size w (w.alloc (.cells #[.int .u8 ((x : Nat) : Int)] 5)) := (Below.refl _ _).alloc (Nat.le_refl _) _
 have hB7 : w0.heap.size ≤ (w.alloc (.cells #[.int .u8 ((x : Nat) : Int)] 5)).heap.size := Nat.le_trans b.size b7.size
 obtain ⟨v8, w8, r8, O8, g8, o8⟩ := append_ba w0.heap.size _ ty v l [x] (O.below b7) w.heap.size 0 1 (byte_row w x) (by simp; omega) hB7
 refine ⟨v8, w8, r8, O8, below_grown' (b.trans (b7.mono b.size)) g8 (fun j hj => ((O.below b7).lt j hj).1) hB7, (A.below b7).of_block (g8.block gw (A.below b7).blk fun e => hne gw e.symm rfl), fun g hg => ?_⟩
 rcases o8 with o8 | o8
 · exact hne g (o8 ▸ hg)
 ·
  rw [o8] at hg
  cases hg
  have := (A.below b7).blk
  omega
/-- The old row stands, whether the new one lies in it or elsewhere. -/
theorem append_old (B : Nat) (w : World) (ty : TypeId) (gk ck x g o c : Nat) (l : List Nat) (O : OwL B w (.slice (some ⟨gk, 0, none⟩) l.length ck) l) (hx : BA w g o [x]) (hl : l.length ≤ 10000) (v8 : Value) (w8 : World)
  (r8 : (Builtin.append_ #[24, 24] ty #[.slice (some ⟨gk, 0, none⟩) l.length ck, .slice (some ⟨g, o, none⟩) 1 c]).run Tryd.prog w = .ok v8 w8) (O8 : OwL B w8 v8 (l ++ [x])) : BA w8 gk 0 l := by
 obtain ⟨i, hi, hs, hy, hz⟩ := info_u8
 have hO := O
 obtain ⟨hlen, hr | ⟨g', cap, cur, e, hB, hg, hnc, hcm, hcs, htake⟩⟩ := O
 · cases hr.1
 cases e
 have hcell : ∀ j u, (vals [x])[j]? = some u → w.cell? ((⟨g, o, none⟩ : Addr).add j) = some u := fun j u hu => cells_at hx j u hu
 by_cases hroom : l.length + 1 ≤ ck
 ·
  have hr := run_append_room (P := Tryd.prog) w 24 ty 5 i Tryd.underlying24 hi gk l.length ck cur hg ⟨g, o, none⟩ 1 c (vals [x]) (by rw [vals_length, hs]; rfl) hcell (one_at [x]) hroom (by rw [hs, vals_length, Nat.mul_one, hcs, Nat.mul_one]; exact hroom)
  rw [hr] at r8
  cases r8
  rcases O8.row with ⟨hx, _⟩ | ⟨g2, c2, e2, _, _, _, A2, _⟩
  · cases hx
  ·
   simp only [Value.slice.injEq, Option.some.injEq, Addr.mk.injEq] at e2
   obtain ⟨⟨rfl, _⟩, _, _⟩ := e2
   have := A2.take l.length
   rwa [List.take_left] at this
 ·
  have holds : ∀ j u, (vals l)[j]? = some u → w.cell? ((⟨gk, 0, none⟩ : Addr).add j) = some u := hO.cells (g := gk) rfl
  have hr := run_append_grow (P := Tryd.prog) w 24 ty 5 i (.int .u8 0) Tryd.underlying24 hi hz ⟨gk, 0, none⟩ l.length ck (vals l) (by rw [vals_length, hs, Nat.mul_one]) holds ⟨g, o, none⟩ 1 c (vals [x]) (by rw [vals_length, hs]; rfl) hcell (by omega) (by omega) (growslice_fits (by omega) (by rw [hy]; omega))
  rw [hr] at r8
  cases r8
  have A : BA w gk 0 l := by
   rcases hO.row with ⟨hx, _⟩ | ⟨g2, c2, e2, _, _, _, A2, _⟩
   · cases hx
   ·
    cases e2
    exact A2
  exact A.below ((below_drew (Below.refl _ _)).alloc (by simp) _)
def half4 (ks w4 : List Nat) (n k : Nat) : List Nat := (List.range k).map fun j => ks.getD (n - 16 + j) 0 ^^^ w4.getD j 0
theorem half4_length (ks w4 : List Nat) (n k : Nat) : (half4 ks w4 n k).length = k := by simp [half4]
theorem half4_succ (ks w4 : List Nat) (n k : Nat) : half4 ks w4 n k ++ [ks.getD (n - 16 + k) 0 ^^^ w4.getD k 0] = half4 ks w4 n (k + 1) := by simp [half4, List.range_succ]
def base1 (bv pb pr cv : Value) (n gw cw : Nat) : List (Nat × Value) := [(0, bv), (5, pb), (6, pr), (8, cv), (9, .int .i64 (n : Int)), (10, .slice (some ⟨gw, 0, none⟩) 4 cw)]
set_option maxHeartbeats 4000000 in
set_option maxRecDepth 100000 in
theorem eloop1 (w0 : World) (bv pb pr cv : Value) (n gw cw : Nat) (ks w4 : List Nat) (hn : ks.length = n) (n16 : 16 ≤ n) (n172 : n ≤ 172) (l4 : w4.length = 4) (_c4 : 4 ≤ cw) (bks : ∀ x ∈ ks, x < 256) (b4 : ∀ x ∈ w4, x < 256)
  {Q : Exit → Act → World → Prop} (hQ : ∀ c a d v w, Q (.panic c) (Act.put a d v) w → Q (.panic c) a w) (a : Act) (v : Value) (h : Has 178 ((11, .int .i64 0) :: (7, v) :: base1 bv pb pr cv n gw cw) a) (w1 : World) (hR : OwL w0.heap.size w1 v ks ∧ BA w1 gw 0 w4 ∧ (∀ g, v.ownBlock = some g → g ≠ gw) ∧ Below w0.heap.size w0 w1)
  (hexit : ∀ a' w' v, Has 178 ((7, v) :: base1 bv pb pr cv n gw cw) a' → OwL w0.heap.size w' v (ks ++ half4 ks w4 n 4) → Below w0.heap.size w0 w' → Q (.exit 2) a' w') : Code.wp Tryd.prog (.loop (encLoop 1)) Q a w1 := by
 refine wp_loop (fun a' w' => ∃ (k : Nat) (v : Value), k ≤ 4 ∧ Has 178 ((11, .int .i64 (k : Int)) :: (7, v) :: base1 bv pb pr cv n gw cw) a' ∧ OwL w0.heap.size w' v (ks ++ half4 ks w4 n k) ∧ BA w' gw 0 w4 ∧ (∀ g, v.ownBlock = some g → g ≠ gw) ∧ Below w0.heap.size w0 w') (fun a' _ => 4 - (intOf (a'.tmps.getD 11 undef)).toNat) ?_ ?_
 · exact ⟨0, v, Nat.zero_le _, h, by rw [show half4 ks w4 n 0 = [] from rfl, List.append_nil]; exact hR.1, hR.2⟩
 clear h a hR v
 rintro a w ⟨k, v, hk, h, O, A, hne, bel⟩
 have hm : a.tmps.getD 11 undef = .int .i64 (k : Int) := h.val 11 _ rfl
 generalize a.tmps.getD 11 undef = x at hm ⊢
 subst hm
 conv => arg 2; whnf
 refine wp_seq (wp_seq ?_)
 refine wp_region_seq ?_
 by_cases hlt : k < 4
 ·
  have l0 : (k : Int) < 4 := by omega
  have l1 : (0 : Int) ≤ (k : Int) := by omega
  refine seqM h 66 11 rfl rfl rfl rfl rfl ?_
  clear h
  intro a h
  refine seqH h 67 (Value.bool true) rfl rfl (Or.inl ⟨rfl, fun w' hw' => by
    subst hw'
    have e66 : a.eval (.tmp 66) = _ := h.ev 66 rfl
    simp only [execOp, e66]
    go_simp⟩) ?_
  clear h
  intro a h
  refine wpSeq_nil ?_
  show Code.wp _ _ _ _ _
  refine wp_cond (t := true) (h.ev 67 rfl) ?_
  refine wp_skip ?_
  show Code.wp _ _ _ _ _
  refine wp_seq (wp_block ?_)
  have ll : (ks ++ half4 ks w4 n k).length = n + k := by rw [List.length_append, half4_length, hn]
  rcases O.row with ⟨_, hx⟩ | ⟨gk, ck, rfl, hgk, hck, _, Ak, _⟩
  ·
   rw [hx] at ll
   simp at ll
   omega
  have hgw : gk ≠ gw := hne gk rfl
  rw [ll] at h hck hne
  obtain ⟨m, hm⟩ : ∃ m, m = n - 16 + k := ⟨_, rfl⟩
  have em : (ks ++ half4 ks w4 n k).getD m 0 = ks.getD m 0 := by
   rw [List.getD_eq_getElem?_getD, List.getElem?_append_left (by omega), ← List.getD_eq_getElem?_getD]
  have hs := half4_succ ks w4 n k
  rw [← hm] at hs
  have lK := getD_lt bks m
  have lW := getD_lt b4 k
  have ex := u8_xor_nat (ks.getD m 0) (w4.getD k 0) lK lW
  have cm : ∀ w', BA w' gk 0 (ks ++ half4 ks w4 n k) ∧ BA w' gw 0 w4 → w'.cell? ⟨gk, m, none⟩ = some (.int .u8 ((ks.getD m 0 : Nat) : Int)) := fun w' hw => by
   rw [hw.1.at0 m (by omega), em]
  have cw' : ∀ w', BA w' gk 0 (ks ++ half4 ks w4 n k) ∧ BA w' gw 0 w4 → w'.cell? ⟨gw, k, none⟩ = some (.int .u8 ((w4.getD k 0 : Nat) : Int)) := fun w' hw => hw.2.at0 k (by omega)
  have CM := Lib.hid cm
  have CW := Lib.hid cw'
  clear cm cw' em
  obtain ⟨X, hX⟩ : ∃ X, X = ks.getD m 0 ^^^ w4.getD k 0 := ⟨_, rfl⟩
  rw [← hX] at ex hs
  generalize ks.getD m 0 = K at *
  generalize w4.getD k 0 = D at *
  have HS := Lib.hid hs
  clear hX hs
  have s1 : IntKind.i64.wrap ((n : Int) - 16) = (n : Int) - 16 := by rw [IntKind.wrap_i64]; omega
  have s2 : IntKind.i64.wrap ((n : Int) - 16 + (k : Int)) = (m : Int) := by rw [IntKind.wrap_i64]; omega
  have s3 : (m : Int) < (n : Int) + (k : Int) := by omega
  have s4 : (0 : Int) ≤ (m : Int) := by omega
  have s5 : ¬ ((n : Int) + (k : Int) ≤ (m : Int)) := by omega
  refine wp_region_Z (S := fun w' => BA w' gk 0 (ks ++ half4 ks w4 n k) ∧ BA w' gw 0 w4) 15 (by kernel_rfl) ?_
  have hS : BA w.drew gk 0 (ks ++ half4 ks w4 n k) ∧ BA w.drew gw 0 w4 := ⟨Ak.drew, A.drew⟩
  replace O := O.below (below_drew (Below.refl _ _))
  replace A := A.drew
  replace bel := below_drew bel
  clear Ak
  generalize w.drew = V at hS O A bel ⊢
  clear hm
  refine zanyM 0 h 70 7 rfl rfl rfl rfl rfl rfl (by kernel_rfl) (by kernel_rfl) (by kernel_rfl) (by kernel_rfl) (by kernel_rfl) (fun c a w h => hQ _ _ _ _ _ h) hS ?_
  clear h
  intro a h
  refine zanyM 1 h 71 7 rfl rfl rfl rfl rfl rfl (by kernel_rfl) (by kernel_rfl) (by kernel_rfl) (by kernel_rfl) (by kernel_rfl) (fun c a w h => hQ _ _ _ _ _ h) hS ?_
  clear h
  intro a h
  refine zanyM 2 h 72 9 rfl rfl rfl rfl rfl rfl (by kernel_rfl) (by kernel_rfl) (by kernel_rfl) (by kernel_rfl) (by kernel_rfl) (fun c a w h => hQ _ _ _ _ _ h) hS ?_
  clear h
  intro a h
  refine zanyH 3 h 73 (Value.int .i64 ((n : Int) - 16)) rfl rfl rfl (by kernel_rfl) (by kernel_rfl) (by kernel_rfl) (by kernel_rfl) (by kernel_rfl) (fun c a w h => hQ _ _ _ _ _ h) (Or.inl ⟨rfl, fun w' hw' => by
    have e72 : a.eval (.tmp 72) = _ := h.ev 72 rfl
    simp only [execOp, e72]
    go_simp⟩) hS ?_
  clear h
  intro a h
  refine zanyM 4 h 74 11 rfl rfl rfl rfl rfl rfl (by kernel_rfl) (by kernel_rfl) (by kernel_rfl) (by kernel_rfl) (by kernel_rfl) (fun c a w h => hQ _ _ _ _ _ h) hS ?_
  clear h
  intro a h
  refine zanyH 5 h 75 (Value.int .i64 ((m : Int))) rfl rfl rfl (by kernel_rfl) (by kernel_rfl) (by kernel_rfl) (by kernel_rfl) (by kernel_rfl) (fun c a w h => hQ _ _ _ _ _ h) (Or.inl ⟨rfl, fun w' hw' => by
    have e73 : a.eval (.tmp 73) = _ := h.ev 73 rfl
    have e74 : a.eval (.tmp 74) = _ := h.ev 74 rfl
    simp only [execOp, e73, e74]
    go_simp⟩) hS ?_
  clear h
  intro a h
  refine zanyH 6 h 76 (Value.pointer (some ⟨gk, m, none⟩)) rfl rfl rfl (by kernel_rfl) (by kernel_rfl) (by kernel_rfl) (by kernel_rfl) (by kernel_rfl) (fun c a w h => hQ _ _ _ _ _ h) (Or.inl ⟨rfl, fun w' hw' => by
    have e71 : a.eval (.tmp 71) = _ := h.ev 71 rfl
    have e75 : a.eval (.tmp 75) = _ := h.ev 75 rfl
    simp only [execOp, e71, e75]
    go_simp⟩) hS ?_
  clear h
  intro a h
  refine zanyH 7 h 77 (Value.int .u8 ((K : Nat) : Int)) rfl rfl rfl (by kernel_rfl) (by kernel_rfl) (by kernel_rfl) (by kernel_rfl) (by kernel_rfl) (fun c a w h => hQ _ _ _ _ _ h) (Or.inl ⟨rfl, fun w' hw' => by
    have e76 : a.eval (.tmp 76) = _ := h.ev 76 rfl
    have c1 := CM.out w' hw'
    simp only [execOp, e76]
    go_simp⟩) hS ?_
  clear h
  intro a h
  refine zanyM 8 h 78 10 rfl rfl rfl rfl rfl rfl (by kernel_rfl) (by kernel_rfl) (by kernel_rfl) (by kernel_rfl) (by kernel_rfl) (fun c a w h => hQ _ _ _ _ _ h) hS ?_
  clear h
  intro a h
  refine zanyM 9 h 79 11 rfl rfl rfl rfl rfl rfl (by kernel_rfl) (by kernel_rfl) (by kernel_rfl) (by kernel_rfl) (by kernel_rfl) (fun c a w h => hQ _ _ _ _ _ h) hS ?_
  clear h
  intro a h
  refine zanyH 10 h 80 (Value.pointer (some ⟨gw, k, none⟩)) rfl rfl rfl (by kernel_rfl) (by kernel_rfl) (by kernel_rfl) (by kernel_rfl) (by kernel_rfl) (fun c a w h => hQ _ _ _ _ _ h) (Or.inl ⟨rfl, fun w' hw' => by
    have e78 : a.eval (.tmp 78) = _ := h.ev 78 rfl
    have e79 : a.eval (.tmp 79) = _ := h.ev 79 rfl
    simp only [execOp, e78, e79]
    go_simp⟩) hS ?_
  clear h
  intro a h
  refine zanyH 11 h 81 (Value.int .u8 ((D : Nat) : Int)) rfl rfl rfl (by kernel_rfl) (by kernel_rfl) (by kernel_rfl) (by kernel_rfl) (by kernel_rfl) (fun c a w h => hQ _ _ _ _ _ h) (Or.inl ⟨rfl, fun w' hw' => by
    have e80 : a.eval (.tmp 80) = _ := h.ev 80 rfl
    have c1 := CW.out w' hw'
    simp only [execOp, e80]
    go_simp⟩) hS ?_
  clear h
  intro a h
  refine zanyH 12 h 82 (Value.int .u8 ((X : Nat) : Int)) rfl rfl rfl (by kernel_rfl) (by kernel_rfl) (by kernel_rfl) (by kernel_rfl) (by kernel_rfl) (fun c a w h => hQ _ _ _ _ _ h) (Or.inl ⟨rfl, fun w' hw' => by
    have e77 : a.eval (.tmp 77) = _ := h.ev 77 rfl
    have e81 : a.eval (.tmp 81) = _ := h.ev 81 rfl
    simp only [execOp, e77, e81]
    go_simp⟩) hS ?_
  clear h
  intro a h
  obtain ⟨v8, w8, r8, O8, B8, A8, N8⟩ := append_keep w0 V 24 (.slice (some ⟨gk, 0, none⟩) (n + k) ck) _ w4 X gw (by rw [← ll]; exact O) (by rw [ll]; omega) bel A hne
  refine zanyW 13 h 83 rfl rfl rfl rfl (by kernel_rfl) (fun u w' => u = .slice (some ⟨V.heap.size, 0, none⟩) 1 1 ∧ w' = V.alloc (.cells #[.int .u8 ((X : Nat) : Int)] 5)) (fun K hK => by
   have f := h.at_ 82 rfl
   unfold Oper.wp execOp
   go_simp
   exact hK _ _ ⟨rfl, rfl⟩) ?_
  rintro _ _ ⟨rfl, rfl⟩
  have b7 : Below V.heap.size V (V.alloc (.cells #[.int .u8 ((X : Nat) : Int)] 5)) := (Below.refl _ _).alloc (Nat.le_refl _) _
  refine ⟨⟨hS.1.below b7, hS.2.below b7⟩, ?_⟩
  clear h
  intro a h
  have A9 := append_old w0.heap.size _ 24 gk ck X V.heap.size 0 1 _ (O.below b7) (byte_row V X) (by rw [ll]; omega) v8 w8 (by rw [ll]; exact r8) O8
  refine zanyW 14 h 84 rfl rfl rfl rfl (by kernel_rfl) (fun u w' => u = v8 ∧ w' = w8) (fun K hK => wp_append_run _ _ _ _ rfl _ _ (h.ev 70 rfl) (h.ev 83 rfl) _ _ r8 (hK _ _ ⟨rfl, rfl⟩)) ?_
  rintro _ _ ⟨rfl, rfl⟩
  refine ⟨⟨A9, A8⟩, ?_⟩
  clear h
  intro a h
  refine zendA 15 h 7 84 rfl rfl rfl rfl rfl rfl (by kernel_rfl) (by kernel_rfl) (by kernel_rfl) ?_
  clear h
  intro a h
  clear hS O A bel r8 b7 A9
  rw [List.append_assoc, HS.out] at O8
  show Code.wp _ _ _ _ _
  refine wp_region_seq ?_
  have ew : IntKind.i64.wrap ((k : Int) + 1) = (k : Int) + 1 := by rw [IntKind.wrap_i64]; omega
  refine seqM h 68 11 rfl rfl rfl rfl rfl ?_
  clear h
  intro a h
  refine seqH h 69 (Value.int .i64 ((k : Int) + 1)) rfl rfl (Or.inl ⟨rfl, fun w' hw' => by
    subst hw'
    have e68 : a.eval (.tmp 68) = _ := h.ev 68 rfl
    simp only [execOp, e68]
    go_simp⟩) ?_
  clear h
  intro a h
  refine seqA h 11 69 rfl rfl rfl rfl rfl ?_
  clear h
  intro a h
  refine wpSeq_nil ?_
  refine ⟨⟨k + 1, _, by omega, h.trim _ ?_, O8, A8, N8, B8⟩, ?_⟩
  ·
   intro p hp
   simp only [base1, List.mem_cons, List.not_mem_nil, or_false] at hp
   rcases hp with rfl | rfl | rfl | rfl | rfl | rfl | rfl | rfl <;> rfl
  ·
   have hm2 : a.tmps.getD 11 undef = .int .i64 ((k + 1 : Nat) : Int) := h.val 11 _ rfl
   rw [hm2]
   simp only [intOf]
   omega
 ·
  have l0 : ¬ ((k : Int) < 4) := by omega
  obtain rfl : k = 4 := by omega
  refine seqM h 66 11 rfl rfl rfl rfl rfl ?_
  clear h
  intro a h
  refine seqH h 67 (Value.bool false) rfl rfl (Or.inl ⟨rfl, fun w' hw' => by
    subst hw'
    have e66 : a.eval (.tmp 66) = _ := h.ev 66 rfl
    simp only [execOp, e66]
    go_simp⟩) ?_
  clear h
  intro a h
  refine wpSeq_nil ?_
  show Code.wp _ _ _ _ _
  refine wp_cond (t := false) (h.ev 67 rfl) ?_
  refine wp_exit ?_
  refine hexit _ _ _ (h.trim _ ?_) O bel
  ·
   intro p hp
   simp only [base1, List.mem_cons, List.not_mem_nil, or_false] at hp
   rcases hp with rfl | rfl | rfl | rfl | rfl | rfl | rfl <;> rfl
end Go.Proofs.YtpihgljdbpnehaaDoor
