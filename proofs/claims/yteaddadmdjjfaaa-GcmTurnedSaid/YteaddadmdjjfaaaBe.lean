/- The reference's Encrypt: its loops, taken out of the program; what memory holds in them (printed by gena9.py). -/
import Derived.Test.YteaddadmdjjfaaaBd
import Derived.Test.YteaddadmdjjfaaaBb
import Derived.Test.YteaddadmdjjfaaaSp
namespace Go.Proofs.Yteaddadmdjjfaaa
open Go.RowKit

/-- The loops' bodies, in the text's order. -/
def loopsOf : Code → List Code
  | .loop c => c :: loopsOf c
  | .seq a b => loopsOf a ++ loopsOf b
  | .block _ c => loopsOf c
  | .scope c => loopsOf c
  | .cond _ a b => loopsOf a ++ loopsOf b
  | _ => []
noncomputable def encLoop (k : Nat) : Code := ((Try.f17.body.map loopsOf).getD []).getD k .skip
/-- Sixteen bytes by a function. -/
def LB (f : Nat → Nat) : List Nat := (List.range 16).map f
theorem LB_length (f : Nat → Nat) : (LB f).length = 16 := by simp [LB]
theorem LB_get (f : Nat → Nat) (i : Nat) (h : i < 16) : (LB f).getD i 0 = f i := by
  simp [LB, List.getD_eq_getElem?_getD, List.getElem?_map, List.getElem?_range h]
theorem LB_congr {f g : Nat → Nat} (h : ∀ i, i < 16 → f i = g i) : LB f = LB g := List.map_congr_left fun i hi => h i (List.mem_range.1 hi)
def MX (f g : Nat → Nat) (k i : Nat) : Nat := if i < k then f i else g i
/-- Sixteen bytes in block g. -/
def B16 (w : World) (g : Nat) (f : Nat → Nat) : Prop := Blk w g 22 (Iv .u8 (NI (LB f)))
theorem B16.cell {w : World} {g : Nat} {f : Nat → Nat} (h : B16 w g f) (i : Nat) (hi : i < 16) : w.cell? ⟨g, i, none⟩ = some (.int .u8 ((f i : Nat) : Int)) := by
  rw [Blk.cell h, NI_get _ _ (by rw [LB_length]; exact hi)]
  simp [LB]
theorem B16.set {w : World} {g : Nat} {f : Nat → Nat} (h : B16 w g f) (k : Nat) (f' : Nat → Nat) (_hk : k < 16) (ho : ∀ i, i ≠ k → f' i = f i) : B16 (w.setCell ⟨g, k, none⟩ (.int .u8 ((f' k : Nat) : Int))) g f' := by
  have hs := Blk.set h k (.int .u8 ((f' k : Nat) : Int))
  rw [Iv_set] at hs
  have e : (NI (LB f)).set k ((f' k : Nat) : Int) = NI (LB f') := by
    apply List.ext_getElem (by simp [NI, LB])
    intro i h1 h2
    simp only [NI, LB, List.getElem_set, List.getElem_map, List.getElem_range]
    by_cases hj : k = i
    · rw [if_pos hj, hj]
    · rw [if_neg hj, ho i (fun e => hj e.symm)]
  rw [e] at hs
  exact hs
theorem B16.congr {w : World} {g : Nat} {f f' : Nat → Nat} (h : B16 w g f) (e : ∀ i, i < 16 → f i = f' i) : B16 w g f' := by
  unfold B16 at h ⊢
  rwa [LB_congr e] at h
theorem B16.of_block {w w1 : World} {g : Nat} {f : Nat → Nat} (h : B16 w g f) (hb : w1.heap[g]? = w.heap[g]?) : B16 w1 g f := Eq.trans hb h
/-- What stands while a block goes through the rounds: the keys, the table, the block. -/
structure RM (w0 : World) (gk gB oB gb gr : Nat) (ks Bx : List Nat) (f : Nat → Nat) (w : World) : Prop where
  k : BA w gk 0 ks
  x : BA w gB oB Bx
  b : B16 w gb f
  bel : Below w0.heap.size w0 w
  r : B16 w gr (fun _ => 0)
section
variable {w0 : World} {gk gB oB gb gr gs : Nat} {ks Bx : List Nat} {f : Nat → Nat} {w : World}
theorem RM.drew (h : RM w0 gk gB oB gb gr ks Bx f w) : RM w0 gk gB oB gb gr ks Bx f w.drew := ⟨h.k.drew, h.x.drew, h.b.of_block rfl, below_drew h.bel, h.r.of_block rfl⟩
theorem RM.set (h : RM w0 gk gB oB gb gr ks Bx f w) (hk : gk ≠ gb) (hB : gB ≠ gb) (hr : gr ≠ gb) (hb : w0.heap.size ≤ gb) (k : Nat) (f' : Nat → Nat) (h16 : k < 16) (ho : ∀ i, i ≠ k → f' i = f i) : RM w0 gk gB oB gb gr ks Bx f' (w.setCell ⟨gb, k, none⟩ (.int .u8 ((f' k : Nat) : Int))) :=
  ⟨h.k.of_block (heap_setCell_other w _ gk _ hk), h.x.of_block (heap_setCell_other w _ gB _ hB), h.b.set k f' h16 ho, h.bel.setCell (p := ⟨gb, k, none⟩) hb _, h.r.of_block (heap_setCell_other w _ gr _ hr)⟩
theorem RM.far (h : RM w0 gk gB oB gb gr ks Bx f w) (hk : gk ≠ gs) (hB : gB ≠ gs) (hbs : gb ≠ gs) (hrs : gr ≠ gs) (hs : w0.heap.size ≤ gs) (k : Nat) (v : Value) : RM w0 gk gB oB gb gr ks Bx f (w.setCell ⟨gs, k, none⟩ v) :=
  ⟨h.k.of_block (heap_setCell_other w _ gk _ hk), h.x.of_block (heap_setCell_other w _ gB _ hB), h.b.of_block (heap_setCell_other w _ gb _ hbs), h.bel.setCell (p := ⟨gs, k, none⟩) hs _, h.r.of_block (heap_setCell_other w _ gr _ hrs)⟩
theorem RM.below (h : RM w0 gk gB oB gb gr ks Bx f w) {w2 : World} (b : Below w.heap.size w w2) : RM w0 gk gB oB gb gr ks Bx f w2 :=
  ⟨h.k.below b, h.x.below b, Blk.below' h.b b, h.bel.trans (b.mono h.bel.size), Blk.below' h.r b⟩
theorem RM.congr (h : RM w0 gk gB oB gb gr ks Bx f w) {f' : Nat → Nat} (e : ∀ i, i < 16 → f i = f' i) : RM w0 gk gB oB gb gr ks Bx f' w := ⟨h.k, h.x, h.b.congr e, h.bel, h.r⟩
end
section
variable {P : Program} {ops : Array Oper} {Q : Exit → Act → World → Prop} {N : Nat} {L : List (Nat × Value)} {a : Act} {w : World}
/-- A call, in the text's order, known by a word. -/
theorem seqK {o : Oper} {rest : List Oper} (h : Has N L a) (d : Nat) (R : Value → World → Prop) (hN : Nat.ble (d + 1) N = true) (hgd : o.guard = none)
    (hw : ∀ K : Act → World → Prop, (∀ v w', R v w' → K (a.put (some d) v) w') → o.wp P a w K Q) (k : ∀ v w', R v w' → ∀ a', Has N ((d, v) :: L) a' → wpSeq P ops Q rest a' w') : wpSeq P ops Q (o :: rest) a w :=
  wpSeq_wp (by simp [Region.wanted, hgd]) (hw _ fun v w' hR => k v w' hR _ (h.put d v hN))
end
theorem BA.at_ {w : World} {g o : Nat} {l : List Nat} (h : BA w g o l) (i : Nat) (hi : i < l.length) : w.cell? ⟨g, o + i, none⟩ = some (.int .u8 ((l.getD i 0 : Nat) : Int)) := by
  rw [h.cell i hi]
  simp [hi]
theorem BA.at0 {w : World} {g : Nat} {l : List Nat} (h : BA w g 0 l) (i : Nat) (hi : i < l.length) : w.cell? ⟨g, i, none⟩ = some (.int .u8 ((l.getD i 0 : Nat) : Int)) := by
  have := h.at_ i hi
  rwa [Nat.zero_add] at this
def baseA (gB oB cB gk ck gb gr : Nat) : List (Nat × Value) := [(0, .slice (some ⟨gB, oB, none⟩) 256 cB), (5, .pointer (some ⟨gb, 0, none⟩)), (6, .pointer (some ⟨gr, 0, none⟩)), (7, .slice (some ⟨gk, 0, none⟩) 176 ck)]
end Go.Proofs.Yteaddadmdjjfaaa
