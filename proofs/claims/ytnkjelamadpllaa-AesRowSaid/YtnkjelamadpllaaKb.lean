/- Ciphers by contract; what memory holds in AesRow. -/
import Derived.Test.YtnkjelamadpllaaKa
import Derived.Test.YtnkjelamadpllaaLawKnown
namespace Go.Proofs.Ytnkjelamadpllaa
open Go.RowKit

/-- What the program's New, and its Cipher's Encrypt, are asked to answer. R lo hi w p k: the blocks of w from lo to hi hold a cipher at p that was made of k. -/
structure CipherC (R : Nat → Nat → World → Option Addr → List Nat → Prop) : Prop where
  new : ∀ (k : List Nat), k.length = 16 → (∀ x ∈ k, x < 256) → ∀ W, Calls Try.prog 11 #[.agg (Iv .u8 (NI k))] W fun e w' => ∃ p, e = .returned (.pointer p) ∧ R W.heap.size w'.heap.size w' p k ∧ Below W.heap.size W w'
  enc : ∀ (lo hi : Nat) (p : Option Addr) (k b E : List Nat), k.length = 16 → b.length = 16 → (∀ x ∈ k, x < 256) → (∀ x ∈ b, x < 256) → E = encL boxL k b → ∀ W, hi ≤ W.heap.size → R lo hi W p k →
    Calls Try.prog 12 #[.pointer p, .agg (Iv .u8 (NI b))] W fun e w' => e = .returned (.agg (Iv .u8 (NI E))) ∧ Below W.heap.size W w'
  stays : ∀ {lo hi : Nat} {w w' : World} {p : Option Addr} {k : List Nat}, R lo hi w p k → (∀ i, lo ≤ i → i < hi → w'.heap[i]? = w.heap[i]?) → R lo hi w' p k
  nil : ∀ (b : List Nat), b.length = 16 → (∀ x ∈ b, x < 256) → ∀ W, Calls Try.prog 12 #[.pointer none, .agg (Iv .u8 (NI b))] W fun e w' => e = .returned (.agg (Iv .u8 (NI z16))) ∧ Below W.heap.size W w'

variable {R : Nat → Nat → World → Option Addr → List Nat → Prop}
/-- Before round k: the key, the map of k blocks, the cipher. -/
structure RowS (R : Nat → Nat → World → Option Addr → List Nat → Prop) (g0 gm lo hi : Nat) (p : Option Addr) (K : List Nat) (key : Nat → Lit) (k : Nat) (w wr : World) : Prop where
  kb : Blk wr g0 22 (Iv .u8 (NI K))
  mp : wr.ownsMap Try.prog 24 (plainElem Try.prog 4) gm k (rowD key k)
  sz : Maps.size (rowD key k) = k
  rd : R lo hi wr p K
  top : hi ≤ wr.heap.size
  bl : Below w.heap.size w wr
theorem RowS.below (CC : CipherC R) {g0 gm lo hi : Nat} {p : Option Addr} {K : List Nat} {key : Nat → Lit} {k : Nat} {w wr w1 : World} (h : RowS R g0 gm lo hi p K key k w wr) (b : Below wr.heap.size wr w1) : RowS R g0 gm lo hi p K key k w w1 :=
  ⟨h.kb.below' b, h.mp.kept (row := none) ⟨b.os, b.tape, b.output, b.size, fun i hi _ => b.block i hi⟩ (by simp), h.sz, CC.stays h.rd fun i _ hi => b.block i (Nat.lt_of_lt_of_le hi h.top), Nat.le_trans h.top b.size, h.bl.trans (b.mono h.bl.size)⟩
theorem RowS.put (CC : CipherC R) {g0 gm lo hi : Nat} {p : Option Addr} {K : List Nat} {key : Nat → Lit} {k : Nat} {w wr w1 : World} (h : RowS R g0 gm lo hi p K key k w wr) (hm : w1.ownsMap Try.prog 24 (plainElem Try.prog 4) gm (k + 1) (rowD key (k + 1)))
    (hg : wr.grownBy w1 (some gm)) (h1 : w.heap.size ≤ gm) (h2 : gm < lo) (h3 : g0 ≠ gm) (hk : ∀ i, i < k → key k ≠ key i) : RowS R g0 gm lo hi p K key (k + 1) w w1 :=
  ⟨(hg.block g0 h.kb.lt (by simpa using h3)).trans h.kb, hm, rowD_size key k k h.mp hk h.sz, CC.stays h.rd fun i hl hi => hg.block i (Nat.lt_of_lt_of_le hi h.top) (by simp; omega), Nat.le_trans h.top hg.size,
    ⟨hg.os.trans h.bl.os, hg.tape.trans h.bl.tape, hg.output.trans h.bl.output, Nat.le_trans h.bl.size hg.size, fun i hi => (hg.block i (Nat.lt_of_lt_of_le hi h.bl.size) (by simp; omega)).trans (h.bl.block i hi)⟩⟩

/-- The blocks that AesRow takes. -/
def rowB (k : Nat) : List Nat := z16.set (k % 16) (k + 1)
theorem rowB_length (k : Nat) : (rowB k).length = 16 := by simp [rowB, z16]
theorem rowB_bytes {k : Nat} (h : k < 40) : ∀ x ∈ rowB k, x < 256 := set_bytes bz16 _ (by omega)
theorem rowB_ne : ∀ k, k < 40 → ∀ i, i < k → rowB k ≠ rowB i := by decide +kernel
/-- What they become, as a map's keys. -/
noncomputable def rowK (K : List Nat) (k : Nat) : Lit := (keyOf Try.prog 24 (.agg (Iv .u8 (NI (encL boxL K (rowB k)))))).getD (.bool true)
theorem rowK_is {K : List Nat} (bK : ∀ x ∈ K, x < 256) {k : Nat} (h : k < 40) : keyOf Try.prog 24 (.agg (Iv .u8 (NI (encL boxL K (rowB k))))) = some (rowK K k) := by
  obtain ⟨kl, hkl⟩ := block_key _ (encL_length K (rowB k)) (encL_bytes bK (rowB_bytes h))
  unfold rowK
  rw [hkl]
  rfl
theorem agg_inj {a b : List Nat} (h : (Value.agg (Iv .u8 (NI a))) = .agg (Iv .u8 (NI b))) : a = b := by
  simp only [Value.agg.injEq, Iv, List.toArray_inj] at h
  refine NI_inj ((List.map_inj_right ?_).1 (by simpa using h))
  intro x y e
  simpa using e
theorem rowK_ne {K : List Nat} (lK : K.length = 16) (bK : ∀ x ∈ K, x < 256) {k : Nat} (hk : k < 40) : ∀ i, i < k → rowK K k ≠ rowK K i := fun i hi e => by
  have h1 := rowK_is bK hk
  have h2 := rowK_is bK (k := i) (by omega)
  rw [← e] at h2
  exact rowB_ne k hk i hi (enc_inj bK (rowB_bytes hk) (rowB_bytes (by omega)) (rowB_length _) (rowB_length _) (agg_inj (block_keyed.inj h1 h2)))
end Go.Proofs.Ytnkjelamadpllaa
