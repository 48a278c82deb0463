/- Blocks as the keys of a map; how many stand in a map of blocks that are all unlike. -/
import Derived.Test.YtnkjelamadpllaaBn
import Derived.Maps.OwnSet
import Derived.DeepKeys4
import Derived.DataShut
namespace Go.Proofs.Ytnkjelamadpllaa
open Go.RowKit Go.WideShapes
open Go.Maps (Keyed IsMap Tidy)

theorem laid_out : laidOutB Try.prog = true := by kernel_rfl
theorem block_keyed : Keyed Try.prog 24 := Keyed.of_law (deep_law_laid laid_out (m := 2) (by omega) (of_decide_eq_true (by kernel_rfl)) (by kernel_rfl) (by rw [Try.underlying24]))
theorem cells_bk : Try.prog.cellsOf 24 = 16 := by kernel_rfl
theorem cells_bu : Try.prog.cellsOf 5 = 1 := by kernel_rfl
theorem types_some : ∃ n, Try.prog.types.size = n + 1 := ⟨Try.prog.types.size - 1, by have : 0 < Try.prog.types.size := of_decide_eq_true (by kernel_rfl); omega⟩
theorem keyType_bk : Try.prog.keyType 24 = true := by kernel_rfl
/-- Sixteen bytes are a key. -/
theorem block_key (l : List Nat) (hl : l.length = 16) (hb : ∀ x ∈ l, x < 256) : ∃ kl, keyOf Try.prog 24 (.agg (Iv .u8 (NI l))) = some kl := by
  have hN : (NI l).length = 16 := (NI_length l).trans hl
  have hwf : ∀ n ∈ NI l, (Lit.int .u8 n).wf = true := by
    intro n hn
    obtain ⟨x, hx, rfl⟩ := List.mem_map.1 hn
    have := hb x hx
    simp [Lit.wf, IntKind.min, IntKind.max, IntKind.signed, IntKind.bits]
    omega
  generalize NI l = L at hN hwf
  obtain ⟨m, hm⟩ := types_some
  have e : (List.range 16).mapM (fun i => Try.prog.keyLits (m + 1) 5 (((L.map (Value.int .u8)).drop i).take 1)) = some (L.map fun n => [Lit.int .u8 n]) := by
    apply mapM_some_of_get
    · simp [hN]
    · intro i x hx
      have hi : i < 16 := by
        have := List.getElem?_eq_some_iff.1 hx
        obtain ⟨h, _⟩ := this
        simpa using h
      have hxi : x = i := by
        rw [List.getElem?_eq_getElem (by simpa using hi)] at hx
        simpa using hx.symm
      subst hxi
      have hix : x < L.length := by omega
      have hd : ((L.map (Value.int .u8)).drop x).take 1 = [.int .u8 L[x]] := by
        rw [List.drop_eq_getElem_cons (by simpa using hix)]
        simp
      rw [hd]
      have hw := hwf L[x] (List.getElem_mem hix)
      simp [Program.keyLits, Try.underlying5, hw, hix]
  refine ⟨.string (keyBytes (L.map fun n => [Lit.int .u8 n]).flatten), ?_⟩
  have hf : (Value.agg (Iv .u8 L)).formed Try.prog 24 = true := by simp [Value.formed, Try.underlying24, cells_bk, Iv_size, hN]
  unfold keyOf
  rw [Try.underlying24]
  simp only [keyType_bk, hf, Bool.and_true, if_true, hm]
  unfold Program.keyLits
  rw [Try.underlying24]
  simp only [cells_bk, cells_bu, Nat.mul_one]
  have hc : (Value.agg (Iv .u8 L)).cells.toList = L.map (Value.int .u8) := by simp [Value.cells, Iv]
  rw [hc, if_pos (by simp [hN]), e]
  rfl

/-- A map of j keys, each put in. -/
def rowD (key : Nat → Lit) : Nat → DataW Unit
  | 0 => .map []
  | j + 1 => (rowD key j).put (key j) (.lit (.bool true))
theorem rowD_isMap (key : Nat → Lit) : ∀ j, IsMap (rowD key j)
  | 0 => Maps.isMap_empty
  | j + 1 => (rowD_isMap key j).put _ _
theorem rowD_has (key : Nat → Lit) (l : Lit) : ∀ j, (∀ i, i < j → l ≠ key i) → Maps.has (rowD key j) l = false
  | 0, _ => rfl
  | j + 1, h => by
    show Maps.has ((rowD key j).put (key j) _) l = false
    rw [Maps.has_put_other (h j (by omega))]
    exact rowD_has key l j fun i hi => h i (by omega)
theorem rowD_size {w : World} {b n : Nat} {R : Value → Option (DataW Unit × List MemPlace)} (key : Nat → Lit) (j s : Nat) (h : w.ownsMap Try.prog 24 R b n (rowD key j)) (hn : ∀ i, i < j → key j ≠ key i) (hs : Maps.size (rowD key j) = s) : Maps.size (rowD key (j + 1)) = s + 1 := by
  show Maps.size ((rowD key j).put (key j) _) = s + 1
  rw [Maps.size_put (h.tidy block_keyed), rowD_has key (key j) j hn, hs]
  rfl
end Go.Proofs.Ytnkjelamadpllaa
