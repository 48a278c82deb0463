/- The reference's numbers as values: contracts by value. -/
import Derived.Test.YtjaomgildhiddaaDoorRm
import Derived.Test.YtjaomgildhiddaaDoorLf
import Derived.Test.YtjaomgildhiddaaDoorLi
namespace Go.Proofs.YtjaomgildhiddaaDoor
open Go.RowKit

theorem two_less : pp - 2 = 57896044618658097711785492504343953926634992332820282019728792003956564819947 := by rw [pp_eq]
theorem eqg_api_Key : Tryd.prog.eqGuardType Tryd.prog.depth 23 = false := by kernel_rfl

/-- A long number stands when a row of numbers of 64 bits is written: it can't lie in that row, but if it is empty. -/
theorem Sl.rowAway {w : World} {g n k : Nat} {f : Nat → Nat} {t : TypeId} {N : Nat} (h : Sl w g n f) (hx : Blk w k t (El_cells N)) (cs : Array Value) : Sl (w.setRow k cs) g n f := by
  rcases Decidable.em (g = k) with e | e
  · subst e
    refine ⟨fun i hi => ?_, h.lt, h.high, by rw [setRow_size]; exact h.blk⟩
    have h1 := h.cell 0 (by omega)
    rw [hx.cell] at h1
    simp [El_cells] at h1
  · refine ⟨fun i hi => ?_, h.lt, h.high, by rw [setRow_size]; exact h.blk⟩
    rw [← h.cell i hi]
    simp only [World.cell?]
    rw [setRow_other w k g cs e]

theorem Sl.away {w : World} {g n k : Nat} {f : Nat → Nat} {t : TypeId} {ds : Array Value} (h : Sl w g n f) (hx : Blk w k t ds) (h0 : ∀ z : Int, ds[0]? ≠ some (.int .u32 z)) (cs : Array Value) : Sl (w.setRow k cs) g n f := by
  rcases Decidable.em (g = k) with e | e
  · subst e
    refine ⟨fun i hi => ?_, h.lt, h.high, by rw [setRow_size]; exact h.blk⟩
    have h1 := h.cell 0 (by omega)
    rw [hx.cell] at h1
    exact absurd h1 (h0 _)
  · refine ⟨fun i hi => ?_, h.lt, h.high, by rw [setRow_size]; exact h.blk⟩
    rw [← h.cell i hi]
    simp only [World.cell?]
    rw [setRow_other w k g cs e]

/-- A value that is a long number V. -/
def LongIs (w : World) (v : Value) (V : Nat) : Prop := ∃ g n c f, v = SlV g n c ∧ Sl w g n f ∧ lv f n = V ∧ n ≤ 17
theorem LongIs.below {w w1 : World} {v : Value} {V : Nat} (h : LongIs w v V) (hb : Below w.heap.size w w1) : LongIs w1 v V := by
  obtain ⟨g, n, c, f, h1, h2, h3⟩ := h
  exact ⟨g, n, c, f, h1, h2.below hb, h3⟩
theorem LongIs.drew {w : World} {v : Value} {V : Nat} (h : LongIs w v V) : LongIs w.drew v V := by
  obtain ⟨g, n, c, f, h1, h2, h3⟩ := h
  exact ⟨g, n, c, f, h1, h2.drew, h3⟩
theorem LongIs.rowAway {w : World} {v : Value} {V k N : Nat} {t : TypeId} (h : LongIs w v V) (hx : Blk w k t (El_cells N)) (cs : Array Value) : LongIs (w.setRow k cs) v V := by
  obtain ⟨g, n, c, f, h1, h2, h3⟩ := h
  exact ⟨g, n, c, f, h1, h2.rowAway hx cs, h3⟩
theorem LongIs.away {w : World} {v : Value} {V k : Nat} {t : TypeId} {ds : Array Value} (h : LongIs w v V) (hx : Blk w k t ds) (h0 : ∀ z : Int, ds[0]? ≠ some (.int .u32 z)) (cs : Array Value) : LongIs (w.setRow k cs) v V := by
  obtain ⟨g, n, c, f, h1, h2, h3⟩ := h
  exact ⟨g, n, c, f, h1, h2.away hx h0 cs, h3⟩
theorem LongIs.noBlock {w : World} {v : Value} {V : Nat} (h : LongIs w v V) : ∀ g, blockOf v = some g → False := by
  obtain ⟨g, n, c, f, rfl, _⟩ := h
  intro g h
  cases h
def RetL (w : World) (V : Nat) (e : Ending) (w' : World) : Prop := ∃ r, e = .returned r ∧ LongIs w' r V ∧ Below w.heap.size w w'
theorem retL_of {f : FuncId} {args : Array Value} {w : World} {U V : Nat} (h : Calls Tryd.prog f args w (RetF w U)) (hv : U % pp = V) : Calls Tryd.prog f args w (RetL w V) :=
  h.mono fun _ _ ⟨g, n, c, f, h1, h2, h3, h4, h5⟩ => ⟨_, h1, ⟨g, n, c, f, rfl, h2, h3.trans hv, h4⟩, h5⟩
theorem retL_ofSl {f : FuncId} {args : Array Value} {w : World} {n V : Nat} {F : Nat → Nat} (h : Calls Tryd.prog f args w (RetSl w n F)) (hv : lv F n = V) (hn : n ≤ 17) : Calls Tryd.prog f args w (RetL w V) :=
  h.mono fun _ _ ⟨g, c, h1, h2, _, h5⟩ => ⟨_, h1, ⟨g, n, c, F, rfl, h2, hv, hn⟩, h5⟩

theorem num_v (n : Nat) (hn : n < 4294967296) (w : World) : Calls Tryd.prog 13 #[.int .u32 n] w (RetL w n) := retL_ofSl (num_any n w hn) (numF_num n hn) (by decide)
theorem radd_v (u v : Value) (U V R : Nat) (w : World) (hu : LongIs w u U) (hv : LongIs w v V) (hR : R = (U + V) % pp) : Calls Tryd.prog 43 #[u, v] w (RetL w R) := by
  obtain ⟨g, n, c, f, rfl, h1, h2, h3⟩ := hu
  obtain ⟨g', n', c', f', rfl, h1', h2', h3'⟩ := hv
  exact retL_of (radd_any g n c g' n' c' f f' w h1 h1' h3 h3') (by rw [h2, h2', hR])
theorem rmul_v (u v : Value) (U V R : Nat) (w : World) (hu : LongIs w u U) (hv : LongIs w v V) (hR : R = U * V % pp) : Calls Tryd.prog 40 #[u, v] w (RetL w R) := by
  obtain ⟨g, n, c, f, rfl, h1, h2, h3⟩ := hu
  obtain ⟨g', n', c', f', rfl, h1', h2', h3'⟩ := hv
  exact retL_of (rmul_any g n c g' n' c' f f' w h1 h1' h3 h3') (by rw [h2, h2', hR])
theorem rsub_v (u v : Value) (U V R : Nat) (w : World) (hu : LongIs w u U) (hv : LongIs w v V) (hlt : V < pp) (hR : R = (U + (pp - V)) % pp) : Calls Tryd.prog 41 #[u, v] w (RetL w R) := by
  obtain ⟨g, n, c, f, rfl, h1, h2, h3⟩ := hu
  obtain ⟨g', n', c', f', rfl, h1', h2', h3'⟩ := hv
  exact retL_of (rsub_any g n c g' n' c' f f' w h1 h1' h3 h3' (by omega)) (by rw [h2, h2', hR, Nat.add_sub_assoc (Nat.le_of_lt hlt)])
theorem rkey_v (v : Value) (V : Nat) (w : World) (hv : LongIs w v V) : Calls Tryd.prog 14 #[v] w fun e w' => e = .returned (Key (keyOf V)) ∧ Below w.heap.size w w' := by
  obtain ⟨g, n, c, f, rfl, h1, h2, h3⟩ := hv
  exact h2 ▸ key_any g n c f w h1
theorem rover_v (v : Value) (V R : Nat) (w : World) (hv : LongIs w v V) (hR : R = mpow V 57896044618658097711785492504343953926634992332820282019728792003956564819947) : Calls Tryd.prog 42 #[v] w (RetL w R) := by
  obtain ⟨g, n, c, f, rfl, h1, h2, h3⟩ := hv
  exact retL_of (rover_any g n c f w h1 h3) (by rw [h2, two_less, hR, mpow])

end Go.Proofs.YtjaomgildhiddaaDoor
