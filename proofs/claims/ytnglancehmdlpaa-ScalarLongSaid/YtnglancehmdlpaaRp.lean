/- The reference's numbers as values (stage 2): contracts by value. -/
import Derived.Test.YtnglancehmdlpaaRo
import Derived.Test.YtnglancehmdlpaaSi
namespace Go.Proofs.Ytnglancehmdlpaa
open Go.RowKit

def LongIs (w : World) (v : Value) (V b : Nat) : Prop := ∃ g n c f, v = SlV g n c ∧ Sl w g n f ∧ lv f n = V ∧ n ≤ b
theorem LongIs.below {w w1 : World} {v : Value} {V b : Nat} (h : LongIs w v V b) (hb : Below w.heap.size w w1) : LongIs w1 v V b := by
  obtain ⟨g, n, c, f, h1, h2, h3⟩ := h
  exact ⟨g, n, c, f, h1, h2.below hb, h3⟩
theorem LongIs.drew {w : World} {v : Value} {V b : Nat} (h : LongIs w v V b) : LongIs w.drew v V b := h.below (below_drew (Below.refl _ _))
/-- The order, as the reference has it. -/
def LIs (w : World) (v : Value) : Prop := ∃ g c, v = SlV g 16 c ∧ Sl w g 16 (dAt LL)
theorem LIs.below {w w1 : World} {v : Value} (h : LIs w v) (hb : Below w.heap.size w w1) : LIs w1 v := by
  obtain ⟨g, c, h1, h2⟩ := h
  exact ⟨g, c, h1, h2.below hb⟩
theorem LIs.drew {w : World} {v : Value} (h : LIs w v) : LIs w.drew v := h.below (below_drew (Below.refl _ _))
theorem LIs.long {w : World} {v : Value} (h : LIs w v) : LongIs w v LL 16 := by
  obtain ⟨g, c, h1, h2⟩ := h
  exact ⟨g, 16, c, _, h1, h2, d_val LL LL_lt, by decide⟩
def RetL (w : World) (V b : Nat) (e : Ending) (w' : World) : Prop := ∃ r, e = .returned r ∧ LongIs w' r V b ∧ Below w.heap.size w w'
def RetLL (w : World) (e : Ending) (w' : World) : Prop := ∃ r, e = .returned r ∧ LIs w' r ∧ Below w.heap.size w w'
theorem retL_ofSl {f : FuncId} {args : Array Value} {w : World} {n V : Nat} {F : Nat → Nat} (h : Calls Try.prog f args w (RetSl w n F)) (hv : lv F n = V) : Calls Try.prog f args w (RetL w V n) :=
  h.mono fun _ _ ⟨g, c, h1, h2, _, h5⟩ => ⟨_, h1, ⟨g, n, c, F, rfl, h2, hv, Nat.le_refl _⟩, h5⟩
theorem RetL.more {w : World} {V b : Nat} (c : Nat) (h : b ≤ c) {e : Ending} {w' : World} (hr : RetL w V b e w') : RetL w V c e w' := by
  obtain ⟨r, h1, ⟨g, n, cc, f, h2, h3, h4, h5⟩, h6⟩ := hr
  exact ⟨r, h1, ⟨g, n, cc, f, h2, h3, h4, Nat.le_trans h5 h⟩, h6⟩
theorem l_v (w : World) : Calls Try.prog 15 #[] w (RetLL w) := (l_any w).mono fun _ _ ⟨g, c, h1, h2, _, h5⟩ => ⟨_, h1, ⟨g, c, rfl, h2⟩, h5⟩
theorem num_v (n r : Nat) (hn : n < 4294967296) (hr : r = n) (w : World) : Calls Try.prog 17 #[.int .u32 n] w (RetL w r 2) := retL_ofSl (num_any n w hn) ((numF_num n hn).trans hr.symm)
theorem rof_v (N g : Nat) (t : TypeId) (w : World) (h : Blk w g t (Iv .u8 (keyOf N))) (hN : N < pw 4) : Calls Try.prog 14 #[.slice (some ⟨g, 0, none⟩) 32 32] w (RetL w N 16) := by
  have h1 := rof_any g t (keyOf N) (byteAt N) (keyOf_bytes N) w h
  rw [keyOf_num N hN] at h1
  exact retL_ofSl h1 (d_val N hN)
theorem times_v (u v : Value) (U V R b c : Nat) (w : World) (hu : LongIs w u U b) (hv : LongIs w v V c) (hR : R = U * V) (hb : b ≤ 1000) (hc : c ≤ 1000) : Calls Try.prog 16 #[u, v] w (RetL w R (b + c)) := by
  obtain ⟨g, n, cc, f, rfl, h1, h2, h3⟩ := hu
  obtain ⟨g', n', c', f', rfl, h1', h2', h3'⟩ := hv
  refine (times_any g n cc g' n' c' f f' w h1 h1' (by omega) (by omega)).mono fun e w' ⟨F, hv, gg, c2, he, hs, _, hb⟩ => ?_
  exact ⟨_, he, ⟨gg, _, c2, F, rfl, hs, by rw [hv, h2, h2', hR], by omega⟩, hb⟩
theorem rkey_v (v : Value) (V b : Nat) (w : World) (hv : LongIs w v V b) : Calls Try.prog 20 #[v] w fun e w' => e = .returned (Key (keyOf V)) ∧ Below w.heap.size w w' := by
  obtain ⟨g, n, c, f, rfl, h1, h2, h3⟩ := hv
  exact h2 ▸ key_any g n c f w h1
theorem rest_v (u v : Value) (U R b : Nat) (w : World) (hu : LongIs w u U b) (hv : LIs w v) (hR : R = U % LL) (hb : b ≤ 1000) : Calls Try.prog 21 #[u, v] w (RetL w R 17) := by
  obtain ⟨g, n, c, f, rfl, h1, h2, h3⟩ := hu
  obtain ⟨g', c', rfl, h1'⟩ := hv
  refine (rest_any g n c g' c' f w h1 h1' (by omega)).mono fun e w' ⟨gg, cc, F, he, hs, hv, hb⟩ => ?_
  exact ⟨_, he, ⟨gg, 17, cc, F, rfl, hs, by rw [hv, h2, hR], Nat.le_refl _⟩, hb⟩
theorem maxN_le {a b n : Nat} (ha : a ≤ n) (hb : b ≤ n) : maxN a b ≤ n := by unfold maxN; split <;> omega
theorem sum_v (u v : Value) (U V R b : Nat) (w : World) (c d : Nat) (hu : LongIs w u U c) (hv : LongIs w v V d) (hR : R = U + V) (hc : c ≤ b) (hd : d ≤ b) (hb : b ≤ 1000) : Calls Try.prog 18 #[u, v] w (RetL w R (b + 1)) := by
  obtain ⟨g, n, cc, f, rfl, h1, h2, h3⟩ := hu
  obtain ⟨g', n', c', f', rfl, h1', h2', h3'⟩ := hv
  have a3 := maxN_le (Nat.le_trans h3 hc) (Nat.le_trans h3' hd)
  refine (retL_ofSl (V := R) (sum_any g n cc g' n' c' f f' w h1 h1' (by omega) (by omega)) ?_).mono fun e w' h => RetL.more _ (by omega) h
  rw [sum_val f f' n n' h1.lt h1'.lt h1.high h1'.high, h2, h2', hR]
end Go.Proofs.Ytnglancehmdlpaa
