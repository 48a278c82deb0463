/- mac.Label and mac.Key where nothing is too long, and where something is. -/
import Derived.Test.YtdmhngkedgkndaaDoorMSb0MSd
namespace Go.Proofs.YtdmhngkedgkndaaDoor
open Go.RowKit
theorem purpL_length (x y : Nat) (t : ByteArray) (c : List Nat) : (purpL x y (bL t) c).length = t.size + c.length + 10 := by
  simp [purpL, six, bL_length]
  omega
theorem purpL_bytes (x y : Nat) (t : ByteArray) (c : List Nat) (hx : x < 256) (hy : y < 256) (ht : t.size ≤ 249) (lc : c.length ≤ 255) (bc : Bytes c) : Bytes (purpL x y (bL t) c) := by
  unfold purpL
  refine ((((?_ : Bytes _).append ?_).append (bL_bytes t)).append ?_).append bc
  · intro z hz
    simp only [List.mem_cons, List.not_mem_nil, or_false, bL_length] at hz
    omega
  · intro z hz
    simp only [six, List.mem_cons, List.not_mem_nil, or_false] at hz
    omega
  · intro z hz
    simp only [List.mem_cons, List.not_mem_nil, or_false] at hz
    omega
/-- What is read of a label. -/
def labL (s : List Nat) (t : ByteArray) (c : List Nat) (m : Nat) : List Nat := expandL cuT sqT s (purpL 0 m (bL t) c) m
theorem label_ok (w : World) (s : List Nat) (t : ByteArray) (c : List Nat) (cv : Value) (m : Nat) (T : Tab w cuT) (S : Sq w sqT) (hc : SB w cv c) (ls : s.length = 32) (bs : Bytes s) (bc : Bytes c) (ht : t.size ≤ 249) (lc : c.length ≤ 255) (hm : m < 256) :
    Calls Tryd.prog 35 #[.agg (Iv .u8 (NI s)), .string t, cv, .int .i64 (m : Int)] w fun e w' => ∃ p, e = .returned (.tuple #[.slice p m m, .int .i64 0]) ∧ SB w' (.slice p m m) (labL s t c m) ∧ (p = none ∨ ∃ g, p = some ⟨g, 0, none⟩) ∧ Below w.heap.size w w' := by
  have lp := purpL_length 0 m t c
  refine (label_any w s t c cv (m : Int) T S hc ls ht lc 0 m (Or.inr ⟨m, hm, rfl, rfl, rfl⟩) (fun u k w' => ∃ p, u = .slice p m m ∧ k = 0 ∧ SB w' (.slice p m m) (labL s t c m) ∧ (p = none ∨ ∃ g, p = some ⟨g, 0, none⟩))
    (fun w' v T S hv => (expand_any cuT sqT w' s _ v m T S ls bs hv (purpL_bytes 0 m t c (by decide) hm ht lc bc) (by omega) (by omega)).mono ?_)).mono ?_
  · rintro e w2 ⟨p, rfl, h2, b, hp⟩
    exact ⟨_, _, rfl, ⟨p, rfl, rfl, h2, hp.imp id fun ⟨g, h, _⟩ => ⟨g, h⟩⟩, b⟩
  · rintro e w2 ⟨u, k, rfl, ⟨p, rfl, rfl, h2, hp⟩, b⟩
    exact ⟨p, rfl, h2, hp, b⟩
theorem labL_length (s : List Nat) (t : ByteArray) (c : List Nat) (m : Nat) : (labL s t c m).length = m := expandL_length _ _ _ _ _
theorem key_ok (w : World) (s : List Nat) (t : ByteArray) (c : List Nat) (cv : Value) (T : Tab w cuT) (S : Sq w sqT) (hc : SB w cv c) (ls : s.length = 32) (bs : Bytes s) (bc : Bytes c) (ht : t.size ≤ 249) (lc : c.length ≤ 255) :
    Calls Tryd.prog 29 #[.agg (Iv .u8 (NI s)), .string t, cv] w fun e w' => e = .returned (.agg (Iv .u8 (NI (labL s t c 32)))) ∧ Below w.heap.size w w' := by
  refine key_any w s t c cv hc ls _ (labL_length s t c 32) 0 fun w' b => (label_ok w' s t c cv 32 (T.below b) (S.below b) (hc.below b) ls bs bc ht lc (by decide)).mono ?_
  rintro e w2 ⟨p, rfl, h2, hp, b2⟩
  refine ⟨_, rfl, Or.inr ?_, b2⟩
  obtain ⟨q, cc, e, _, h0 | ⟨g, o, hq, hb⟩⟩ := h2
  · have := labL_length s t c 32
    rw [h0] at this
    cases this
  · simp only [Value.slice.injEq] at e
    obtain ⟨rfl, _, _⟩ := e
    rcases hp with h | ⟨g', h⟩
    · rw [h] at hq
      cases hq
    · rw [h] at hq
      simp only [Option.some.injEq, Addr.mk.injEq] at hq
      obtain ⟨rfl, rfl, _⟩ := hq
      exact ⟨g', by rw [h], hb⟩
end Go.Proofs.YtdmhngkedgkndaaDoor
