/- The numbers that came, as the law keeps them. -/
import Derived.Test.YtnahjmladhbmpaaSo
namespace Go.Proofs.Ytnahjmladhbmpaa

/-- Numbers in a row that all stand in a list are no more than it has. -/
theorem row_le : ∀ (m lo : Nat) (K : List Nat), (∀ j, j < m → lo + j ∈ K) → m ≤ K.length
  | 0, _, _, _ => Nat.zero_le _
  | m + 1, lo, K, h => by
    have h1 := row_le m lo (K.erase (lo + m)) fun j hj => (List.mem_erase_of_ne (by omega)).2 (h j (by omega))
    have h2 := List.length_erase_of_mem (h m (by omega))
    have h3 := List.length_pos_of_mem (h m (by omega))
    omega
/-- The numbers that came, as the law keeps them, and what a Seen keeps. -/
structure Cm (K : List Nat) (l : List (Nat × Nat)) (fl : Nat) : Prop where
  has : ∀ x ∈ K, hasS l fl x = true
  mem : ∀ x, memS l x → x ∈ K
theorem Cm.nil : Cm [] [] 0 := ⟨fun _ h => (by cases h), fun x h => absurd h (memS_nil x)⟩
theorem Cm.fresh {K : List Nat} {l : List (Nat × Nat)} {fl n : Nat} (h : Cm K l fl) (ho : okS l fl n = true) : n ∉ K := fun hn => by
  have h1 := h.has n hn
  unfold okS at ho
  rw [h1] at ho
  simp at ho
theorem Cm.put {K : List Nat} {l : List (Nat × Nat)} {fl n : Nat} (h : Cm K l fl) (hs : Sn l fl) (ho : okS l fl n = true) : Cm (n :: K) (putS l fl n).1 (putS l fl n).2 := by
  refine ⟨fun x hx => ?_, fun x hx => ?_⟩
  · rcases List.mem_cons.1 hx with rfl | hx
    · exact putS_new hs ho
    · exact putS_has hs (h.has x hx)
  · unfold putS at hx
    rw [if_pos ho] at hx
    rcases ((putT_mem hs ho x).1 hx).1 with h1 | h1
    · exact List.mem_cons_of_mem _ (h.mem x h1)
    · rw [h1]; exact List.mem_cons_self ..
theorem putS_no {l : List (Nat × Nat)} {fl n : Nat} (ho : okS l fl n = false) : putS l fl n = (l, fl) := by
  unfold putS
  rw [ho]
  rfl
theorem Cm.span {K : List Nat} {l : List (Nat × Nat)} {fl : Nat} (h : Cm K l fl) (hs : Sn l fl) {p : Nat × Nat} (hp : p ∈ l) : p.2 - p.1 < K.length := by
  have h1 := hs.wf.lo_hi p hp
  have := row_le (p.2 - p.1 + 1) p.1 K fun j hj => h.mem _ ⟨p, hp, by omega, by omega⟩
  omega
end Go.Proofs.Ytnahjmladhbmpaa
