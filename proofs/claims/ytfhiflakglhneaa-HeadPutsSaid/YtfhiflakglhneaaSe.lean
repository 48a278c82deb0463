/- What the program's Put and Take are asked to answer; the reference's Head (printed by gen12/se.py). -/
import Derived.Test.YtfhiflakglhneaaSd
import Derived.Deep.Cut
namespace Go.Proofs.Ytfhiflakglhneaa
open Go.RowKit

/-- Whether a head is to be refused. -/
def badH (sp : Int) (a b : Nat) (k z : Int) : Prop := sp < 0 ∨ 2 < sp ∨ a ≠ 8 ∨ (sp < 2 ∧ b ≠ 8) ∨ k < 1 ∨ 4 < k ∨ z < 0 ∨ 1200 < z
instance (sp : Int) (a b : Nat) (k z : Int) : Decidable (badH sp a b k z) := by unfold badH; infer_instance
/-- A head put: the error's number, the bytes. -/
def putF (sp : Int) (to fr : List Nat) (pn : Nat) (k z : Int) : Nat × List Nat := if badH sp to.length fr.length k z then (2, []) else (0, headB sp.toNat to fr pn k.toNat z.toNat)
def i64_ok (k : Int) : Prop := -9223372036854775808 ≤ k ∧ k ≤ 9223372036854775807
/-- What a call answers that puts a head. -/
def PutPost (sp : Int) (to fr : List Nat) (pn : Nat) (k z : Int) (W : World) (e : Ending) (w' : World) : Prop :=
  ∃ v, e = .returned (.tuple #[v, .int .i64 (((putF sp to fr pn k z).1 : Nat) : Int)]) ∧ OwL W.heap.size w' v (putF sp to fr pn k z).2 ∧ Below W.heap.size W w'
def PutHC : Prop := ∀ (sp : Int) (to fr : List Nat) (pn : Nat) (k z : Int) (vt vf : Value) (W : World), i64_ok sp → i64_ok k → i64_ok z → Bytes to → Bytes fr → to.length ≤ 100 → fr.length ≤ 100 → pn < 18446744073709551616 → SB W vt to → SB W vf fr →
  Calls Try.prog 14 #[hdV sp vt vf, .int .u64 (pn : Int), .int .i64 k, .int .i64 z] W (PutPost sp to fr pn k z W)
/-- What is asked of Take. -/
def TakeC : Prop := ∀ (b : List Nat) (p : Option Addr) (n c : Nat), Bytes b → n ≤ 300000 → ∀ W, SB W (.slice p n c) b →
  Calls Try.prog 16 #[.slice p n c] W fun e w' => ∃ vt vf, e = .returned (.tuple #[hdV (((takeF b).sp : Nat) : Int) vt vf, .int .i64 (((takeF b).at_ : Nat) : Int), .int .i64 (((takeF b).ends : Nat) : Int), .int .i64 (((takeF b).code : Nat) : Int)]) ∧ SB w' vt (takeF b).to ∧ SB w' vf (takeF b).fr ∧ Below W.heap.size W w'
theorem beL_take (n : Nat) : ∀ (k j : Nat), j < k → (beL n k).take (k - (j + 1)) ++ [n / 256 ^ j % 256] = (beL n k).take (k - j)
  | 0, j, h => absurd h (Nat.not_lt_zero j)
  | k + 1, j, h => by
    show (n / 256 ^ k % 256 :: beL n k).take (k + 1 - (j + 1)) ++ _ = (n / 256 ^ k % 256 :: beL n k).take (k + 1 - j)
    by_cases e : j = k
    · subst e
      rw [Nat.sub_self, show j + 1 - j = 1 by omega]
      rfl
    · rw [show k + 1 - (j + 1) = (k - (j + 1)) + 1 by omega, show k + 1 - j = (k - j) + 1 by omega, List.take_succ_cons, List.take_succ_cons, List.cons_append, beL_take n k j (by omega)]
/-- A row of bytes laid out of what stands there. -/
theorem OwL.built (B : Nat) (w : World) (l : List Nat) (hB : B ≤ w.heap.size) (hl : l.length ≤ maxLen) : OwL B (w.alloc (.cells (Iv .u8 (NI l)) 5)) (.slice (some ⟨w.heap.size, 0, none⟩) l.length l.length) l := by
  have e : Iv .u8 (NI l) = (vals l).toArray := by
    unfold Iv NI vals
    simp [List.map_map, Function.comp_def]
  rw [e]
  exact OwL.new B w l hB hl
end Go.Proofs.Ytfhiflakglhneaa
