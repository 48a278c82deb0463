/- The program's parsing: what a frame's blocks keep. -/
import Derived.Test.YtdlhclakdllogaaWd
namespace Go.Proofs.Ytdlhclakdllogaa
open Go.RowKit

theorem gb_cell {w0 w : World} {B g : Nat} (G : w0.grownBy w (some B)) (hg : w0.heap.size ≤ g) (i : Nat) (v : Value) : w0.grownBy (w.setCell ⟨g, i, none⟩ v) (some B) :=
  ⟨G.os, G.tape, G.output, by have := G.size; simpa using this, fun k hk hn => (Below.heap_setCell w _ v k (show k ≠ g by omega)).trans (G.block k hk hn)⟩
theorem gb_row {w0 w : World} {B g : Nat} (G : w0.grownBy w (some B)) (hg : w0.heap.size ≤ g) (cs : Array Value) : w0.grownBy (w.setRow g cs) (some B) :=
  ⟨G.os, G.tape, G.output, by have := G.size; simpa using this, fun k hk hn => (setRow_other w g k cs (by omega)).trans (G.block k hk hn)⟩
theorem gb_two {w0 w w' : World} {B g : Nat} (G : w0.grownBy w (some B)) (hg : w0.heap.size ≤ g) (T : Two B g w w') : w0.grownBy w' (some B) :=
  ⟨T.os.trans G.os, T.tape.trans G.tape, T.output.trans G.output, Nat.le_trans G.size T.size, fun k hk hn => (T.block k (Nat.lt_of_lt_of_le hk G.size) (fun e => hn (by rw [e])) (by omega)).trans (G.block k hk hn)⟩
theorem RM.row_far {B gf : Nat} {w : World} {p : Option Addr} {l : List Nat} {c : Nat} (h : RM B w p l c) (hg : B < gf) (cs : Array Value) : RM B (w.setRow gf cs) p l c :=
  h.gb (row := some gf) ⟨rfl, rfl, rfl, by simp, fun k _ hn => setRow_other w gf k cs (fun e => hn (by rw [e]))⟩ (fun g e => by have := Option.some.inj e; omega)
theorem failS_ne (c : Nat) {d : Nat} (hd : d ≠ 0) : failS c d ≠ 0 := by
  unfold failS
  split
  · exact hd
  · assumption
theorem dataS_len (l : List Nat) (c : Nat) : (dataS l c).1.length ≤ 2048 := by
  unfold dataS
  by_cases h : 2048 < (numS l c).1
  · rw [if_pos h]
    unfold bytesS
    rw [if_pos (failS_ne _ (by decide))]
    exact Nat.zero_le _
  · rw [if_neg h]
    generalize (numS l c).1 = n at *
    generalize (numS l c).2.1 = m
    generalize (numS l c).2.2 = d
    unfold bytesS
    by_cases hd : d = 0
    · rw [if_neg (by omega)]
      by_cases hm : m.length < n
      · rw [if_pos hm]
        exact Nat.zero_le _
      · rw [if_neg hm]
        show (m.take n).length ≤ 2048
        rw [List.length_take]
        omega
    · rw [if_pos hd]
      exact Nat.zero_le _
theorem dataS_of {l : List Nat} {c : Nat} {D l' : List Nat} {c' : Nat} (h : dataS l c = (D, l', c')) : D.length ≤ 2048 := by
  have := dataS_len l c
  rw [h] at this
  exact this
theorem frame_one {a b c d e : Int} {f : Bool} {p q : Option Addr} {n m x y : Nat} : (#[Value.int .u64 a, Value.int .u64 b, Value.int .u64 c, Value.int .u64 d, Value.int .u64 e, Value.bool f, Value.slice p n x, Value.slice q m y]).all (·.oneCell') = true := by simp [Value.oneCell']
end Go.Proofs.Ytdlhclakdllogaa
