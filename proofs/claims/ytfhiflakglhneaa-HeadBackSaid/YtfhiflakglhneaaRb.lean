/- The program's Readers in memory: New, Code, Left, Fail. -/
import Derived.Test.YtfhiflakglhneaaRa
namespace Go.Proofs.Ytfhiflakglhneaa
open Go.RowKit

theorem gb_set {B g : Nat} (hg : B = g) (w : World) (i : Nat) (v : Value) : w.grownBy (w.setCell ⟨g, i, none⟩ v) (some B) := by
  subst hg
  exact ⟨rfl, rfl, rfl, by simp, fun k _ hk => Below.heap_setCell w _ v k (fun e => hk (by rw [e]))⟩
theorem gb_below {w w' : World} (h : Below w.heap.size w w') (row : Option Nat) : w.grownBy w' row := ⟨h.os, h.tape, h.output, h.size, fun k hk _ => h.block k hk⟩
theorem below_gb {B g : Nat} {w0 w w' : World} (h : Below B w0 w) (k : w.grownBy w' (some g)) (hg : B ≤ g) (hB : B ≤ w.heap.size) : Below B w0 w' := below_grown' h k (fun j e => by cases e; exact hg) hB
/-- A Reader at p, its block B: l is left, c the fault. -/
def RM (B : Nat) (w : World) (p : Option Addr) (l : List Nat) (c : Nat) : Prop := ∃ g pb cb, p = some ⟨g, 0, none⟩ ∧ B = g ∧ Blk w g 58 #[.slice pb l.length cb, .int .i64 ((c : Nat) : Int)] ∧ SB w (.slice pb l.length cb) l ∧ (∀ a, pb = some a → a.block < g) ∧ (∀ x ∈ l, x < 256) ∧ l.length ≤ 1000000
theorem RM.below {B : Nat} {w w' : World} {p : Option Addr} {l : List Nat} {c : Nat} (h : RM B w p l c) (b : Below w.heap.size w w') : RM B w' p l c := by
  obtain ⟨g, pb, cb, e, hg, K, S, ne, bb, ll⟩ := h
  exact ⟨g, pb, cb, e, hg, K.below' b, S.below b, ne, bb, ll⟩
theorem SB.far {w : World} {g : Nat} {p : Option Addr} {n c : Nat} {l : List Nat} (h : SB w (.slice p n c) l) (ne : ∀ a, p = some a → a.block ≠ g) (i : Nat) (v : Value) : SB (w.setCell ⟨g, i, none⟩ v) (.slice p n c) l := by
  obtain ⟨q, d, e, hc, h0 | ⟨gb, o, rfl, A⟩⟩ := h
  · exact ⟨q, d, e, hc, Or.inl h0⟩
  · simp only [Value.slice.injEq] at e
    obtain ⟨rfl, rfl, rfl⟩ := e
    exact ⟨_, _, rfl, hc, Or.inr ⟨gb, o, rfl, A.of_block (heap_setCell_other w _ gb v (ne _ rfl))⟩⟩
theorem RM.fault {B : Nat} {w : World} {g pb cb} {l : List Nat} {c d : Nat} (hg : B = g) (K : Blk w g 58 #[.slice pb l.length cb, .int .i64 ((c : Nat) : Int)]) (S : SB w (.slice pb l.length cb) l) (ne : ∀ a, pb = some a → a.block < g) (bb : ∀ x ∈ l, x < 256) (ll : l.length ≤ 1000000) :
    RM B (w.setCell ⟨g, 1, none⟩ (.int .i64 ((d : Nat) : Int))) (some ⟨g, 0, none⟩) l d ∧ w.grownBy (w.setCell ⟨g, 1, none⟩ (.int .i64 ((d : Nat) : Int))) (some B) :=
  ⟨⟨g, pb, cb, rfl, hg, K.set 1 _, S.far (fun a e => Nat.ne_of_lt (ne a e)) 1 _, ne, bb, ll⟩, gb_set hg w 1 _⟩
set_option maxHeartbeats 4000000 in
set_option maxRecDepth 100000 in
theorem new_m (l : List Nat) (p : Option Addr) (n c : Nat) (bb : ∀ x ∈ l, x < 256) (hn : n ≤ 1000000) (W : World) (hs : SB W (.slice p n c) l) :
    Calls Try.prog 20 #[.slice p n c] W fun e w' => ∃ g, e = .returned (.pointer (some ⟨g, 0, none⟩)) ∧ W.heap.size ≤ g ∧ RM g w' (some ⟨g, 0, none⟩) l 0 ∧ Below W.heap.size W w' := by
  have ll : l.length ≤ 1000000 := by have := hs.len.1; omega
  have C := Lib.hid (clone_c l p n c (by omega) W hs)
  clear hs hn
  go_enter Try.func20, Try.ntmps20
  go_wp2_with fail
  refine C.out.mono ?_
  rintro _ w1 ⟨v1, rfl, O1, b1⟩
  clear C
  obtain ⟨p1, c1, hv⟩ := O1.shape
  subst hv
  go_wp2
  go_ret
  have b2 := (Below.refl w1.heap.size w1).alloc (Nat.le_refl _) (.cells #[.slice p1 l.length c1, .int .i64 0] 58)
  exact ⟨_, rfl, b1.size, ⟨w1.heap.size, p1, c1, rfl, rfl, Blk.new _ _ _, O1.sb.below b2, fun a e => by
    have := (O1.lt a.block (by rw [e]; rfl)).2
    omega, bb, ll⟩, b1.trans (b2.mono b1.size)⟩
set_option maxHeartbeats 4000000 in
theorem code_m (B : Nat) (p : Option Addr) (l : List Nat) (c : Nat) (W : World) (h : RM B W p l c) (_hB : B ≤ W.heap.size) : Calls Try.prog 22 #[.pointer p] W fun e w' => e = .returned (.int .i64 (c : Int)) ∧ RM B w' p l c ∧ W.grownBy w' (some B) := by
  have h0 := h
  obtain ⟨g, pb, cb, rfl, hg, K, S, ne, bb, ll⟩ := h
  have c1 : W.cell? ⟨g, 1, none⟩ = some (.int .i64 (c : Int)) := K.cell 1
  replace h0 := Lib.hid h0
  clear K S ne bb
  go_enter Try.func22, Try.ntmps22
  go_wp2
  go_ret
  exact ⟨rfl, h0.out, World.grownBy.refl _ _⟩
set_option maxHeartbeats 4000000 in
theorem left_m (B : Nat) (p : Option Addr) (l : List Nat) (c : Nat) (W : World) (h : RM B W p l c) (_hB : B ≤ W.heap.size) : Calls Try.prog 23 #[.pointer p] W fun e w' => e = .returned (.int .i64 (l.length : Int)) ∧ RM B w' p l c ∧ W.grownBy w' (some B) := by
  have h0 := h
  obtain ⟨g, pb, cb, rfl, hg, K, S, ne, bb, ll⟩ := h
  have c1 : W.cell? ⟨g, 0, none⟩ = some (.slice pb l.length cb) := K.cell 0
  replace h0 := Lib.hid h0
  clear K S ne bb
  go_enter Try.func23, Try.ntmps23
  go_wp2
  go_ret
  exact ⟨rfl, h0.out, World.grownBy.refl _ _⟩
set_option maxHeartbeats 4000000 in
theorem fail_m (B : Nat) (p : Option Addr) (l : List Nat) (c d : Nat) (W : World) (h : RM B W p l c) (hB : B ≤ W.heap.size) : Calls Try.prog 26 #[.pointer p, .int .i64 (d : Int)] W fun e w' => (∃ v, e = .returned v) ∧ RM B w' p l (if c = 0 then d else c) ∧ W.grownBy w' (some B) := by
  have CC := Lib.hid (code_m B p l c W h hB)
  clear h
  by_cases hc : c = 0
  · rw [if_pos hc]
    subst c
    go_enter Try.func26, Try.ntmps26
    go_wp2_with fail
    refine CC.out.mono ?_
    rintro _ w1 ⟨rfl, h1, b1⟩
    clear CC
    obtain ⟨g, pb, cb, rfl, hg, K, S, ne, bb, ll⟩ := h1
    have c1 : w1.cell? ⟨g, 1, none⟩ = some (.int .i64 0) := K.cell 1
    have f1 := K.frozen 1
    have F := Lib.hid (RM.fault (d := d) hg K S ne bb ll)
    clear K S ne bb
    go_wp2
    refine bodyPost_end (results_none rfl _ _ _) rfl ?_
    exact ⟨⟨_, rfl⟩, F.out.1, b1.trans F.out.2⟩
  · rw [if_neg hc]
    have hc' : ¬ (c : Int) = 0 := by omega
    go_enter Try.func26, Try.ntmps26
    go_wp2_with fail
    refine CC.out.mono ?_
    rintro _ w1 ⟨rfl, h1, b1⟩
    clear CC
    go_wp2
    refine bodyPost_end (results_none rfl _ _ _) rfl ?_
    exact ⟨⟨_, rfl⟩, h1, b1⟩
end Go.Proofs.Ytfhiflakglhneaa
