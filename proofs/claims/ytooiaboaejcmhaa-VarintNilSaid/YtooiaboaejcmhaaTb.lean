/- The program's Readers in memory: New, Code, Left, Fail, End. -/
import Derived.Test.YtooiaboaejcmhaaTa
namespace Go.Proofs.Ytooiaboaejcmhaa
open Go.RowKit

/-- A Reader at p, its block at or behind B: l is left, c the fault. -/
def RM (B : Nat) (w : World) (p : Option Addr) (l : List Nat) (c : Nat) : Prop := ∃ g pb cb, p = some ⟨g, 0, none⟩ ∧ B ≤ g ∧ Blk w g 47 #[.slice pb l.length cb, .int .i64 ((c : Nat) : Int)] ∧ SB w (.slice pb l.length cb) l ∧ (∀ a, pb = some a → a.block ≠ g) ∧ (∀ x ∈ l, x < 256) ∧ l.length ≤ 10000
theorem RM.below {B : Nat} {w w' : World} {p : Option Addr} {l : List Nat} {c : Nat} (h : RM B w p l c) (b : Below w.heap.size w w') : RM B w' p l c := by
  obtain ⟨g, pb, cb, e, hg, K, S, ne, bb, ll⟩ := h
  exact ⟨g, pb, cb, e, hg, K.below' b, S.below b, ne, bb, ll⟩
theorem SB.far {w : World} {g : Nat} {p : Option Addr} {n c : Nat} {l : List Nat} (h : SB w (.slice p n c) l) (ne : ∀ a, p = some a → a.block ≠ g) (i : Nat) (v : Value) : SB (w.setCell ⟨g, i, none⟩ v) (.slice p n c) l := by
  obtain ⟨q, d, e, hc, h0 | ⟨gb, o, rfl, A⟩⟩ := h
  · exact ⟨q, d, e, hc, Or.inl h0⟩
  · simp only [Value.slice.injEq] at e
    obtain ⟨rfl, rfl, rfl⟩ := e
    exact ⟨_, _, rfl, hc, Or.inr ⟨gb, o, rfl, A.of_block (heap_setCell_other w _ gb v (ne _ rfl))⟩⟩
theorem RM.fault {B : Nat} {w : World} {g pb cb} {l : List Nat} {c d : Nat} (hg : B ≤ g) (K : Blk w g 47 #[.slice pb l.length cb, .int .i64 ((c : Nat) : Int)]) (S : SB w (.slice pb l.length cb) l) (ne : ∀ a, pb = some a → a.block ≠ g) (bb : ∀ x ∈ l, x < 256) (ll : l.length ≤ 10000) :
    RM B (w.setCell ⟨g, 1, none⟩ (.int .i64 ((d : Nat) : Int))) (some ⟨g, 0, none⟩) l d ∧ Below B w (w.setCell ⟨g, 1, none⟩ (.int .i64 ((d : Nat) : Int))) :=
  ⟨⟨g, pb, cb, rfl, hg, K.set 1 _, S.far ne 1 _, ne, bb, ll⟩, (Below.refl _ _).setCell (p := ⟨g, 1, none⟩) hg _⟩
set_option maxHeartbeats 4000000 in
set_option maxRecDepth 100000 in
theorem new_m (l : List Nat) (p : Option Addr) (n c : Nat) (bb : ∀ x ∈ l, x < 256) (hn : n ≤ 10000) (W : World) (hs : SB W (.slice p n c) l) :
    Calls Try.prog 10 #[.slice p n c] W fun e w' => ∃ q, e = .returned (.pointer q) ∧ RM W.heap.size w' q l 0 ∧ Below W.heap.size W w' := by
  have ll : l.length ≤ 10000 := by have := hs.len.1; omega
  have C := Lib.hid (clone_c l p n c (by omega) W hs)
  clear hs hn
  go_enter Try.func10, Try.ntmps10
  go_wp2_with fail
  refine C.out.mono ?_
  rintro _ w1 ⟨v1, rfl, O1, b1⟩
  clear C
  obtain ⟨p1, c1, hv⟩ := O1.shape
  subst hv
  go_wp2
  go_ret
  have b2 := (Below.refl w1.heap.size w1).alloc (Nat.le_refl _) (.cells #[.slice p1 l.length c1, .int .i64 0] 47)
  exact ⟨_, rfl, ⟨w1.heap.size, p1, c1, rfl, b1.size, Blk.new _ _ _, O1.sb.below b2, fun a e => by
    have := (O1.lt a.block (by rw [e]; rfl)).2
    omega, bb, ll⟩, b1.trans (b2.mono b1.size)⟩
set_option maxHeartbeats 4000000 in
theorem code_m (B : Nat) (p : Option Addr) (l : List Nat) (c : Nat) (W : World) (h : RM B W p l c) (_hB : B ≤ W.heap.size) : Calls Try.prog 13 #[.pointer p] W fun e w' => e = .returned (.int .i64 (c : Int)) ∧ RM B w' p l c ∧ Below B W w' := by
  have h0 := h
  obtain ⟨g, pb, cb, rfl, hg, K, S, ne, bb, ll⟩ := h
  have c1 : W.cell? ⟨g, 1, none⟩ = some (.int .i64 (c : Int)) := K.cell 1
  replace h0 := Lib.hid h0
  clear K S ne bb
  go_enter Try.func13, Try.ntmps13
  go_wp2
  go_ret
  exact ⟨rfl, h0.out, Below.refl _ _⟩
set_option maxHeartbeats 4000000 in
theorem left_m (B : Nat) (p : Option Addr) (l : List Nat) (c : Nat) (W : World) (h : RM B W p l c) (_hB : B ≤ W.heap.size) : Calls Try.prog 14 #[.pointer p] W fun e w' => e = .returned (.int .i64 (l.length : Int)) ∧ RM B w' p l c ∧ Below B W w' := by
  have h0 := h
  obtain ⟨g, pb, cb, rfl, hg, K, S, ne, bb, ll⟩ := h
  have c1 : W.cell? ⟨g, 0, none⟩ = some (.slice pb l.length cb) := K.cell 0
  replace h0 := Lib.hid h0
  clear K S ne bb
  go_enter Try.func14, Try.ntmps14
  go_wp2
  go_ret
  exact ⟨rfl, h0.out, Below.refl _ _⟩
set_option maxHeartbeats 4000000 in
theorem fail_m (B : Nat) (p : Option Addr) (l : List Nat) (c d : Nat) (W : World) (h : RM B W p l c) (hB : B ≤ W.heap.size) : Calls Try.prog 15 #[.pointer p, .int .i64 (d : Int)] W fun e w' => (∃ v, e = .returned v) ∧ RM B w' p l (if c = 0 then d else c) ∧ Below B W w' := by
  have CC := Lib.hid (code_m B p l c W h hB)
  clear h
  by_cases hc : c = 0
  · rw [if_pos hc]
    subst c
    go_enter Try.func15, Try.ntmps15
    go_wp2_with fail
    refine CC.out.mono ?_
    rintro _ w1 ⟨rfl, h1, b1⟩
    clear CC
    obtain ⟨g, pb, cb, rfl, hg, K, S, ne, bb, ll⟩ := h1
    have c1 : w1.cell? ⟨g, 1, none⟩ = some (.int .i64 0) := K.cell 1
    have f1 := K.frozen 1
    have F := Lib.hid (RM.fault (d := d) hg K S ne bb ll)
    clear K S ne bb
    go_wp2
    refine bodyPost_end (results_none rfl _ _ _) rfl ?_
    exact ⟨⟨_, rfl⟩, F.out.1, b1.trans F.out.2⟩
  · rw [if_neg hc]
    have hc' : ¬ (c : Int) = 0 := by omega
    go_enter Try.func15, Try.ntmps15
    go_wp2_with fail
    refine CC.out.mono ?_
    rintro _ w1 ⟨rfl, h1, b1⟩
    clear CC
    go_wp2
    refine bodyPost_end (results_none rfl _ _ _) rfl ?_
    exact ⟨⟨_, rfl⟩, h1, b1⟩
set_option maxHeartbeats 4000000 in
theorem fin_m (B : Nat) (p : Option Addr) (l : List Nat) (c : Nat) (W : World) (h : RM B W p l c) (hB : B ≤ W.heap.size) : Calls Try.prog 12 #[.pointer p] W fun e w' => e = .returned (.int .i64 ((if l ≠ [] ∧ c = 0 then 4 else c : Nat) : Int)) ∧ RM B w' p l (if l ≠ [] ∧ c = 0 then 4 else c) ∧ Below B W w' := by
  have CL := Lib.hid (left_m B p l c W h hB)
  have CF := Lib.hid (fail_m B p l c 4)
  have CC := Lib.hid (code_m B p l)
  clear h
  by_cases h0 : l = []
  · rw [if_neg (fun e => e.1 h0)]
    subst h0
    clear CF
    go_enter Try.func12, Try.ntmps12
    go_wp2_with fail
    refine CL.out.mono ?_
    rintro _ w1 ⟨rfl, h1, b1⟩
    clear CL
    go_wp2_with fail
    refine (CC.out _ _ h1 (Nat.le_trans hB b1.size)).mono ?_
    rintro _ w2 ⟨rfl, h2, b2⟩
    clear CC h1
    go_wp2
    go_ret
    exact ⟨rfl, h2, b1.trans b2⟩
  · have e : (if l ≠ [] ∧ c = 0 then 4 else c) = (if c = 0 then 4 else c) := by
      by_cases hc : c = 0
      · rw [if_pos ⟨h0, hc⟩, if_pos hc]
      · rw [if_neg (fun e => hc e.2), if_neg hc]
    rw [e]
    have lp : (0 : Int) < (l.length : Int) := by
      have := List.length_pos_iff.2 h0
      omega
    generalize (if c = 0 then 4 else c) = d at *
    clear e
    go_enter Try.func12, Try.ntmps12
    go_wp2_with fail
    refine CL.out.mono ?_
    rintro _ w1 ⟨rfl, h1, b1⟩
    clear CL
    go_wp2_with fail
    refine (CF.out _ h1 (Nat.le_trans hB b1.size)).mono ?_
    rintro _ w2 ⟨⟨v, rfl⟩, h2, b2⟩
    clear CF h1
    replace b1 := b1.trans b2
    go_wp2_with fail
    refine (CC.out _ _ h2 (Nat.le_trans hB b1.size)).mono ?_
    rintro _ w3 ⟨rfl, h3, b3⟩
    clear CC h2
    go_wp2
    go_ret
    exact ⟨rfl, h3, b1.trans b3⟩
end Go.Proofs.Ytooiaboaejcmhaa
