/- The program's Encode: what its put does. -/
import Derived.Test.YtdlhclakdllogaaVc
import Derived.Test.YtdlhclakdllogaaRf
import Derived.Test.YtdlhclakdllogaaUy
namespace Go.Proofs.Ytdlhclakdllogaa
open Go.RowKit

/-- But for the blocks x and y all is as it was. -/
structure Two (x y : Nat) (w w' : World) : Prop where
  os : w'.os = w.os
  tape : w'.tape = w.tape
  output : w'.output = w.output
  size : w.heap.size ≤ w'.heap.size
  block : ∀ k, k < w.heap.size → k ≠ x → k ≠ y → w'.heap[k]? = w.heap[k]?
theorem Two.refl (x y : Nat) (w : World) : Two x y w w := ⟨rfl, rfl, rfl, Nat.le_refl _, fun _ _ _ _ => rfl⟩
theorem Two.trans {x y : Nat} {a b c : World} (h : Two x y a b) (k : Two x y b c) : Two x y a c :=
  ⟨k.os.trans h.os, k.tape.trans h.tape, k.output.trans h.output, Nat.le_trans h.size k.size, fun i hi hx hy => (k.block i (Nat.lt_of_lt_of_le hi h.size) hx hy).trans (h.block i hi hx hy)⟩
theorem Two.of {x y : Nat} {w w' : World} (h : Below w.heap.size w w') : Two x y w w' := ⟨h.os, h.tape, h.output, h.size, fun k hk _ _ => h.block k hk⟩
theorem Two.set_x {x y : Nat} (w : World) (i : Nat) (v : Value) : Two x y w (w.setCell ⟨x, i, none⟩ v) := ⟨rfl, rfl, rfl, by simp, fun k _ hk _ => Below.heap_setCell w _ v k hk⟩
theorem Two.set_y {x y : Nat} (w : World) (i : Nat) (v : Value) : Two x y w (w.setCell ⟨y, i, none⟩ v) := ⟨rfl, rfl, rfl, by simp, fun k _ _ hk => Below.heap_setCell w _ v k hk⟩
theorem Two.to {x y B : Nat} {w w' : World} (h : Two x y w w') (hx : B ≤ x) (hy : B ≤ y) (hB : B ≤ w.heap.size) : Below B w w' := ⟨h.os, h.tape, h.output, h.size, fun k hk => h.block k (by omega) (by omega) (by omega)⟩
theorem Two.blk {x y g : Nat} {w w' : World} {t : TypeId} {cs : Array Value} (h : Two x y w w') (K : Blk w g t cs) (hx : g ≠ x) (hy : g ≠ y) : Blk w' g t cs := (h.block g K.lt hx hy).trans K
theorem putO_facts {r l : List Nat} {o : Option (List Nat)} (h : putO r l = o) (hr : ∀ b ∈ r, b < 256) : (o.getD []).length ≤ r.length + 8 * l.length ∧ ∀ b ∈ o.getD [], b < 256 := by
  subst h
  unfold putO
  split
  · rename_i hl
    have hn : ∀ n ∈ l, n < 4611686018427387904 := fun n hm => of_decide_eq_true (List.all_eq_true.1 hl n hm)
    have e := putO_len8 (l := l) (r := vputs l) (by rw [putO_some hn]; rfl)
    refine ⟨?_, fun b hb => ?_⟩
    · show (r ++ vputs l).length ≤ _
      rw [List.length_append]
      omega
    · rcases List.mem_append.1 (show b ∈ r ++ vputs l from hb) with hb | hb
      · exact hr b hb
      · exact vputs_bytes l hn b hb
  · exact ⟨Nat.zero_le _, fun b hb => by cases hb⟩
theorem putO_append (b l m : List Nat) : (putO b l).bind (fun r => putO r m) = putO b (l ++ m) := by
  unfold putO
  rw [List.all_append]
  cases l.all (fun n => decide (n < 4611686018427387904)) with
  | false => rfl
  | true =>
    cases m.all (fun n => decide (n < 4611686018427387904)) with
    | false => simp
    | true => simp [vputs_append]
/-- What put has put so far: the bytes at x, the fault at y. -/
structure PS (B x y N : Nat) (o : Option (List Nat)) (w : World) : Prop where
  out : ∃ v, Blk w x 23 #[v] ∧ OwL B w v (o.getD []) ∧ ∀ g, v.ownBlock = some g → g ≠ x ∧ g ≠ y
  fault : Blk w y 30 #[.int .i64 (if o.isSome then 0 else 2)]
  ne : x ≠ y
  hx : B ≤ x
  hy : B ≤ y
  len : (o.getD []).length ≤ 8 * N
  byte : ∀ b ∈ o.getD [], b < 256
theorem PS.below {B x y N : Nat} {o : Option (List Nat)} {w w' : World} (h : PS B x y N o w) (b : Below w.heap.size w w') : PS B x y N o w' := by
  obtain ⟨⟨v, K, O, F⟩, E, ne, hx, hy, hl, hb⟩ := h
  exact ⟨⟨v, K.below' b, O.below b, F⟩, E.below' b, ne, hx, hy, hl, hb⟩
theorem PS.mono {B x y N M : Nat} {o : Option (List Nat)} {w : World} (h : PS B x y N o w) (hm : N ≤ M) : PS B x y M o w := by
  obtain ⟨hv, E, ne, hx, hy, hl, hb⟩ := h
  exact ⟨hv, E, ne, hx, hy, by omega, hb⟩
/-- What is put, as a function. -/
def bindO (o : Option (List Nat)) (l : List Nat) : Option (List Nat) := o.bind fun r => putO r l
theorem bindO_append (o : Option (List Nat)) (l m : List Nat) : bindO (bindO o l) m = bindO o (l ++ m) := by
  cases o with
  | none => rfl
  | some r => exact putO_append r l m
set_option maxHeartbeats 8000000 in
set_option maxRecDepth 100000 in
theorem pput_c (B x y N : Nat) (o : Option (List Nat)) (l : List Nat) (hl : ∀ n ∈ l, n < 18446744073709551616) (hN : N ≤ 200) (pl : Option Addr) (nl cl : Nat) (hn : nl ≤ 1000) (W : World) (h : PS B x y N o W) (hB : B ≤ W.heap.size) (hs : SU W (.slice pl nl cl) l) :
    Calls Try.prog 19 #[.slice pl nl cl, .pointer (some ⟨y, 0, none⟩), .pointer (some ⟨x, 0, none⟩)] W fun e w' => (∃ v, e = .returned v) ∧ PS B x y (N + l.length) (bindO o l) w' ∧ Two x y W w' := by
  cases o with
  | none =>
    have h0 := h.mono (show N ≤ N + l.length by omega)
    have k0 : W.cell? ⟨y, 0, none⟩ = some (.int .i64 2) := h.fault.cell 0
    replace h0 := Lib.hid h0
    clear h hs hl
    go_enter Try.func19, Try.ntmps19
    go_wp2
    refine bodyPost_end (results_none rfl _ _ _) rfl ?_
    exact ⟨⟨_, rfl⟩, h0.out, Two.refl _ _ _⟩
  | some r =>
    obtain ⟨⟨v, K, O, F⟩, E, ne, hx, hy, hL, hb⟩ := h
    replace O : OwL B W v r := O
    obtain ⟨p, c, rfl⟩ := O.shape
    replace K : Blk W x 23 #[.slice p r.length c] := K
    replace E : Blk W y 30 #[.int .i64 0] := E
    replace hb : ∀ b ∈ r, b < 256 := hb
    replace hL : r.length ≤ 8 * N := hL
    have k0 : W.cell? ⟨y, 0, none⟩ = some (.int .i64 0) := E.cell 0
    have k1 : W.cell? ⟨x, 0, none⟩ = some (.slice p r.length c) := K.cell 0
    obtain ⟨q, hq⟩ : ∃ q, putO r l = q := ⟨_, rfl⟩
    have PC := Lib.hid (To.put_m r l q p pl r.length nl c cl hb hl (by omega) hn hq.symm W O.sb hs)
    have PF := putO_facts hq hb
    show Calls _ _ _ _ fun e w' => (∃ v, e = .returned v) ∧ PS B x y (N + l.length) (putO r l) w' ∧ Two x y W w'
    rw [hq]
    have xl := K.lt
    have yl := E.lt
    have K' := Lib.hid K
    have E' := Lib.hid E
    have PF := Lib.hid PF
    have HL := Lib.hid hL
    have ne' := ne.symm
    clear hq O F hb hl hs hL K E hn
    generalize r.length = m at *
    obtain ⟨z, hz⟩ : ∃ z : Int, (if q.isSome then (0 : Int) else 2) = z := ⟨_, rfl⟩
    rw [hz] at PC
    have HZ := Lib.hid hz
    clear hz
    go_enter Try.func19, Try.ntmps19
    go_upto_region 0 with fail
    rename_i aK
    refine wp_region_seq ?_
    refine wpSeq_yield (S := fun w' => w' = W) (v := .int .i64 0) (Or.inl ⟨by rfl, fun w' hw' => by (rw [hw']; go_simp)⟩) rfl ?_
    simp only [AP]
    refine wpSeq_yield (S := fun _ => True) (v := .bool true) (Or.inl ⟨by rfl, fun w' hw' => by go_simp⟩) trivial ?_
    simp only [AP]
    refine wpSeq_nil ?_
    refine aK _ _ ?_
    clear aK k0
    go_upto_region 1 with fail
    rename_i aK
    refine wp_region_seq ?_
    refine wpSeq_yield (S := fun w' => w' = W) (v := .slice p m c) (Or.inl ⟨by rfl, fun w' hw' => by (rw [hw']; go_simp)⟩) rfl ?_
    simp only [AP]
    refine wpSeq_yield (S := fun _ => True) (yieldsIf_move rfl _ rfl (.slice pl nl cl) rfl) trivial ?_
    simp only [AP]
    refine wpSeq_wp rfl ?_
    unfold Oper.wp execOp
    go_simp
    refine PC.out.mono ?_
    rintro _ w1 ⟨v1, rfl, O1, b1⟩
    have K1 := K'.out.below' b1
    have E1 := E'.out.below' b1
    have c1 : w1.cell? ⟨x, 0, none⟩ = some (.slice p m c) := K1.cell 0
    have f1 := K1.frozen 0
    obtain ⟨p1, d1, hv⟩ := O1.shape
    obtain ⟨m1, hm1⟩ : ∃ m1, (q.getD []).length = m1 := ⟨_, rfl⟩
    rw [hm1] at hv
    subst hv
    clear hm1
    go_simp
    refine wpSeq_yield (S := fun _ => True) (yieldsIf_move rfl _ rfl (.tuple #[.slice p1 m1 d1, .int .i64 z]) rfl) trivial ?_
    simp only [AP]
    refine wpSeq_yield (S := fun _ => True) (v := .slice p1 m1 d1) (Or.inl ⟨by rfl, fun w' hw' => by go_simp⟩) trivial ?_
    simp only [AP]
    refine wpSeq_yield (S := fun _ => True) (v := .int .i64 z) (Or.inl ⟨by rfl, fun w' hw' => by go_simp⟩) trivial ?_
    simp only [AP]
    refine wpSeq_wp rfl ?_
    unfold Oper.wp execOp
    go_simp
    have K2 : Blk (w1.setCell ⟨x, 0, none⟩ (.slice p1 m1 d1)) x 23 #[.slice p1 m1 d1] := K1.set 0 (.slice p1 m1 d1)
    have E2 := E1.far (p := ⟨x, 0, none⟩) ne' (.slice p1 m1 d1)
    have T2 := (Two.of b1 (x := x) (y := y)).trans (Two.set_x w1 0 (.slice p1 m1 d1))
    have O2 : OwL B (w1.setCell ⟨x, 0, none⟩ (.slice p1 m1 d1)) (.slice p1 m1 d1) (q.getD []) := (O1.mono hB).of_block fun g hg => Below.heap_setCell w1 _ (.slice p1 m1 d1) g (by have := (O1.lt g hg).1; show g ≠ x; omega)
    have F2 : ∀ g, (Value.slice p1 m1 d1).ownBlock = some g → g ≠ x ∧ g ≠ y := fun g hg => by
      have := (O1.lt g hg).1
      omega
    clear K1 E1 c1 f1 b1 O1 PC K' E' xl yl k1
    generalize World.setCell _ _ _ = w2 at *
    have c2 : w2.cell? ⟨y, 0, none⟩ = some (.int .i64 0) := E2.cell 0
    have f2 := E2.frozen 0
    refine wpSeq_wp rfl ?_
    unfold Oper.wp execOp
    go_simp
    have E3 : Blk (w2.setCell ⟨y, 0, none⟩ (.int .i64 z)) y 30 #[.int .i64 z] := E2.set 0 (.int .i64 z)
    have K3 := K2.far (p := ⟨y, 0, none⟩) ne (.int .i64 z)
    have T3 := T2.trans (Two.set_y w2 0 (.int .i64 z))
    have O3 : OwL B (w2.setCell ⟨y, 0, none⟩ (.int .i64 z)) (.slice p1 m1 d1) (q.getD []) := O2.of_block fun g hg => Below.heap_setCell w2 _ _ g (F2 g hg).2
    clear K2 E2 c2 f2 T2 O2
    generalize World.setCell _ _ _ = w3 at *
    refine wpSeq_nil ?_
    go_wp2
    refine bodyPost_end (results_none rfl _ _ _) rfl ?_
    exact ⟨⟨_, rfl⟩, ⟨⟨.slice p1 m1 d1, K3, O3, F2⟩, by rw [HZ.out]; exact E3, ne, hx, hy, by have := PF.out.1; have := HL.out; omega, PF.out.2⟩, T3⟩
end Go.Proofs.Ytdlhclakdllogaa
