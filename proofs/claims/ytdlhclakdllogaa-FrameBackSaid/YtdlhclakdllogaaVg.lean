/- The program's layAck: the numbers of an ACK (printed by gen11/vg.py). -/
import Derived.Test.YtdlhclakdllogaaVf
namespace Go.Proofs.Ytdlhclakdllogaa
open Go.RowKit

def tail2 (g o c : Nat) : Option Addr := some (if c = 1 then ⟨g, o, none⟩ else ⟨g, o + 2, none⟩)
theorem yieldsIf_tail2 {ops : Array Oper} {S : World → Prop} {o : Oper} {a : Act} (hgd : Region.wanted o (yielded ops a.tmps) = true) (x : Operand) (ho : o.op = .slice 24 x (some (.const (.int .i64 1))) none none) (g i n c : Nat) (hx : a.eval x = .slice (some ⟨g, i, none⟩) n c) (hk : 1 ≤ n) (hc : n ≤ c) :
    YieldsIf Try.prog ops S o (.slice (tail2 g i c) (n - 1) (c - 1)) a := by
  refine Or.inl ⟨hgd, fun w hw => ?_⟩
  have q1 : (1 : Int) ≤ (n : Int) := by omega
  have q2 : (n : Int) ≤ (c : Int) := by omega
  have q3 : 1 ≤ c := by omega
  simp only [execOp, ho, hx, Option.map_some]
  go_simp
  by_cases h : c = 1 <;> simp [tail2, h]
set_option maxHeartbeats 16000000 in
set_option maxRecDepth 100000 in
theorem layack (x y N : Nat) (q : Option (List Nat)) (i o n c : Nat) (fn : Bool) (a : List (Nat × Nat)) (ha : ∀ q ∈ a, q.1 < 18446744073709551616 ∧ q.2 < 18446744073709551616) (hr : rightL a = true) (p1 p2 : Option Addr) (nd c1 m c2 : Nat) (hn : n < 18446744073709551616) (hN : N ≤ 50) (W0 W : World) (hs : SA W0 (.slice p2 m c2) a) (bw : Below W0.heap.size W0 W) (h : PS W0.heap.size x y N q W) :
    Calls Try.prog 36 #[.agg #[.int .u64 2, .int .u64 (i : Int), .int .u64 (o : Int), .int .u64 (n : Int), .int .u64 (c : Int), .bool fn, .slice p1 nd c1, .slice p2 m c2], .func (.func 19) #[] #[.pointer (some ⟨y, 0, none⟩), .pointer (some ⟨x, 0, none⟩)]] W fun e w' => (∃ v, e = .returned v) ∧ PS W0.heap.size x y (N + 100) (bindO q (2 :: ackNums n a)) w' ∧ Two x y W w' := by
  obtain ⟨a1, a32, RA⟩ := rightL_at hr
  have em := hs.len.1
  have ec := hs.len.2
  obtain ⟨g2, o2, rfl, A⟩ : ∃ g o, p2 = some ⟨g, o, none⟩ ∧ PA W0 g o a := by
    rcases hs.at_ with h0 | h0
    · omega
    · exact h0
  clear hs hr
  obtain ⟨p, r, rfl⟩ : ∃ p r, a = p :: r := by
    cases a with
    | nil => simp at a1
    | cons p r => exact ⟨p, r, rfl⟩
  have er : r.length + 1 = m := em.symm
  have R0 := RA 0 (by simp only [List.length_cons]; omega)
  replace R0 : p.1 ≤ p.2 ∧ p.2 ≤ 4611686018427387903 := ⟨R0.1, R0.2.1⟩
  obtain ⟨Y0, hy0⟩ : ∃ y, p.2 = y := ⟨_, rfl⟩
  obtain ⟨X0, hx0⟩ : ∃ x, p.1 = x := ⟨_, rfl⟩
  obtain ⟨M1, hM1⟩ : ∃ M, r.length = M := ⟨_, rfl⟩
  obtain ⟨D0, hD0⟩ : ∃ D, Y0 - X0 = D := ⟨_, rfl⟩
  have eL : 2 :: ackNums n (p :: r) = [2, Y0, n, M1, D0] ++ gaps p r := by
    show 2 :: p.2 :: n :: r.length :: (p.2 - p.1) :: gaps p r = _
    rw [hy0, hx0, hM1, hD0]
    rfl
  have R00 : W0.rangeAt g2 o2 [.int .u64 (X0 : Int), .int .u64 (Y0 : Int)] := by
    have := A.at_ 0 (by simp only [List.length_cons]; omega)
    rw [Nat.zero_mul, Nat.add_zero] at this
    rw [← hx0, ← hy0]
    exact this
  have glt := A.lt
  rw [hx0, hy0] at R0
  have RI : ∀ j, j < M1 → ∃ x y z : Nat, ((p :: r).getD j (0, 0)).1 = z ∧ (r.getD j (0, 0)).2 = y ∧ (r.getD j (0, 0)).1 = x ∧ x ≤ y ∧ y + 2 ≤ z ∧ z ≤ 4611686018427387903 ∧ W0.rangeAt g2 (o2 + 2 + j * 2) [.int .u64 (x : Int), .int .u64 (y : Int)] := fun j hj => by
    have h1 := RA (j + 1) (by simp only [List.length_cons]; omega)
    have h2 := RA j (by simp only [List.length_cons]; omega)
    have e1 : (p :: r).getD (j + 1) (0, 0) = r.getD j (0, 0) := rfl
    unfold rightAt at h1 h2
    rw [e1, Nat.add_sub_cancel] at h1
    refine ⟨_, _, _, rfl, rfl, rfl, h1.1, h1.2.2 (by omega), by have := h2.1; have := h2.2.1; omega, ?_⟩
    have q1 := A.at_ (j + 1) (by simp only [List.length_cons]; omega)
    rw [← getD_lt (by simp only [List.length_cons]; omega), e1, show o2 + (j + 1) * 2 = o2 + 2 + j * 2 by omega] at q1
    exact q1
  replace RI := Lib.hid RI
  have GT := Lib.hid (fun j (h : j < M1) => gaps_take r p j (by omega))
  have GL := Lib.hid (gaps_length r p)
  have HM1 := Lib.hid hM1
  rw [eL]
  have HX0 := Lib.hid (show ((p :: r).getD 0 (0, 0)).1 = X0 from hx0)
  have m1n : ¬ m = 0 := by omega
  have m0n : 0 < m := by omega
  have mc : m ≤ c2 := by rw [em]; exact ec
  have m1i : (1 : Int) ≤ (m : Int) := by omega
  have m0 : (0 : Int) < (m : Int) := by omega
  have m32 := Lib.hid (show m = M1 + 1 ∧ M1 ≤ 31 by simp only [List.length_cons] at a32; omega)
  have wm : IntKind.i64.wrap ((m : Int) - 1) = (M1 : Int) := by rw [IntKind.wrap_i64]; have := m32.out; omega
  have wM : IntKind.u64.wrap (M1 : Int) = (M1 : Int) := by rw [IntKind.wrap_u64]; have := m32.out; omega
  have wD : IntKind.u64.wrap ((Y0 : Int) - (X0 : Int)) = (D0 : Int) := by rw [IntKind.wrap_u64]; omega
  have PP1 := Lib.hid (fun pl cl w h1 h2 h3 => pput_c W0.heap.size x y N q [2, Y0, n, M1, D0] (fun z hz => by
    have := m32.out
    simp only [List.mem_cons, List.not_mem_nil, or_false] at hz
    omega) (by omega) pl 5 cl (by decide) w h1 h2 h3)
  have PPJ := Lib.hid (fun j (hj : j ≤ 31) L G E (hG : G < 18446744073709551616) (hE : E < 18446744073709551616) pl cl w h1 h2 h3 => pput_c W0.heap.size x y (N + 5 + 2 * j) (bindO q L) [G, E] (fun z hz => by
    simp only [List.mem_cons, List.not_mem_nil, or_false] at hz
    omega) (by omega) pl 2 cl (by decide) w h1 h2 h3)
  have hxy := Lib.hid (And.intro h.hx h.hy)
  have gx : W.heap.size ≠ x := by
    obtain ⟨_, K, _⟩ := h.out
    have := K.lt
    omega
  have gy : W.heap.size ≠ y := by
    have := h.fault.lt
    omega
  have hlt := Lib.hid (show x < W.heap.size ∧ y < W.heap.size by
    obtain ⟨_, K, _⟩ := h.out
    exact ⟨K.lt, h.fault.lt⟩)
  replace h := Lib.hid h
  replace bw := Lib.hid bw
  clear A RA ha a1 a32 em er ec hx0 hy0 hM1 hD0 R0 eL hn hN
  go_enter Try.func36, Try.ntmps36
  go_upto_region 0 with fail
  rename_i aK
  refine wp_region_seq ?_
  refine wpSeq_wp rfl ?_
  unfold Oper.wp execOp
  go_simp
  refine wpSeq_nil ?_
  refine aK _ _ ?_
  clear aK
  have b0 := (Below.refl W.heap.size W).alloc (Nat.le_refl _) (.cells #[.int .u64 2, .int .u64 (i : Int), .int .u64 (o : Int), .int .u64 (n : Int), .int .u64 (c : Int), .bool fn, .slice p1 nd c1, .slice (some ⟨g2, o2, none⟩) m c2] 26)
  have K := Lib.hid (Blk.new W 26 #[.int .u64 2, .int .u64 (i : Int), .int .u64 (o : Int), .int .u64 (n : Int), .int .u64 (c : Int), .bool fn, .slice p1 nd c1, .slice (some ⟨g2, o2, none⟩) m c2])
  generalize World.alloc W _ = W2 at *
  have P := Lib.hid (h.out.below b0)
  have T := Two.of b0 (x := x) (y := y)
  have hb := Nat.le_trans bw.out.size b0.size
  have bW2 := bw.out.trans (b0.mono bw.out.size)
  have hlt2 := Lib.hid (show x < W2.heap.size ∧ y < W2.heap.size by have := hlt.out; have := b0.size; omega)
  clear b0 h
  have x7 : W2.cell? ⟨W.heap.size, 7, none⟩ = some (.slice (some ⟨g2, o2, none⟩) m c2) := K.out.cell 7
  go_upto_region 1 with fail
  rename_i aK
  refine wp_region_seq ?_
  refine wpSeq_yield (S := fun _ => True) (v := .pointer (some ⟨W.heap.size, 7, none⟩)) (Or.inl ⟨by rfl, fun w' hw' => by go_simp⟩) trivial ?_
  simp only [AP]
  refine wpSeq_yield (S := fun w' => w' = W2) (v := .slice (some ⟨g2, o2, none⟩) m c2) (Or.inl ⟨by rfl, fun w' hw' => by (rw [hw']; go_simp)⟩) rfl ?_
  simp only [AP]
  refine wpSeq_yield (S := fun _ => True) (v := .pointer (some ⟨g2, o2, none⟩)) (Or.inl ⟨by rfl, fun w' hw' => by go_simp⟩) trivial ?_
  simp only [AP]
  have rg : W2.rangeAt g2 o2 [.int .u64 (X0 : Int), .int .u64 (Y0 : Int)] := rangeAt_below R00 bW2 glt
  refine wpSeq_yield (S := fun w' => w' = W2) (show YieldsIf _ _ _ _ (.agg #[.int .u64 (X0 : Int), .int .u64 (Y0 : Int)]) _ from yieldsIf_load_mid (S := fun w' => w' = W2) rfl 47 _ rfl g2 (o2) rfl [.int .u64 (X0 : Int), .int .u64 (Y0 : Int)] _ (fun _ h => h ▸ rg) Try.underlying47 rfl info_sp) rfl ?_
  simp only [AP]
  refine wpSeq_alloc 47 #[.int .u64 0, .int .u64 0] rfl (fun W => by go_simp) ?_
  simp only [AP]
  refine wpSeq_store_row rfl 47 _ _ rfl (W2.heap.size) #[.int .u64 (X0 : Int), .int .u64 (Y0 : Int)] rfl rfl _ _ (Blk.new _ _ _) info_sp rfl (sp_one _ _) ?_
  try simp only [Act.put]
  have b1 := below_setRow ((Below.refl W2.heap.size W2).alloc (Nat.le_refl _) (.cells #[.int .u64 0, .int .u64 0] 47)) (Nat.le_refl W2.heap.size) #[.int .u64 (X0 : Int), .int .u64 (Y0 : Int)]
  have KS := Lib.hid ((Blk.new W2 47 #[.int .u64 0, .int .u64 0]).row #[.int .u64 (X0 : Int), .int .u64 (Y0 : Int)])
  replace T := T.trans (Two.of b1)
  replace P := Lib.hid (P.out.below b1)
  replace hb := Nat.le_trans hb b1.size
  have hs1 := b1.size
  replace K := Lib.hid (K.out.below' b1)
  have gx1 : W2.heap.size ≠ x := by have := hlt2.out; omega
  have gy1 : W2.heap.size ≠ y := by have := hlt2.out; omega
  clear b1 hs1 rg x7
  generalize World.setRow _ _ _ = W3 at *
  generalize W2.heap.size = G1 at *
  refine wpSeq_nil ?_
  refine aK _ _ ?_
  clear aK
  have x0_ : W3.cell? ⟨G1, 0, none⟩ = some (.int .u64 (X0 : Int)) := KS.out.cell 0
  have x1_ : W3.cell? ⟨G1, 1, none⟩ = some (.int .u64 (Y0 : Int)) := KS.out.cell 1
  have x0 : W3.cell? ⟨W.heap.size, 0, none⟩ = some (.int .u64 2) := K.out.cell 0
  have x3 : W3.cell? ⟨W.heap.size, 3, none⟩ = some (.int .u64 (n : Int)) := K.out.cell 3
  have x7 : W3.cell? ⟨W.heap.size, 7, none⟩ = some (.slice (some ⟨g2, o2, none⟩) m c2) := K.out.cell 7
  go_upto_region 2 with fail
  rename_i aK
  refine wp_region_seq ?_
  refine wpSeq_yield (S := fun _ => True) (yieldsIf_move rfl _ rfl (.func (.func 19) #[] #[.pointer (some ⟨y, 0, none⟩), .pointer (some ⟨x, 0, none⟩)]) rfl) trivial ?_
  simp only [AP]
  refine wpSeq_yield (S := fun _ => True) (v := .pointer (some ⟨W.heap.size, 0, none⟩)) (Or.inl ⟨by rfl, fun w' hw' => by go_simp⟩) trivial ?_
  simp only [AP]
  refine wpSeq_yield (S := fun w' => w' = W3) (v := .int .u64 2) (Or.inl ⟨by rfl, fun w' hw' => by (rw [hw']; go_simp)⟩) rfl ?_
  simp only [AP]
  refine wpSeq_yield (S := fun _ => True) (v := .pointer (some ⟨G1, 1, none⟩)) (Or.inl ⟨by rfl, fun w' hw' => by go_simp⟩) trivial ?_
  simp only [AP]
  refine wpSeq_yield (S := fun w' => w' = W3) (v := .int .u64 (Y0 : Int)) (Or.inl ⟨by rfl, fun w' hw' => by (rw [hw']; go_simp)⟩) rfl ?_
  simp only [AP]
  refine wpSeq_yield (S := fun _ => True) (v := .pointer (some ⟨W.heap.size, 3, none⟩)) (Or.inl ⟨by rfl, fun w' hw' => by go_simp⟩) trivial ?_
  simp only [AP]
  refine wpSeq_yield (S := fun w' => w' = W3) (v := .int .u64 (n : Int)) (Or.inl ⟨by rfl, fun w' hw' => by (rw [hw']; go_simp)⟩) rfl ?_
  simp only [AP]
  refine wpSeq_yield (S := fun _ => True) (v := .pointer (some ⟨W.heap.size, 7, none⟩)) (Or.inl ⟨by rfl, fun w' hw' => by go_simp⟩) trivial ?_
  simp only [AP]
  refine wpSeq_yield (S := fun w' => w' = W3) (v := .slice (some ⟨g2, o2, none⟩) m c2) (Or.inl ⟨by rfl, fun w' hw' => by (rw [hw']; go_simp)⟩) rfl ?_
  simp only [AP]
  refine wpSeq_yield (S := fun _ => True) (v := .int .i64 (m : Int)) (Or.inl ⟨by rfl, fun w' hw' => by go_simp⟩) trivial ?_
  simp only [AP]
  refine wpSeq_yield (S := fun _ => True) (v := .int .i64 (M1 : Int)) (Or.inl ⟨by rfl, fun w' hw' => by go_simp⟩) trivial ?_
  simp only [AP]
  refine wpSeq_yield (S := fun _ => True) (v := .int .u64 (M1 : Int)) (Or.inl ⟨by rfl, fun w' hw' => by go_simp⟩) trivial ?_
  simp only [AP]
  refine wpSeq_yield (S := fun _ => True) (v := .pointer (some ⟨G1, 1, none⟩)) (Or.inl ⟨by rfl, fun w' hw' => by go_simp⟩) trivial ?_
  simp only [AP]
  refine wpSeq_yield (S := fun w' => w' = W3) (v := .int .u64 (Y0 : Int)) (Or.inl ⟨by rfl, fun w' hw' => by (rw [hw']; go_simp)⟩) rfl ?_
  simp only [AP]
  refine wpSeq_yield (S := fun _ => True) (v := .pointer (some ⟨G1, 0, none⟩)) (Or.inl ⟨by rfl, fun w' hw' => by go_simp⟩) trivial ?_
  simp only [AP]
  refine wpSeq_yield (S := fun w' => w' = W3) (v := .int .u64 (X0 : Int)) (Or.inl ⟨by rfl, fun w' hw' => by (rw [hw']; go_simp)⟩) rfl ?_
  simp only [AP]
  refine wpSeq_yield (S := fun _ => True) (v := .int .u64 (D0 : Int)) (Or.inl ⟨by rfl, fun w' hw' => by go_simp⟩) trivial ?_
  simp only [AP]
  refine wpSeq_wp rfl ?_
  unfold Oper.wp execOp
  go_simp
  have b1 := (Below.refl W3.heap.size W3).alloc (Nat.le_refl _) (.cells #[.int .u64 2, .int .u64 (Y0 : Int), .int .u64 (n : Int), .int .u64 (M1 : Int), .int .u64 (D0 : Int)] 22)
  have O := (OwU.new W3.heap.size W3 [2, Y0, n, M1, D0] (Nat.le_refl _) (by simp only [List.length_cons, List.length_nil, maxLen]; omega)).su
  replace O : SU (W3.alloc (.cells #[.int .u64 2, .int .u64 (Y0 : Int), .int .u64 (n : Int), .int .u64 (M1 : Int), .int .u64 (D0 : Int)] 22)) (.slice (some ⟨W3.heap.size, 0, none⟩) 5 5) [2, Y0, n, M1, D0] := O
  replace T := T.trans (Two.of b1)
  replace P := Lib.hid (P.out.below b1)
  replace K := Lib.hid (K.out.below' b1)
  replace hb := Nat.le_trans hb b1.size
  obtain ⟨pg, hpg⟩ : ∃ p, p = some (⟨W3.heap.size, 0, none⟩ : Addr) := ⟨_, rfl⟩
  rw [← hpg] at O ⊢
  replace KS := Lib.hid (KS.out.below' b1)
  clear x0_ x1_ b1 hpg x0 x3 x7
  generalize World.alloc W3 _ = W3a at *
  refine wpSeq_wp rfl ?_
  unfold Oper.wp execOp
  go_simp
  refine (PP1.out _ _ W3a P.out hb O).mono ?_
  rintro _ W5 ⟨⟨v5, rfl⟩, P5, T5⟩
  replace K := Lib.hid (T5.blk K.out gx gy)
  replace KS := Lib.hid (T5.blk KS.out gx1 gy1)
  replace T := T.trans T5
  replace P := Lib.hid P5
  replace hb := Nat.le_trans hb T5.size
  clear P5 T5 PP1
  go_simp
  refine wpSeq_nil ?_
  try refine aK _ _ ?_
  try clear aK wD
  have x0_ : W5.cell? ⟨G1, 0, none⟩ = some (.int .u64 (X0 : Int)) := KS.out.cell 0
  have x7 : W5.cell? ⟨W.heap.size, 7, none⟩ = some (.slice (some ⟨g2, o2, none⟩) m c2) := K.out.cell 7
  clear KS K
  go_upto_region 3 with fail
  rename_i aK
  refine wp_region_seq ?_
  refine wpSeq_yield (S := fun _ => True) (v := .pointer (some ⟨G1, 0, none⟩)) (Or.inl ⟨by rfl, fun w' hw' => by go_simp⟩) trivial ?_
  simp only [AP]
  refine wpSeq_yield (S := fun w' => w' = W5) (v := .int .u64 (X0 : Int)) (Or.inl ⟨by rfl, fun w' hw' => by (rw [hw']; go_simp)⟩) rfl ?_
  simp only [AP]
  refine wpSeq_yield (S := fun _ => True) (yieldsIf_assign rfl _ rfl (.int .u64 (X0 : Int)) rfl) trivial ?_
  simp only [AP]
  refine wpSeq_nil ?_
  refine aK _ _ ?_
  clear aK x0_
  go_upto_region 4 with fail
  rename_i aK
  refine wp_region_seq ?_
  refine wpSeq_yield (S := fun _ => True) (v := .pointer (some ⟨W.heap.size, 7, none⟩)) (Or.inl ⟨by rfl, fun w' hw' => by go_simp⟩) trivial ?_
  simp only [AP]
  refine wpSeq_yield (S := fun w' => w' = W5) (v := .slice (some ⟨g2, o2, none⟩) m c2) (Or.inl ⟨by rfl, fun w' hw' => by (rw [hw']; go_simp)⟩) rfl ?_
  simp only [AP]
  refine wpSeq_yield (S := fun _ => True) (yieldsIf_tail2 rfl _ rfl g2 o2 m c2 rfl m0n mc) trivial ?_
  simp only [AP]
  have e1 : m - 1 = M1 := by have := m32.out; omega
  rw [e1]
  have TP : 0 < M1 → tail2 g2 o2 c2 = some ⟨g2, o2 + 2, none⟩ := fun h => by
    unfold tail2
    rw [if_neg (by have := m32.out; omega)]
  have TP := Lib.hid TP
  generalize tail2 g2 o2 c2 = pz at *
  generalize c2 - 1 = cz at *
  refine wpSeq_yield (S := fun _ => True) (v := .int .i64 (M1 : Int)) (Or.inl ⟨by rfl, fun w' hw' => by go_simp⟩) trivial ?_
  simp only [AP]
  refine wpSeq_yield (S := fun _ => True) (yieldsIf_move rfl _ rfl (.int .i64 0) rfl) trivial ?_
  simp only [AP]
  clear e1
  refine wpSeq_nil ?_
  refine aK _ _ ?_
  clear aK x7
  clear m1n m0n mc m1i m0 wm wM
  have bT : ∀ w, Two x y W w → Below W0.heap.size W0 w := fun w h => bw.out.trans (h.to hxy.out.1 hxy.out.2 bw.out.size)
  have bT := Lib.hid bT
  go_upto_region 5 with fail
  go_loopw [5, 37] (fun lo t wr => ∃ j : Nat, j ≤ M1 ∧ t = .int .i64 (j : Int) ∧ lo = .int .u64 ((((p :: r).getD j (0, 0)).1 : Nat) : Int) ∧ PS W0.heap.size x y (N + 5 + 2 * j) (bindO q ([2, Y0, n, M1, D0] ++ (gaps p r).take (2 * j))) wr ∧ Two x y W wr) (fun _ t _ => (M1 - intOf t).toNat)
  case atStart => exact ⟨0, by omega, rfl, by rw [HX0.out], by have := P.out; rw [Nat.mul_zero, List.take_zero, List.append_nil]; exact this, T⟩
  case round =>
    clear P T hb
    obtain ⟨j, hj, rfl, rfl, P, T⟩ := hrel
    by_cases hjm : j = M1
    · subst j
      rw [List.take_of_length_le (by rw [GL.out, HM1.out]; exact Nat.le_refl _)] at P
      have P := Lib.hid (P.mono (M := N + 100) (by have := m32.out; omega))
      clear RI GT GL hj
      go_wp2
      refine bodyPost_end (results_none rfl _ _ _) rfl ?_
      exact ⟨⟨_, rfl⟩, P.out, T⟩
    · have m32' := m32.out
      have j1 : (j : Int) < (M1 : Int) := by omega
      have j0 : (0 : Int) ≤ (j : Int) := by omega
      have PZ := TP.out (by omega)
      subst PZ
      obtain ⟨X, Y, Z, e1, e2, e3, xy, yz, z62, CE⟩ := RI.out j (by omega)
      have gt := GT.out j (by omega)
      rw [e1, e2, e3] at gt
      rw [e1]
      have e4 : ((p :: r).getD (j + 1) (0, 0)).1 = X := e3
      have e4 := Lib.hid e4
      obtain ⟨G, hG⟩ : ∃ G, Z - Y - 2 = G := ⟨_, rfl⟩
      obtain ⟨E, hE⟩ : ∃ E, Y - X = E := ⟨_, rfl⟩
      rw [hG, hE] at gt
      obtain ⟨zy, hzy⟩ : ∃ q, Z - Y = q := ⟨_, rfl⟩
      have q1 : zy + Y = Z := by omega
      have q2 : G + 2 = zy := by omega
      have q3 : E + X = Y := by omega
      clear hG hE hzy e1 e2 e3
      have w1 : IntKind.u64.wrap ((Z : Int) - (Y : Int)) = (zy : Int) := by rw [IntKind.wrap_u64]; clear gt hj hjm; omega
      have w2 : IntKind.u64.wrap ((zy : Int) - 2) = (G : Int) := by rw [IntKind.wrap_u64]; clear gt hj hjm; omega
      have w3 : IntKind.u64.wrap ((Y : Int) - (X : Int)) = (E : Int) := by rw [IntKind.wrap_u64]; clear gt hj hjm; omega
      have gt := Lib.hid gt
      have PP := Lib.hid (PPJ.out j (by omega) ([2, Y0, n, M1, D0] ++ (gaps p r).take (2 * j)) G E (by omega) (by omega))
      have brw := bT.out _ T
      have hb := brw.size
      have P := Lib.hid P
      have hlt3 := Lib.hid (show x < wr.heap.size ∧ y < wr.heap.size by have := hlt.out; have := T.size; omega)
      clear m32' q1 q2 q3 xy yz z62
      go_upto_region 6 with fail
      rename_i aK
      refine wp_region_seq ?_
      refine wpSeq_yield (S := fun _ => True) (v := .pointer (some ⟨g2, o2 + 2 + j * 2, none⟩)) (Or.inl ⟨by rfl, fun w' hw' => by go_simp⟩) trivial ?_
      simp only [AP]
      have rg := rangeAt_below CE brw glt
      refine wpSeq_yield (S := fun w' => w' = wr) (show YieldsIf _ _ _ _ (.agg #[.int .u64 (X : Int), .int .u64 (Y : Int)]) _ from yieldsIf_load_mid (S := fun w' => w' = wr) rfl 47 _ rfl g2 (o2 + 2 + j * 2) rfl [.int .u64 (X : Int), .int .u64 (Y : Int)] _ (fun _ h => h ▸ rg) Try.underlying47 rfl info_sp) rfl ?_
      simp only [AP]
      refine wpSeq_alloc 47 #[.int .u64 0, .int .u64 0] rfl (fun W => by go_simp) ?_
      simp only [AP]
      refine wpSeq_store_row rfl 47 _ _ rfl (wr.heap.size) #[.int .u64 (X : Int), .int .u64 (Y : Int)] rfl rfl _ _ (Blk.new _ _ _) info_sp rfl (sp_one _ _) ?_
      try simp only [Act.put]
      have b1 := below_setRow ((Below.refl wr.heap.size wr).alloc (Nat.le_refl _) (.cells #[.int .u64 0, .int .u64 0] 47)) (Nat.le_refl wr.heap.size) #[.int .u64 (X : Int), .int .u64 (Y : Int)]
      have KS := Lib.hid ((Blk.new wr 47 #[.int .u64 0, .int .u64 0]).row #[.int .u64 (X : Int), .int .u64 (Y : Int)])
      replace T := T.trans (Two.of b1)
      replace P := Lib.hid (P.out.below b1)
      replace hb := Nat.le_trans hb b1.size
      have hs1 := b1.size
      have gx1 : wr.heap.size ≠ x := by have := hlt3.out; omega
      have gy1 : wr.heap.size ≠ y := by have := hlt3.out; omega
      clear b1 hs1 rg brw CE hlt3
      generalize World.setRow _ _ _ = W7 at *
      generalize wr.heap.size = G3 at *
      refine wpSeq_nil ?_
      refine aK _ _ ?_
      clear aK
      have x0_ : W7.cell? ⟨G3, 0, none⟩ = some (.int .u64 (X : Int)) := KS.out.cell 0
      have x1_ : W7.cell? ⟨G3, 1, none⟩ = some (.int .u64 (Y : Int)) := KS.out.cell 1
      go_upto_region 7 with fail
      rename_i aK
      refine wp_region_seq ?_
      refine wpSeq_yield (S := fun _ => True) (yieldsIf_move rfl _ rfl (.func (.func 19) #[] #[.pointer (some ⟨y, 0, none⟩), .pointer (some ⟨x, 0, none⟩)]) rfl) trivial ?_
      simp only [AP]
      refine wpSeq_yield (S := fun _ => True) (yieldsIf_move rfl _ rfl (.int .u64 (Z : Int)) rfl) trivial ?_
      simp only [AP]
      refine wpSeq_yield (S := fun _ => True) (v := .pointer (some ⟨G3, 1, none⟩)) (Or.inl ⟨by rfl, fun w' hw' => by go_simp⟩) trivial ?_
      simp only [AP]
      refine wpSeq_yield (S := fun w' => w' = W7) (v := .int .u64 (Y : Int)) (Or.inl ⟨by rfl, fun w' hw' => by (rw [hw']; go_simp)⟩) rfl ?_
      simp only [AP]
      refine wpSeq_yield (S := fun _ => True) (v := .int .u64 (zy : Int)) (Or.inl ⟨by rfl, fun w' hw' => by go_simp⟩) trivial ?_
      simp only [AP]
      refine wpSeq_yield (S := fun _ => True) (v := .int .u64 (G : Int)) (Or.inl ⟨by rfl, fun w' hw' => by go_simp⟩) trivial ?_
      simp only [AP]
      refine wpSeq_yield (S := fun _ => True) (v := .pointer (some ⟨G3, 1, none⟩)) (Or.inl ⟨by rfl, fun w' hw' => by go_simp⟩) trivial ?_
      simp only [AP]
      refine wpSeq_yield (S := fun w' => w' = W7) (v := .int .u64 (Y : Int)) (Or.inl ⟨by rfl, fun w' hw' => by (rw [hw']; go_simp)⟩) rfl ?_
      simp only [AP]
      refine wpSeq_yield (S := fun _ => True) (v := .pointer (some ⟨G3, 0, none⟩)) (Or.inl ⟨by rfl, fun w' hw' => by go_simp⟩) trivial ?_
      simp only [AP]
      refine wpSeq_yield (S := fun w' => w' = W7) (v := .int .u64 (X : Int)) (Or.inl ⟨by rfl, fun w' hw' => by (rw [hw']; go_simp)⟩) rfl ?_
      simp only [AP]
      refine wpSeq_yield (S := fun _ => True) (v := .int .u64 (E : Int)) (Or.inl ⟨by rfl, fun w' hw' => by go_simp⟩) trivial ?_
      simp only [AP]
      refine wpSeq_wp rfl ?_
      unfold Oper.wp execOp
      go_simp
      have b1 := (Below.refl W7.heap.size W7).alloc (Nat.le_refl _) (.cells #[.int .u64 (G : Int), .int .u64 (E : Int)] 22)
      have O := (OwU.new W7.heap.size W7 [G, E] (Nat.le_refl _) (by simp only [List.length_cons, List.length_nil, maxLen]; omega)).su
      replace O : SU (W7.alloc (.cells #[.int .u64 (G : Int), .int .u64 (E : Int)] 22)) (.slice (some ⟨W7.heap.size, 0, none⟩) 2 2) [G, E] := O
      replace T := T.trans (Two.of b1)
      replace P := Lib.hid (P.out.below b1)
      replace hb := Nat.le_trans hb b1.size
      obtain ⟨pg, hpg⟩ : ∃ p, p = some (⟨W7.heap.size, 0, none⟩ : Addr) := ⟨_, rfl⟩
      rw [← hpg] at O ⊢
      replace KS := Lib.hid (KS.out.below' b1)
      clear x0_ x1_ b1 hpg 
      generalize World.alloc W7 _ = W7a at *
      refine wpSeq_wp rfl ?_
      unfold Oper.wp execOp
      go_simp
      refine (PP.out _ _ W7a P.out hb O).mono ?_
      rintro _ W9 ⟨⟨v5, rfl⟩, P5, T5⟩
      replace KS := Lib.hid (T5.blk KS.out gx1 gy1)
      replace T := T.trans T5
      replace P := Lib.hid P5
      replace hb := Nat.le_trans hb T5.size
      clear P5 T5 PP
      go_simp
      refine wpSeq_nil ?_
      try refine aK _ _ ?_
      try clear aK w1 w2 w3
      have x0_ : W9.cell? ⟨G3, 0, none⟩ = some (.int .u64 (X : Int)) := KS.out.cell 0
      clear KS
      go_upto_region 8 with fail
      rename_i aK
      refine wp_region_seq ?_
      refine wpSeq_yield (S := fun _ => True) (v := .pointer (some ⟨G3, 0, none⟩)) (Or.inl ⟨by rfl, fun w' hw' => by go_simp⟩) trivial ?_
      simp only [AP]
      refine wpSeq_yield (S := fun w' => w' = W9) (v := .int .u64 (X : Int)) (Or.inl ⟨by rfl, fun w' hw' => by (rw [hw']; go_simp)⟩) rfl ?_
      simp only [AP]
      refine wpSeq_yield (S := fun _ => True) (yieldsIf_assign rfl _ rfl (.int .u64 (X : Int)) rfl) trivial ?_
      simp only [AP]
      refine wpSeq_nil ?_
      clear x0_
      have P := P.out
      rw [bindO_append, List.append_assoc, ← gt.out] at P
      have P := Lib.hid (P.mono (M := N + 5 + 2 * (j + 1)) (by simp only [List.length_cons, List.length_nil]; omega))
      have m32' := m32.out
      have d2 : wrap64 ((j : Int) + 1) = (j : Int) + 1 := wrap64_small _ (by omega) (by omega)
      clear m32' gt
      replace d2 := Lib.hid d2
      go_wp2
      have m32' := m32.out
      exact ⟨⟨j + 1, by omega, by rw [d2.out]; rfl, by rw [e4.out], P.out, T⟩, by rw [d2.out]; simp only [intOf]; omega⟩
end Go.Proofs.Ytdlhclakdllogaa
