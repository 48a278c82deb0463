/- The law FrameMany, by contract (printed by gen11/uw.py). -/
import Derived.Test.YtdlhclakdllogaaUv
import Derived.Laws.OwnMore
namespace Go.Proofs.Ytdlhclakdllogaa
open Go.RowKit

/-- A row of noughts, as many as there is room. -/
theorem wp_make_full {o : Oper} {a : Act} {w : World} {K : Act → World → Prop} {Q : Exit → Act → World → Prop} (x y : Operand) (ho : o.op = .makeSlice 23 x y) (k : IntKind) (c : Nat) (hx : a.eval x = .int k (c : Int)) (hy : a.eval y = .int k (c : Int)) (hc : c ≤ 100000)
    (B : Nat) (hB : B ≤ w.heap.size) (h : ∀ w', OwL B w' (.slice (some ⟨w.heap.size, 0, none⟩) c c) (List.replicate c 0) → Below w.heap.size w w' → K (a.put o.dst (.slice (some ⟨w.heap.size, 0, none⟩) c c)) w') : o.wp Try.prog a w K Q := by
  obtain ⟨i, hi, hs, hy', hz⟩ := info_u8
  obtain ⟨w', hr, hO, g⟩ := run_make_full (P := Try.prog) w B 23 5 i _ 1 Try.underlying23 hi hz hs k k c (by rw [hy']; omega) (by simp only [maxLen]; omega) hB
  unfold Oper.wp execOp
  simp only [ho, Sem.run_bind, hx, hy, hr, Result.andThen_ok, Sem.run_pure]
  refine h w' ?_ ⟨g.os, g.tape, g.output, g.size, fun i hi => g.block i hi (fun e => by cases e)⟩
  unfold OwL
  rw [List.length_replicate]
  have e : vals (List.replicate c 0) = (madeCells #[Value.int .u8 0] c).toList := by
    rw [toList_madeCells_one]
    unfold vals
    rw [List.map_replicate]
    rfl
  rw [e]
  rw [Nat.mul_one] at hO
  exact hO
def frP (k : Nat) : Fr := ⟨k, 0, 0, 0, 0, false, [], []⟩
theorem frP_ok (k : Nat) (hk : k < 18446744073709551616) : (frP k).Ok := ⟨hk, (by decide : 0 < 18446744073709551616), (by decide : 0 < 18446744073709551616), (by decide : 0 < 18446744073709551616), (by decide : 0 < 18446744073709551616), (fun x hx => by cases hx), (fun x hx => by cases hx)⟩
theorem enc0 : encF (frP 0) = (0, [0]) := by decide
theorem enc1 : encF (frP 1) = (0, [1]) := by decide
def manyF (pad n : Nat) : List Fr := List.replicate pad (frP 0) ++ (List.replicate n [frP 1, frP 0]).flatten
def manyB (pad n : Nat) : List Nat := List.replicate pad 0 ++ (List.replicate n [1, 0]).flatten
theorem flat_pads : ∀ n, (List.replicate n (frP 0)).flatMap (fun f => (encF f).2) = List.replicate n 0
  | 0 => rfl
  | n + 1 => by
    rw [List.replicate_succ, List.flatMap_cons, flat_pads n, enc0]
    rfl
theorem flat_pings : ∀ n, (List.replicate n [frP 1, frP 0]).flatten.flatMap (fun f => (encF f).2) = (List.replicate n [1, 0]).flatten
  | 0 => rfl
  | n + 1 => by
    rw [List.replicate_succ, List.flatten_cons, List.flatMap_append, flat_pings n, List.replicate_succ, List.flatten_cons]
    rfl
theorem many_bytes (pad n : Nat) : (manyF pad n).flatMap (fun f => (encF f).2) = manyB pad n := by
  unfold manyF manyB
  rw [List.flatMap_append, flat_pads, flat_pings]
theorem filt_pads : ∀ n, (List.replicate n (frP 0)).filter (fun f => f.kind != 0) = []
  | 0 => rfl
  | n + 1 => by
    rw [List.replicate_succ, List.filter_cons_of_neg (by decide), filt_pads n]
theorem filt_pings : ∀ n, ((List.replicate n [frP 1, frP 0]).flatten.filter (fun f => f.kind != 0)).length = n
  | 0 => rfl
  | n + 1 => by
    rw [List.replicate_succ, List.flatten_cons, List.filter_append, List.length_append, filt_pings n]
    show 1 + n = n + 1
    omega
theorem many_count (pad n : Nat) : ((manyF pad n).filter (fun f => f.kind != 0)).length = n := by
  unfold manyF
  rw [List.filter_append, filt_pads, List.nil_append, filt_pings]
theorem many_ok (pad n : Nat) : ∀ f ∈ manyF pad n, f.Ok ∧ (encF f).1 = 0 := fun f hf => by
  have h : f = frP 0 ∨ f = frP 1 := by
    unfold manyF at hf
    rcases List.mem_append.1 hf with h | h
    · exact Or.inl (List.eq_of_mem_replicate h)
    · obtain ⟨l, hl, h⟩ := List.mem_flatten.1 h
      rw [List.eq_of_mem_replicate hl] at h
      simp only [List.mem_cons, List.not_mem_nil, or_false] at h
      exact h.symm
  rcases h with rfl | rfl
  · exact ⟨frP_ok 0 (by decide), by rw [enc0]⟩
  · exact ⟨frP_ok 1 (by decide), by rw [enc1]⟩
theorem many_par {P : List Nat → Nat × List Fr} (PM : ParM P) (pad n : Nat) : (P (manyB pad n)).1 = (if 64 < n then 7 else 0) ∧ (P (manyB pad n)).2.length = (if 64 < n then 0 else n) := by
  by_cases h : 64 < n
  · rw [if_pos h, if_pos h, show P (manyB pad n) = _ from PM.many pad n h]
    exact ⟨rfl, rfl⟩
  · have e := PM.back (manyF pad n) (many_ok pad n) (by rw [many_count]; omega)
    rw [many_bytes] at e
    rw [if_neg h, if_neg h, e]
    exact ⟨rfl, by rw [List.length_map, many_count]⟩
theorem manyB_succ (pad i : Nat) : manyB pad i ++ [1, 0] = manyB pad (i + 1) := by
  unfold manyB
  rw [List.replicate_succ', List.flatten_append, List.append_assoc]
  rfl
theorem manyB_length (pad n : Nat) : (manyB pad n).length = pad + 2 * n := by
  unfold manyB
  rw [List.length_append, List.length_replicate]
  congr 1
  induction n with
  | zero => rfl
  | succ n ih =>
    rw [List.replicate_succ, List.flatten_cons, List.length_append, ih]
    show 2 + 2 * n = _
    omega
theorem manyB_bytes (pad n : Nat) : ∀ x ∈ manyB pad n, x < 256 := fun x hx => by
  unfold manyB at hx
  rcases List.mem_append.1 hx with h | h
  · rw [List.eq_of_mem_replicate h]
    decide
  · obtain ⟨l, hl, h⟩ := List.mem_flatten.1 h
    rw [List.eq_of_mem_replicate hl] at h
    simp only [List.mem_cons, List.not_mem_nil, or_false] at h
    rcases h with rfl | rfl <;> decide
set_option maxHeartbeats 4000000 in
set_option maxRecDepth 100000 in
theorem fmany_c {P : List Nat → Nat × List Fr} (EC : EncC) (PC : ParC P) (PM : ParM P) (n pad : Nat) (hn : n < 256) (hp : pad < 256) (W : World) :
    Calls Try.prog 5 #[.int .u8 (n : Int), .int .u8 (pad : Int)] W fun e w' => e = .returned (.bool true) ∧ Below W.heap.size W w' := by
  have AW := Lib.hid (fawake_c EC)
  have MP := Lib.hid (many_par PM pad n)
  have C := Lib.hid (fun p c W h => PC (manyB pad n) p (manyB pad n).length c (manyB_bytes pad n) (by rw [manyB_length]; omega) W h)
  clear EC PC PM
  go_enter Try.func5, Try.ntmps5
  go_wp2_with fail
  refine (AW.out _).mono ?_
  rintro _ w1 ⟨rfl, b⟩
  clear AW
  go_upto_region 3 with fail
  rename_i aK
  refine wp_region_seq ?_
  refine wpSeq_yield (S := fun _ => True) (yieldsIf_move rfl _ rfl (.int .u8 (pad : Int)) rfl) trivial ?_
  simp only [AP]
  refine wpSeq_wp rfl (wp_make_full _ _ rfl .u8 pad rfl rfl (by omega) W.heap.size b.size ?_)
  intro w2 O b2
  simp only [AP]
  replace b := b.trans (b2.mono b.size)
  replace O : OwL W.heap.size w2 (.slice (some ⟨w1.heap.size, 0, none⟩) pad pad) (manyB pad 0) := by
    have e : manyB pad 0 = List.replicate pad 0 := List.append_nil _
    rw [e]
    exact O
  obtain ⟨v2, hv2⟩ : ∃ v, v = Value.slice (some ⟨w1.heap.size, 0, none⟩) pad pad := ⟨_, rfl⟩
  rw [← hv2] at O ⊢
  clear hv2 b2
  refine wpSeq_yield (S := fun _ => True) (yieldsIf_assign rfl _ rfl (v2) rfl) trivial ?_
  simp only [AP]
  refine wpSeq_nil ?_
  refine aK _ _ ?_
  clear aK
  go_upto_region 5 with fail
  go_loopw [5, 13] (fun v t wr => ∃ i : Nat, i ≤ n ∧ t = .int .u8 (i : Int) ∧ OwL W.heap.size wr v (manyB pad i) ∧ Below W.heap.size W wr) (fun _ t _ => (n - intOf t).toNat)
  case atStart => exact ⟨0, by omega, rfl, O, b⟩
  case round =>
    clear O b
    obtain ⟨i, hi, rfl, O, b⟩ := hrel
    by_cases hin : i = n
    · subst i
      have CS := C.out
      have s1 := O.sb
      obtain ⟨p5, c5, hv5⟩ := O.shape
      subst hv5
      have CP := Lib.hid (CS p5 c5 wr s1)
      obtain ⟨m1, m2⟩ := MP.out
      generalize (manyB pad n).length = nb at *
      clear C MP O s1 hi CS
      go_wp2_with fail
      refine CP.out.mono ?_
      rintro _ w6 ⟨v6, rfl, S6, b6⟩
      replace b := b.trans (b6.mono b.size)
      rw [m1]
      obtain ⟨p6, c6, hv6⟩ := S6.shape
      rw [m2] at hv6
      subst hv6
      clear CP b6 m1 m2 S6
      by_cases h64 : 64 < n
      · rw [if_pos h64, if_pos h64]
        have g1 : (64 : Int) < (n : Int) := by omega
        go_wp2
        go_ret
        exact ⟨rfl, b⟩
      · rw [if_neg h64, if_neg h64]
        have g1 : ¬ (64 : Int) < (n : Int) := by omega
        have wn : IntKind.i64.wrap (n : Int) = (n : Int) := by rw [IntKind.wrap_i64]; omega
        go_wp2
        go_ret
        exact ⟨rfl, b⟩
    · have i1 : (i : Int) < (n : Int) := by omega
      obtain ⟨v7, w7, hr7, O7, b7⟩ := append_new wr W.heap.size 23 u5 _ [1, 0] O (by rw [manyB_length]; simp only [List.length_cons, List.length_nil]; omega) b.size W b
      rw [manyB_succ] at O7
      replace hr7 : (Builtin.append_ #[23, 23] 23 #[u5, .slice (some ⟨wr.heap.size, 0, none⟩) 2 2]).run Try.prog (wr.alloc (.cells #[.int .u8 1, .int .u8 0] 5)) = .ok v7 w7 := hr7
      have d1 : IntKind.u8.wrap ((i : Int) + 1) = (i : Int) + 1 := by rw [IntKind.wrap_u8]; omega
      clear O b MP C
      go_upto_region 6 with fail
      rename_i aK
      refine wp_region_seq ?_
      refine wpSeq_yield (S := fun _ => True) (yieldsIf_move rfl _ rfl (u5) rfl) trivial ?_
      simp only [AP]
      refine wpSeq_wp rfl ?_
      unfold Oper.wp execOp
      go_simp
      refine wpSeq_wp rfl (wp_append_run _ _ _ _ rfl _ _ rfl rfl v7 w7 hr7 ?_)
      simp only [AP]
      refine wpSeq_yield (S := fun _ => True) (yieldsIf_assign rfl _ rfl (v7) rfl) trivial ?_
      simp only [AP]
      refine wpSeq_nil ?_
      refine aK _ _ ?_
      clear aK hr7
      go_wp2
      exact ⟨⟨i + 1, by omega, rfl, O7, b7⟩, by simp only [intOf]; omega⟩
end Go.Proofs.Ytdlhclakdllogaa
/- The law FrameAcks, by contract (printed by gen11/ux.py). -/
namespace Go.Proofs.Ytdlhclakdllogaa
open Go.RowKit

def frA (n : Nat) (a : List (Nat × Nat)) : Fr := ⟨2, 0, 0, n, 0, false, [], a⟩
theorem gaps_le (M : Nat) : ∀ (r : List (Nat × Nat)) (p : Nat × Nat), (∀ q ∈ p :: r, q.1 ≤ M ∧ q.2 ≤ M) → ∀ x ∈ gaps p r, x ≤ M
  | [], _, _, _, h => by cases h
  | q :: r, p, hq, x, h => by
    have h1 := hq p (by simp)
    have h2 := hq q (by simp)
    rcases List.mem_cons.1 h with rfl | h
    · omega
    · rcases List.mem_cons.1 h with rfl | h
      · omega
      · exact gaps_le M r q (fun z hz => hq z (by simp only [List.mem_cons] at hz ⊢; exact Or.inr hz)) x h
theorem right_mem {a : List (Nat × Nat)} (h : rightL a = true) : ∀ q ∈ a, q.1 ≤ 4611686018427387903 ∧ q.2 ≤ 4611686018427387903 := fun q hq => by
  obtain ⟨i, hi, rfl⟩ := List.getElem_of_mem hq
  obtain ⟨_, _, RA⟩ := rightL_at h
  have r := RA i hi
  unfold rightAt at r
  rw [getD_lt hi] at r
  exact ⟨Nat.le_trans r.1 r.2.1, r.2.1⟩
theorem acks_nums {n : Nat} {a : List (Nat × Nat)} (h : rightL a = true) (hn : n ≤ 4611686018427387903) : ∀ x ∈ nums (frA n a), x < 4611686018427387904 := fun x hx => by
  have hm := right_mem h
  obtain ⟨a1, a32, _⟩ := rightL_at h
  cases a with
  | nil => simp at a1
  | cons p r =>
    have e : nums (frA n (p :: r)) = 2 :: p.2 :: n :: r.length :: (p.2 - p.1) :: gaps p r := rfl
    rw [e] at hx
    have hp := hm p (by simp)
    simp only [List.length_cons] at a32
    simp only [List.mem_cons] at hx
    rcases hx with rfl | rfl | rfl | rfl | rfl | hx
    · decide
    · omega
    · omega
    · omega
    · omega
    · have := gaps_le _ r p hm x hx
      omega
theorem acks_wrong {n : Nat} {a : List (Nat × Nat)} (h : rightL a = false) : encF (frA n a) = (5, []) := by
  unfold encF
  rw [if_neg (by show ¬ 2048 < 0; decide), if_neg (fun e => absurd (show 0 < 0 from e.1) (by decide)), if_neg (show ¬ knownK (frA n a).kind = false from (by decide : ¬ knownK 2 = false)), if_pos ⟨rfl, h⟩]
theorem acks_enc {n : Nat} {a : List (Nat × Nat)} (h : rightL a = true) : encF (frA n a) = finF (putO [] (nums (frA n a))) [] :=
  enc_ok (by show ¬ 2048 < 0; decide) (fun e => absurd (show 0 < 0 from e.1) (by decide)) (show ¬ knownK (frA n a).kind = false from (by decide : ¬ knownK 2 = false)) (fun e => by
    have e2 : rightL a = false := e.2
    rw [h] at e2
    exact absurd e2 (by decide)) (fun e => e.1.elim (fun h => absurd (show 2 = 6 from h) (by decide)) (fun h => absurd (show 2 = 8 from h) (by decide)))
theorem acks_far {n : Nat} {a : List (Nat × Nat)} (h : rightL a = true) (hn : 4611686018427387903 < n) : encF (frA n a) = (2, []) := by
  rw [acks_enc h]
  obtain ⟨a1, _, _⟩ := rightL_at h
  cases a with
  | nil => simp at a1
  | cons p r =>
    have e : putO [] (nums (frA n (p :: r))) = none := putO_none 2 (by show 2 < (2 :: p.2 :: n :: r.length :: (p.2 - p.1) :: gaps p r).length; simp only [List.length_cons]; omega) (by show ¬ n < _; omega)
    rw [e]
    rfl
theorem acks_good {n : Nat} {a : List (Nat × Nat)} (h : rightL a = true) (hn : n ≤ 4611686018427387903) : (encF (frA n a)).1 = 0 := by
  rw [acks_enc h, putO_some (acks_nums h hn)]
  rfl
theorem frA_ok {n : Nat} {a : List (Nat × Nat)} (hn : n < 18446744073709551616) (ha : ∀ q ∈ a, q.1 < 18446744073709551616 ∧ q.2 < 18446744073709551616) : (frA n a).Ok :=
  ⟨(by decide : 2 < 18446744073709551616), (by decide : 0 < 18446744073709551616), (by decide : 0 < 18446744073709551616), hn, (by decide : 0 < 18446744073709551616), (fun x hx => by cases hx), ha⟩
theorem acks_par {P : List Nat → Nat × List Fr} (PM : ParM P) {n : Nat} {a : List (Nat × Nat)} (hf : (frA n a).Ok) (h : rightL a = true) (hn : n ≤ 4611686018427387903) : P (encF (frA n a)).2 = (0, [frA n a]) := by
  have := PM.back [frA n a] (fun f hf' => by
    simp only [List.mem_cons, List.not_mem_nil, or_false] at hf'
    subst hf'
    exact ⟨hf, acks_good h hn⟩) (Nat.le_trans (List.length_filter_le _ _) (by show 1 ≤ 64; decide))
  rw [List.flatMap_cons, List.flatMap_nil, List.append_nil] at this
  exact this
set_option maxHeartbeats 4000000 in
set_option maxRecDepth 100000 in
theorem facks_c {P : List Nat → Nat × List Fr} (EC : EncC) (PC : ParC P) (PM : ParM P) (a : List (Nat × Nat)) (ha : ∀ q ∈ a, q.1 < 18446744073709551616 ∧ q.2 < 18446744073709551616) (p : Option Addr) (m c : Nat) (hm : m ≤ 9223372036854775807) (n : Nat) (hn : n < 18446744073709551616) (W : World) (hs : SA W (.slice p m c) a) :
    Calls Try.prog 6 #[.slice p m c, .int .u64 (n : Int)] W fun e w' => e = .returned (.bool true) ∧ Below W.heap.size W w' := by
  have AW := Lib.hid (fawake_c EC)
  have HS := Lib.hid hs
  by_cases h100 : 100 < m
  · have g1 : (100 : Int) < (m : Int) := by omega
    clear EC PC PM
    go_enter Try.func6, Try.ntmps6
    go_wp2_with fail
    refine (AW.out _).mono ?_
    rintro _ w1 ⟨rfl, b⟩
    go_wp2
    go_ret
    exact ⟨rfl, b⟩
  have g1 : ¬ (100 : Int) < (m : Int) := by omega
  have em := hs.len.1
  have hf := frA_ok (n := n) hn ha
  have CE := Lib.hid (fun w (b : Below W.heap.size W w) => EC (frA n a) hf (Nat.zero_le _) (by show a.length ≤ 100; omega) (.slice none 0 0) (.slice p m c) w ⟨SB.nil _ _ _, hs.below b⟩)
  have CR := Lib.hid (fun w (b : Below W.heap.size W w) => right_c a ha p m c (by omega) w (hs.below b))
  have CS := Lib.hid (fun (q : Option Addr) (d : Nat) w (b : Below W.heap.size W w) (h : SA w (.slice q m d) a) => samesp_c a q p m m d c (by omega) w h (hs.below b))
  have C2 := Lib.hid (fun b (hb : ∀ x ∈ b, x < 256) (hn : b.length ≤ 300000) p c W h => PC b p b.length c hb hn W h)
  have EF := Lib.hid (fun h => enc_facts hf h (Nat.zero_le _) (by show a.length ≤ 100; omega))
  have MP := Lib.hid (fun h1 h2 => acks_par PM hf h1 h2)
  have EW := Lib.hid (fun h => acks_wrong (n := n) (a := a) h)
  have EFar := Lib.hid (fun h1 h2 => acks_far (n := n) (a := a) h1 h2)
  have EG := Lib.hid (fun h1 h2 => acks_good (n := n) (a := a) h1 h2)
  have EM := Lib.hid em
  clear EC PC PM hs hf ha em h100
  obtain ⟨ec, hec⟩ : ∃ ec, encF (frA n a) = ec := ⟨_, rfl⟩
  unfold EncPost at CE
  rw [hec] at CE EF MP EW EFar EG
  obtain ⟨code, bs⟩ := ec
  clear hec
  dsimp only at CE EF MP EG
  go_enter Try.func6, Try.ntmps6
  go_wp2_with fail
  refine (AW.out _).mono ?_
  rintro _ w1 ⟨rfl, b⟩
  clear AW
  go_upto_region 5 with fail
  rename_i aK
  refine wp_region_seq ?_
  refine wpSeq_yield (S := fun _ => True) (yieldsIf_move rfl _ rfl (.slice p m c) rfl) trivial ?_
  simp only [AP]
  refine wpSeq_yield (S := fun _ => True) (yieldsIf_move rfl _ rfl (.int .u64 (n : Int)) rfl) trivial ?_
  simp only [AP]
  refine wpSeq_wp rfl ?_
  unfold Oper.wp execOp
  go_simp
  refine wpSeq_wp rfl ?_
  unfold Oper.wp execOp
  go_simp
  refine (CE.out _ b).mono ?_
  rintro _ w5 ⟨v5, rfl, O, b5⟩
  replace b := b.trans (b5.mono b.size)
  have s5 := O.sb
  clear O CE b5
  go_simp
  refine wpSeq_yield (S := fun _ => True) (yieldsIf_move rfl _ rfl (.tuple #[v5, .int .i64 (code : Int)]) rfl) trivial ?_
  simp only [AP]
  refine wpSeq_yield (S := fun _ => True) (v := v5) (Or.inl ⟨by rfl, fun w' hw' => by go_simp⟩) trivial ?_
  simp only [AP]
  refine wpSeq_yield (S := fun _ => True) (v := .int .i64 (code : Int)) (Or.inl ⟨by rfl, fun w' hw' => by go_simp⟩) trivial ?_
  simp only [AP]
  refine wpSeq_yield (S := fun _ => True) (yieldsIf_assign rfl _ rfl (v5) rfl) trivial ?_
  simp only [AP]
  refine wpSeq_yield (S := fun _ => True) (yieldsIf_assign rfl _ rfl (.int .i64 (code : Int)) rfl) trivial ?_
  simp only [AP]
  refine wpSeq_nil ?_
  refine aK _ _ ?_
  clear aK
  go_wp2_with fail
  refine (CR.out _ b).mono ?_
  rintro _ w6 ⟨rfl, b6⟩
  replace s5 := s5.below b6
  replace b := b.trans (b6.mono b.size)
  clear CR b6
  cases hr : rightL a with
  | false =>
    have e := EW.out hr
    simp only [Prod.mk.injEq] at e
    obtain ⟨rfl, rfl⟩ := e
    obtain ⟨p5, c5, hv5⟩ := s5.shape
    subst hv5
    clear EF MP EW EFar EG C2 CS HS s5 EM
    go_wp2
    go_ret
    exact ⟨rfl, b⟩
  | true =>
    by_cases hn62 : 4611686018427387903 < n
    · have e := EFar.out hr hn62
      simp only [Prod.mk.injEq] at e
      obtain ⟨rfl, rfl⟩ := e
      obtain ⟨p5, c5, hv5⟩ := s5.shape
      subst hv5
      have g2 : (4611686018427387903 : Int) < (n : Int) := by omega
      clear EF MP EW EFar EG C2 CS HS s5 EM
      go_wp2
      go_ret
      exact ⟨rfl, b⟩
    · have e := EG.out hr (by omega)
      subst e
      obtain ⟨l0, l1, lb⟩ := EF.out rfl
      have M := MP.out hr (by omega)
      obtain ⟨p5, c5, hv5⟩ := s5.shape
      subst hv5
      have CP := C2.out bs lb (by omega) p5 c5 w6 s5
      rw [M] at CP
      have CP := Lib.hid CP
      have g2 : ¬ (4611686018427387903 : Int) < (n : Int) := by omega
      clear EF MP EW EFar EG C2 HS s5 l0 l1 lb M
      generalize bs.length = nb at *
      go_wp2_with fail
      refine CP.out.mono ?_
      rintro _ w7 ⟨v7, rfl, S7, b7⟩
      replace b := b.trans (b7.mono b.size)
      obtain ⟨p7, c7, hv7⟩ := S7.shape
      subst hv7
      replace S7 : FS w7 (.slice p7 1 c7) [frA n a] := S7
      obtain ⟨g7, o7, rfl, A7⟩ : ∃ g o, p7 = some ⟨g, o, none⟩ ∧ FA w7 g o [frA n a] := by
        rcases S7.at_ with h0 | h0
        · omega
        · exact h0
      obtain ⟨vd, va, D7, R7⟩ := A7.at_ 0 (by show 0 < 1; decide)
      obtain ⟨q7, d7, hva⟩ := D7.acks.shape
      subst hva
      have SA7 : SA w7 (.slice q7 m d7) a := by
        have := D7.acks
        rw [show ([frA n a][0]).acks.length = m from EM.out.symm] at this
        exact this
      have CS7 := Lib.hid (CS.out q7 d7 w7 b SA7)
      have k3 : w7.cell? ⟨g7, o7 + 3, none⟩ = some (.int .u64 (n : Int)) := by
        have := R7 3 _ rfl
        rw [Nat.zero_mul, Nat.add_zero] at this
        exact this
      have k7 : w7.cell? ⟨g7, o7 + 7, none⟩ = some (.slice q7 m d7) := by
        have := R7 7 _ rfl
        rw [Nat.zero_mul, Nat.add_zero] at this
        rw [this]
        rw [show ([frA n a][0]).acks.length = m from EM.out.symm]
      have lt7 := A7.lt
      clear CP b7 S7 A7 D7 R7 SA7 CS EM
      go_upto_region 11 with fail
      rename_i aK
      refine wp_region_seq ?_
      refine wpSeq_yield (S := fun _ => True) (yieldsIf_move rfl _ rfl (.int .i64 0) rfl) trivial ?_
      simp only [AP]
      refine wpSeq_yield (S := fun _ => True) (v := .bool true) (Or.inl ⟨by rfl, fun w' hw' => by go_simp⟩) trivial ?_
      simp only [AP]
      refine wpSeq_yield (S := fun _ => True) (yieldsIf_move rfl _ rfl (.bool true) rfl) trivial ?_
      simp only [AP]
      refine wpSeq_yield (S := fun _ => True) (yieldsIf_move rfl _ rfl (.int .i64 0) rfl) trivial ?_
      simp only [AP]
      refine wpSeq_yield (S := fun _ => True) (v := .bool true) (Or.inl ⟨by rfl, fun w' hw' => by go_simp⟩) trivial ?_
      simp only [AP]
      refine wpSeq_yield (S := fun _ => True) (yieldsIf_pick rfl _ _ _ rfl true rfl (.bool true) rfl) trivial ?_
      simp only [AP]
      refine wpSeq_yield (S := fun _ => True) (yieldsIf_move rfl _ rfl (.bool true) rfl) trivial ?_
      simp only [AP]
      refine wpSeq_yield (S := fun _ => True) (yieldsIf_move rfl _ rfl (.slice (some ⟨g7, o7, none⟩) 1 c7) rfl) trivial ?_
      simp only [AP]
      refine wpSeq_yield (S := fun _ => True) (v := .int .i64 1) (Or.inl ⟨by rfl, fun w' hw' => by go_simp⟩) trivial ?_
      simp only [AP]
      refine wpSeq_yield (S := fun _ => True) (v := .bool true) (Or.inl ⟨by rfl, fun w' hw' => by go_simp⟩) trivial ?_
      simp only [AP]
      refine wpSeq_yield (S := fun _ => True) (yieldsIf_pick rfl _ _ _ rfl true rfl (.bool true) rfl) trivial ?_
      simp only [AP]
      refine wpSeq_yield (S := fun _ => True) (yieldsIf_move rfl _ rfl (.bool true) rfl) trivial ?_
      simp only [AP]
      refine wpSeq_yield (S := fun _ => True) (yieldsIf_move rfl _ rfl (.slice (some ⟨g7, o7, none⟩) 1 c7) rfl) trivial ?_
      simp only [AP]
      refine wpSeq_yield (S := fun _ => True) (v := .pointer (some ⟨g7, o7, none⟩)) (Or.inl ⟨by rfl, fun w' hw' => by go_simp⟩) trivial ?_
      simp only [AP]
      refine wpSeq_yield (S := fun _ => True) (v := .pointer (some ⟨g7, o7 + 7, none⟩)) (Or.inl ⟨by rfl, fun w' hw' => by go_simp⟩) trivial ?_
      simp only [AP]
      refine wpSeq_yield (S := fun w' => w' = w7) (v := .slice q7 m d7) (Or.inl ⟨by rfl, fun w' hw' => by (rw [hw']; go_simp)⟩) rfl ?_
      simp only [AP]
      refine wpSeq_yield (S := fun _ => True) (yieldsIf_move rfl _ rfl (.slice p m c) rfl) trivial ?_
      simp only [AP]
      refine wpSeq_wp rfl ?_
      unfold Oper.wp execOp
      go_simp
      refine CS7.out.mono ?_
      rintro _ w8 ⟨rfl, b8⟩
      replace k3 : w8.cell? ⟨g7, o7 + 3, none⟩ = some (.int .u64 (n : Int)) := (b8.cell (p := ⟨g7, o7 + 3, none⟩) lt7).trans k3
      replace b := b.trans (b8.mono b.size)
      clear CS7 k7 lt7 b8
      go_simp
      refine wpSeq_yield (S := fun _ => True) (yieldsIf_pick rfl _ _ _ rfl true rfl (.bool true) rfl) trivial ?_
      simp only [AP]
      refine wpSeq_yield (S := fun _ => True) (yieldsIf_move rfl _ rfl (.bool true) rfl) trivial ?_
      simp only [AP]
      refine wpSeq_yield (S := fun _ => True) (yieldsIf_move rfl _ rfl (.slice (some ⟨g7, o7, none⟩) 1 c7) rfl) trivial ?_
      simp only [AP]
      refine wpSeq_yield (S := fun _ => True) (v := .pointer (some ⟨g7, o7, none⟩)) (Or.inl ⟨by rfl, fun w' hw' => by go_simp⟩) trivial ?_
      simp only [AP]
      refine wpSeq_yield (S := fun _ => True) (v := .pointer (some ⟨g7, o7 + 3, none⟩)) (Or.inl ⟨by rfl, fun w' hw' => by go_simp⟩) trivial ?_
      simp only [AP]
      refine wpSeq_yield (S := fun w' => w' = w8) (v := .int .u64 (n : Int)) (Or.inl ⟨by rfl, fun w' hw' => by (rw [hw']; go_simp)⟩) rfl ?_
      simp only [AP]
      refine wpSeq_yield (S := fun _ => True) (yieldsIf_move rfl _ rfl (.int .u64 (n : Int)) rfl) trivial ?_
      simp only [AP]
      refine wpSeq_yield (S := fun _ => True) (v := .bool true) (Or.inl ⟨by rfl, fun w' hw' => by go_simp⟩) trivial ?_
      simp only [AP]
      refine wpSeq_yield (S := fun _ => True) (yieldsIf_pick rfl _ _ _ rfl true rfl (.bool true) rfl) trivial ?_
      simp only [AP]
      refine wpSeq_yield (S := fun _ => True) (yieldsIf_assign rfl _ rfl (.bool true) rfl) trivial ?_
      simp only [AP]
      refine wpSeq_nil ?_
      refine aK _ _ ?_
      clear aK k3
      go_wp2
      go_ret
      exact ⟨rfl, b⟩
end Go.Proofs.Ytdlhclakdllogaa
/- Frames that are kept, as bytes and as frames; rows of frames of one's own. -/
namespace Go.Proofs.Ytdlhclakdllogaa
open Go.RowKit

def npL (l : List Fr) : List Fr := l.filter fun f => f.kind != 0
def keepS (acc : List Fr) (f : Fr) : List Fr := if (encF f).1 ≠ 0 ∨ (npL acc).length = 64 then acc else acc ++ [f]
def keptL (l : List Fr) : List Fr := l.foldl keepS []
def bytesK (acc : List Fr) : List Nat := acc.flatMap fun f => (encF f).2
def wantK (acc : List Fr) : List Fr := (npL acc).map trimF
theorem kept_succ (l : List Fr) (i : Nat) (h : i < l.length) : keptL (l.take (i + 1)) = keepS (keptL (l.take i)) l[i] := by
  unfold keptL
  rw [List.take_add_one, List.getElem?_eq_getElem h, List.foldl_append]
  rfl
theorem fold_kept (p : List Fr → Prop) (l : List Fr) : ∀ acc, (∀ a f, f ∈ l → p a → p (keepS a f)) → p acc → p (l.foldl keepS acc) := by
  induction l with
  | nil => exact fun _ _ h => h
  | cons f l ih => exact fun acc hs h => ih _ (fun a g hg => hs a g (by simp [hg])) (hs acc f (by simp) h)
theorem kept_np (l : List Fr) : (npL (keptL l)).length ≤ 64 :=
  fold_kept (fun a => (npL a).length ≤ 64) l [] (fun a f _ h => by
    unfold keepS
    split
    · exact h
    · rename_i hc
      rw [not_or] at hc
      unfold npL at *
      rw [List.filter_append, List.length_append]
      have : ([f].filter fun f => f.kind != 0).length ≤ 1 := List.length_filter_le _ _
      omega) (by decide)
theorem kept_ok (l : List Fr) (hl : ∀ f ∈ l, f.Ok) : ∀ f ∈ keptL l, f.Ok ∧ (encF f).1 = 0 ∧ f ∈ l :=
  fold_kept (fun a => ∀ f ∈ a, f.Ok ∧ (encF f).1 = 0 ∧ f ∈ l) l [] (fun a f hf h => by
    unfold keepS
    split
    · exact h
    · rename_i hc
      rw [not_or] at hc
      intro g hg
      rcases List.mem_append.1 hg with hg | hg
      · exact h g hg
      · simp only [List.mem_cons, List.not_mem_nil, or_false] at hg
        subst hg
        exact ⟨hl _ hf, Decidable.not_not.1 hc.1, hf⟩) (fun f h => by cases h)
theorem kept_len (l : List Fr) : (keptL l).length ≤ l.length := by
  have : ∀ (l : List Fr) (acc : List Fr), (l.foldl keepS acc).length ≤ acc.length + l.length := by
    intro l
    induction l with
    | nil => exact fun _ => Nat.le_refl _
    | cons f l ih =>
      intro acc
      have h := ih (keepS acc f)
      have h2 : (keepS acc f).length ≤ acc.length + 1 := by
        unfold keepS
        split
        · omega
        · rw [List.length_append]
          exact Nat.le_refl _
      show (l.foldl keepS (keepS acc f)).length ≤ acc.length + (l.length + 1)
      omega
  have h := this l []
  rw [List.length_nil, Nat.zero_add] at h
  exact h
theorem putO_len8 {l r : List Nat} (h : putO [] l = some r) : r.length ≤ 8 * l.length := by
  rw [(putO_bytes h).1]
  have hle : ∀ m : List Nat, (vputs m).length ≤ 8 * m.length := fun m => by
    induction m with
    | nil => exact Nat.le_refl _
    | cons x m ih =>
      rw [vputs_cons, List.length_append, List.length_cons, vput_length]
      have : 2 ^ vtop x ≤ 8 := by
        have := vtop_le x
        have h8 : 2 ^ vtop x ≤ 2 ^ 3 := Nat.pow_le_pow_right (by decide) this
        exact h8
      omega
  exact hle l
theorem enc_small {f : Fr} (h : (encF f).1 = 0) : (encF f).2.length ≤ 2600 ∧ knownK f.kind = true ∧ (f.kind = 2 → rightL f.acks = true) := by
  obtain ⟨b, hb, e⟩ := encF_ok h
  have hx : ¬ 2048 < f.data.length ∧ knownK f.kind = true ∧ (f.kind = 2 → rightL f.acks = true) := by
    unfold encF at h
    repeat' split at h
    all_goals first | (exfalso; revert h; decide) | skip
    rename_i h1 h2 h3 h4 h5
    exact ⟨h1, by simpa using h3, fun e => by
      cases hr : rightL f.acks with
      | true => rfl
      | false => exact absurd ⟨e, hr⟩ h4⟩
  refine ⟨?_, hx.2⟩
  have hl : (nums f).length ≤ 67 := by
    unfold nums
    split
    · rename_i h2
      obtain ⟨_, a32, _⟩ := rightL_at (hx.2.2 h2)
      unfold ackNums
      split
      · decide
      · rename_i p r e
        have := gaps_len r p
        rw [e, List.length_cons] at a32
        simp only [List.length_cons]
        omega
    all_goals (repeat' split) <;> simp only [List.length_cons, List.length_nil] <;> omega
  have := putO_len8 hb
  rw [e, List.length_append]
  omega
theorem bytesK_len : ∀ l : List Fr, (∀ f ∈ l, (encF f).1 = 0) → (bytesK l).length ≤ 2600 * l.length
  | [], _ => Nat.le_refl _
  | f :: l, h => by
    have := bytesK_len l fun g hg => h g (by simp [hg])
    have := (enc_small (h f (by simp))).1
    unfold bytesK at *
    rw [List.flatMap_cons, List.length_append, List.length_cons]
    omega
theorem bytesK_snoc (a : List Fr) (f : Fr) : bytesK (a ++ [f]) = bytesK a ++ (encF f).2 := by
  unfold bytesK
  rw [List.flatMap_append, List.flatMap_cons, List.flatMap_nil, List.append_nil]
theorem wantK_snoc (a : List Fr) (f : Fr) (h : f.kind ≠ 0) : wantK (a ++ [f]) = wantK a ++ [trimF f] := by
  unfold wantK npL
  rw [List.filter_append, List.map_append, List.filter_cons_of_pos (by simpa using h)]
  rfl
theorem wantK_pad (a : List Fr) (f : Fr) (h : f.kind = 0) : wantK (a ++ [f]) = wantK a := by
  unfold wantK npL
  rw [List.filter_append, List.filter_cons_of_neg (by simp [h])]
  simp
theorem wantK_len (a : List Fr) : (wantK a).length = (npL a).length := by
  unfold wantK
  rw [List.length_map]
/-- Frames with their slices. -/
def frL3 (x : Fr × Value × Value) : List Value := frL x.1 x.2.1 x.2.2
def OwF (B : Nat) (w : World) (v : Value) (ts : List (Fr × Value × Value)) : Prop := w.ownsRow B 26 8 v ts.length (ts.flatMap frL3)
theorem OwF.nil (B : Nat) (w : World) : OwF B w (.slice none 0 0) [] := ⟨rfl, .inl ⟨rfl, rfl⟩⟩
theorem flat8 : ∀ (ts : List (Fr × Value × Value)) (i j : Nat) (hi : i < ts.length), j < 8 → (ts.flatMap frL3)[i * 8 + j]? = (frL3 ts[i])[j]?
  | [], _, _, h, _ => absurd h (Nat.not_lt_zero _)
  | x :: ts, 0, j, _, hj => by
    rw [List.flatMap_cons, Nat.zero_mul, Nat.zero_add, List.getElem?_append_left (show j < 8 from hj)]
    rfl
  | x :: ts, i + 1, j, h, hj => by
    rw [List.flatMap_cons, List.getElem?_append_right (show 8 ≤ (i + 1) * 8 + j by omega), show (i + 1) * 8 + j - (frL3 x).length = i * 8 + j by show (i + 1) * 8 + j - 8 = _; omega]
    exact flat8 ts i j (by simp only [List.length_cons] at h; omega) hj
theorem flat8_length : ∀ ts : List (Fr × Value × Value), (ts.flatMap frL3).length = ts.length * 8
  | [] => rfl
  | x :: ts => by
    rw [List.flatMap_cons, List.length_append, flat8_length ts, List.length_cons]
    show 8 + ts.length * 8 = _
    omega
theorem OwF.of_block {B : Nat} {w w' : World} {v : Value} {l : List (Fr × Value × Value)} (h : OwF B w v l) (hb : ∀ g, v.ownBlock = some g → w'.heap[g]? = w.heap[g]?) : OwF B w' v l := by
  obtain ⟨hl, hr⟩ := h
  refine ⟨hl, hr.imp id ?_⟩
  rintro ⟨g, cap, cur, e, hB, hg, r⟩
  exact ⟨g, cap, cur, e, hB, by rw [hb g (by rw [e]; rfl)]; exact hg, r⟩
theorem OwF.lt {B : Nat} {w : World} {v : Value} {l : List (Fr × Value × Value)} (h : OwF B w v l) (g : Nat) (hg : v.ownBlock = some g) : B ≤ g ∧ g < w.heap.size := World.ownsRow.lt h g hg
theorem OwF.below {B : Nat} {w w' : World} {v : Value} {l : List (Fr × Value × Value)} (h : OwF B w v l) (hb : Below w.heap.size w w') : OwF B w' v l :=
  h.of_block fun g hg => hb.block g (h.lt g hg).2
theorem OwF.shape {B : Nat} {w : World} {v : Value} {l : List (Fr × Value × Value)} (h : OwF B w v l) : ∃ p c, v = .slice p l.length c := by
  obtain ⟨_, h | ⟨g, cap, cur, e, _⟩⟩ := h
  · exact ⟨none, 0, by rw [h.1, h.2]⟩
  · exact ⟨_, cap, e⟩
theorem OwF.fs {B : Nat} {w : World} {v : Value} {ts : List (Fr × Value × Value)} (h : OwF B w v ts) (hd : ∀ x ∈ ts, FD w x.1 x.2.1 x.2.2) : FS w v (ts.map (·.1)) := by
  obtain ⟨hl, h | ⟨g, cap, cur, e, hB, hg, hn, hc, hcs, ht⟩⟩ := h
  · have : ts = [] := List.length_eq_zero_iff.1 h.2
    subst this
    rw [h.1]
    exact FS.nil _ _ _
  · refine ⟨_, cap, by rw [e, List.length_map], by rw [List.length_map]; exact hn, ?_⟩
    by_cases h0 : ts = []
    · exact Or.inl (by rw [h0]; rfl)
    · right
      refine ⟨g, 0, rfl, fun i hi => ?_, ?_⟩
      · rw [List.length_map] at hi
        refine ⟨ts[i].2.1, ts[i].2.2, by rw [List.getElem_map]; exact hd _ (List.getElem_mem hi), fun j u hu => ?_⟩
        have hj : j < 8 := by
          have := (List.getElem?_eq_some_iff.1 hu).1
          exact this
        rw [List.getElem_map] at hu
        have h1 := flat8 ts i j hi hj
        rw [← ht, List.getElem?_take_of_lt (by omega)] at h1
        rw [cell_of_row w g _ cur _ _ hg, ← Array.getElem?_toList, Nat.zero_add, h1]
        exact hu
      · rcases Nat.lt_or_ge g w.heap.size with h1 | h1
        · exact h1
        · rw [Array.getElem?_eq_none h1] at hg
          cases hg
theorem info_fr_all : (Try.prog.info? 26).map (fun i => (i.size, i.bytes)) = some (8, 96) := by kernel_rfl
theorem info_fr_zero : (Try.prog.info? 26).map (fun i => i.zero) = some (some (.agg zeroFr)) := by kernel_rfl
theorem info_fr3 : ∃ i, Try.prog.info? 26 = some i ∧ i.size = 8 ∧ i.bytes = 96 ∧ i.zero = some (.agg zeroFr) := by
  have h1 := info_fr_all
  have h2 := info_fr_zero
  cases h : Try.prog.info? 26 with
  | none => rw [h] at h1; cases h1
  | some i =>
    rw [h] at h1 h2
    simp only [Option.map_some, Option.some.injEq, Prod.mk.injEq] at h1 h2
    exact ⟨i, rfl, h1.1, h1.2, h2⟩
/-- A frame behind a row of one's own. -/
theorem append_frame (B : Nat) (w0 w : World) (ty : TypeId) (v : Value) (ts : List (Fr × Value × Value)) (x : Fr × Value × Value) (h1 : ∀ u ∈ frL3 x, u.oneCell' = true) (O : OwF B w v ts) (hl : ts.length ≤ 1000) (b : Below B w0 w) (hB : B ≤ w.heap.size) :
    ∃ v' w', (Builtin.append_ #[29, 29] ty #[v, .slice (some ⟨w.heap.size, 0, none⟩) 1 1]).run Try.prog (w.alloc (.cells (frL3 x).toArray 26)) = .ok v' w' ∧ OwF B w' v' (ts ++ [x]) ∧ Below B w0 w' ∧ (w.alloc (.cells (frL3 x).toArray 26)).grownBy w' v.ownBlock ∧ (v'.ownBlock = v.ownBlock ∨ v'.ownBlock = some (w.heap.size + 1)) := by
  have b1 := (Below.refl w.heap.size w).alloc (Nat.le_refl _) (.cells (frL3 x).toArray 26)
  have O1 := O.below b1
  obtain ⟨i, hi, hs, hy, hz⟩ := info_fr3
  obtain ⟨v', w', hr, h2, h3, h4, h5⟩ := run_append_own_at (P := Try.prog) _ B 29 ty 26 i (.agg zeroFr) 8 96 Try.underlying29 hi hz hs hy rfl (by decide) v ts.length (ts.flatMap frL3) O1 ⟨w.heap.size, 0, none⟩ 1 1 (frL3 x) rfl
    (fun j u hu => by
      rw [Addr.add_lit, Nat.zero_add, (Blk.new w 26 (frL3 x).toArray).cell, List.getElem?_toArray]
      exact hu) h1 (by simp only [maxLen]; omega) (by omega) (by have := b1.size; omega)
  refine ⟨v', w', hr, ?_, below_grown' (b.trans (b1.mono hB)) h3 (fun k hk => (O1.lt k hk).1) (by have := b1.size; omega), h3, by rw [size_alloc1] at h5; exact h5⟩
  unfold OwF
  rw [List.length_append, List.flatMap_append, List.flatMap_cons, List.flatMap_nil, List.append_nil]
  exact h2
end Go.Proofs.Ytdlhclakdllogaa
