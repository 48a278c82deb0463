/- The law FrameCut, by contract (printed by gen11/uv.py). -/
import Derived.Test.YtdlhclakdllogaaUt
namespace Go.Proofs.Ytdlhclakdllogaa
open Go.RowKit

theorem nums_cons (f : Fr) : ∃ k l, nums f = k :: l := by
  unfold nums
  repeat' split
  all_goals exact ⟨_, _, rfl⟩
theorem gaps_len (r : List (Nat × Nat)) (p : Nat × Nat) : (gaps p r).length ≤ 2 * r.length := Nat.le_of_eq (gaps_length r p)
theorem nums_len (f : Fr) (h : f.acks.length ≤ 100) : (nums f).length ≤ 300 := by
  unfold nums
  split
  · unfold ackNums
    split
    · decide
    · rename_i p r e
      have := gaps_len r p
      rw [e, List.length_cons] at h
      simp only [List.length_cons]
      omega
  all_goals (repeat' split) <;> simp only [List.length_cons, List.length_nil] <;> omega
/-- Of what is encoded. -/
theorem encF_ok {f : Fr} (h : (encF f).1 = 0) : ∃ b, putO [] (nums f) = some b ∧ (encF f).2 = b ++ f.data := by
  unfold encF at *
  repeat' split at h
  all_goals first | (exfalso; revert h; decide) | skip
  rename_i h1 h2 h3 h4 h5
  rw [if_neg h1, if_neg h2, if_neg h3, if_neg h4, if_neg h5]
  cases e : putO [] (nums f) with
  | none => rw [e] at h; exact absurd h (show ¬ (2 : Nat) = 0 by decide)
  | some b => exact ⟨b, rfl, rfl⟩
theorem putO_bytes {l b : List Nat} (h : putO [] l = some b) : b = vputs l ∧ ∀ n ∈ l, n < 4611686018427387904 := by
  unfold putO at h
  split at h
  · rename_i ha
    exact ⟨by rw [← Option.some.inj h, List.nil_append], fun n hn => of_decide_eq_true (List.all_eq_true.1 ha n hn)⟩
  · cases h
theorem enc_facts {f : Fr} (hf : f.Ok) (h : (encF f).1 = 0) (hd : f.data.length ≤ 3000) (ha : f.acks.length ≤ 100) : 0 < (encF f).2.length ∧ (encF f).2.length ≤ 100000 ∧ ∀ x ∈ (encF f).2, x < 256 := by
  obtain ⟨b, hb, e⟩ := encF_ok h
  obtain ⟨eb, hn⟩ := putO_bytes hb
  rw [e]
  refine ⟨?_, ?_, fun x hx => ?_⟩
  · obtain ⟨k, l, ek⟩ := nums_cons f
    rw [eb, ek, vputs_cons, List.length_append, List.length_append]
    have := vput_pos k
    omega
  · have := putO_len hb (by have := nums_len f ha; omega)
    rw [List.length_append]
    omega
  · rcases List.mem_append.1 hx with hx | hx
    · rw [eb] at hx
      exact vputs_bytes _ hn x hx
    · exact hf.data x hx
theorem par_nil {P : List Nat → Nat × List Fr} (PM : ParM P) : P [] = (0, []) := PM.back [] (fun f h => by cases h) (by decide)
set_option maxHeartbeats 4000000 in
set_option maxRecDepth 100000 in
theorem fcut_c {P : List Nat → Nat × List Fr} (EC : EncC) (PC : ParC P) (PM : ParM P) (f : Fr) (hf : f.Ok) (vd va : Value) (cut : Nat) (hcut : cut < 65536) (W : World) (hd : FD W f vd va) :
    Calls Try.prog 7 #[frV f vd va, .int .u16 (cut : Int)] W fun e w' => e = .returned (.bool true) ∧ Below W.heap.size W w' := by
  have AW := Lib.hid (fawake_c EC)
  have GC := Lib.hid (fun w (h : FD w f vd va) => great_c [f] (some ⟨w.heap.size, 0, none⟩) 1 1 (by decide) _ (fs_one w f vd va h))
  have G1 := Lib.hid (great_one (f := f))
  have C1 := Lib.hid (fun h1 h2 => EC f hf h1 h2 vd va)
  have C2 := Lib.hid (fun b (hb : ∀ x ∈ b, x < 256) (hn : b.length ≤ 300000) p c W h => PC b p b.length c hb hn W h)
  have EF := Lib.hid (fun h => enc_facts hf h)
  have MC := Lib.hid (PM.cut f hf)
  have MN := Lib.hid (par_nil PM)
  have HD := Lib.hid hd
  clear EC PC PM hf hd
  cases hg : greatL [f] with
  | true =>
    rw [hg] at GC
    clear G1 C1 C2 EF MC MN hg
    obtain ⟨k, i, o, n, c, fn, d, a⟩ := f
    show Calls Try.prog 7 #[.agg #[.int .u64 (k : Int), .int .u64 (i : Int), .int .u64 (o : Int), .int .u64 (n : Int), .int .u64 (c : Int), .bool fn, vd, va], .int .u16 (cut : Int)] W _
    go_enter Try.func7, Try.ntmps7
    go_upto_region 0 with fail
    rename_i aK
    refine wp_region_seq ?_
    refine wpSeq_wp rfl ?_
    unfold Oper.wp execOp
    go_simp
    refine wpSeq_yield (S := fun _ => True) (yieldsIf_assign rfl _ rfl (.bool false) rfl) trivial ?_
    simp only [AP]
    refine wpSeq_nil ?_
    refine aK _ _ ?_
    clear aK
    have K := Blk.new W 26 #[.int .u64 (k : Int), .int .u64 (i : Int), .int .u64 (o : Int), .int .u64 (n : Int), .int .u64 (c : Int), .bool fn, vd, va]
    have b := (Below.refl W.heap.size W).alloc (Nat.le_refl _) (.cells #[.int .u64 (k : Int), .int .u64 (i : Int), .int .u64 (o : Int), .int .u64 (n : Int), .int .u64 (c : Int), .bool fn, vd, va] 26)
    generalize World.alloc W _ = W2 at *
    replace K := Lib.hid K
    go_wp2_with fail
    refine (AW.out _).mono ?_
    rintro _ w1 ⟨rfl, b1⟩
    replace K := Lib.hid (K.out.below' b1)
    replace b := b.trans (b1.mono b.size)
    clear b1 AW
    have rg : w1.rangeAt W.heap.size 0 [.int .u64 (k : Int), .int .u64 (i : Int), .int .u64 (o : Int), .int .u64 (n : Int), .int .u64 (c : Int), .bool fn, vd, va] := blk_range K.out
    go_upto_region 3 with fail
    rename_i aK
    refine wp_region_seq ?_
    refine wpSeq_yield (S := fun w' => w' = w1) (show YieldsIf _ _ _ _ (.agg #[.int .u64 (k : Int), .int .u64 (i : Int), .int .u64 (o : Int), .int .u64 (n : Int), .int .u64 (c : Int), .bool fn, vd, va]) _ from yieldsIf_load_mid (S := fun w' => w' = w1) rfl 26 _ rfl W.heap.size 0 rfl [.int .u64 (k : Int), .int .u64 (i : Int), .int .u64 (o : Int), .int .u64 (n : Int), .int .u64 (c : Int), .bool fn, vd, va] _ (fun _ h => h ▸ rg) Try.underlying26 rfl info_fr) rfl ?_
    simp only [AP]
    refine wpSeq_wp rfl ?_
    unfold Oper.wp execOp
    go_simp
    refine wpSeq_wp rfl ?_
    unfold Oper.wp execOp
    go_simp
    refine (GC.out w1 (HD.out.below b)).mono ?_
    rintro _ w3 ⟨rfl, b3⟩
    have b2 := (Below.refl w1.heap.size w1).alloc (Nat.le_refl _) (.cells #[.int .u64 (k : Int), .int .u64 (i : Int), .int .u64 (o : Int), .int .u64 (n : Int), .int .u64 (c : Int), .bool fn, vd, va] 26)
    replace b3 := b2.trans (b3.mono b2.size)
    replace K := Lib.hid (K.out.below' b3)
    replace b := b.trans (b3.mono b.size)
    clear b3 b2 rg GC
    go_simp
    refine wpSeq_nil ?_
    refine aK _ _ ?_
    clear aK
    go_wp2
    go_ret
    exact ⟨rfl, b⟩
  | false =>
    rw [hg] at GC
    have B1 := (G1.out hg).1
    have B2 := (G1.out hg).2
    clear G1 hg
    have EF := Lib.hid (fun h => EF.out h B1 B2)
    obtain ⟨ec, hec⟩ : ∃ ec, encF f = ec := ⟨_, rfl⟩
    have CE := Lib.hid (fun w h => C1.out B1 B2 w h)
    unfold EncPost at CE
    rw [hec] at CE EF MC
    obtain ⟨code, bs⟩ := ec
    clear C1 B1 B2 hec
    obtain ⟨k, i, o, n, c, fn, d, a⟩ := f
    dsimp only at CE EF MC
    show Calls Try.prog 7 #[.agg #[.int .u64 (k : Int), .int .u64 (i : Int), .int .u64 (o : Int), .int .u64 (n : Int), .int .u64 (c : Int), .bool fn, vd, va], .int .u16 (cut : Int)] W _
    go_enter Try.func7, Try.ntmps7
    go_upto_region 0 with fail
    rename_i aK
    refine wp_region_seq ?_
    refine wpSeq_wp rfl ?_
    unfold Oper.wp execOp
    go_simp
    refine wpSeq_yield (S := fun _ => True) (yieldsIf_assign rfl _ rfl (.bool false) rfl) trivial ?_
    simp only [AP]
    refine wpSeq_nil ?_
    refine aK _ _ ?_
    clear aK
    have K := Blk.new W 26 #[.int .u64 (k : Int), .int .u64 (i : Int), .int .u64 (o : Int), .int .u64 (n : Int), .int .u64 (c : Int), .bool fn, vd, va]
    have b := (Below.refl W.heap.size W).alloc (Nat.le_refl _) (.cells #[.int .u64 (k : Int), .int .u64 (i : Int), .int .u64 (o : Int), .int .u64 (n : Int), .int .u64 (c : Int), .bool fn, vd, va] 26)
    generalize World.alloc W _ = W2 at *
    replace K := Lib.hid K
    go_wp2_with fail
    refine (AW.out _).mono ?_
    rintro _ w1 ⟨rfl, b1⟩
    replace K := Lib.hid (K.out.below' b1)
    replace b := b.trans (b1.mono b.size)
    clear b1 AW
    have rg : w1.rangeAt W.heap.size 0 [.int .u64 (k : Int), .int .u64 (i : Int), .int .u64 (o : Int), .int .u64 (n : Int), .int .u64 (c : Int), .bool fn, vd, va] := blk_range K.out
    go_upto_region 3 with fail
    rename_i aK
    refine wp_region_seq ?_
    refine wpSeq_yield (S := fun w' => w' = w1) (show YieldsIf _ _ _ _ (.agg #[.int .u64 (k : Int), .int .u64 (i : Int), .int .u64 (o : Int), .int .u64 (n : Int), .int .u64 (c : Int), .bool fn, vd, va]) _ from yieldsIf_load_mid (S := fun w' => w' = w1) rfl 26 _ rfl W.heap.size 0 rfl [.int .u64 (k : Int), .int .u64 (i : Int), .int .u64 (o : Int), .int .u64 (n : Int), .int .u64 (c : Int), .bool fn, vd, va] _ (fun _ h => h ▸ rg) Try.underlying26 rfl info_fr) rfl ?_
    simp only [AP]
    refine wpSeq_wp rfl ?_
    unfold Oper.wp execOp
    go_simp
    refine wpSeq_wp rfl ?_
    unfold Oper.wp execOp
    go_simp
    refine (GC.out w1 (HD.out.below b)).mono ?_
    rintro _ w3 ⟨rfl, b3⟩
    have b2 := (Below.refl w1.heap.size w1).alloc (Nat.le_refl _) (.cells #[.int .u64 (k : Int), .int .u64 (i : Int), .int .u64 (o : Int), .int .u64 (n : Int), .int .u64 (c : Int), .bool fn, vd, va] 26)
    replace b3 := b2.trans (b3.mono b2.size)
    replace K := Lib.hid (K.out.below' b3)
    replace b := b.trans (b3.mono b.size)
    clear b3 b2 rg GC
    go_simp
    refine wpSeq_nil ?_
    refine aK _ _ ?_
    clear aK
    have rg5 : w3.rangeAt W.heap.size 0 [.int .u64 (k : Int), .int .u64 (i : Int), .int .u64 (o : Int), .int .u64 (n : Int), .int .u64 (c : Int), .bool fn, vd, va] := blk_range K.out
    go_upto_region 5 with fail
    rename_i aK
    refine wp_region_seq ?_
    refine wpSeq_yield (S := fun w' => w' = w3) (show YieldsIf _ _ _ _ (.agg #[.int .u64 (k : Int), .int .u64 (i : Int), .int .u64 (o : Int), .int .u64 (n : Int), .int .u64 (c : Int), .bool fn, vd, va]) _ from yieldsIf_load_mid (S := fun w' => w' = w3) rfl 26 _ rfl W.heap.size 0 rfl [.int .u64 (k : Int), .int .u64 (i : Int), .int .u64 (o : Int), .int .u64 (n : Int), .int .u64 (c : Int), .bool fn, vd, va] _ (fun _ h => h ▸ rg5) Try.underlying26 rfl info_fr) rfl ?_
    simp only [AP]
    refine wpSeq_wp rfl ?_
    unfold Oper.wp execOp
    go_simp
    refine (CE.out _ (HD.out.below b)).mono ?_
    rintro _ w5 ⟨v5, rfl, O, b5⟩
    replace K := Lib.hid (K.out.below' b5)
    replace b := b.trans (b5.mono b.size)
    have s5 := O.sb
    go_simp
    clear O b5 rg5 CE
    refine wpSeq_yield (S := fun _ => True) (yieldsIf_move rfl _ rfl (.tuple #[v5, .int .i64 (code : Int)]) rfl) trivial ?_
    simp only [AP]
    refine wpSeq_yield (S := fun _ => True) (v := v5) (Or.inl ⟨by rfl, fun w' hw' => by go_simp⟩) trivial ?_
    simp only [AP]
    refine wpSeq_yield (S := fun _ => True) (v := .int .i64 (code : Int)) (Or.inl ⟨by rfl, fun w' hw' => by go_simp⟩) trivial ?_
    simp only [AP]
    refine wpSeq_yield (S := fun _ => True) (yieldsIf_assign rfl _ rfl (v5) rfl) trivial ?_
    simp only [AP]
    refine wpSeq_yield (S := fun _ => True) (yieldsIf_assign rfl _ rfl (.int .i64 (code : Int)) rfl) trivial ?_
    simp only [AP]
    refine wpSeq_nil ?_
    refine aK _ _ ?_
    clear aK
    by_cases hc : code = 0
    · subst hc
      obtain ⟨l0, l1, lb⟩ := EF.out rfl
      obtain ⟨p5, c5, hv5⟩ := s5.shape
      subst hv5
      have EL := Lib.hid (show bs.length = bs.length from rfl)
      obtain ⟨nb, hnb⟩ : ∃ nb, bs.length = nb := ⟨_, rfl⟩
      rw [hnb] at s5 l0 l1
      obtain ⟨q, hq⟩ : ∃ q, cut % nb = q := ⟨_, rfl⟩
      have qn : q < nb := hq ▸ Nat.mod_lt _ l0
      have lc5 := s5.len.2
      have sq := s5.head q (by omega)
      have lq : (bs.take q).length = q := by rw [List.length_take]; omega
      have R := Lib.hid (show P (bs.take q) = if q = 0 then (0, []) else (3, []) by
        by_cases h0 : q = 0
        · rw [if_pos h0, h0, List.take_zero]
          exact MN.out
        · rw [if_neg h0]
          exact MC.out rfl q (by omega) (by rw [hnb]; exact qn))
      have CP := C2.out (bs.take q) (fun x hx => lb x (List.mem_of_mem_take hx)) (by rw [lq]; omega) p5 c5 w5
      rw [lq, R.out] at CP
      have CP := Lib.hid (CP sq)
      have tm : ((cut : Nat) : Int).tmod (nb : Int) = (q : Int) := by rw [← hq]; exact (Int.ofNat_tmod cut nb).symm
      have n0 : ¬ (nb : Int) = 0 := by omega
      have n1 : ¬ nb = 0 := by omega
      have wc : IntKind.i64.wrap (cut : Int) = (cut : Int) := by rw [IntKind.wrap_i64]; omega
      have wq : IntKind.i64.wrap (q : Int) = (q : Int) := by rw [IntKind.wrap_i64]; omega
      rw [hnb]
      clear C2 MC MN EF lb lq sq R s5 hq HD
      go_upto_region 8 with fail
      rename_i aK
      refine wp_region_seq ?_
      refine wpSeq_yield (S := fun _ => True) (yieldsIf_move rfl _ rfl (.int .u16 (cut : Int)) rfl) trivial ?_
      simp only [AP]
      refine wpSeq_yield (S := fun _ => True) (v := .int .i64 (cut : Int)) (Or.inl ⟨by rfl, fun w' hw' => by go_simp⟩) trivial ?_
      simp only [AP]
      refine wpSeq_yield (S := fun _ => True) (yieldsIf_move rfl _ rfl (.slice p5 nb c5) rfl) trivial ?_
      simp only [AP]
      refine wpSeq_yield (S := fun _ => True) (v := .int .i64 (nb : Int)) (Or.inl ⟨by rfl, fun w' hw' => by go_simp⟩) trivial ?_
      simp only [AP]
      refine wpSeq_yield (S := fun _ => True) (v := .int .i64 (q : Int)) (Or.inl ⟨by rfl, fun w' hw' => by (go_simp)⟩) trivial ?_
      simp only [AP]
      refine wpSeq_yield (S := fun _ => True) (yieldsIf_assign rfl _ rfl (.int .i64 (q : Int)) rfl) trivial ?_
      simp only [AP]
      refine wpSeq_nil ?_
      refine aK _ _ ?_
      clear aK tm n0 n1 wc wq
      go_upto_region 9 with fail
      rename_i aK
      refine wp_region_seq ?_
      refine wpSeq_yield (S := fun _ => True) (yieldsIf_move rfl _ rfl (.slice p5 nb c5) rfl) trivial ?_
      simp only [AP]
      refine wpSeq_yield (S := fun _ => True) (yieldsIf_move rfl _ rfl (.int .i64 (q : Int)) rfl) trivial ?_
      simp only [AP]
      refine wpSeq_yield (S := fun _ => True) (yieldsIf_head rfl _ _ rfl p5 nb c5 q rfl rfl (by omega)) trivial ?_
      simp only [AP]
      refine wpSeq_wp rfl ?_
      unfold Oper.wp execOp
      go_simp
      refine CP.out.mono ?_
      rintro _ w6 ⟨v6, rfl, S6, b6⟩
      replace b := b.trans (b6.mono b.size)
      clear CP b6
      by_cases h0 : q = 0
      · subst h0
        rw [if_pos rfl] at S6 ⊢
        obtain ⟨p6, c6, hv6⟩ := S6.shape
        subst hv6
        clear S6
        go_simp
        refine wpSeq_yield (S := fun _ => True) (yieldsIf_move rfl _ rfl (.tuple #[.slice p6 0 c6, .int .i64 0]) rfl) trivial ?_
        simp only [AP]
        refine wpSeq_yield (S := fun _ => True) (v := .slice p6 0 c6) (Or.inl ⟨by rfl, fun w' hw' => by go_simp⟩) trivial ?_
        simp only [AP]
        refine wpSeq_yield (S := fun _ => True) (v := .int .i64 0) (Or.inl ⟨by rfl, fun w' hw' => by go_simp⟩) trivial ?_
        simp only [AP]
        refine wpSeq_yield (S := fun _ => True) (yieldsIf_assign rfl _ rfl (.slice p6 0 c6) rfl) trivial ?_
        simp only [AP]
        refine wpSeq_yield (S := fun _ => True) (yieldsIf_assign rfl _ rfl (.int .i64 0) rfl) trivial ?_
        simp only [AP]
        refine wpSeq_nil ?_
        refine aK _ _ ?_
        clear aK
        go_wp2
        go_ret
        exact ⟨rfl, b⟩
      · rw [if_neg h0] at S6 ⊢
        obtain ⟨p6, c6, hv6⟩ := S6.shape
        subst hv6
        clear S6
        have q0 : ((q : Int) == 0) = false := beq_eq_false_iff_ne.2 (by omega)
        go_simp
        refine wpSeq_yield (S := fun _ => True) (yieldsIf_move rfl _ rfl (.tuple #[.slice p6 0 c6, .int .i64 3]) rfl) trivial ?_
        simp only [AP]
        refine wpSeq_yield (S := fun _ => True) (v := .slice p6 0 c6) (Or.inl ⟨by rfl, fun w' hw' => by go_simp⟩) trivial ?_
        simp only [AP]
        refine wpSeq_yield (S := fun _ => True) (v := .int .i64 3) (Or.inl ⟨by rfl, fun w' hw' => by go_simp⟩) trivial ?_
        simp only [AP]
        refine wpSeq_yield (S := fun _ => True) (yieldsIf_assign rfl _ rfl (.slice p6 0 c6) rfl) trivial ?_
        simp only [AP]
        refine wpSeq_yield (S := fun _ => True) (yieldsIf_assign rfl _ rfl (.int .i64 3) rfl) trivial ?_
        simp only [AP]
        refine wpSeq_nil ?_
        refine aK _ _ ?_
        clear aK
        go_wp2
        go_ret
        exact ⟨rfl, b⟩
    · have c0 : ¬ (code : Int) = 0 := by omega
      clear C2 MC MN EF s5 HD
      go_wp2
      go_ret
      exact ⟨rfl, b⟩
end Go.Proofs.Ytdlhclakdllogaa
