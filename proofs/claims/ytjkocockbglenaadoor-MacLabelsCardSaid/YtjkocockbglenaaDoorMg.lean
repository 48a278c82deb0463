/- mac: the contract of Expand. -/
import Derived.Test.YtjkocockbglenaaDoorMf
namespace Go.Proofs.YtjkocockbglenaaDoor
open Go.RowKit

structure ExW (cu sq : Nat → Nat) (s info : List Nat) (w wr : World) (vb vl : Value) (k : Nat) : Prop where
  sec : Blk wr w.heap.size 25 (Iv .u8 (NI s))
  own : OwL (w.heap.size + 1) wr vb (okm cu sq s info k)
  last : SB wr vl (Ti cu sq s info k)
  b : Below w.heap.size w wr
theorem ExW.below {cu sq : Nat → Nat} {s info : List Nat} {w wr w2 : World} {vb vl : Value} {k : Nat} (h : ExW cu sq s info w wr vb vl k) (hb : Below wr.heap.size wr w2) : ExW cu sq s info w w2 vb vl k :=
  ⟨h.sec.below' hb, h.own.below hb, h.last.below hb, h.b.trans (hb.mono h.b.size)⟩

set_option maxHeartbeats 4000000 in
set_option maxRecDepth 100000 in
theorem expand_out (s : List Nat) (w : World) (v : Value) (n : Int) (hn : n < 0 ∨ 8160 < n) :
    Calls Tryd.prog 12 #[.agg (Iv .u8 (NI s)), v, .int .i64 n] w fun e w' => e = .returned (.tuple #[.slice none 0 0, .int .i64 2]) ∧ Below w.heap.size w w' := by
  have b0 := (Below.refl w.heap.size w).alloc (Nat.le_refl _) (.cells (Iv .u8 (NI s)) 25)
  go_enter Tryd.func12, Tryd.ntmps12
  by_cases h : n < 0
  · go_wp2
    exact bodyPost_ret (results_tmp2 rfl _ _ _) rfl ⟨rfl, b0⟩
  · have h2 : 8160 < n := by omega
    go_wp2
    exact bodyPost_ret (results_tmp2 rfl _ _ _) rfl ⟨rfl, b0⟩

set_option maxHeartbeats 4000000 in
set_option maxRecDepth 100000 in
theorem expand_any (cu sq : Nat → Nat) (w : World) (s info : List Nat) (v : Value) (n : Nat) (T : Tab w cu) (S : Sq w sq) (ls : s.length = 32) (bs : Bytes s) (hv : SB w v info) (bi : Bytes info) (li : info.length < 1000000) (hn : n ≤ 8160) :
    Calls Tryd.prog 12 #[.agg (Iv .u8 (NI s)), v, .int .i64 (n : Int)] w fun e w' => ∃ p, e = .returned (.tuple #[.slice p n n, .int .i64 0]) ∧ SB w' (.slice p n n) (expandL cu sq s info n) ∧ Below w.heap.size w w' ∧ (p = none ∨ ∃ g, p = some ⟨g, 0, none⟩ ∧ w.heap.size ≤ g) := by
  have hv' := hv
  obtain ⟨pp, cp, rfl, _⟩ := hv'
  go_enter Tryd.func12, Tryd.ntmps12
  have i0 : ¬ ((n : Int) < 0) := by omega
  have i1 : ¬ (8160 < (n : Int)) := by omega
  go_upto_region 3 with fail
  have F0 : ExW cu sq s info w (w.alloc (.cells (Iv .u8 (NI s)) 25)) (.slice none 0 0) (.slice none 0 0) 0 :=
    ⟨Blk.new _ _ _, OwL.nil _ _, SB.nil _ _ _, (Below.refl _ _).alloc (Nat.le_refl _) _⟩
  generalize World.alloc w _ = W at F0 ⊢
  clear i0 i1
  go_wp2_with fail
  go_loopw [8, 9, 10] (fun vb vl i wr => ∃ k : Nat, k ≤ (n + 31) / 32 ∧ i = .int .i64 ((k + 1 : Nat) : Int) ∧ ExW cu sq s info w wr vb vl k) (fun _ _ i _ => 300 - (intOf i).toNat)
  case atStart => exact ⟨0, by omega, rfl, F0⟩
  case round =>
    obtain ⟨k, hk, rfl, F⟩ := hrel
    clear F0
    have lo := okm_length cu sq s info k
    by_cases hlt : 32 * k < n
    · obtain ⟨pb, cb, eb, hcb, _⟩ := F.own.sb
      rw [lo] at eb hcb
      subst eb
      obtain ⟨pl, cl, rfl, _⟩ := F.last
      have FB := F.b
      have d1 := (Below.refl wr.heap.size wr).alloc (Nat.le_refl _) (.cells #[.int .u8 ((k : Int) + 1)] 5)
      have X1 : SB (wr.alloc (.cells #[.int .u8 ((k : Int) + 1)] 5)) (.slice (some ⟨wr.heap.size, 0, none⟩) 1 1) [(k + 1) % 256] := by
        have h := Blk.new wr 5 (Iv .u8 (NI [(k + 1) % 256]))
        have hb := BA.of_blk h
        rw [show Iv .u8 (NI [(k + 1) % 256]) = #[.int .u8 ((k : Int) + 1)] by rw [Nat.mod_eq_of_lt (by omega)]; rfl] at hb
        exact SB.of_ba' hb rfl (Nat.le_refl _)
      have d2 := (Below.refl _ (wr.alloc (.cells #[.int .u8 ((k : Int) + 1)] 5))).alloc (Nat.le_refl _) (.cells #[.slice pl (Ti cu sq s info k).length cl, .slice pp info.length cp, .slice (some ⟨wr.heap.size, 0, none⟩) 1 1] 22)
      have P2 := sp_three 22 (F.last.below d1) ((hv.below FB).below d1) X1
      have d3 := d1.trans (d2.mono d1.size)
      have S2 : SB _ (.slice (some ⟨w.heap.size, 0, none⟩) 32 32) s := SB.of_ba' (c := 32) (n := 32) ((BA.of_blk F.sec).below d3) ls.symm (by rw [ls]; exact Nat.le_refl _)
      have CS := Lib.hid (sum_any cu sq _ (.slice (some ⟨w.heap.size, 0, none⟩) 32 32) _ s _ ((T.below FB).below d3) ((S.below FB).below d3) S2 P2 bs (fun x hx => by
        simp only [List.mem_cons, List.not_mem_nil, or_false] at hx
        rcases hx with rfl | rfl | rfl
        · exact Ti_bytes _ _ _ _ _
        · exact bi
        · exact fun y hy => by rw [List.mem_singleton.1 hy]; exact Nat.mod_lt _ (by decide)) (by simp) (by simp) (by omega) (by have := Ti_le cu sq s info k; simp; omega))
      have eT : hmac cu sq s [Ti cu sq s info k, info, [(k + 1) % 256]].flatten = Ti cu sq s info (k + 1) := rfl
      rw [eT, size_alloc] at CS
      have lT := Ti_length cu sq s info k
      obtain ⟨t, ht⟩ : ∃ t, t = Ti cu sq s info (k + 1) := ⟨_, rfl⟩
      rw [← ht] at lT CS
      have HT := Lib.hid ht
      clear ht
      have j2 : ((32 * k : Nat) : Int) < (n : Int) := by omega
      clear X1 P2 S2 eT d1 d2 lo
      go_upto_region 7 with fail
      go_wp2_with fail
      refine CS.out.mono ?_
      rintro _ w1 ⟨rfl, b1⟩
      have F1 := F.below (d3.trans (b1.mono d3.size))
      have ow1 := F1.own.lt
      clear CS b1 d3 F
      go_upto_region 8 with (refine wpList_store_row rfl 25 _ _ rfl (w1.heap.size) (Iv .u8 (NI t)) rfl rfl 25 _ (Blk.new w1 25 (Iv .u8 (List.replicate 32 0))) (info_N32 _ lT) (by rw [Iv_size, Iv_size, NI_length, lT]; rfl) (Iv_one _ _) ?_)
      change Code.wp _ _ _ _ (World.setRow (w1.alloc (.cells (Iv .u8 (List.replicate 32 0)) 25)) w1.heap.size _)
      have b2 := below_setRow ((Below.refl w1.heap.size w1).alloc (Nat.le_refl _) (.cells (Iv .u8 (List.replicate 32 0)) 25)) (Nat.le_refl w1.heap.size) (Iv .u8 (NI t))
      have A2 := BA.of_blk ((Blk.new w1 25 (Iv .u8 (List.replicate 32 0))).row (Iv .u8 (NI t)))
      replace F1 := F1.below b2
      clear b2
      generalize World.setRow _ _ _ = V at F1 A2 ⊢
      generalize w1.heap.size = G at A2 ow1 ⊢
      simp only [Act.put]
      have lo := okm_length cu sq s info k
      obtain ⟨v3, w3, r3, O3, g3, _⟩ := append_ba (w.heap.size + 1) V 22 _ _ t F1.own G 0 32 A2 (by rw [lo, lT]; omega) (by have := F1.sec.lt; omega)
      rw [lT] at r3
      have F3 : ExW cu sq s info w w3 v3 (.slice (some ⟨G, 0, none⟩) 32 32) (k + 1) := by
        refine ⟨(g3.block _ F1.sec.lt (fun e => ?_)).trans F1.sec, by rw [HT.out] at O3; exact O3, ?_, below_grown' F1.b g3 (fun j hj => ?_) F1.b.size⟩
        · have := ow1 _ e.symm
          omega
        · rw [← HT.out]
          exact SB.of_ba' (A2.of_block (g3.block _ A2.blk (fun e => by have := ow1 _ e.symm; omega))) lT.symm (by rw [lT]; exact Nat.le_refl _)
        · have := ow1 _ hj
          omega
      have HF := Lib.hid F3
      clear F1 F3 A2 O3 g3 ow1 HT lo
      go_wp2_with (refine wpList_append_run rfl _ _ _ _ rfl _ _ rfl rfl _ _ r3 ?_)
      exact ⟨⟨k + 1, by omega, by go_num, HF.out⟩, by simp [intOf]; omega⟩
    · obtain ⟨pb, cb, eb, hcb, _⟩ := F.own.sb
      rw [lo] at eb hcb
      subst eb
      have ek : k = (n + 31) / 32 := by omega
      have j2 : ¬ (((32 * k : Nat) : Int) < (n : Int)) := by omega
      have FB := F.b
      have O := F.own
      have e1 : expandL cu sq s info n = (okm cu sq s info k).take n := by rw [ek]; rfl
      have H : SB wr (.slice pb n n) (expandL cu sq s info n) ∧ (pb = none ∨ ∃ g, pb = some ⟨g, 0, none⟩ ∧ w.heap.size ≤ g) := by
        have ln := expandL_length cu sq s info n
        rcases O.row with ⟨e, _⟩ | ⟨g, cap, e, hg, _, _, hb, _⟩
        · simp only [Value.slice.injEq] at e
          obtain ⟨rfl, _, _⟩ := e
          have h0 : n = 0 := by omega
          refine ⟨⟨none, n, by rw [ln], by omega, Or.inl (List.eq_nil_of_length_eq_zero (by omega))⟩, Or.inl rfl⟩
        · simp only [Value.slice.injEq] at e
          obtain ⟨rfl, _, _⟩ := e
          rw [e1] at ln ⊢
          exact ⟨SB.of_ba' (hb.take n) ln.symm (by omega), Or.inr ⟨g, rfl, by omega⟩⟩
      have k0 : (0 : Int) ≤ (n : Int) := by omega
      have k1 : (n : Int) ≤ (cb : Int) := by omega
      have k2 : n ≤ cb := by omega
      have HH := Lib.hid H
      clear H F O e1 ek
      go_wp2
      exact bodyPost_ret (results_tmp2 rfl _ _ _) rfl ⟨pb, rfl, HH.out.1, FB, HH.out.2⟩
end Go.Proofs.YtjkocockbglenaaDoor
