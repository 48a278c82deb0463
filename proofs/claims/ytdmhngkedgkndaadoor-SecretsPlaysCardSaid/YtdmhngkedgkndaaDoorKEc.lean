/- The reference's Expand: its contract. -/
import Derived.Test.YtdmhngkedgkndaaDoorKEa0KEb
import Derived.Test.YtdmhngkedgkndaaDoorMMd0MSa
namespace Go.Proofs.YtdmhngkedgkndaaDoor
open Go.RowKit
set_option maxHeartbeats 4000000 in
set_option maxRecDepth 100000 in
theorem expRound_any (w wr : World) (cu sq : Nat → Nat) (s info : List Nat) (iv vo vl : Value) (n k : Nat) (F : ExW cu sq s info w wr vo vl k) (hi : SB w iv info) (R : Ref w cu sq) (bs : Bytes s) (bi : Bytes info) (ls : s.length = 32) (li : info.length ≤ 1000) (hk : k < 200) {Q : Exit → Act → World → Prop}
    (a : Act) (h : Has 37 (baseE w.heap.size iv vo vl (n : Int) ((k : Int) + 1)) a) {id : Nat}
    (hexit : ∀ a' w' g, Has 37 ((10, .pointer (some ⟨g, 0, none⟩)) :: baseE w.heap.size iv vo vl (n : Int) ((k : Int) + 1)) a' → wr.heap.size ≤ g → Below wr.heap.size wr w' → Blk w' g 28 (Iv .u8 (NI (Ti cu sq s info (k + 1)))) → Q .normal a' w')
    (hp : ∀ c (d : Option Tmp) v a w, Q (.panic c) (a.put d v) w → Q (.panic c) a w) : (Code.region id reg5 true).wp Tryd.prog Q a wr := by
  have bd : Below wr.heap.size wr wr.drew := below_drew (Below.refl _ _)
  have Fd := F.below bd
  have hid := (hi.below F.b).below bd
  have Rd := (R.below F.b).below bd
  have hs : SB wr.drew (.slice (some ⟨w.heap.size, 0, none⟩) 32 32) s := SB.of_ba' (c := 32) (n := 32) (BA.of_blk Fd.sec) ls.symm (by rw [ls]; exact Nat.le_refl _)
  have lT := Ti_length cu sq s info k
  have lTk := Ti_le cu sq s info k
  have eT : Ti cu sq s info (k + 1) = hmac cu sq s (Ti cu sq s info k ++ info ++ [(k + 1) % 256]) := by
    show hmac cu sq s [Ti cu sq s info k, info, [(k + 1) % 256]].flatten = _
    simp
  have eb : ((k : Int) + 1) = (((k + 1) % 256 : Nat) : Int) := by omega
  have bl := Ti_bytes cu sq s info k
  have last := Fd.last
  generalize hb : (k + 1) % 256 = b at eT eb
  have bb : b < 256 := by omega
  generalize Ti cu sq s info (k + 1) = r at eT lT hexit
  generalize Ti cu sq s info k = T at bl last lTk eT
  have hS : True := trivial
  refine wp_region_Z (S := fun _ => True) 12 rfl ?_
  show wpAnyZ Tryd.prog .any reg5 Q (fun _ => True) 12 13 (Array.replicate 13 false) a wr.drew
  refine zanyH 0 h 17 (Value.slice (some ⟨w.heap.size, 0, none⟩) 32 32) rfl rfl rfl (by kernel_rfl) (by kernel_rfl) (by kernel_rfl) (by kernel_rfl) (by kernel_rfl) (fun c a w hq => hp c _ _ a w hq) (Or.inl ⟨rfl, fun w' hw' => by
      have e3 : a.eval (.tmp 3) = _ := h.ev 3 rfl
      simp only [execOp, e3]
      go_simp⟩) hS ?_
  clear h
  intro a h
  refine zanyM 2 h 19 8 rfl rfl rfl rfl rfl rfl (by kernel_rfl) (by kernel_rfl) (by kernel_rfl) (by kernel_rfl) (by kernel_rfl) (fun c a w hq => hp c _ _ a w hq) hS ?_
  clear h
  intro a h
  refine zanyM 4 h 21 1 rfl rfl rfl rfl rfl rfl (by kernel_rfl) (by kernel_rfl) (by kernel_rfl) (by kernel_rfl) (by kernel_rfl) (fun c a w hq => hp c _ _ a w hq) hS ?_
  clear h
  intro a h
  refine zanyM 6 h 23 9 rfl rfl rfl rfl rfl rfl (by kernel_rfl) (by kernel_rfl) (by kernel_rfl) (by kernel_rfl) (by kernel_rfl) (fun c a w hq => hp c _ _ a w hq) hS ?_
  clear h
  intro a h
  refine zanyH 7 h 24 (Value.int .u8 ((b : Nat) : Int)) rfl rfl rfl (by kernel_rfl) (by kernel_rfl) (by kernel_rfl) (by kernel_rfl) (by kernel_rfl) (fun c a w hq => hp c _ _ a w hq) (Or.inl ⟨rfl, fun w' hw' => by
      have e23 : a.eval (.tmp 23) = _ := h.ev 23 rfl
      have ew : IntKind.u8.wrap ((b : Nat) : Int) = ((b : Nat) : Int) := by rw [IntKind.wrap_u8]; omega
      simp only [execOp, e23]
      go_simp⟩) hS ?_
  clear h
  intro a h
  rw [list_0]
  refine e5_walk wr.drew cu sq s T info b w.heap.size iv vo vl (n : Int) ((k : Int) + 1) hs last hid Rd bs bl bi bb ls lTk li eT lT (fun a' w' g h1 h2 h3 h4 => hexit a' w' g (h1.trim _ ?_) h2 (bd.trans h3) h4) 7 0 false false undef a wr.drew (by decide) (fun h => by omega) rfl ⟨h, Below.refl _ _, rfl, (fun e => by cases e), fun e => by cases e⟩
  intro p hp
  simp only [baseE, List.mem_cons, List.not_mem_nil, or_false] at hp
  rcases hp with rfl | rfl | rfl | rfl | rfl | rfl | rfl <;> rfl
set_option maxHeartbeats 4000000 in
set_option maxRecDepth 100000 in
theorem rexp_any (w : World) (cu sq : Nat → Nat) (s info : List Nat) (bs : Bytes s) (bi : Bytes info) (ls : s.length = 32) (li : info.length ≤ 1000) (iv : Value) (hi : SB w iv info) (n : Nat) (hn : n ≤ 200) (R : Ref w cu sq) :
    Calls Tryd.prog 24 #[.agg (Iv .u8 (NI s)), iv, .int .i64 (n : Int)] w fun e w' => ∃ v, e = .returned v ∧ SB w' v (expandL cu sq s info n) ∧ Below w.heap.size w w' := by
  refine kcalls_enter3 37 Tryd.func24 rfl Tryd.ntmps24 (by decide) fun a h => ?_
  repeat refine wp_seq ?_
  refine wp_region_seq ?_
  refine seqW h 3 (.pointer (some ⟨w.heap.size, 0, none⟩)) (w.alloc (.cells (Iv .u8 (NI s)) 28)) rfl rfl rfl (fun K hK => by
    have f0 := h.at_ 0 rfl
    unfold Oper.wp execOp
    go_simp
    exact hK) ?_
  clear h
  intro a h
  refine seqC h 6 rfl rfl rfl rfl ?_
  clear h
  intro a h
  refine wpSeq_nil ?_
  show Code.wp _ _ _ _ _
  have F0 : ExW cu sq s info w (w.alloc (.cells (Iv .u8 (NI s)) 28)) (.slice none 0 0) (.slice none 0 0) 0 :=
    ⟨Blk.new _ _ _, OwL.nil _ _, SB.nil _ _ _, (Below.refl _ _).alloc (Nat.le_refl _) _⟩
  generalize World.alloc w _ = W at F0 ⊢
  repeat refine wp_seq ?_
  refine wp_region_seq ?_
  refine seqC h 7 rfl rfl rfl rfl ?_
  clear h
  intro a h
  refine seqC h 8 rfl rfl rfl rfl ?_
  clear h
  intro a h
  refine wpSeq_nil ?_
  show Code.wp _ _ _ _ _
  repeat refine wp_seq ?_
  refine wp_region_seq ?_
  refine seqC h 9 rfl rfl rfl rfl ?_
  clear h
  intro a h
  refine wpSeq_nil ?_
  show Code.wp _ _ _ _ _
  refine wp_block ?_
  refine wp_loop (fun a' w' => ∃ (k : Nat) (vo vl : Value), k ≤ (n + 31) / 32 ∧ Has 37 (baseE w.heap.size iv vo vl (n : Int) ((k : Int) + 1)) a' ∧ ExW cu sq s info w w' vo vl k) (fun a' _ => 300 - (intOf (a'.tmps.getD 9 undef)).toNat) ?_ ?_
  · refine ⟨0, _, _, Nat.zero_le _, h.trim _ ?_, F0⟩
    intro p hp
    simp only [baseE, List.mem_cons, List.not_mem_nil, or_false] at hp
    rcases hp with rfl | rfl | rfl | rfl | rfl | rfl <;> rfl
  clear h a F0
  rintro a wr ⟨k, vo, vl, hk, h, F⟩
  have hm : a.tmps.getD 9 undef = .int .i64 ((k : Int) + 1) := h.val 9 _ rfl
  generalize a.tmps.getD 9 undef = x at hm ⊢
  subst hm
  have lo := okm_length cu sq s info k
  refine wp_seq (wp_seq ?_)
  refine wp_region_seq ?_
  obtain ⟨pb, cb, eb, hcb, _⟩ := F.own.sb
  rw [lo] at eb hcb
  subst eb
  by_cases hlt : 32 * k < n
  · have j2 : (((32 * k : Nat) : Int)) < (n : Int) := by omega
    clear lo
    refine seqM h 11 7 rfl rfl rfl rfl rfl ?_
    clear h
    intro a h
    refine seqH h 12 (Value.int .i64 ((32 * k : Nat) : Int)) rfl rfl (Or.inl ⟨rfl, fun w' hw' => by
        subst hw'
        have e11 : a.eval (.tmp 11) = _ := h.ev 11 rfl
        have f11 := h.at_ 11 rfl
        simp only [execOp]
        go_simp⟩) ?_
    clear h
    intro a h
    refine seqM h 13 2 rfl rfl rfl rfl rfl ?_
    clear h
    intro a h
    refine seqH h 14 (Value.bool true) rfl rfl (Or.inl ⟨rfl, fun w' hw' => by
        subst hw'
        have e12 : a.eval (.tmp 12) = _ := h.ev 12 rfl
        have e13 : a.eval (.tmp 13) = _ := h.ev 13 rfl
        have j3 : 32 * (k : Int) < (n : Int) := by omega
        simp only [execOp, e12, e13]
        go_simp⟩) ?_
    clear h
    intro a h
    refine wpSeq_nil ?_
    show Code.wp _ _ _ _ _
    refine wp_cond (t := true) (h.ev 14 rfl) ?_
    refine wp_skip ?_
    show Code.wp _ _ _ _ _
    refine wp_seq (wp_block (wp_seq ?_))
    refine expRound_any w wr cu sq s info iv _ vl n k F hi R bs bi ls li (by omega) a (h.trim _ ?_) ?_ ?_
    · intro p hp
      simp only [baseE, List.mem_cons, List.not_mem_nil, or_false] at hp
      rcases hp with rfl | rfl | rfl | rfl | rfl | rfl <;> rfl
    · clear h a
      intro a w1 g h hg b1 A1
      show Code.wp _ _ _ _ _
      have F1 := F.below b1
      have ow1 := F.own.lt
      have lT := Ti_length cu sq s info k
      have lo := okm_length cu sq s info k
      have b2 : Below w1.heap.size w1 (w1.alloc (.cells #[] 5)) := (Below.refl _ _).alloc (Nat.le_refl _) _
      obtain ⟨v3, w3, r3, O3, g3, _⟩ := append_ba w1.heap.size _ 22 _ [] (Ti cu sq s info (k + 1)) (ow_none w1.heap.size w1 (Nat.le_refl _)) g 0 32 (BA.of_blk (A1.below' b2)) (by rw [lT]; decide) (by simp)
      rw [lT] at r3
      rw [List.nil_append] at O3
      have b3 : Below w1.heap.size w1 w3 := below_grown' b2 g3 (fun j hj => (by cases hj; exact Nat.le_refl _)) (by simp)
      have F3 := F1.below b3
      have sz1 := b1.size
      have szw := F.b.size
      repeat refine wp_seq ?_
      refine wp_region_seq ?_
      refine seqW h 28 (.slice (some ⟨w1.heap.size, 0, none⟩) 0 0) (w1.alloc (.cells #[] 5)) rfl rfl rfl (fun K hK => wp_build_run _ rfl _ _ (run_buildSlice_none _) hK) ?_
      clear h
      intro a h
      refine seqH h 29 (Value.slice (some ⟨g, 0, none⟩) 32 32) rfl rfl (Or.inl ⟨rfl, fun w' hw' => by
          subst hw'
          have e10 : a.eval (.tmp 10) = _ := h.ev 10 rfl
          simp only [execOp, e10]
          go_simp⟩) ?_
      clear h
      intro a h
      refine seqW h 30 v3 w3 rfl rfl rfl (fun K hK => wp_append_run _ _ _ _ rfl _ _ (h.ev 28 rfl) (h.ev 29 rfl) _ _ r3 hK) ?_
      clear h
      intro a h
      refine seqA h 8 30 rfl rfl rfl rfl rfl ?_
      clear h
      intro a h
      refine wpSeq_nil ?_
      show Code.wp _ _ _ _ _
      obtain ⟨v4, w4, r4, O4, g4, _⟩ := append_sb (w.heap.size + 1) w3 22 _ v3 _ _ F3.own O3.sb (by rw [lo, lT]; omega) (by have := F3.sec.lt; omega)
      have F4 : ExW cu sq s info w w4 v4 v3 (k + 1) := by
        refine ⟨(g4.block _ F3.sec.lt (fun e => ?_)).trans F3.sec, O4, (O3.of_block fun j hj => g4.block j (O3.lt j hj).2 (fun e => ?_)).sb, below_grown' F3.b g4 (fun j hj => ?_) F3.b.size⟩
        · have := ow1 _ e.symm
          omega
        · have h1 := ow1 _ e.symm
          have h2 := O3.lt j hj
          omega
        · have := ow1 _ hj
          omega
      refine wp_region_seq ?_
      refine seqM h 31 7 rfl rfl rfl rfl rfl ?_
      clear h
      intro a h
      refine seqM h 32 8 rfl rfl rfl rfl rfl ?_
      clear h
      intro a h
      refine seqW h 33 v4 w4 rfl rfl rfl (fun K hK => wp_append_run _ _ _ _ rfl _ _ (h.ev 31 rfl) (h.ev 32 rfl) _ _ r4 hK) ?_
      clear h
      intro a h
      refine seqA h 7 33 rfl rfl rfl rfl rfl ?_
      clear h
      intro a h
      refine wpSeq_nil ?_
      show Code.wp _ _ _ _ _
      refine wp_region_seq ?_
      refine seqM h 15 9 rfl rfl rfl rfl rfl ?_
      clear h
      intro a h
      refine seqH h 16 (Value.int .i64 ((k : Int) + 1 + 1)) rfl rfl (Or.inl ⟨rfl, fun w' hw' => by
          subst hw'
          have e15 : a.eval (.tmp 15) = _ := h.ev 15 rfl
          have e2 : IntKind.i64.wrap ((k : Int) + 1 + 1) = (k : Int) + 1 + 1 := by rw [IntKind.wrap_i64]; omega
          simp only [execOp, e15]
          go_simp⟩) ?_
      clear h
      intro a h
      refine seqA h 9 16 rfl rfl rfl rfl rfl ?_
      clear h
      intro a h
      refine wpSeq_nil ?_
      refine ⟨⟨k + 1, v4, v3, by omega, h.trim _ ?_, F4⟩, ?_⟩
      · intro p hp
        simp only [baseE, List.mem_cons, List.not_mem_nil, or_false] at hp
        rcases hp with rfl | rfl | rfl | rfl | rfl | rfl <;> rfl
      · have hm2 : a.tmps.getD 9 undef = .int .i64 ((k : Int) + 1 + 1) := h.val 9 _ rfl
        rw [hm2]
        simp only [intOf]
        omega
    · intro c d v a w hq
      cases d <;> exact hq
  · have ek : k = (n + 31) / 32 := by omega
    have j2 : ¬ (((32 * k : Nat) : Int) < (n : Int)) := by omega
    have FB := F.b
    have O := F.own
    have e1 : expandL cu sq s info n = (okm cu sq s info k).take n := by rw [ek]; rfl
    have H : SB wr (.slice pb n cb) (expandL cu sq s info n) := by
      have ln := expandL_length cu sq s info n
      rcases O.row with ⟨e, _⟩ | ⟨g, cap, e, hg, _, _, hb, _⟩
      · simp only [Value.slice.injEq] at e
        obtain ⟨rfl, _, rfl⟩ := e
        have h0 : n = 0 := by omega
        subst h0
        rw [List.eq_nil_of_length_eq_zero ln]
        exact SB.nil _ _ _
      · simp only [Value.slice.injEq] at e
        obtain ⟨rfl, _, _⟩ := e
        rw [e1] at ln ⊢
        exact SB.of_ba' (hb.take n) ln.symm (by omega)
    have k0 : (0 : Int) ≤ (n : Int) := by omega
    have k1 : (n : Int) ≤ (cb : Int) := by omega
    have k2 : n ≤ cb := by omega
    clear O e1 ek lo
    refine seqM h 11 7 rfl rfl rfl rfl rfl ?_
    clear h
    intro a h
    refine seqH h 12 (Value.int .i64 ((32 * k : Nat) : Int)) rfl rfl (Or.inl ⟨rfl, fun w' hw' => by
        subst hw'
        have e11 : a.eval (.tmp 11) = _ := h.ev 11 rfl
        have f11 := h.at_ 11 rfl
        simp only [execOp]
        go_simp⟩) ?_
    clear h
    intro a h
    refine seqM h 13 2 rfl rfl rfl rfl rfl ?_
    clear h
    intro a h
    refine seqH h 14 (Value.bool false) rfl rfl (Or.inl ⟨rfl, fun w' hw' => by
        subst hw'
        have e12 : a.eval (.tmp 12) = _ := h.ev 12 rfl
        have e13 : a.eval (.tmp 13) = _ := h.ev 13 rfl
        have j3 : (n : Int) ≤ 32 * (k : Int) := by omega
        simp only [execOp, e12, e13]
        go_simp⟩) ?_
    clear h
    intro a h
    refine wpSeq_nil ?_
    show Code.wp _ _ _ _ _
    refine wp_cond (t := false) (h.ev 14 rfl) ?_
    refine wp_exit ?_
    show Code.wp _ _ _ _ _
    repeat refine wp_seq ?_
    refine wp_region_seq ?_
    refine seqM h 34 7 rfl rfl rfl rfl rfl ?_
    clear h
    intro a h
    refine seqM h 35 2 rfl rfl rfl rfl rfl ?_
    clear h
    intro a h
    refine seqH h 36 (Value.slice pb n cb) rfl rfl (Or.inl ⟨rfl, fun w' hw' => by
        subst hw'
        have e34 : a.eval (.tmp 34) = _ := h.ev 34 rfl
        have e35 : a.eval (.tmp 35) = _ := h.ev 35 rfl
        have f34 := h.at_ 34 rfl
        have f35 := h.at_ 35 rfl
        simp only [execOp, e34]
        go_simp⟩) ?_
    clear h
    intro a h
    refine seqA h 6 36 rfl rfl rfl rfl rfl ?_
    clear h
    intro a h
    refine wpSeq_nil ?_
    show Code.wp _ _ _ _ _
    refine wp_ret ?_
    exact bodyPost_ret (results_tmp rfl _ _ _) h.defers ⟨_, rfl, by rw [h.val 6 _ rfl]; exact H, FB⟩
end Go.Proofs.YtdmhngkedgkndaaDoor
