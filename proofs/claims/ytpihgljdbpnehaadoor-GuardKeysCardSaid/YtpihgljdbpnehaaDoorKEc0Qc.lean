/- The reference's Expand: its contract. A Cipher's keys, one by one: sixteen bytes read out of its block, put into it; a Cipher built. A Cipher's Encrypt; Encrypt: their contracts (printed by genpj.py). A nil Cipher; Encrypt: their contracts; EncC and CipherC as the laws of aes ask them. The program's join, shown: their contracts (printed by gen13/qc.py). -/
import Derived.Test.YtpihgljdbpnehaaDoorKEa0KEb
import Derived.Test.YtpihgljdbpnehaaDoorMMd0MSa
import Derived.Test.YtpihgljdbpnehaaDoorNd0Gf
import Derived.Laws.Tables
import Derived.Test.YtpihgljdbpnehaaDoorBg0HSj
import Derived.Test.YtpihgljdbpnehaaDoorNc0Va
import Derived.Test.YtpihgljdbpnehaaDoorLa0Lo
import Derived.Laws.StructEq
import Derived.Test.YtpihgljdbpnehaaDoorNf0KQb
import Derived.Lib.SliceRun
namespace Go.Proofs.YtpihgljdbpnehaaDoor
open Go.RowKit
set_option maxHeartbeats 4000000 in
set_option maxRecDepth 100000 in
theorem expRound_any (w wr : World) (cu sq : Nat → Nat) (s info : List Nat) (iv vo vl : Value) (n k : Nat) (F : ExW cu sq s info w wr vo vl k) (hi : SB w iv info) (R : Ref w cu sq) (bs : Bytes s) (bi : Bytes info) (ls : s.length = 32) (li : info.length ≤ 1000) (hk : k < 200) {Q : Exit → Act → World → Prop}
    (a : Act) (h : Has 37 (baseE w.heap.size iv vo vl (n : Int) ((k : Int) + 1)) a) {id : Nat}
    (hexit : ∀ a' w' g, Has 37 ((10, .pointer (some ⟨g, 0, none⟩)) :: baseE w.heap.size iv vo vl (n : Int) ((k : Int) + 1)) a' → wr.heap.size ≤ g → Below wr.heap.size wr w' → Blk w' g 23 (Iv .u8 (NI (Ti cu sq s info (k + 1)))) → Q .normal a' w')
    (hp : ∀ c (d : Option Tmp) v a w, Q (.panic c) (a.put d v) w → Q (.panic c) a w) : (Code.region id reg5 true).wp Tryd.prog Q a wr := by
  have bd : Below wr.heap.size wr wr.drew := below_drew (Below.refl _ _)
  have Fd := F.below bd
  have hid := (hi.below F.b).below bd
  have Rd := (R.below F.b).below bd
  have hs : SB wr.drew (.slice (some ⟨w.heap.size, 0, none⟩) 32 32) s := SB.of_ba' (c := 32) (n := 32) (BA.of_blk Fd.sec) ls.symm (by rw [ls]; exact Nat.le_refl _)
  have lT := Ti_length cu sq s info k
  have lTk := Ti_le cu sq s info k
  have eT : Ti cu sq s info (k + 1) = hmac cu sq s (Ti cu sq s info k ++ info ++ [(k + 1) % 256]) := by
    show hmac cu sq s [Ti cu sq s info k, info, [(k + 1) % 256]].flatten = _
    simp
  have eb : ((k : Int) + 1) = (((k + 1) % 256 : Nat) : Int) := by omega
  have bl := Ti_bytes cu sq s info k
  have last := Fd.last
  generalize hb : (k + 1) % 256 = b at eT eb
  have bb : b < 256 := by omega
  generalize Ti cu sq s info (k + 1) = r at eT lT hexit
  generalize Ti cu sq s info k = T at bl last lTk eT
  have hS : True := trivial
  refine wp_region_Z (S := fun _ => True) 12 rfl ?_
  show wpAnyZ Tryd.prog .any reg5 Q (fun _ => True) 12 13 (Array.replicate 13 false) a wr.drew
  refine zanyH 0 h 17 (Value.slice (some ⟨w.heap.size, 0, none⟩) 32 32) rfl rfl rfl (by kernel_rfl) (by kernel_rfl) (by kernel_rfl) (by kernel_rfl) (by kernel_rfl) (fun c a w hq => hp c _ _ a w hq) (Or.inl ⟨rfl, fun w' hw' => by
      have e3 : a.eval (.tmp 3) = _ := h.ev 3 rfl
      simp only [execOp, e3]
      go_simp⟩) hS ?_
  clear h
  intro a h
  refine zanyM 2 h 19 8 rfl rfl rfl rfl rfl rfl (by kernel_rfl) (by kernel_rfl) (by kernel_rfl) (by kernel_rfl) (by kernel_rfl) (fun c a w hq => hp c _ _ a w hq) hS ?_
  clear h
  intro a h
  refine zanyM 4 h 21 1 rfl rfl rfl rfl rfl rfl (by kernel_rfl) (by kernel_rfl) (by kernel_rfl) (by kernel_rfl) (by kernel_rfl) (fun c a w hq => hp c _ _ a w hq) hS ?_
  clear h
  intro a h
  refine zanyM 6 h 23 9 rfl rfl rfl rfl rfl rfl (by kernel_rfl) (by kernel_rfl) (by kernel_rfl) (by kernel_rfl) (by kernel_rfl) (fun c a w hq => hp c _ _ a w hq) hS ?_
  clear h
  intro a h
  refine zanyH 7 h 24 (Value.int .u8 ((b : Nat) : Int)) rfl rfl rfl (by kernel_rfl) (by kernel_rfl) (by kernel_rfl) (by kernel_rfl) (by kernel_rfl) (fun c a w hq => hp c _ _ a w hq) (Or.inl ⟨rfl, fun w' hw' => by
      have e23 : a.eval (.tmp 23) = _ := h.ev 23 rfl
      have ew : IntKind.u8.wrap ((b : Nat) : Int) = ((b : Nat) : Int) := by rw [IntKind.wrap_u8]; omega
      simp only [execOp, e23]
      go_simp⟩) hS ?_
  clear h
  intro a h
  rw [list_0]
  refine e5_walk wr.drew cu sq s T info b w.heap.size iv vo vl (n : Int) ((k : Int) + 1) hs last hid Rd bs bl bi bb ls lTk li eT lT (fun a' w' g h1 h2 h3 h4 => hexit a' w' g (h1.trim _ ?_) h2 (bd.trans h3) h4) 7 0 false false undef a wr.drew (by decide) (fun h => by omega) rfl ⟨h, Below.refl _ _, rfl, (fun e => by cases e), fun e => by cases e⟩
  intro p hp
  simp only [fullE, baseE, List.mem_cons, List.not_mem_nil, or_false] at hp
  rcases hp with rfl | rfl | rfl | rfl | rfl | rfl | rfl <;> rfl
set_option maxHeartbeats 4000000 in
set_option maxRecDepth 100000 in
theorem rexp_any (w : World) (cu sq : Nat → Nat) (s info : List Nat) (bs : Bytes s) (bi : Bytes info) (ls : s.length = 32) (li : info.length ≤ 1000) (iv : Value) (hi : SB w iv info) (n : Nat) (hn : n ≤ 200) (R : Ref w cu sq) :
    Calls Tryd.prog 12 #[.agg (Iv .u8 (NI s)), iv, .int .i64 (n : Int)] w fun e w' => ∃ v, e = .returned v ∧ SB w' v (expandL cu sq s info n) ∧ Below w.heap.size w w' := by
  refine kcalls_enter3 37 Tryd.func12 rfl Tryd.ntmps12 (by decide) fun a h => ?_
  repeat refine wp_seq ?_
  refine wp_region_seq ?_
  refine seqW h 3 (.pointer (some ⟨w.heap.size, 0, none⟩)) (w.alloc (.cells (Iv .u8 (NI s)) 23)) rfl rfl rfl (fun K hK => by
    have f0 := h.at_ 0 rfl
    unfold Oper.wp execOp
    go_simp
    exact hK) ?_
  clear h
  intro a h
  refine seqC h 6 rfl rfl rfl rfl ?_
  clear h
  intro a h
  refine wpSeq_nil ?_
  show Code.wp _ _ _ _ _
  have F0 : ExW cu sq s info w (w.alloc (.cells (Iv .u8 (NI s)) 23)) (.slice none 0 0) (.slice none 0 0) 0 :=
    ⟨Blk.new _ _ _, OwL.nil _ _, SB.nil _ _ _, (Below.refl _ _).alloc (Nat.le_refl _) _⟩
  generalize World.alloc w _ = W at F0 ⊢
  repeat refine wp_seq ?_
  refine wp_region_seq ?_
  refine seqC h 7 rfl rfl rfl rfl ?_
  clear h
  intro a h
  refine seqC h 8 rfl rfl rfl rfl ?_
  clear h
  intro a h
  refine wpSeq_nil ?_
  show Code.wp _ _ _ _ _
  repeat refine wp_seq ?_
  refine wp_region_seq ?_
  refine seqC h 9 rfl rfl rfl rfl ?_
  clear h
  intro a h
  refine wpSeq_nil ?_
  show Code.wp _ _ _ _ _
  refine wp_block ?_
  refine wp_loop (fun a' w' => ∃ (k : Nat) (vo vl : Value), k ≤ (n + 31) / 32 ∧ Has 37 (baseE w.heap.size iv vo vl (n : Int) ((k : Int) + 1)) a' ∧ ExW cu sq s info w w' vo vl k) (fun a' _ => 300 - (intOf (a'.tmps.getD 9 undef)).toNat) ?_ ?_
  · refine ⟨0, _, _, Nat.zero_le _, h.trim _ ?_, F0⟩
    intro p hp
    simp only [fullE, baseE, List.mem_cons, List.not_mem_nil, or_false] at hp
    rcases hp with rfl | rfl | rfl | rfl | rfl | rfl <;> rfl
  clear h a F0
  rintro a wr ⟨k, vo, vl, hk, h, F⟩
  have hm : a.tmps.getD 9 undef = .int .i64 ((k : Int) + 1) := h.val 9 _ rfl
  generalize a.tmps.getD 9 undef = x at hm ⊢
  subst hm
  have lo := okm_length cu sq s info k
  refine wp_seq (wp_seq ?_)
  refine wp_region_seq ?_
  obtain ⟨pb, cb, eb, hcb, _⟩ := F.own.sb
  rw [lo] at eb hcb
  subst eb
  by_cases hlt : 32 * k < n
  · have j2 : (((32 * k : Nat) : Int)) < (n : Int) := by omega
    clear lo
    refine seqM h 11 7 rfl rfl rfl rfl rfl ?_
    clear h
    intro a h
    refine seqH h 12 (Value.int .i64 ((32 * k : Nat) : Int)) rfl rfl (Or.inl ⟨rfl, fun w' hw' => by
        subst hw'
        have e11 : a.eval (.tmp 11) = _ := h.ev 11 rfl
        have f11 := h.at_ 11 rfl
        simp only [execOp, e11]
        go_simp⟩) ?_
    clear h
    intro a h
    refine seqM h 13 2 rfl rfl rfl rfl rfl ?_
    clear h
    intro a h
    refine seqH h 14 (Value.bool true) rfl rfl (Or.inl ⟨rfl, fun w' hw' => by
        subst hw'
        have e12 : a.eval (.tmp 12) = _ := h.ev 12 rfl
        have e13 : a.eval (.tmp 13) = _ := h.ev 13 rfl
        have j3 : 32 * (k : Int) < (n : Int) := by omega
        simp only [execOp, e12, e13]
        go_simp⟩) ?_
    clear h
    intro a h
    refine wpSeq_nil ?_
    show Code.wp _ _ _ _ _
    refine wp_cond (t := true) (h.ev 14 rfl) ?_
    refine wp_skip ?_
    show Code.wp _ _ _ _ _
    refine wp_seq (wp_block (wp_seq ?_))
    refine expRound_any w wr cu sq s info iv _ vl n k F hi R bs bi ls li (by omega) a (h.trim _ ?_) ?_ ?_
    · intro p hp
      simp only [fullE, baseE, List.mem_cons, List.not_mem_nil, or_false] at hp
      rcases hp with rfl | rfl | rfl | rfl | rfl | rfl <;> rfl
    · clear h a
      intro a w1 g h hg b1 A1
      show Code.wp _ _ _ _ _
      have F1 := F.below b1
      have ow1 := F.own.lt
      have lT := Ti_length cu sq s info k
      have lo := okm_length cu sq s info k
      have b2 : Below w1.heap.size w1 (w1.alloc (.cells #[] 5)) := (Below.refl _ _).alloc (Nat.le_refl _) _
      obtain ⟨v3, w3, r3, O3, g3, _⟩ := append_ba w1.heap.size _ 24 _ [] (Ti cu sq s info (k + 1)) (ow_none w1.heap.size w1 (Nat.le_refl _)) g 0 32 (BA.of_blk (A1.below' b2)) (by rw [lT]; decide) (by simp)
      rw [lT] at r3
      rw [List.nil_append] at O3
      have b3 : Below w1.heap.size w1 w3 := below_grown' b2 g3 (fun j hj => (by cases hj; exact Nat.le_refl _)) (by simp)
      have F3 := F1.below b3
      have sz1 := b1.size
      have szw := F.b.size
      repeat refine wp_seq ?_
      refine wp_region_seq ?_
      refine seqW h 28 (.slice (some ⟨w1.heap.size, 0, none⟩) 0 0) (w1.alloc (.cells #[] 5)) rfl rfl rfl (fun K hK => wp_build_run _ rfl _ _ (run_buildSlice_none _) hK) ?_
      clear h
      intro a h
      refine seqH h 29 (Value.slice (some ⟨g, 0, none⟩) 32 32) rfl rfl (Or.inl ⟨rfl, fun w' hw' => by
          subst hw'
          have e10 : a.eval (.tmp 10) = _ := h.ev 10 rfl
          simp only [execOp, e10]
          go_simp⟩) ?_
      clear h
      intro a h
      refine seqW h 30 v3 w3 rfl rfl rfl (fun K hK => wp_append_run _ _ _ _ rfl _ _ (h.ev 28 rfl) (h.ev 29 rfl) _ _ r3 hK) ?_
      clear h
      intro a h
      refine seqA h 8 30 rfl rfl rfl rfl rfl ?_
      clear h
      intro a h
      refine wpSeq_nil ?_
      show Code.wp _ _ _ _ _
      obtain ⟨v4, w4, r4, O4, g4, _⟩ := append_sb (w.heap.size + 1) w3 24 _ v3 _ _ F3.own O3.sb (by rw [lo, lT]; omega) (by have := F3.sec.lt; omega)
      have F4 : ExW cu sq s info w w4 v4 v3 (k + 1) := by
        refine ⟨(g4.block _ F3.sec.lt (fun e => ?_)).trans F3.sec, O4, (O3.of_block fun j hj => g4.block j (O3.lt j hj).2 (fun e => ?_)).sb, below_grown' F3.b g4 (fun j hj => ?_) F3.b.size⟩
        · have := ow1 _ e.symm
          omega
        · have h1 := ow1 _ e.symm
          have h2 := O3.lt j hj
          omega
        · have := ow1 _ hj
          omega
      refine wp_region_seq ?_
      refine seqM h 31 7 rfl rfl rfl rfl rfl ?_
      clear h
      intro a h
      refine seqM h 32 8 rfl rfl rfl rfl rfl ?_
      clear h
      intro a h
      refine seqW h 33 v4 w4 rfl rfl rfl (fun K hK => wp_append_run _ _ _ _ rfl _ _ (h.ev 31 rfl) (h.ev 32 rfl) _ _ r4 hK) ?_
      clear h
      intro a h
      refine seqA h 7 33 rfl rfl rfl rfl rfl ?_
      clear h
      intro a h
      refine wpSeq_nil ?_
      show Code.wp _ _ _ _ _
      refine wp_region_seq ?_
      refine seqM h 15 9 rfl rfl rfl rfl rfl ?_
      clear h
      intro a h
      refine seqH h 16 (Value.int .i64 ((k : Int) + 1 + 1)) rfl rfl (Or.inl ⟨rfl, fun w' hw' => by
          subst hw'
          have e15 : a.eval (.tmp 15) = _ := h.ev 15 rfl
          have e2 : IntKind.i64.wrap ((k : Int) + 1 + 1) = (k : Int) + 1 + 1 := by rw [IntKind.wrap_i64]; omega
          simp only [execOp, e15]
          go_simp⟩) ?_
      clear h
      intro a h
      refine seqA h 9 16 rfl rfl rfl rfl rfl ?_
      clear h
      intro a h
      refine wpSeq_nil ?_
      refine ⟨⟨k + 1, v4, v3, by omega, h.trim _ ?_, F4⟩, ?_⟩
      · intro p hp
        simp only [baseE, List.mem_cons, List.not_mem_nil, or_false] at hp
        rcases hp with rfl | rfl | rfl | rfl | rfl | rfl <;> rfl
      · have hm2 : a.tmps.getD 9 undef = .int .i64 ((k : Int) + 1 + 1) := h.val 9 _ rfl
        rw [hm2]
        simp only [intOf]
        omega
    · intro c d v a w hq
      cases d <;> exact hq
  · have ek : k = (n + 31) / 32 := by omega
    have j2 : ¬ (((32 * k : Nat) : Int) < (n : Int)) := by omega
    have FB := F.b
    have O := F.own
    have e1 : expandL cu sq s info n = (okm cu sq s info k).take n := by rw [ek]; rfl
    have H : SB wr (.slice pb n cb) (expandL cu sq s info n) := by
      have ln := expandL_length cu sq s info n
      rcases O.row with ⟨e, _⟩ | ⟨g, cap, e, hg, _, _, hb, _⟩
      · simp only [Value.slice.injEq] at e
        obtain ⟨rfl, _, rfl⟩ := e
        have h0 : n = 0 := by omega
        subst h0
        rw [List.eq_nil_of_length_eq_zero ln]
        exact SB.nil _ _ _
      · simp only [Value.slice.injEq] at e
        obtain ⟨rfl, _, _⟩ := e
        rw [e1] at ln ⊢
        exact SB.of_ba' (hb.take n) ln.symm (by omega)
    have k0 : (0 : Int) ≤ (n : Int) := by omega
    have k1 : (n : Int) ≤ (cb : Int) := by omega
    have k2 : n ≤ cb := by omega
    clear O e1 ek lo
    refine seqM h 11 7 rfl rfl rfl rfl rfl ?_
    clear h
    intro a h
    refine seqH h 12 (Value.int .i64 ((32 * k : Nat) : Int)) rfl rfl (Or.inl ⟨rfl, fun w' hw' => by
        subst hw'
        have e11 : a.eval (.tmp 11) = _ := h.ev 11 rfl
        have f11 := h.at_ 11 rfl
        simp only [execOp, e11]
        go_simp⟩) ?_
    clear h
    intro a h
    refine seqM h 13 2 rfl rfl rfl rfl rfl ?_
    clear h
    intro a h
    refine seqH h 14 (Value.bool false) rfl rfl (Or.inl ⟨rfl, fun w' hw' => by
        subst hw'
        have e12 : a.eval (.tmp 12) = _ := h.ev 12 rfl
        have e13 : a.eval (.tmp 13) = _ := h.ev 13 rfl
        have j3 : (n : Int) ≤ 32 * (k : Int) := by omega
        simp only [execOp, e12, e13]
        go_simp⟩) ?_
    clear h
    intro a h
    refine wpSeq_nil ?_
    show Code.wp _ _ _ _ _
    refine wp_cond (t := false) (h.ev 14 rfl) ?_
    refine wp_exit ?_
    show Code.wp _ _ _ _ _
    repeat refine wp_seq ?_
    refine wp_region_seq ?_
    refine seqM h 34 7 rfl rfl rfl rfl rfl ?_
    clear h
    intro a h
    refine seqM h 35 2 rfl rfl rfl rfl rfl ?_
    clear h
    intro a h
    refine seqH h 36 (Value.slice pb n cb) rfl rfl (Or.inl ⟨rfl, fun w' hw' => by
        subst hw'
        have e34 : a.eval (.tmp 34) = _ := h.ev 34 rfl
        have e35 : a.eval (.tmp 35) = _ := h.ev 35 rfl
        have f34 := h.at_ 34 rfl
        have f35 := h.at_ 35 rfl
        simp only [execOp, e34, e35]
        go_simp⟩) ?_
    clear h
    intro a h
    refine seqA h 6 36 rfl rfl rfl rfl rfl ?_
    clear h
    intro a h
    refine wpSeq_nil ?_
    show Code.wp _ _ _ _ _
    refine wp_ret ?_
    exact bodyPost_ret (results_tmp rfl _ _ _) h.defers ⟨_, rfl, by rw [h.val 6 _ rfl]; exact H, FB⟩
end Go.Proofs.YtpihgljdbpnehaaDoor
namespace Go.Proofs.YtpihgljdbpnehaaDoor
open Go.RowKit
/-- Numbers put into a list from a place on. -/
def setL : List Nat → Nat → List Nat → List Nat
  | l, _, [] => l
  | l, o, v :: r => setL (l.set o v) (o + 1) r
theorem setL_length : ∀ (vs : List Nat) (l : List Nat) (o : Nat), (setL l o vs).length = l.length
  | [], _, _ => rfl
  | v :: r, l, o => by
    show (setL (l.set o v) (o + 1) r).length = _
    rw [setL_length r, List.length_set]
theorem setL_get : ∀ (vs : List Nat) (l : List Nat) (o t : Nat), o + vs.length ≤ l.length → (setL l o vs).getD t 0 = if o ≤ t ∧ t < o + vs.length then vs.getD (t - o) 0 else l.getD t 0
  | [], l, o, t, _ => by
    show l.getD t 0 = _
    rw [if_neg (by simp only [List.length_nil]; omega)]
  | v :: r, l, o, t, h => by
    have hl : o + 1 + r.length ≤ (l.set o v).length := by rw [List.length_set]; simp only [List.length_cons] at h; omega
    show (setL (l.set o v) (o + 1) r).getD t 0 = _
    rw [setL_get r _ _ _ hl]
    simp only [List.length_cons] at h ⊢
    by_cases h1 : t = o
    · subst h1
      rw [if_neg (by omega), if_pos (by omega), Nat.sub_self, List.getD_eq_getElem?_getD, List.getElem?_set, if_pos rfl, if_pos (by omega)]
      rfl
    · by_cases h2 : o + 1 ≤ t ∧ t < o + 1 + r.length
      · rw [if_pos h2, if_pos (by omega), show t - o = (t - (o + 1)) + 1 by omega]
        rfl
      · rw [if_neg h2, if_neg (by omega), List.getD_eq_getElem?_getD, List.getElem?_set, if_neg (fun e => h1 e.symm), ← List.getD_eq_getElem?_getD]
theorem getD_ext {a b : List Nat} (hl : a.length = b.length) (h : ∀ t, t < a.length → a.getD t 0 = b.getD t 0) : a = b := by
  apply List.ext_getElem hl
  intro i h1 h2
  have := h i h1
  rw [List.getD_eq_getElem?_getD, List.getD_eq_getElem?_getD, List.getElem?_eq_getElem h1, List.getElem?_eq_getElem h2] at this
  exact this
theorem getD_app (a b : List Nat) (t : Nat) : (a ++ b).getD t 0 = if t < a.length then a.getD t 0 else b.getD (t - a.length) 0 := by
  by_cases h : t < a.length
  · rw [if_pos h, List.getD_eq_getElem?_getD, List.getElem?_append_left h, ← List.getD_eq_getElem?_getD]
  · rw [if_neg h, List.getD_eq_getElem?_getD, List.getElem?_append_right (by omega), ← List.getD_eq_getElem?_getD]
/-- The cells of bytes. -/
def cl (l : List Nat) : List Value := (NI l).map (Value.int .u8)
theorem cl_length (l : List Nat) : (cl l).length = l.length := by simp [cl, NI]
theorem cl_get (l : List Nat) (j : Nat) (v : Value) (h : (cl l)[j]? = some v) : j < l.length ∧ v = .int .u8 ((l.getD j 0 : Nat) : Int) := by
  have hj : j < (cl l).length := (List.getElem?_eq_some_iff.1 h).1
  rw [cl_length] at hj
  refine ⟨hj, ?_⟩
  rw [List.getElem?_eq_getElem (by rw [cl_length]; exact hj)] at h
  simp only [Option.some.injEq] at h
  rw [← h]
  simp [cl, NI, List.getD_eq_getElem?_getD, hj]
theorem blk_setCells {t : TypeId} {g : Nat} : ∀ (vs l : List Nat) (o : Nat) (w : World), Blk w g t (Iv .u8 (NI l)) → Blk (w.setCells g o (cl vs)) g t (Iv .u8 (NI (setL l o vs)))
  | [], _, _, _, h => h
  | v :: r, l, o, w, h => by
    show Blk ((w.setCell ⟨g, o, none⟩ (.int .u8 ((v : Nat) : Int))).setCells g (o + 1) (cl r)) g t (Iv .u8 (NI (setL (l.set o v) (o + 1) r)))
    refine blk_setCells r _ _ _ ?_
    have h1 := Blk.set h o (.int .u8 ((v : Nat) : Int))
    rwa [ni_setIf] at h1
/-- The keys' bytes, as far as n of them are put. -/
def KM (S k : List Nat) (n : Nat) : List Nat := (List.range 176).map fun t => if t < 16 * n then (ksF S k (t / 16)).1.getD (t % 16) 0 else 0
theorem KM_length (S k : List Nat) (n : Nat) : (KM S k n).length = 176 := by simp [KM]
theorem KM_get (S k : List Nat) (n t : Nat) (h : t < 176) : (KM S k n).getD t 0 = if t < 16 * n then (ksF S k (t / 16)).1.getD (t % 16) 0 else 0 := by
  simp [KM, List.getD_eq_getElem?_getD, List.getElem?_map, List.getElem?_range h]
theorem KM_next (S k T : List Nat) (hk : k.length = 16) (n : Nat) (hn : n < 11) : setL (KM S k n ++ T) (16 * n) (ksF S k n).1 = KM S k (n + 1) ++ T := by
  have l1 := KM_length S k n
  have l2 := KM_length S k (n + 1)
  have l3 := ksF_length (S := S) hk n
  refine getD_ext (by rw [setL_length, List.length_append, List.length_append, l1, l2]) fun t ht => ?_
  rw [setL_get _ _ _ _ (by rw [List.length_append]; omega), getD_app, getD_app, l1, l2, l3]
  by_cases h : t < 176
  · rw [if_pos h, if_pos h, KM_get _ _ _ _ h, KM_get _ _ _ _ h]
    by_cases h1 : 16 * n ≤ t ∧ t < 16 * n + 16
    · rw [if_pos h1, if_pos (by omega), show t / 16 = n by omega, show t % 16 = t - 16 * n by omega]
    · rw [if_neg h1]
      by_cases h2 : t < 16 * n
      · rw [if_pos h2, if_pos (by omega)]
      · rw [if_neg h2, if_neg (by omega)]
  · rw [if_neg h, if_neg h, if_neg (by omega)]
/-- A key of a Cipher. -/
theorem CI.key {w : World} {g : Nat} {S k T : List Nat} {n : Nat} (h : CI w g (KM S k n) T) (hk : k.length = 16) (i : Nat) (hi : i < n) (hn : n ≤ 11) : w.rangeAt g (16 * i) (cl (ksF S k i).1) := fun j v hv => by
  obtain ⟨hj, rfl⟩ := cl_get _ _ _ hv
  rw [ksF_length hk] at hj
  rw [Blk.cell h, NI_get _ _ (by rw [List.length_append, KM_length]; omega)]
  have e : (KM S k n ++ T).getD (16 * i + j) 0 = (ksF S k i).1.getD j 0 := by
    rw [getD_app, KM_length, if_pos (by omega), KM_get _ _ _ _ (by omega), if_pos (by omega), show (16 * i + j) / 16 = i by omega, show (16 * i + j) % 16 = j by omega]
  rw [← e, List.getD_eq_getElem?_getD, List.getElem?_eq_getElem (show 16 * i + j < (KM S k n ++ T).length by rw [List.length_append, KM_length]; omega)]
  rfl
theorem CI.there {w : World} {g : Nat} {ks T : List Nat} (h : CI w g ks T) (lk : ks.length = 176) (o : Nat) (ho : o + 16 ≤ 176) : w.there g o 16 := fun j hj => by
  refine ⟨?_, Blk.frozen h _⟩
  rw [Blk.cell h, NI_get _ _ (by rw [List.length_append]; omega)]
  rfl
theorem CI.put {w : World} {g : Nat} {S k T : List Nat} {n : Nat} (h : CI w g (KM S k n) T) (hk : k.length = 16) (hn : n < 11) : CI (w.setCells g (16 * n) (cl (ksF S k n).1)) g (KM S k (n + 1)) T := by
  have := blk_setCells (ksF S k n).1 _ (16 * n) w h
  rw [KM_next _ _ _ hk n hn] at this
  exact this
end Go.Proofs.YtpihgljdbpnehaaDoor
namespace Go.Proofs.YtpihgljdbpnehaaDoor
open Go.RowKit
/-- What stands while a block is encrypted: the Cipher, the block, the answer's place. -/
structure EM (w0 : World) (gc : Nat) (k st : List Nat) (w : World) : Prop where
  c : CI w gc (KM boxL k 11) boxL
  b : Blk w w0.heap.size 27 (Iv .u8 (NI st))
  r : Blk w (w0.heap.size + 1) 27 (Iv .u8 (NI (LB fun _ => 0)))
  bel : Below w0.heap.size w0 w
  far : gc < w0.heap.size
theorem EM.drew {w0 w : World} {gc : Nat} {k st : List Nat} (h : EM w0 gc k st w) : EM w0 gc k st w.drew := ⟨h.c.of_block rfl, h.b.drew, h.r.drew, below_drew h.bel, h.far⟩
theorem EM.below {w0 w w1 : World} {gc : Nat} {k st : List Nat} (h : EM w0 gc k st w) (b : Below w.heap.size w w1) : EM w0 gc k st w1 := ⟨h.c.below b, Blk.below' h.b b, Blk.below' h.r b, h.bel.trans (b.mono h.bel.size), h.far⟩
theorem EM.put {w0 w : World} {gc : Nat} {k st : List Nat} (h : EM w0 gc k st w) (l : List Nat) : EM w0 gc k l (w.setRow w0.heap.size (Iv .u8 (NI l))) :=
  have := h.far
  ⟨Blk.rowFar h.c (by omega) _, h.b.row _, h.r.rowFar (by omega) _, below_setRow h.bel (Nat.le_refl _) _, h.far⟩
/-- The same, with the key that is at hand. -/
structure EK (w0 : World) (gc gk : Nat) (k st kk : List Nat) (w : World) : Prop where
  m : EM w0 gc k st w
  k : Blk w gk 27 (Iv .u8 (NI kk))
theorem EK.drew {w0 w : World} {gc gk : Nat} {k st kk : List Nat} (h : EK w0 gc gk k st kk w) : EK w0 gc gk k st kk w.drew := ⟨h.m.drew, h.k.drew⟩
theorem EK.below {w0 w w1 : World} {gc gk : Nat} {k st kk : List Nat} (h : EK w0 gc gk k st kk w) (b : Below w.heap.size w w1) : EK w0 gc gk k st kk w1 := ⟨h.m.below b, Blk.below' h.k b⟩
end Go.Proofs.YtpihgljdbpnehaaDoor
namespace Go.Proofs.YtpihgljdbpnehaaDoor
open Go.RowKit
/-- What stands in Encrypt: key, block, the answer's place. -/
structure FM (w0 : World) (k b : List Nat) (w : World) : Prop where
  k : Blk w w0.heap.size 27 (Iv .u8 (NI k))
  b : Blk w (w0.heap.size + 1) 27 (Iv .u8 (NI b))
  r : Blk w (w0.heap.size + 1 + 1) 27 (Iv .u8 (NI (LB fun _ => 0)))
  bel : Below w0.heap.size w0 w
theorem FM.drew {w0 w : World} {k b : List Nat} (h : FM w0 k b w) : FM w0 k b w.drew := ⟨h.k.drew, h.b.drew, h.r.drew, below_drew h.bel⟩
theorem FM.below {w0 w w1 : World} {k b : List Nat} (h : FM w0 k b w) (c : Below w.heap.size w w1) : FM w0 k b w1 := ⟨Blk.below' h.k c, Blk.below' h.b c, Blk.below' h.r c, h.bel.trans (c.mono h.bel.size)⟩
end Go.Proofs.YtpihgljdbpnehaaDoor
namespace Go.Proofs.YtpihgljdbpnehaaDoor
open Go.RowKit
/-- A row of one's own, cut at its end. -/
theorem OwL.cut {B : Nat} {w : World} {g n c : Nat} {l : List Nat} (h : OwL B w (.slice (some ⟨g, 0, none⟩) n c) l) (k : Nat) (hk : k ≤ n) : OwL B w (.slice (some ⟨g, 0, none⟩) k c) (l.take k) := by
  obtain ⟨hl, hr⟩ := h
  rcases hr with ⟨e, _⟩ | ⟨g', cap, cur, e, hB, hg, hnc, hcm, hcs, htake⟩
  · cases e
  · simp only [Value.slice.injEq, Option.some.injEq, Addr.mk.injEq, and_true] at e
    obtain ⟨rfl, rfl, rfl⟩ := e
    have lk : (l.take k).length = k := by rw [List.length_take]; omega
    refine ⟨by rw [vals_length, Nat.mul_one], .inr ⟨g, c, cur, by rw [lk], hB, hg, by rw [lk]; omega, hcm, hcs, ?_⟩⟩
    rw [lk]
    have := congrArg (List.take k) htake
    rw [List.take_take] at this
    rw [← show vals (l.take k) = (vals l).take k from by simp [vals, List.map_take]] at this
    rw [← this]
    congr 1
    omega
theorem OwL.len {B : Nat} {w : World} {p : Option Addr} {n c : Nat} {l : List Nat} (h : OwL B w (.slice p n c) l) : n = l.length := by
  rcases h.row with ⟨e, rfl⟩ | ⟨g, cap, e, _⟩
  · simp only [Value.slice.injEq] at e
    exact e.2.1
  · simp only [Value.slice.injEq] at e
    exact e.2.1
end Go.Proofs.YtpihgljdbpnehaaDoor
