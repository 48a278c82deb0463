/- The reference's Encrypt: the rounds (loop 3) (printed by gena9.py). -/
import Derived.Test.YteaddadmdjjfaaaBi
import Derived.Test.YteaddadmdjjfaaaAb
namespace Go.Proofs.Yteaddadmdjjfaaa
open Go.RowKit

theorem LB_of (l : List Nat) (h : l.length = 16) : LB (fun i => l.getD i 0) = l := by
  apply List.ext_getElem (by rw [LB_length, h])
  intro i h1 h2
  simp [LB, h2]
theorem wpSeq_allocQ {P : Program} {ops : Array Oper} {Q : Exit → Act → World → Prop} {o : Oper} {rest : List Oper} {a : Act} {w : World} (t : TypeId) (cs : Array Value) (hw : Region.wanted o (yielded ops a.tmps) = true)
    (hrun : ∀ W, (execOp a.eval o).run P W = .ok (.value (.pointer (some ⟨W.heap.size, 0, none⟩))) (W.alloc (.cells cs t)))
    (h : ∀ g W, Blk W g t cs → Below w.heap.size w W → w.heap.size ≤ g → wpSeq P ops Q rest (a.put o.dst (.pointer (some ⟨g, 0, none⟩))) W) : wpSeq P ops Q (o :: rest) a w :=
  wpSeq_alloc t cs hw hrun (h _ _ (Blk.new _ _ _) ((Below.refl w.heap.size w).alloc (Nat.le_refl _) _) (Nat.le_refl _))
set_option maxHeartbeats 4000000 in
set_option maxRecDepth 100000 in
theorem eloop3 (w0 : World) (gB oB cB gk ck gb gr : Nat) (ks : List Nat) (lk : ks.length = 176) (bk : ∀ x ∈ ks, x < 256) (hkb : gk ≠ gb) (hBb : gB ≠ gb) (hrb : gr ≠ gb) (hb : w0.heap.size ≤ gb) (bl : List Nat) (_lbl : bl.length = 16) (bbl : ∀ x ∈ bl, x < 256)
    {Q : Exit → Act → World → Prop} (hQ : ∀ c a d v w, Q (.panic c) (Act.put a d v) w → Q (.panic c) a w) (a : Act) (h : Has 178 ((13, .int .i64 1) :: baseA gB oB cB gk ck gb gr) a) (w1 : World) (hR : RM w0 gk gB oB gb gr ks boxL (fun i => (blockF boxL ks bl (0)).getD i 0) w1)
    (hexit : ∀ a' w', Has 178 (baseA gB oB cB gk ck gb gr) a' → RM w0 gk gB oB gb gr ks boxL (fun i => (blockF boxL ks bl (10)).getD i 0) w' → Q (.exit 6) a' w') : Code.wp Try.prog (.loop (encLoop 3)) Q a w1 := by
  refine wp_loop (fun a' w' => ∃ (r : Nat), 1 ≤ r ∧ r ≤ 11 ∧ Has 178 ((13, .int .i64 (r : Int)) :: baseA gB oB cB gk ck gb gr) a' ∧ RM w0 gk gB oB gb gr ks boxL (fun i => (blockF boxL ks bl (r - 1)).getD i 0) w') (fun a' _ => 11 - (intOf (a'.tmps.getD 13 undef)).toNat) ?_ ?_
  · exact ⟨1, by omega, by omega, h, hR⟩
  clear h a hR
  rintro a w ⟨r, r1, r11, h, hR⟩
  have hm : a.tmps.getD 13 undef = .int .i64 (r : Int) := h.val 13 _ rfl
  generalize a.tmps.getD 13 undef = x at hm ⊢
  subst hm
  conv => arg 2; whnf
  refine wp_seq (wp_seq ?_)
  refine wp_region_seq ?_
  by_cases hlt : r ≤ 10
  · have l0 : (r : Int) ≤ 10 := by omega
    refine seqM h 99 13 rfl rfl rfl rfl rfl ?_
    clear h
    intro a h
    refine seqH h 100 (Value.bool true) rfl rfl (Or.inl ⟨rfl, fun w' hw' => by
        subst hw'
        have e99 : a.eval (.tmp 99) = _ := h.ev 99 rfl
        simp only [execOp, e99]
        go_simp⟩) ?_
    clear h
    intro a h
    refine wpSeq_nil ?_
    show Code.wp _ _ _ _ _
    refine wp_cond (t := true) (h.ev 100 rfl) ?_
    refine wp_skip ?_
    show Code.wp _ _ _ _ _
    have bk' := blockF_bytes (b := bl) bk bbl (r - 1)
    have lk' := blockF_length boxL ks bl (r - 1)
    have eR : ∀ i, i < 16 → (if r < 10 then mixB (shiftB boxL (blockF boxL ks bl (r - 1))) i else shiftB boxL (blockF boxL ks bl (r - 1)) i) ^^^ ks.getD (16 * r + i) 0 = (blockF boxL ks bl (r + 1 - 1)).getD i 0 := fun i hi => by
      obtain ⟨m, rfl⟩ : ∃ m, r = m + 1 := ⟨r - 1, by omega⟩
      show _ = (roundB boxL ks (blockF boxL ks bl m) (m + 1)).getD i 0
      unfold roundB
      rw [range_map_get _ 16 i hi]
      rfl
    have eL := LB_of _ lk'
    generalize blockF boxL ks bl (r - 1) = L at *
    have ER := Lib.hid eR
    clear eR
    refine wp_seq (wp_block (wp_seq ?_))
    refine wp_region_seq ?_
    refine wpSeq_allocQ 22 (Iv .u8 (NI (LB fun _ => 0))) rfl (fun W => by go_simp; rfl) ?_
    intro gs V As bs ms
    have h2 := h.put 14 (.pointer (some ⟨gs, 0, none⟩)) rfl
    change wpSeq _ _ _ _ (Act.put a (some 14) _) _
    clear h
    generalize Act.put a (some 14) _ = a2 at h2 ⊢
    have h := h2
    clear h2
    have gk1 := hR.k.blk
    have gB1 := hR.x.blk
    have gb1 := Blk.lt hR.b
    have gr1 := Blk.lt hR.r
    have s0 := hR.bel.size
    replace hR := hR.below bs
    clear bs
    refine wpSeq_nil ?_
    show Code.wp _ _ _ _ _
    refine wp_seq (wp_seq ?_)
    refine wp_region_seq ?_
    refine seqC h 15 rfl rfl rfl rfl ?_
    clear h
    intro a h
    refine wpSeq_nil ?_
    show Code.wp _ _ _ _ _
    refine wp_block ?_
    refine eloop4 w0 gB oB cB gk ck gb gr ks boxL lk boxL_length bk boxL_bytes hkb hBb hrb hb gs r (by omega) (by omega) (by omega) (by omega) (by omega) (fun i => L.getD i 0) (fun i => getD_lt bk' i) ?_ a (h.trim _ ?_) V ⟨hR, As⟩ ?_
    · exact fun c a d v w h => hQ c a d v w h
    · intro p hp
      simp only [baseS, baseA, List.mem_cons, List.not_mem_nil, or_false] at hp
      rcases hp with rfl | rfl | rfl | rfl | rfl | rfl | rfl <;> rfl
    clear h a hR As
    intro a w4 h hR
    rw [eL] at hR
    show Code.wp _ _ _ _ _
    refine wp_seq ?_
    refine wp_region_seq ?_
    refine seqC h 16 rfl rfl rfl rfl ?_
    clear h
    intro a h
    refine wpSeq_nil ?_
    show Code.wp _ _ _ _ _
    refine wp_block ?_
    refine eloop5 w0 gB oB cB gk ck gb gr ks boxL lk boxL_length bk boxL_bytes hkb hBb hrb hb gs r (by omega) (by omega) (by omega) (by omega) (by omega) r1 hlt (fun i => L.getD i 0) (shiftB boxL L) (shiftB_lt L) ?_ a (h.trim _ ?_) w4 hR ?_
    · exact fun c a d v w h => hQ c a d v w h
    · intro p hp
      simp only [baseS, baseA, List.mem_cons, List.not_mem_nil, or_false] at hp
      rcases hp with rfl | rfl | rfl | rfl | rfl | rfl | rfl <;> rfl
    clear h a hR
    intro a w5 h hR
    have R2 := hR.1.congr (f' := fun i => (blockF boxL ks bl (r + 1 - 1)).getD i 0) ER.out
    clear hR
    show Code.wp _ _ _ _ _
    refine wp_region_seq ?_
    have ew : IntKind.i64.wrap ((r : Int) + 1) = (r : Int) + 1 := by rw [IntKind.wrap_i64]; omega
    refine seqM h 101 13 rfl rfl rfl rfl rfl ?_
    clear h
    intro a h
    refine seqH h 102 (Value.int .i64 ((r : Int) + 1)) rfl rfl (Or.inl ⟨rfl, fun w' hw' => by
        subst hw'
        have e101 : a.eval (.tmp 101) = _ := h.ev 101 rfl
        simp only [execOp, e101]
        go_simp⟩) ?_
    clear h
    intro a h
    refine seqA h 13 102 rfl rfl rfl rfl rfl ?_
    clear h
    intro a h
    refine wpSeq_nil ?_
    refine ⟨⟨r + 1, by omega, by omega, h.trim _ ?_, R2⟩, ?_⟩
    · intro p hp
      simp only [baseA, List.mem_cons, List.not_mem_nil, or_false] at hp
      rcases hp with rfl | rfl | rfl | rfl | rfl <;> rfl
    · have hm2 : a.tmps.getD 13 undef = .int .i64 ((r + 1 : Nat) : Int) := h.val 13 _ rfl
      rw [hm2]
      simp only [intOf]
      omega
  · have l0 : ¬ ((r : Int) ≤ 10) := by omega
    obtain rfl : r = 11 := by omega
    refine seqM h 99 13 rfl rfl rfl rfl rfl ?_
    clear h
    intro a h
    refine seqH h 100 (Value.bool false) rfl rfl (Or.inl ⟨rfl, fun w' hw' => by
        subst hw'
        have e99 : a.eval (.tmp 99) = _ := h.ev 99 rfl
        simp only [execOp, e99]
        go_simp⟩) ?_
    clear h
    intro a h
    refine wpSeq_nil ?_
    show Code.wp _ _ _ _ _
    refine wp_cond (t := false) (h.ev 100 rfl) ?_
    refine wp_exit ?_
    refine hexit _ _ (h.trim _ ?_) hR
    · intro p hp
      simp only [baseA, List.mem_cons, List.not_mem_nil, or_false] at hp
      rcases hp with rfl | rfl | rfl | rfl <;> rfl
end Go.Proofs.Yteaddadmdjjfaaa
