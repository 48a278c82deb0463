/- The reference's Encrypt: the rounds (loop 3) (printed by gena9.py). The reference's Encrypt: the block joined with the first key (loop 2) (printed by gena9.py). The reference's Encrypt: its contract (printed by gena9.py). GCM's multiplication as plain arithmetic; the reference's Block, its contract. -/
import Derived.Test.YtpihgljdbpnehaaDoorBi
import Derived.Test.YtpihgljdbpnehaaDoorAb0Bl
import Derived.Test.YtpihgljdbpnehaaDoorSp0Bk
import Derived.Laws.BitsLemmas
namespace Go.Proofs.YtpihgljdbpnehaaDoor
open Go.RowKit
theorem LB_of (l : List Nat) (h : l.length = 16) : LB (fun i => l.getD i 0) = l := by
  apply List.ext_getElem (by rw [LB_length, h])
  intro i h1 h2
  simp [LB, h2]
theorem wpSeq_allocQ {P : Program} {ops : Array Oper} {Q : Exit → Act → World → Prop} {o : Oper} {rest : List Oper} {a : Act} {w : World} (t : TypeId) (cs : Array Value) (hw : Region.wanted o (yielded ops a.tmps) = true)
    (hrun : ∀ W, (execOp a.eval o).run P W = .ok (.value (.pointer (some ⟨W.heap.size, 0, none⟩))) (W.alloc (.cells cs t)))
    (h : ∀ g W, Blk W g t cs → Below w.heap.size w W → w.heap.size ≤ g → wpSeq P ops Q rest (a.put o.dst (.pointer (some ⟨g, 0, none⟩))) W) : wpSeq P ops Q (o :: rest) a w :=
  wpSeq_alloc t cs hw hrun (h _ _ (Blk.new _ _ _) ((Below.refl w.heap.size w).alloc (Nat.le_refl _) _) (Nat.le_refl _))
set_option maxHeartbeats 4000000 in
set_option maxRecDepth 100000 in
theorem eloop3 (w0 : World) (gB oB cB gk ck gb gr : Nat) (ks : List Nat) (lk : ks.length = 176) (bk : ∀ x ∈ ks, x < 256) (hkb : gk ≠ gb) (hBb : gB ≠ gb) (hrb : gr ≠ gb) (hb : w0.heap.size ≤ gb) (bl : List Nat) (_lbl : bl.length = 16) (bbl : ∀ x ∈ bl, x < 256)
    {Q : Exit → Act → World → Prop} (hQ : ∀ c a d v w, Q (.panic c) (Act.put a d v) w → Q (.panic c) a w) (a : Act) (h : Has 178 ((13, .int .i64 1) :: baseA gB oB cB gk ck gb gr) a) (w1 : World) (hR : RM w0 gk gB oB gb gr ks boxL (fun i => (blockF boxL ks bl (0)).getD i 0) w1)
    (hexit : ∀ a' w', Has 178 (baseA gB oB cB gk ck gb gr) a' → RM w0 gk gB oB gb gr ks boxL (fun i => (blockF boxL ks bl (10)).getD i 0) w' → Q (.exit 6) a' w') : Code.wp Tryd.prog (.loop (encLoop 3)) Q a w1 := by
  refine wp_loop (fun a' w' => ∃ (r : Nat), 1 ≤ r ∧ r ≤ 11 ∧ Has 178 ((13, .int .i64 (r : Int)) :: baseA gB oB cB gk ck gb gr) a' ∧ RM w0 gk gB oB gb gr ks boxL (fun i => (blockF boxL ks bl (r - 1)).getD i 0) w') (fun a' _ => 11 - (intOf (a'.tmps.getD 13 undef)).toNat) ?_ ?_
  · exact ⟨1, by omega, by omega, h, hR⟩
  clear h a hR
  rintro a w ⟨r, r1, r11, h, hR⟩
  have hm : a.tmps.getD 13 undef = .int .i64 (r : Int) := h.val 13 _ rfl
  generalize a.tmps.getD 13 undef = x at hm ⊢
  subst hm
  conv => arg 2; whnf
  refine wp_seq (wp_seq ?_)
  refine wp_region_seq ?_
  by_cases hlt : r ≤ 10
  · have l0 : (r : Int) ≤ 10 := by omega
    refine seqM h 99 13 rfl rfl rfl rfl rfl ?_
    clear h
    intro a h
    refine seqH h 100 (Value.bool true) rfl rfl (Or.inl ⟨rfl, fun w' hw' => by
        subst hw'
        have e99 : a.eval (.tmp 99) = _ := h.ev 99 rfl
        simp only [execOp, e99]
        go_simp⟩) ?_
    clear h
    intro a h
    refine wpSeq_nil ?_
    show Code.wp _ _ _ _ _
    refine wp_cond (t := true) (h.ev 100 rfl) ?_
    refine wp_skip ?_
    show Code.wp _ _ _ _ _
    have bk' := blockF_bytes (b := bl) bk bbl (r - 1)
    have lk' := blockF_length boxL ks bl (r - 1)
    have eR : ∀ i, i < 16 → (if r < 10 then mixB (shiftB boxL (blockF boxL ks bl (r - 1))) i else shiftB boxL (blockF boxL ks bl (r - 1)) i) ^^^ ks.getD (16 * r + i) 0 = (blockF boxL ks bl (r + 1 - 1)).getD i 0 := fun i hi => by
      obtain ⟨m, rfl⟩ : ∃ m, r = m + 1 := ⟨r - 1, by omega⟩
      show _ = (roundB boxL ks (blockF boxL ks bl m) (m + 1)).getD i 0
      unfold roundB
      rw [range_map_get _ 16 i hi]
      rfl
    have eL := LB_of _ lk'
    generalize blockF boxL ks bl (r - 1) = L at *
    have ER := Lib.hid eR
    clear eR
    refine wp_seq (wp_block (wp_seq ?_))
    refine wp_region_seq ?_
    refine wpSeq_allocQ 26 (Iv .u8 (NI (LB fun _ => 0))) rfl (fun W => by go_simp; rfl) ?_
    intro gs V As bs ms
    have h2 := h.put 14 (.pointer (some ⟨gs, 0, none⟩)) rfl
    change wpSeq _ _ _ _ (Act.put a (some 14) _) _
    clear h
    generalize Act.put a (some 14) _ = a2 at h2 ⊢
    have h := h2
    clear h2
    have gk1 := hR.k.blk
    have gB1 := hR.x.blk
    have gb1 := Blk.lt hR.b
    have gr1 := Blk.lt hR.r
    have s0 := hR.bel.size
    replace hR := hR.below bs
    clear bs
    refine wpSeq_nil ?_
    show Code.wp _ _ _ _ _
    refine wp_seq (wp_seq ?_)
    refine wp_region_seq ?_
    refine seqC h 15 rfl rfl rfl rfl ?_
    clear h
    intro a h
    refine wpSeq_nil ?_
    show Code.wp _ _ _ _ _
    refine wp_block ?_
    refine eloop4 w0 gB oB cB gk ck gb gr ks boxL lk boxL_length bk boxL_bytes hkb hBb hrb hb gs r (by omega) (by omega) (by omega) (by omega) (by omega) (fun i => L.getD i 0) (fun i => getD_lt bk' i) ?_ a (h.trim _ ?_) V ⟨hR, As⟩ ?_
    · exact fun c a d v w h => hQ c a d v w h
    · intro p hp
      simp only [baseS, baseA, List.mem_cons, List.not_mem_nil, or_false] at hp
      rcases hp with rfl | rfl | rfl | rfl | rfl | rfl | rfl <;> rfl
    clear h a hR As
    intro a w4 h hR
    rw [eL] at hR
    show Code.wp _ _ _ _ _
    refine wp_seq ?_
    refine wp_region_seq ?_
    refine seqC h 16 rfl rfl rfl rfl ?_
    clear h
    intro a h
    refine wpSeq_nil ?_
    show Code.wp _ _ _ _ _
    refine wp_block ?_
    refine eloop5 w0 gB oB cB gk ck gb gr ks boxL lk boxL_length bk boxL_bytes hkb hBb hrb hb gs r (by omega) (by omega) (by omega) (by omega) (by omega) r1 hlt (fun i => L.getD i 0) (shiftB boxL L) (shiftB_lt L) ?_ a (h.trim _ ?_) w4 hR ?_
    · exact fun c a d v w h => hQ c a d v w h
    · intro p hp
      simp only [baseS, baseA, List.mem_cons, List.not_mem_nil, or_false] at hp
      rcases hp with rfl | rfl | rfl | rfl | rfl | rfl | rfl <;> rfl
    clear h a hR
    intro a w5 h hR
    have R2 := hR.1.congr (f' := fun i => (blockF boxL ks bl (r + 1 - 1)).getD i 0) ER.out
    clear hR
    show Code.wp _ _ _ _ _
    refine wp_region_seq ?_
    have ew : IntKind.i64.wrap ((r : Int) + 1) = (r : Int) + 1 := by rw [IntKind.wrap_i64]; omega
    refine seqM h 101 13 rfl rfl rfl rfl rfl ?_
    clear h
    intro a h
    refine seqH h 102 (Value.int .i64 ((r : Int) + 1)) rfl rfl (Or.inl ⟨rfl, fun w' hw' => by
        subst hw'
        have e101 : a.eval (.tmp 101) = _ := h.ev 101 rfl
        simp only [execOp, e101]
        go_simp⟩) ?_
    clear h
    intro a h
    refine seqA h 13 102 rfl rfl rfl rfl rfl ?_
    clear h
    intro a h
    refine wpSeq_nil ?_
    refine ⟨⟨r + 1, by omega, by omega, h.trim _ ?_, R2⟩, ?_⟩
    · intro p hp
      simp only [baseA, List.mem_cons, List.not_mem_nil, or_false] at hp
      rcases hp with rfl | rfl | rfl | rfl | rfl <;> rfl
    · have hm2 : a.tmps.getD 13 undef = .int .i64 ((r + 1 : Nat) : Int) := h.val 13 _ rfl
      rw [hm2]
      simp only [intOf]
      omega
  · have l0 : ¬ ((r : Int) ≤ 10) := by omega
    obtain rfl : r = 11 := by omega
    refine seqM h 99 13 rfl rfl rfl rfl rfl ?_
    clear h
    intro a h
    refine seqH h 100 (Value.bool false) rfl rfl (Or.inl ⟨rfl, fun w' hw' => by
        subst hw'
        have e99 : a.eval (.tmp 99) = _ := h.ev 99 rfl
        simp only [execOp, e99]
        go_simp⟩) ?_
    clear h
    intro a h
    refine wpSeq_nil ?_
    show Code.wp _ _ _ _ _
    refine wp_cond (t := false) (h.ev 100 rfl) ?_
    refine wp_exit ?_
    refine hexit _ _ (h.trim _ ?_) hR
    · intro p hp
      simp only [baseA, List.mem_cons, List.not_mem_nil, or_false] at hp
      rcases hp with rfl | rfl | rfl | rfl <;> rfl
end Go.Proofs.YtpihgljdbpnehaaDoor
namespace Go.Proofs.YtpihgljdbpnehaaDoor
open Go.RowKit
set_option maxHeartbeats 4000000 in
set_option maxRecDepth 100000 in
theorem eloop2 (w0 : World) (gB oB cB gk ck gb gr : Nat) (ks Bx : List Nat) (lk : ks.length = 176) (_lB : Bx.length = 256) (bk : ∀ x ∈ ks, x < 256) (_bB : ∀ x ∈ Bx, x < 256) (hkb : gk ≠ gb) (hBb : gB ≠ gb) (hrb : gr ≠ gb) (hb : w0.heap.size ≤ gb) (f : Nat → Nat) (hf : ∀ i, f i < 256)
    {Q : Exit → Act → World → Prop} (hQ : ∀ c a d v w, Q (.panic c) (Act.put a d v) w → Q (.panic c) a w) (a : Act) (h : Has 178 ((12, .int .i64 0) :: baseA gB oB cB gk ck gb gr) a) (w1 : World) (hR : RM w0 gk gB oB gb gr ks Bx f w1)
    (hexit : ∀ a' w', Has 178 (baseA gB oB cB gk ck gb gr) a' → RM w0 gk gB oB gb gr ks Bx (fun i => f i ^^^ ks.getD i 0) w' → Q (.exit 4) a' w') : Code.wp Tryd.prog (.loop (encLoop 2)) Q a w1 := by
  refine wp_loop (fun a' w' => ∃ (k : Nat), k ≤ 16 ∧ Has 178 ((12, .int .i64 (k : Int)) :: baseA gB oB cB gk ck gb gr) a' ∧ RM w0 gk gB oB gb gr ks Bx (MX (fun i => f i ^^^ ks.getD i 0) f k) w') (fun a' _ => 16 - (intOf (a'.tmps.getD 12 undef)).toNat) ?_ ?_
  · exact ⟨0, Nat.zero_le _, h, hR.congr fun i _ => (if_neg (by omega)).symm⟩
  clear h a hR
  rintro a w ⟨k, hk, h, hR⟩
  have hm : a.tmps.getD 12 undef = .int .i64 (k : Int) := h.val 12 _ rfl
  generalize a.tmps.getD 12 undef = x at hm ⊢
  subst hm
  conv => arg 2; whnf
  refine wp_seq (wp_seq ?_)
  refine wp_region_seq ?_
  by_cases hlt : k < 16
  · have l0 : (k : Int) < 16 := by omega
    have l1 : (0 : Int) ≤ (k : Int) := by omega
    refine seqM h 85 12 rfl rfl rfl rfl rfl ?_
    clear h
    intro a h
    refine seqH h 86 (Value.bool true) rfl rfl (Or.inl ⟨rfl, fun w' hw' => by
        subst hw'
        have e85 : a.eval (.tmp 85) = _ := h.ev 85 rfl
        simp only [execOp, e85]
        go_simp⟩) ?_
    clear h
    intro a h
    refine wpSeq_nil ?_
    show Code.wp _ _ _ _ _
    refine wp_cond (t := true) (h.ev 86 rfl) ?_
    refine wp_skip ?_
    show Code.wp _ _ _ _ _
    refine wp_seq (wp_block ?_)
    refine wp_region_Z (S := RM w0 gk gB oB gb gr ks Bx (MX (fun i => f i ^^^ ks.getD i 0) f k)) 10 (by kernel_rfl) ?_
    have hS := hR.drew
    clear hR
    generalize w.drew = V at hS ⊢
    have lF := hf k
    have lK := getD_lt bk k
    have ex := u8_xor_nat (f k) (ks.getD k 0) lF lK
    have c0 : ∀ w', RM w0 gk gB oB gb gr ks Bx (MX (fun i => f i ^^^ ks.getD i 0) f k) w' → w'.cell? ⟨gb, k, none⟩ = some (.int .u8 ((f k : Nat) : Int)) := fun w' hw => by rw [hw.b.cell k hlt, show MX (fun i => f i ^^^ ks.getD i 0) f k k = f k from if_neg (by omega)]
    have c1 : ∀ w', RM w0 gk gB oB gb gr ks Bx (MX (fun i => f i ^^^ ks.getD i 0) f k) w' → w'.cell? ⟨gk, k, none⟩ = some (.int .u8 ((ks.getD k 0 : Nat) : Int)) := fun w' hw => hw.k.at0 k (by omega)
    obtain ⟨X, hX⟩ : ∃ X, X = f k ^^^ ks.getD k 0 := ⟨_, rfl⟩
    have hv : X = MX (fun i => f i ^^^ ks.getD i 0) f (k + 1) k := hX.trans (if_pos (by omega)).symm
    rw [← hX] at ex
    have HV := Lib.hid hv
    generalize f k = F at *
    generalize ks.getD k 0 = K at *
    have C0 := Lib.hid c0
    have C1 := Lib.hid c1
    have l2 : (k : Int) < 176 := by omega
    clear c0 c1 hX hv
    refine zanyM 0 h 89 12 rfl rfl rfl rfl rfl rfl (by kernel_rfl) (by kernel_rfl) (by kernel_rfl) (by kernel_rfl) (by kernel_rfl) (fun c a w h => hQ _ _ _ _ _ h) hS ?_
    clear h
    intro a h
    refine zanyM 1 h 90 12 rfl rfl rfl rfl rfl rfl (by kernel_rfl) (by kernel_rfl) (by kernel_rfl) (by kernel_rfl) (by kernel_rfl) (fun c a w h => hQ _ _ _ _ _ h) hS ?_
    clear h
    intro a h
    refine zanyH 2 h 91 (Value.pointer (some ⟨gb, k, none⟩)) rfl rfl rfl (by kernel_rfl) (by kernel_rfl) (by kernel_rfl) (by kernel_rfl) (by kernel_rfl) (fun c a w h => hQ _ _ _ _ _ h) (Or.inl ⟨rfl, fun w' hw' => by
        have e5 : a.eval (.tmp 5) = _ := h.ev 5 rfl
        have e90 : a.eval (.tmp 90) = _ := h.ev 90 rfl
        simp only [execOp, e5, e90]
        go_simp⟩) hS ?_
    clear h
    intro a h
    refine zanyH 3 h 92 (Value.int .u8 ((F : Nat) : Int)) rfl rfl rfl (by kernel_rfl) (by kernel_rfl) (by kernel_rfl) (by kernel_rfl) (by kernel_rfl) (fun c a w h => hQ _ _ _ _ _ h) (Or.inl ⟨rfl, fun w' hw' => by
        have e91 : a.eval (.tmp 91) = _ := h.ev 91 rfl
        have c1 := C0.out w' hw'
        simp only [execOp, e91]
        go_simp⟩) hS ?_
    clear h
    intro a h
    refine zanyM 4 h 93 7 rfl rfl rfl rfl rfl rfl (by kernel_rfl) (by kernel_rfl) (by kernel_rfl) (by kernel_rfl) (by kernel_rfl) (fun c a w h => hQ _ _ _ _ _ h) hS ?_
    clear h
    intro a h
    refine zanyM 5 h 94 12 rfl rfl rfl rfl rfl rfl (by kernel_rfl) (by kernel_rfl) (by kernel_rfl) (by kernel_rfl) (by kernel_rfl) (fun c a w h => hQ _ _ _ _ _ h) hS ?_
    clear h
    intro a h
    refine zanyH 6 h 95 (Value.pointer (some ⟨gk, k, none⟩)) rfl rfl rfl (by kernel_rfl) (by kernel_rfl) (by kernel_rfl) (by kernel_rfl) (by kernel_rfl) (fun c a w h => hQ _ _ _ _ _ h) (Or.inl ⟨rfl, fun w' hw' => by
        have e93 : a.eval (.tmp 93) = _ := h.ev 93 rfl
        have e94 : a.eval (.tmp 94) = _ := h.ev 94 rfl
        simp only [execOp, e93, e94]
        go_simp⟩) hS ?_
    clear h
    intro a h
    refine zanyH 7 h 96 (Value.int .u8 ((K : Nat) : Int)) rfl rfl rfl (by kernel_rfl) (by kernel_rfl) (by kernel_rfl) (by kernel_rfl) (by kernel_rfl) (fun c a w h => hQ _ _ _ _ _ h) (Or.inl ⟨rfl, fun w' hw' => by
        have e95 : a.eval (.tmp 95) = _ := h.ev 95 rfl
        have c1 := C1.out w' hw'
        simp only [execOp, e95]
        go_simp⟩) hS ?_
    clear h
    intro a h
    refine zanyH 8 h 97 (Value.int .u8 ((X : Nat) : Int)) rfl rfl rfl (by kernel_rfl) (by kernel_rfl) (by kernel_rfl) (by kernel_rfl) (by kernel_rfl) (fun c a w h => hQ _ _ _ _ _ h) (Or.inl ⟨rfl, fun w' hw' => by
        have e92 : a.eval (.tmp 92) = _ := h.ev 92 rfl
        have e96 : a.eval (.tmp 96) = _ := h.ev 96 rfl
        simp only [execOp, e92, e96]
        go_simp⟩) hS ?_
    clear h
    intro a h
    refine zanyH 9 h 98 (Value.pointer (some ⟨gb, k, none⟩)) rfl rfl rfl (by kernel_rfl) (by kernel_rfl) (by kernel_rfl) (by kernel_rfl) (by kernel_rfl) (fun c a w h => hQ _ _ _ _ _ h) (Or.inl ⟨rfl, fun w' hw' => by
        have e5 : a.eval (.tmp 5) = _ := h.ev 5 rfl
        have e89 : a.eval (.tmp 89) = _ := h.ev 89 rfl
        simp only [execOp, e5, e89]
        go_simp⟩) hS ?_
    clear h
    intro a h
    have fz := Blk.frozen hS.b k
    have c1 := hS.b.cell k hlt
    refine zcell 10 h rfl rfl (by kernel_rfl) (by kernel_rfl) _ (fun K hK => wp_store_int _ _ _ rfl rfl (by kernel_rfl) gb k _ _ (h.ev 98 rfl) (h.ev 97 rfl) _ c1 fz hK) ?_
    refine wpAnyZ_done (by kernel_rfl) ?_ _
    have R2 := hS.set hkb hBb hrb hb k (MX (fun i => f i ^^^ ks.getD i 0) f (k + 1)) hlt (fun i hi => by unfold MX; by_cases hik : i < k <;> simp [hik] <;> omega)
    rw [← HV.out] at R2
    generalize World.setCell V _ _ = U at R2 ⊢
    clear hS fz c1
    show Code.wp _ _ _ _ _
    refine wp_region_seq ?_
    have ew : IntKind.i64.wrap ((k : Int) + 1) = (k : Int) + 1 := by rw [IntKind.wrap_i64]; omega
    refine seqM h 87 12 rfl rfl rfl rfl rfl ?_
    clear h
    intro a h
    refine seqH h 88 (Value.int .i64 ((k : Int) + 1)) rfl rfl (Or.inl ⟨rfl, fun w' hw' => by
        subst hw'
        have e87 : a.eval (.tmp 87) = _ := h.ev 87 rfl
        simp only [execOp, e87]
        go_simp⟩) ?_
    clear h
    intro a h
    refine seqA h 12 88 rfl rfl rfl rfl rfl ?_
    clear h
    intro a h
    refine wpSeq_nil ?_
    refine ⟨⟨k + 1, by omega, h.trim _ ?_, R2⟩, ?_⟩
    · intro p hp
      simp only [baseA, List.mem_cons, List.not_mem_nil, or_false] at hp
      rcases hp with rfl | rfl | rfl | rfl | rfl <;> rfl
    · have hm2 : a.tmps.getD 12 undef = .int .i64 ((k + 1 : Nat) : Int) := h.val 12 _ rfl
      rw [hm2]
      simp only [intOf]
      omega
  · have l0 : ¬ ((k : Int) < 16) := by omega
    obtain rfl : k = 16 := by omega
    refine seqM h 85 12 rfl rfl rfl rfl rfl ?_
    clear h
    intro a h
    refine seqH h 86 (Value.bool false) rfl rfl (Or.inl ⟨rfl, fun w' hw' => by
        subst hw'
        have e85 : a.eval (.tmp 85) = _ := h.ev 85 rfl
        simp only [execOp, e85]
        go_simp⟩) ?_
    clear h
    intro a h
    refine wpSeq_nil ?_
    show Code.wp _ _ _ _ _
    refine wp_cond (t := false) (h.ev 86 rfl) ?_
    refine wp_exit ?_
    refine hexit _ _ (h.trim _ ?_) (hR.congr fun i hi => if_pos hi)
    · intro p hp
      simp only [baseA, List.mem_cons, List.not_mem_nil, or_false] at hp
      rcases hp with rfl | rfl | rfl | rfl <;> rfl
end Go.Proofs.YtpihgljdbpnehaaDoor
namespace Go.Proofs.YtpihgljdbpnehaaDoor
open Go.RowKit
theorem has_enter3 (x y z : Value) (N : Nat) (h3 : 3 ≤ N) : Has N [(0, x), (1, y), (2, z)] ⟨#[x, y, z] ++ Array.replicate (N - 3) undef, []⟩ := by
  refine ⟨by simp; omega, rfl, fun d v hl => ?_⟩
  match d, hl with
  | 0, hl => have e : look [(0, x), (1, y), (2, z)] 0 = some x := rfl
             cases e.symm.trans hl
             simp [Array.getElem?_append]
  | 1, hl => have e : look [(0, x), (1, y), (2, z)] 1 = some y := rfl
             cases e.symm.trans hl
             simp [Array.getElem?_append]
  | 2, hl => have e : look [(0, x), (1, y), (2, z)] 2 = some z := rfl
             cases e.symm.trans hl
             simp [Array.getElem?_append]
  | n + 3, hl => have e : look [(0, x), (1, y), (2, z)] (n + 3) = none := rfl
                 cases e.symm.trans hl
theorem calls_enter3 {P : Program} {f : FuncId} {fn : Func} {c : Code} {x y z : Value} {w : World} {R : Ending → World → Prop} (N : Nat) (hf : P.funcs[f]? = some fn) (hb : fn.body = some c) (hN : fn.ntmps = N) (h3 : 3 ≤ N)
    (h : ∀ a, Has N [(0, x), (1, y), (2, z)] a → c.wp P (bodyPost P fn R) a w) : Calls P f #[x, y, z] w R :=
  calls_of_wp hf hb (by rw [hN]; exact h _ (has_enter3 x y z N h3))
theorem NI_LB (l : List Nat) (h : l.length = 16) : NI (LB fun i => l.getD i 0) = NI l := by rw [LB_of l h]
theorem info_16 (f : Nat → Nat) : (Tryd.prog.info? 26).map (·.size) = some (Iv .u8 (NI (LB f))).size := by
  rw [Iv_size, NI_length, LB_length]
  kernel_rfl
theorem keysL_length (B k : List Nat) (h : k.length = 16) : (keysL B k).length = 176 := keysF_length B k h 40
theorem keysL_bytes {k : List Nat} (h : ∀ x ∈ k, x < 256) : ∀ x ∈ keysL boxL k, x < 256 := keysF_bytes boxL_bytes h 40
set_option maxHeartbeats 4000000 in
set_option maxRecDepth 100000 in
theorem rencrypt_any (w : World) (bv : Value) (hb : SB w bv boxL) (kk bl : List Nat) (lkk : kk.length = 16) (lbl : bl.length = 16) (bkk : ∀ x ∈ kk, x < 256) (bbl : ∀ x ∈ bl, x < 256) :
    Calls Tryd.prog 36 #[bv, .agg (Iv .u8 (NI kk)), .agg (Iv .u8 (NI bl))] w fun e w' => e = .returned (.agg (Iv .u8 (NI (encL boxL kk bl)))) ∧ Below w.heap.size w w' := by
  obtain ⟨pB, cB, rfl, hcB, h0 | ⟨gB, oB, rfl, X⟩⟩ := hb
  · have := boxL_length
    rw [h0] at this
    cases this
  rw [boxL_length] at hcB ⊢
  refine calls_enter3 178 Tryd.func36 rfl Tryd.ntmps36 (by decide) fun a h => ?_
  have gBl := X.blk
  have b1 : Below w.heap.size w (w.alloc (.cells (Iv .u8 (NI kk)) 26)) := (Below.refl _ _).alloc (Nat.le_refl _) _
  have K1 := BA.of_blk (Blk.new w 26 (Iv .u8 (NI kk)))
  repeat refine wp_seq ?_
  refine wp_region_seq ?_
  refine seqW h 4 (.pointer (some ⟨w.heap.size, 0, none⟩)) (w.alloc (.cells (Iv .u8 (NI kk)) 26)) rfl rfl rfl (fun K hK => by
    have f := h.at_ 1 rfl
    unfold Oper.wp execOp
    go_simp
    exact hK) ?_
  clear h
  intro a h
  have S1 := Lib.hid (show (w.alloc (.cells (Iv .u8 (NI kk)) 26)).heap.size = w.heap.size + 1 by simp)
  generalize World.alloc w _ = V1 at *
  have b2 : Below V1.heap.size V1 (V1.alloc (.cells (Iv .u8 (NI bl)) 26)) := (Below.refl _ _).alloc (Nat.le_refl _) _
  have K2 : B16 (V1.alloc (.cells (Iv .u8 (NI bl)) 26)) V1.heap.size (fun i => bl.getD i 0) := by
    unfold B16
    rw [NI_LB bl lbl]
    exact Blk.new V1 _ _
  refine seqW h 5 (.pointer (some ⟨V1.heap.size, 0, none⟩)) (V1.alloc (.cells (Iv .u8 (NI bl)) 26)) rfl rfl rfl (fun K hK => by
    have f := h.at_ 2 rfl
    unfold Oper.wp execOp
    go_simp
    exact hK) ?_
  clear h
  intro a h
  have S2 := Lib.hid (show (V1.alloc (.cells (Iv .u8 (NI bl)) 26)).heap.size = V1.heap.size + 1 by simp)
  generalize World.alloc V1 _ = V2 at *
  refine wpSeq_allocQ 26 (Iv .u8 (NI (LB fun _ => 0))) rfl (fun W => by go_simp; rfl) ?_
  intro gr W R3 b3 m3
  have h2 := h.put 6 (.pointer (some ⟨gr, 0, none⟩)) rfl
  change wpSeq _ _ _ _ (Act.put a (some 6) _) _
  clear h
  generalize Act.put a (some 6) _ = a2 at h2 ⊢
  have h := h2
  clear h2
  have s3 := Blk.lt R3
  have s1 := S1.out
  have s2 := S2.out
  have K3 := (K1.below b2).below b3
  have B3 : B16 W V1.heap.size (fun i => bl.getD i 0) := Blk.below' K2 b3
  have bw1 : Below w.heap.size w W := (b1.trans (b2.mono b1.size)).trans (b3.mono (Nat.le_trans b1.size b2.size))
  have X3 := X.below bw1
  have gbl : V1.heap.size < W.heap.size := by have := b3.size; omega
  generalize hgb : V1.heap.size = gb at *
  have gkl : w.heap.size < gb := by omega
  clear K1 K2 b1 b2 b3 X
  refine wpSeq_nil ?_
  show Code.wp _ _ _ _ _
  repeat refine wp_seq ?_
  refine wp_region_seq ?_
  have O0 := ow_none W.heap.size W (Nat.le_refl _)
  have B0 : Below W.heap.size W _ := (Below.refl _ _).alloc (Nat.le_refl _) (.cells #[] 5)
  obtain ⟨v5, w5, r5, O5, g5, _⟩ := append_ba W.heap.size _ 24 _ [] kk O0 w.heap.size 0 16 (K3.below B0) (by rw [lkk]; simp) B0.size
  have b5 : Below W.heap.size W w5 := below_grown' B0 g5 (fun j hj => (O0.lt j hj).1) B0.size
  rw [List.nil_append] at O5
  rw [lkk] at r5
  refine seqW h 19 (.slice (some ⟨W.heap.size, 0, none⟩) 0 0) (W.alloc (.cells #[] 5)) rfl rfl rfl (fun K hK => wp_build_run _ rfl _ _ (run_buildSlice_none _) hK) ?_
  clear h
  intro a h
  refine seqH h 20 (Value.slice (some ⟨w.heap.size, 0, none⟩) 16 16) rfl rfl (Or.inl ⟨rfl, fun w' hw' => by
      subst hw'
      have e4 : a.eval (.tmp 4) = _ := h.ev 4 rfl
      simp only [execOp, e4]
      go_simp⟩) ?_
  clear h
  intro a h
  refine seqW h 21 v5 w5 rfl rfl rfl (fun K hK => wp_append_run _ _ _ _ rfl _ _ (h.ev 19 rfl) (h.ev 20 rfl) _ _ r5 hK) ?_
  clear h
  intro a h
  refine seqA h 7 21 rfl rfl rfl rfl rfl ?_
  clear h
  intro a h
  refine wpSeq_nil ?_
  show Code.wp _ _ _ _ _
  repeat refine wp_seq ?_
  refine wp_region_seq ?_
  refine seqC h 8 rfl rfl rfl rfl ?_
  clear h
  intro a h
  refine wpSeq_nil ?_
  show Code.wp _ _ _ _ _
  repeat refine wp_seq ?_
  refine wp_block ?_
  refine eloop0 W gB oB cB (.pointer (some ⟨gb, 0, none⟩)) (.pointer (some ⟨gr, 0, none⟩)) kk lkk bkk X3 (fun c a d v w h => by cases d <;> exact h) a v5 (h.trim _ ?_) w5 ⟨O5, b5⟩ ?_
  · intro p hp
    simp only [base0, List.mem_cons, List.not_mem_nil, or_false] at hp
    rcases hp with rfl | rfl | rfl | rfl | rfl <;> rfl
  clear h a O0 B0 r5 O5 g5 b5 K3
  intro a w7 v h O7 b7
  have lk := keysL_length boxL kk lkk
  have bk := keysL_bytes bkk
  rcases O7.row with ⟨_, hx⟩ | ⟨gk, ck, rfl, hgk, _, _, A7, _⟩
  · rw [hx] at lk
    cases lk
  rw [lk] at h
  have hR : RM w gk gB oB gb gr (keysL boxL kk) boxL (fun i => bl.getD i 0) w7 := ⟨A7, X3.below b7, Blk.below' B3 b7, bw1.trans (b7.mono bw1.size), Blk.below' R3 b7⟩
  have e0 : ∀ i, i < 16 → bl.getD i 0 ^^^ (keysL boxL kk).getD i 0 = (blockF boxL (keysL boxL kk) bl 0).getD i 0 := fun i hi => by
    unfold blockF
    rw [range_map_get _ 16 i hi]
  have henc : encL boxL kk bl = blockF boxL (keysL boxL kk) bl 10 := rfl
  have hl10 := blockF_length boxL (keysL boxL kk) bl 10
  generalize keysL boxL kk = ks at *
  have HE := Lib.hid henc
  clear henc O7 A7 b7 X3 B3 R3
  show Code.wp _ _ _ _ _
  repeat refine wp_seq ?_
  refine wp_region_seq ?_
  refine seqC h 12 rfl rfl rfl rfl ?_
  clear h
  intro a h
  refine wpSeq_nil ?_
  show Code.wp _ _ _ _ _
  refine wp_block ?_
  refine eloop2 w gB oB cB gk ck gb gr ks boxL lk boxL_length bk boxL_bytes (by omega) (by omega) (by omega) (by omega) (fun i => bl.getD i 0) (fun i => getD_lt bbl i) (fun c a d v w h => by cases d <;> exact h) a (h.trim _ ?_) w7 hR ?_
  · intro p hp
    simp only [baseA, List.mem_cons, List.not_mem_nil, or_false] at hp
    rcases hp with rfl | rfl | rfl | rfl | rfl <;> rfl
  clear h a hR
  intro a w8 h hR
  replace hR := hR.congr e0
  show Code.wp _ _ _ _ _
  repeat refine wp_seq ?_
  refine wp_region_seq ?_
  refine seqC h 13 rfl rfl rfl rfl ?_
  clear h
  intro a h
  refine wpSeq_nil ?_
  show Code.wp _ _ _ _ _
  refine wp_block ?_
  refine eloop3 w gB oB cB gk ck gb gr ks lk bk (by omega) (by omega) (by omega) (by omega) bl lbl bbl (fun c a d v w h => by cases d <;> exact h) a (h.trim _ ?_) w8 hR ?_
  · intro p hp
    simp only [baseA, List.mem_cons, List.not_mem_nil, or_false] at hp
    rcases hp with rfl | rfl | rfl | rfl | rfl <;> rfl
  clear h a hR e0
  intro a w9 h hR
  show Code.wp _ _ _ _ _
  repeat refine wp_seq ?_
  refine wp_region_seq ?_
  refine seqH h 177 (.agg (Iv .u8 (NI (LB fun i => (blockF boxL ks bl 10).getD i 0)))) rfl rfl (yieldsIf_row_wanted rfl 26 _ rfl gb (h.ev 5 rfl) 26 _ _ (fun w' hw' => by subst hw'; exact hR.b) Tryd.underlying26 rfl (info_16 _)) ?_
  clear h
  intro a h
  refine wpSeq_store_row rfl 26 _ _ rfl gr (Iv .u8 (NI (LB fun i => (blockF boxL ks bl 10).getD i 0))) (h.ev 6 rfl) (h.ev 177 rfl) 26 _ hR.r (info_16 _) (by rw [Iv_size, Iv_size, NI_length, NI_length, LB_length, LB_length]) (Iv_one _ _) ?_
  refine wpSeq_nil ?_
  show Code.wp _ _ _ _ _
  refine wp_ret ?_
  have RR := Blk.row hR.r (Iv .u8 (NI (LB fun i => (blockF boxL ks bl 10).getD i 0)))
  have BB := below_setRow hR.bel (g := gr) (by have := bw1.size; omega) (Iv .u8 (NI (LB fun i => (blockF boxL ks bl 10).getD i 0)))
  refine bodyPost_ret (results_cell_row rfl _ _ _ 26 _ (0, 0) _ (h.val 6 _ rfl) RR Tryd.underlying26 rfl (info_16 _)) h.defers ⟨?_, BB⟩
  rw [NI_LB _ hl10, HE.out]
end Go.Proofs.YtpihgljdbpnehaaDoor
namespace Go.Proofs.YtpihgljdbpnehaaDoor
open Go.RowKit
/-- Turned by one bit, towards the higher powers. -/
def shF (f : Nat → Nat) (k : Nat) : Nat := f k / 2 + (if k = 0 then 0 else f (k - 1) % 2) * 128
def gturnF (f : Nat → Nat) (k : Nat) : Nat := if k = 0 ∧ f 15 % 2 = 1 then shF f 0 ^^^ 225 else shF f k
def gbF (b : Nat → Nat) : Nat → Nat → Nat
  | 0 => b
  | i + 1 => gturnF (gbF b i)
def gpF (a b : Nat → Nat) : Nat → Nat → Nat
  | 0 => fun _ => 0
  | i + 1 => fun k => if a (i / 8) / 2 ^ (7 - i % 8) % 2 = 1 then gpF a b i k ^^^ gbF b i k else gpF a b i k
/-- The product of two blocks. -/
def timesF (a b : Nat → Nat) : Nat → Nat := gpF a b 128
theorem shF_lt {f : Nat → Nat} (h : ∀ i, f i < 256) (k : Nat) : shF f k < 256 := by
  unfold shF
  have := h k
  split <;> omega
theorem gturnF_lt {f : Nat → Nat} (h : ∀ i, f i < 256) (k : Nat) : gturnF f k < 256 := by
  unfold gturnF
  split
  · exact Nat.xor_lt_two_pow (n := 8) (shF_lt h 0) (by decide)
  · exact shF_lt h k
theorem gbF_lt {b : Nat → Nat} (h : ∀ i, b i < 256) : ∀ i k, gbF b i k < 256
  | 0, k => h k
  | i + 1, k => gturnF_lt (gbF_lt h i) k
theorem gpF_lt {a b : Nat → Nat} (h : ∀ i, b i < 256) : ∀ i k, gpF a b i k < 256
  | 0, _ => by show 0 < 256; decide
  | i + 1, k => by
    show (if a (i / 8) / 2 ^ (7 - i % 8) % 2 = 1 then gpF a b i k ^^^ gbF b i k else gpF a b i k) < 256
    split
    · exact Nat.xor_lt_two_pow (n := 8) (gpF_lt h i k) (gbF_lt h i k)
    · exact gpF_lt h i k
theorem timesF_lt {a b : Nat → Nat} (h : ∀ i, b i < 256) (k : Nat) : timesF a b k < 256 := gpF_lt h 128 k
/-- What memory holds in Block. -/
structure GS (w : World) (a f p : Nat → Nat) (wr : World) : Prop where
  a : B16 wr w.heap.size a
  b : B16 wr (w.heap.size + 1) f
  r : B16 wr (w.heap.size + 1 + 1) (fun _ => 0)
  p : B16 wr (w.heap.size + 1 + 1 + 1) p
  bl : Below w.heap.size w wr
section
variable {w wr : World} {a f p : Nat → Nat}
theorem GS.drew (h : GS w a f p wr) : GS w a f p wr.drew := ⟨h.a.of_block rfl, h.b.of_block rfl, h.r.of_block rfl, h.p.of_block rfl, below_drew h.bl⟩
theorem GS.congr (h : GS w a f p wr) {f' p' : Nat → Nat} (h1 : ∀ i, i < 16 → f i = f' i) (h2 : ∀ i, i < 16 → p i = p' i) : GS w a f' p' wr := ⟨h.a, h.b.congr h1, h.r, h.p.congr h2, h.bl⟩
theorem GS.setB (h : GS w a f p wr) (k : Nat) (f' : Nat → Nat) (hk : k < 16) (ho : ∀ i, i ≠ k → f' i = f i) : GS w a f' p (wr.setCell ⟨w.heap.size + 1, k, none⟩ (.int .u8 ((f' k : Nat) : Int))) :=
  ⟨h.a.of_block (heap_setCell_other wr _ _ _ (by dsimp only; omega)), h.b.set k f' hk ho, h.r.of_block (heap_setCell_other wr _ _ _ (by dsimp only; omega)), h.p.of_block (heap_setCell_other wr _ _ _ (by dsimp only; omega)), h.bl.setCell (p := ⟨w.heap.size + 1, k, none⟩) (by simp) _⟩
theorem GS.setP (h : GS w a f p wr) (k : Nat) (p' : Nat → Nat) (hk : k < 16) (ho : ∀ i, i ≠ k → p' i = p i) : GS w a f p' (wr.setCell ⟨w.heap.size + 1 + 1 + 1, k, none⟩ (.int .u8 ((p' k : Nat) : Int))) :=
  ⟨h.a.of_block (heap_setCell_other wr _ _ _ (by dsimp only; omega)), h.b.of_block (heap_setCell_other wr _ _ _ (by dsimp only; omega)), h.r.of_block (heap_setCell_other wr _ _ _ (by dsimp only; omega)), h.p.set k p' hk ho, h.bl.setCell (p := ⟨w.heap.size + 1 + 1 + 1, k, none⟩) (by simp; omega) _⟩
end
theorem or_high (x c : Nat) (hx : x < 128) (hc : c < 2) : bits .or .u8 (x : Int) ((c * 128 : Nat) : Int) = ((x + c * 128 : Nat) : Int) := by
  have : ∀ c : Nat, c < 2 → ∀ x : Nat, x < 128 → bits .or .u8 (x : Int) ((c * 128 : Nat) : Int) = ((x + c * 128 : Nat) : Int) := by decide +kernel
  exact this c hc x hx
theorem and1_u8 (x : Nat) (hx : x < 256) : bits .and .u8 (x : Int) 1 = ((x % 2 : Nat) : Int) := by
  have : ∀ x : Nat, x < 256 → bits .and .u8 (x : Int) 1 = ((x % 2 : Nat) : Int) := by decide +kernel
  exact this x hx
theorem xor_u8 (x y : Nat) (hx : x < 256) (hy : y < 256) : bits .xor .u8 (x : Int) (y : Int) = ((x ^^^ y : Nat) : Int) := u8_xor_nat x y hx hy
/-- What goes over from one byte to the next. -/
def cF (f : Nat → Nat) (j : Nat) : Nat := if j = 0 then 0 else f (j - 1) % 2
theorem cF_lt (f : Nat → Nat) (j : Nat) : cF f j < 2 := by
  unfold cF
  split <;> omega
end Go.Proofs.YtpihgljdbpnehaaDoor
