/- mac: the contract of sized. -/
import Derived.Test.YtjkocockbglenaaDoorMa
import Derived.Laws.CopyOwn
namespace Go.Proofs.YtjkocockbglenaaDoor
open Go.RowKit

theorem NI_append (a b : List Nat) : NI (a ++ b) = NI a ++ NI b := by simp [NI]
theorem NI_replicate (n : Nat) : NI (List.replicate n 0) = List.replicate n 0 := by simp [NI]
theorem Iv_toList (k : IntKind) (l : List Int) : (Iv k l).toList = l.map (Value.int k) := by simp [Iv]
/-- A slice of one slice, just built. -/
theorem sp_one {w : World} {v : Value} {l : List Nat} (t : TypeId) (h : SB w v l) : SP (w.alloc (.cells #[v] t)) (.slice (some ⟨w.heap.size, 0, none⟩) 1 1) [l] := by
  refine ⟨_, 1, rfl, Nat.le_refl _, Or.inr ⟨w.heap.size, 0, rfl, by simp, fun i hi => ?_⟩⟩
  obtain rfl : i = 0 := by simp at hi; exact hi
  exact ⟨v, by rw [(Blk.new w t #[v]).cell]; rfl, h.below ((Below.refl _ _).alloc (Nat.le_refl _) _)⟩
/-- What a block of 64 bytes is behind a copy of the bytes l onto noughts. -/
theorem copy64 (l : List Nat) (h : l.length ≤ 64) : ((Iv .u8 (List.replicate 64 0)).toList.take 0 ++ (l.map (fun x => Value.int .u8 ((x : Nat) : Int)) ++ (Iv .u8 (List.replicate 64 0)).toList.drop (0 + l.length))).toArray = Iv .u8 (NI (l ++ List.replicate (64 - l.length) 0)) := by
  unfold Iv NI
  have e : (List.map (Value.int .u8) (List.replicate 64 0)) = List.replicate 64 (Value.int .u8 0) := by simp
  simp only [e, List.toList_toArray, List.take_zero, List.nil_append, Nat.zero_add, List.drop_replicate, List.map_append, List.map_map, List.map_replicate]
  rfl
theorem info_N32 (l : List Nat) (h : l.length = 32) : (Tryd.prog.info? 25).map (·.size) = some (Iv .u8 (NI l)).size := by
  rw [Iv_size, NI_length, h]
  kernel_rfl
theorem cells_at {w : World} {g o : Nat} {l : List Nat} (h : BA w g o l) (j : Nat) (v : Value) (hj : (l.map fun x => Value.int .u8 ((x : Nat) : Int))[j]? = some v) : w.cell? ((⟨g, o, none⟩ : Addr).add j) = some v := by
  have hl : j < l.length := by
    have := (List.getElem?_eq_some_iff.1 hj).1
    simpa using this
  rw [List.getElem?_map, List.getElem?_eq_getElem hl] at hj
  rw [Addr.add_lit, h.cell j hl]
  exact hj
theorem one_at (l : List Nat) : ∀ v ∈ l.map (fun x => Value.int .u8 ((x : Nat) : Int)), v.oneCell' = true := fun v hv => by
  obtain ⟨x, _, rfl⟩ := List.mem_map.1 hv
  rfl
structure SzW (w wr : World) : Prop where
  res : Blk wr w.heap.size 43 (Iv .u8 (List.replicate 64 0))
  k : Blk wr (w.heap.size + 1) 43 (Iv .u8 (List.replicate 64 0))
  b : Below w.heap.size w wr
theorem SzW.below {w wr w2 : World} (h : SzW w wr) (hb : Below wr.heap.size wr w2) : SzW w w2 := ⟨h.res.below' hb, h.k.below' hb, h.b.trans (hb.mono h.b.size)⟩
theorem size_two (w : World) (a b : Obj) : ((w.alloc a).alloc b).heap.size = w.heap.size + 1 + 1 := by simp
theorem sb_stays {w wr : World} {v : Value} {l : List Nat} (h : SB w v l) (hb : Below w.heap.size w wr) : SB wr v l := h.below hb

set_option maxHeartbeats 2000000 in
set_option maxRecDepth 100000 in
theorem sized_any (cu sq : Nat → Nat) (w : World) (p : Option Addr) (c : Nat) (l : List Nat) (T : Tab w cu) (S : Sq w sq) (hp : SB w (.slice p l.length c) l) (hb : Bytes l) (hl : l.length < 2305843009213693952) :
    Calls Tryd.prog 18 #[.slice p l.length c] w fun e w' => e = .returned (.agg (Iv .u8 (NI (keyPad cu sq l)))) ∧ Below w.heap.size w w' := by
  go_enter Tryd.func18, Tryd.ntmps18
  go_upto_region 2 with fail
  generalize hW : World.alloc (World.alloc w _) _ = W
  have F0 : SzW w W := by
    subst hW
    exact ⟨(Blk.new _ _ _).alloc _, Blk.new' (by simp) _ _, ((Below.refl _ _).alloc (Nat.le_refl _) _).alloc (by simp) _⟩
  clear hW
  replace hp := hp.below F0.b
  replace T := T.below F0.b
  replace S := S.below F0.b
  by_cases hgt : (64 : Int) < (l.length : Int)
  · have kp : keyPad cu sq l = sha cu sq l ++ List.replicate (64 - (sha cu sq l).length) 0 := by
      unfold keyPad
      rw [if_pos (by omega)]
    have b1 := (Below.refl W.heap.size W).alloc (Nat.le_refl _) (.cells #[.slice p l.length c] 22)
    have CS := Lib.hid (sum256_l cu sq _ _ [l] (T.below b1) (S.below b1) (sp_one _ hp) (fun x hx => by rw [List.mem_singleton.1 hx]; exact hb) (by simp) (by simp; omega))
    rw [show [l].flatten = l by simp] at CS
    clear T S hp
    go_upto_region 3 with fail
    go_wp2_with fail
    refine CS.out.mono ?_
    rintro _ w1 ⟨rfl, b2⟩
    replace b2 := b1.trans (b2.mono b1.size)
    have F1 := F0.below b2
    clear CS b1 b2 F0
    go_upto_region 4 with (refine wpList_store_row rfl 25 _ _ rfl (w1.heap.size) (Iv .u8 (NI (sha cu sq l))) rfl rfl 25 _ (Blk.new w1 25 (Iv .u8 (List.replicate 32 0))) (info_N32 _ (sha_length _ _ _)) (by rw [Iv_size, Iv_size, NI_length, sha_length]; rfl) (Iv_one _ _) ?_)
    change Code.wp _ _ _ _ (World.setRow (w1.alloc (.cells (Iv .u8 (List.replicate 32 0)) 25)) w1.heap.size _)
    have A := BA.of_blk ((Blk.new w1 25 (Iv .u8 (List.replicate 32 0))).row (Iv .u8 (NI (sha cu sq l))))
    have F2 := F1.below (below_setRow ((Below.refl w1.heap.size w1).alloc (Nat.le_refl _) (.cells (Iv .u8 (List.replicate 32 0)) 25)) (Nat.le_refl w1.heap.size) (Iv .u8 (NI (sha cu sq l))))
    generalize World.setRow _ _ _ = V at A F2 ⊢
    generalize w1.heap.size = G at A ⊢
    clear F1
    simp only [Act.put]
    go_upto_region 5 with fail
    go_upto_region 6 with (refine wpList_copy_own rfl _ _ _ _ rfl 5 Tryd.underlying22 (by kernel_rfl) (w.heap.size + 1) 0 _ _ ⟨G, 0, none⟩ _ _ rfl rfl (Iv .u8 (List.replicate 64 0)) 43 F2.k ((sha cu sq l).map fun x => Value.int .u8 ((x : Nat) : Int)) (by simp [sha_length]) (cells_at A) (by simp [Iv]; rw [sha_length]; omega) (one_at _) ?_)
    simp only [List.length_map]
    rw [copy64 (sha cu sq l) (by rw [sha_length]; omega), ← kp]
    have HR := F2.res.rowFar (k := w.heap.size + 1) (by omega) (Iv .u8 (NI (keyPad cu sq l)))
    have HK := F2.k.row (Iv .u8 (NI (keyPad cu sq l)))
    have HB := below_setRow F2.b (Nat.le_succ w.heap.size) (Iv .u8 (NI (keyPad cu sq l)))
    generalize World.setRow _ _ _ = U at HR HK HB ⊢
    have lk : (NI (keyPad cu sq l)).length = 64 := by rw [NI_length, keyPad_length]
    clear F2 A kp
    obtain ⟨L, hL⟩ : ∃ L, L = NI (keyPad cu sq l) := ⟨_, rfl⟩
    rw [← hL] at HK lk
    have HL := Lib.hid hL
    clear hL
    go_wp2_with (first | (refine wpList_load_row rfl 43 _ rfl (w.heap.size + 1) rfl 43 _ (0, 0) _ HK Tryd.underlying43 rfl (info_64 _ lk) ?_) | (refine wpList_store_row rfl 43 _ _ rfl (w.heap.size) (Iv .u8 L) rfl rfl 43 _ HR (info_64 _ lk) (by rw [Iv_size, Iv_size, lk]; rfl) (Iv_one _ _) ?_))
    exact bodyPost_ret (results_cell_row rfl _ _ _ 43 _ (0, 0) _ rfl (HR.row _) Tryd.underlying43 rfl (info_64 _ lk)) rfl ⟨by rw [HL.out], below_setRow HB (Nat.le_refl _) _⟩
  · have kp : keyPad cu sq l = l ++ List.replicate (64 - l.length) 0 := by
      unfold keyPad
      rw [if_neg (by omega)]
    have F2 := F0
    clear T S F0
    obtain ⟨p', c', e, _, hp⟩ := hp
    cases e
    rcases hp with h0 | ⟨g, o, rfl, A⟩
    · have lk : (NI (keyPad cu sq l)).length = 64 := by rw [NI_length, keyPad_length]
      have HR := F2.res
      have HB := F2.b
      have HK := F2.k
      rw [show List.replicate 64 (0 : Int) = NI (keyPad cu sq l) by rw [kp, h0]; rfl] at HK
      have l0 : l.length = 0 := by rw [h0]; rfl
      clear F2 kp h0
      obtain ⟨L, hL⟩ : ∃ L, L = NI (keyPad cu sq l) := ⟨_, rfl⟩
      rw [← hL] at HK lk
      have HL := Lib.hid hL
      clear hL
      rw [l0]
      go_upto_region 5 with fail
      go_upto_region 6 with (refine wpList_copy_nothing rfl _ _ _ _ rfl 5 Tryd.underlying22 (by kernel_rfl) _ _ _ _ _ _ rfl rfl (by simp) ?_)
      go_wp2_with (first | (refine wpList_load_row rfl 43 _ rfl (w.heap.size + 1) rfl 43 _ (0, 0) _ HK Tryd.underlying43 rfl (info_64 _ lk) ?_) | (refine wpList_store_row rfl 43 _ _ rfl (w.heap.size) (Iv .u8 L) rfl rfl 43 _ HR (info_64 _ lk) (by rw [Iv_size, Iv_size, lk]; rfl) (Iv_one _ _) ?_))
      exact bodyPost_ret (results_cell_row rfl _ _ _ 43 _ (0, 0) _ rfl (HR.row _) Tryd.underlying43 rfl (info_64 _ lk)) rfl ⟨by rw [HL.out], below_setRow HB (Nat.le_refl _) _⟩
    · 
      go_upto_region 5 with fail
      go_upto_region 6 with (refine wpList_copy_own rfl _ _ _ _ rfl 5 Tryd.underlying22 (by kernel_rfl) (w.heap.size + 1) 0 _ _ ⟨g, o, none⟩ _ _ rfl rfl (Iv .u8 (List.replicate 64 0)) 43 F2.k (l.map fun x => Value.int .u8 ((x : Nat) : Int)) (by rw [List.length_map]; exact (Nat.min_eq_left (by omega)).symm) (cells_at A) (by simp [Iv]; omega) (one_at _) ?_)
      simp only [List.length_map]
      rw [copy64 l (by omega), ← kp]
      have HR := F2.res.rowFar (k := w.heap.size + 1) (by omega) (Iv .u8 (NI (keyPad cu sq l)))
      have HK := F2.k.row (Iv .u8 (NI (keyPad cu sq l)))
      have HB := below_setRow F2.b (Nat.le_succ w.heap.size) (Iv .u8 (NI (keyPad cu sq l)))
      generalize World.setRow _ _ _ = U at HR HK HB ⊢
      have lk : (NI (keyPad cu sq l)).length = 64 := by rw [NI_length, keyPad_length]
      clear F2 A kp
      obtain ⟨L, hL⟩ : ∃ L, L = NI (keyPad cu sq l) := ⟨_, rfl⟩
      rw [← hL] at HK lk
      have HL := Lib.hid hL
      clear hL
      go_wp2_with (first | (refine wpList_load_row rfl 43 _ rfl (w.heap.size + 1) rfl 43 _ (0, 0) _ HK Tryd.underlying43 rfl (info_64 _ lk) ?_) | (refine wpList_store_row rfl 43 _ _ rfl (w.heap.size) (Iv .u8 L) rfl rfl 43 _ HR (info_64 _ lk) (by rw [Iv_size, Iv_size, lk]; rfl) (Iv_one _ _) ?_))
      exact bodyPost_ret (results_cell_row rfl _ _ _ 43 _ (0, 0) _ rfl (HR.row _) Tryd.underlying43 rfl (info_64 _ lk)) rfl ⟨by rw [HL.out], below_setRow HB (Nat.le_refl _) _⟩
end Go.Proofs.YtjkocockbglenaaDoor
