/- The reference's Sum256: its contract. -/
import Derived.Test.YtjkocockbglenaaDoorQk
namespace Go.Proofs.YtjkocockbglenaaDoor
open Go.RowKit

/-- The first k of the bytes S, noughts behind them. -/
def cpK (S : List Nat) (k : Nat) : List Nat := S.take k ++ List.replicate (32 - k) 0
theorem cpK_length (S : List Nat) (h : S.length = 32) (k : Nat) (hk : k ≤ 32) : (cpK S k).length = 32 := by simp [cpK]; omega
theorem cpK_set (S : List Nat) (h : S.length = 32) (k : Nat) (hk : k < 32) : (cpK S k).set k (S[k]'(by omega)) = cpK S (k + 1) := by
  unfold cpK
  rw [List.set_append_right _ _ (by simp; omega), ← List.take_append_getElem (show k < S.length by omega), List.append_assoc]
  congr 1
  simp only [List.length_take]
  rw [show k - min k S.length = 0 by omega, show 32 - k = (32 - (k + 1)) + 1 by omega, List.replicate_succ, List.set_cons_zero]
  rfl
theorem cpK_full (S : List Nat) (h : S.length = 32) : cpK S 32 = S := by simp [cpK, List.take_of_length_le (show S.length ≤ 32 by omega)]
theorem cpK_get (S : List Nat) (h : S.length = 32) (k : Nat) (hk : k < 32) : (Iv .u8 (NI (cpK S k)))[k]? = some (.int .u8 ((0 : Nat) : Int)) := by
  rw [NI_get _ _ (by rw [cpK_length S h k (by omega)]; exact hk)]
  have e : (cpK S k)[k]? = some 0 := by
    unfold cpK
    rw [List.getElem?_append_right (by simp; omega)]
    simp only [List.length_take]
    rw [show k - min k S.length = 0 by omega, List.getElem?_replicate, if_pos (by omega)]
  rw [List.getElem?_eq_getElem (by rw [cpK_length S h k (by omega)]; exact hk)] at e
  rw [Option.some.inj e]
structure RsW (S : List Nat) (w : World) (gs : Nat) (w1 wr : World) (k : Nat) : Prop where
  res : Blk wr w.heap.size 25 (Iv .u8 (List.replicate 32 0))
  o : Blk wr (w.heap.size + 1) 25 (Iv .u8 (NI (cpK S k)))
  s : BA wr gs 0 S
  b : Below w.heap.size w wr
theorem RsW.step {S : List Nat} {w w1 wr : World} {gs k : Nat} (h : RsW S w gs w1 wr k) (hS : S.length = 32) (hk : k < 32) (hg : gs ≠ w.heap.size + 1) : RsW S w gs w1 (wr.setCell ⟨w.heap.size + 1, k, none⟩ (.int .u8 ((S[k]'(by omega) : Nat) : Int))) (k + 1) := by
  refine ⟨h.res.far (by simp) _, ?_, h.s.of_block (heap_setCell_other wr _ gs _ hg), h.b.setCell (by simp) _⟩
  have hs := h.o.set k (.int .u8 ((S[k]'(by omega) : Nat) : Int))
  rw [Iv_set, NI_set, cpK_set S hS k hk] at hs
  exact hs
def rlC : Array Value := #[.int .i64 7, .int .i64 18, .int .i64 3, .int .i64 17, .int .i64 19, .int .i64 10, .int .i64 6, .int .i64 11, .int .i64 25, .int .i64 2, .int .i64 13, .int .i64 22]
theorem rlC_get (i : Nat) (h : i < 12) : rlC[i]? = some (.int .i64 ((rl.getD i 0 : Nat) : Int)) :=
  match i, h with
  | 0, _ => rfl
  | 1, _ => rfl
  | 2, _ => rfl
  | 3, _ => rfl
  | 4, _ => rfl
  | 5, _ => rfl
  | 6, _ => rfl
  | 7, _ => rfl
  | 8, _ => rfl
  | 9, _ => rfl
  | 10, _ => rfl
  | 11, _ => rfl
theorem rs_new (w : World) : Rs (w.alloc (.cells rlC 3)) w.heap.size := ⟨fun i hi => by rw [(Blk.new w 3 rlC).cell]; exact rlC_get i hi, by simp⟩

set_option maxHeartbeats 4000000 in
set_option maxRecDepth 100000 in
theorem rsha_any (w : World) (cu sq : Nat → Nat) (l : List Nat) (bl : Bytes l) (v : Value) (hb : SB w v l) (ll : l.length < 1000000) (R : Ref w cu sq) :
    Calls Tryd.prog 17 #[v] w fun e w' => e = .returned (.agg (Iv .u8 (NI (sha cu sq l)))) ∧ Below w.heap.size w w' := by
  have hb' := hb
  obtain ⟨pb, cb, rfl, _⟩ := hb'
  go_enter Tryd.func17, Tryd.ntmps17
  go_upto_region 2 with fail
  have b0 : Below w.heap.size w _ := ((Below.refl _ _).alloc (Nat.le_refl _) (.cells (Iv .u8 (List.replicate 32 0)) 25)).alloc (by simp) (.cells (Iv .u8 (List.replicate 32 0)) 25)
  have A0 := (Blk.new w 25 (Iv .u8 (List.replicate 32 0))).alloc (.cells (Iv .u8 (List.replicate 32 0)) 25)
  have A1 := Blk.new' (w := w.alloc (.cells (Iv .u8 (List.replicate 32 0)) 25)) (g := w.heap.size + 1) (by simp) 25 (Iv .u8 (List.replicate 32 0))
  change Code.wp _ _ _ _ (World.alloc (World.alloc w (.cells (Iv .u8 (List.replicate 32 0)) 25)) (.cells (Iv .u8 (List.replicate 32 0)) 25))
  generalize World.alloc (World.alloc w _) _ = W at b0 A0 A1 ⊢
  have b1 : Below W.heap.size W (W.alloc (.cells rlC 3)) := (Below.refl _ _).alloc (Nat.le_refl _) _
  have CS := Lib.hid (rsum_any (W.alloc (.cells rlC 3)) cu sq l bl pb cb ((hb.below b0).below b1) ll ((R.below b0).below b1) W.heap.size (rs_new W))
  unfold rlC at CS b1
  obtain ⟨S, hS⟩ : ∃ S, S = sha cu sq l := ⟨_, rfl⟩
  have lS : S.length = 32 := by rw [hS, sha_length]
  rw [← hS] at CS
  have HS := Lib.hid hS
  clear hS R hb
  go_upto_region 2 with fail
  go_wp2_with fail
  refine CS.out.mono ?_
  rintro _ w1 ⟨vs, rfl, hs, b2⟩
  have B1 : Below w.heap.size w w1 := b0.trans ((b1.trans (b2.mono b1.size)).mono b0.size)
  have A2 := (A0.below' b1).below' b2
  have A3 := (A1.below' b1).below' b2
  rcases hs.row with ⟨_, h0⟩ | ⟨gs, cs, rfl, hgs, hcs, _, hba, _⟩
  · rw [h0] at lS
    cases lS
  have ng : gs ≠ w.heap.size + 1 := by have := A1.lt; simp at hgs; omega
  have F0 : RsW S w gs w1 w1 0 := ⟨A2, by rw [show NI (cpK S 0) = List.replicate 32 0 from rfl]; exact A3, hba, B1⟩
  rw [lS] at hcs ⊢
  clear CS b1 b2 b0 A0 A1 A2 A3 hs hba B1 hgs
  have i9 : (32 : Int) ≤ (cs : Int) := by omega
  go_wp2_with fail
  go_loopw [5] (fun i wr => ∃ k : Nat, k ≤ 32 ∧ i = .int .i64 k ∧ RsW S w gs w1 wr k) (fun i _ => 32 - (intOf i).toNat)
  case atStart => exact ⟨0, by omega, rfl, F0⟩
  case round =>
    obtain ⟨k, hk, rfl, F⟩ := hrel
    clear F0
    by_cases hlt : k < 32
    · have c1 : wr.cell? ⟨gs, k, none⟩ = some (.int .u8 ((S[k]'(by omega) : Nat) : Int)) := by
        have := F.s.cell k (by omega)
        rw [Nat.zero_add] at this
        exact this
      have c2 : wr.cell? ⟨w.heap.size + 1, k, none⟩ = some (.int .u8 ((0 : Nat) : Int)) := by rw [F.o.cell, cpK_get S lS k hlt]
      have f2 := F.o.frozen k
      have i1 : (0 : Int) ≤ (k : Int) := by omega
      have i2 : (k : Int) < 32 := by omega
      have S1 := Lib.hid (F.step lS hlt ng)
      clear F
      go_wp2
      exact ⟨⟨k + 1, by omega, by go_num, S1.out⟩, by simp [intOf]; omega⟩
    · obtain rfl : k = 32 := by omega
      rw [show ((32 : Nat) : Int) = 32 from rfl]
      have HO := F.o
      have HR := F.res
      have HB := F.b
      rw [cpK_full S lS] at HO
      clear F
      go_wp2_with (first | (refine wpList_load_row rfl 25 _ rfl (w.heap.size + 1) rfl 25 _ (0, 0) _ HO Tryd.underlying25 rfl (info_N32 _ lS) ?_) | (refine wpList_store_row rfl 25 _ _ rfl (w.heap.size) (Iv .u8 (NI S)) rfl rfl 25 _ HR (info_N32 _ lS) (by rw [Iv_size, Iv_size, NI_length, lS]; rfl) (Iv_one _ _) ?_))
      exact bodyPost_ret (results_cell_row rfl _ _ _ 25 _ (0, 0) _ rfl (HR.row _) Tryd.underlying25 rfl (info_N32 _ lS)) rfl ⟨by rw [HS.out], below_setRow HB (Nat.le_refl _) _⟩
end Go.Proofs.YtjkocockbglenaaDoor
