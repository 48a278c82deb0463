/- mac: the contract of Extract. -/
import Derived.Test.YtjkocockbglenaaDoorMd
namespace Go.Proofs.YtjkocockbglenaaDoor
open Go.RowKit

set_option maxHeartbeats 4000000 in
set_option maxRecDepth 100000 in
theorem extract_any (cu sq : Nat → Nat) (w : World) (v pv : Value) (l m : List Nat) (T : Tab w cu) (S : Sq w sq) (hv : SB w v l) (hp : SB w pv m) (hb : Bytes l) (hbs : Bytes m) (hl : l.length < 1152921504606846976) (hls : m.length < 1152921504606846976) :
    Calls Tryd.prog 11 #[v, pv] w fun e w' => e = .returned (.agg (Iv .u8 (NI (hmac cu sq l m)))) ∧ Below w.heap.size w w' := by
  have hp' := hp
  obtain ⟨pp, cp, rfl, _⟩ := hp'
  go_enter Tryd.func11, Tryd.ntmps11
  go_upto_region 1 with fail
  have b0 := (Below.refl w.heap.size w).alloc (Nat.le_refl _) (.cells (Iv .u8 (List.replicate 32 0)) 25)
  have R0 := Blk.new w 25 (Iv .u8 (List.replicate 32 0))
  change Code.wp _ _ _ _ (World.alloc w (.cells (Iv .u8 (List.replicate 32 0)) 25))
  generalize World.alloc w _ = W at b0 R0 ⊢
  replace hv := hv.below b0
  replace hp := hp.below b0
  replace T := T.below b0
  replace S := S.below b0
  have b1 := (Below.refl W.heap.size W).alloc (Nat.le_refl _) (.cells #[.slice pp m.length cp] 22)
  have CS := Lib.hid (sum_any cu sq _ v _ l [m] (T.below b1) (S.below b1) (hv.below b1) (sp_one 22 hp) hb (fun x hx => by rw [List.mem_singleton.1 hx]; exact hbs) (by simp) (by simp) hl (by simp; omega))
  rw [show [m].flatten = m by simp] at CS
  obtain ⟨O, hO⟩ : ∃ O, O = hmac cu sq l m := ⟨_, rfl⟩
  have lO : O.length = 32 := by rw [hO]; exact hmac_length _ _ _ _
  rw [← hO] at CS
  have HO := Lib.hid hO
  clear hO T S hv hp
  go_wp2_with fail
  refine CS.out.mono ?_
  rintro _ w2 ⟨rfl, b2⟩
  have HR := (R0.below' b1).below' b2
  have HB := b0.trans ((b1.trans (b2.mono b1.size)).mono b0.size)
  clear CS b1 b2 b0 R0
  go_wp2_with (refine wpList_store_row rfl 25 _ _ rfl (w.heap.size) (Iv .u8 (NI O)) rfl rfl 25 _ HR (info_N32 _ lO) (by rw [Iv_size, Iv_size, NI_length, lO]; rfl) (Iv_one _ _) ?_)
  exact bodyPost_ret (results_cell_row rfl _ _ _ 25 _ (0, 0) _ rfl (HR.row _) Tryd.underlying25 rfl (info_N32 _ lO)) rfl ⟨by rw [HO.out], below_setRow HB (Nat.le_refl _) _⟩
end Go.Proofs.YtjkocockbglenaaDoor
