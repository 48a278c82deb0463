/- The contract of the reference's Shared, by number (printed by lawrshared.py). -/
import Derived.Test.YtgdhlafggdaipaaJh
namespace Go.Proofs.Ytgdhlafggdaipaa
open Go.RowKit

theorem byte_and1 (x s : Nat) (hx : x < 256) : bits .and .u8 ((x : Int) / 2 ^ s) 1 = (((x / 2 ^ s % 2 : Nat)) : Int) := by
  have e : (x : Int) / 2 ^ s = ((x / 2 ^ s : Nat) : Int) := by simp
  have := Nat.div_le_self x (2 ^ s)
  rw [e]
  have h := u8_and_nat (x / 2 ^ s) 1 (by omega) (by omega)
  have e1 : (x / 2 ^ s) &&& 1 = (x / 2 ^ s) % 2 := Nat.and_two_pow_sub_one_eq_mod (x / 2 ^ s) 1
  rw [e1] at h
  exact h
theorem swapped_one (b x y : Nat) (h : b % 2 = 1) : swapped b x y = y := by unfold swapped; rw [if_pos h]
theorem swapped_off (b x y : Nat) (h : b % 2 = 0) : swapped b x y = x := by unfold swapped; rw [if_neg (by omega)]

set_option maxHeartbeats 8000000 in
set_option maxRecDepth 100000 in
theorem rshared_n (NA NB N : Nat) (hb : NB < p256) (hN : N = ladN (clN NA) (plN NB)) (w : World) :
    Calls Try.prog 9 #[Key (keyOf NA), Key (keyOf NB)] w fun e w' => e = .returned (Key (keyOf N)) ∧ Below w.heap.size w w' := by
  have hpl := fun W => place_v _ _ (keyOf_bytes NB) _ rfl W
  rw [leTo_byteAt32 hb] at hpl
  obtain ⟨X, hX⟩ : ∃ X, X = plN NB := ⟨_, rfl⟩
  have lX : X < pp := hX ▸ plN_lt _
  rw [← hX] at hN
  have HPL : Hid (∀ W, Calls Try.prog 19 #[Key (keyOf NB)] W (RetL W X)) := Lib.hid (fun W => hX ▸ hpl W)
  obtain ⟨V, hV⟩ : ∃ V, V = clN NA := ⟨_, rfl⟩
  have lV : V < p256 := hV ▸ clN_lt _
  have CC : Hid (∀ W, Calls Try.prog 13 #[Key (keyOf NA)] W fun e w' => e = .returned (Key (keyOf V)) ∧ Below W.heap.size W w') := Lib.hid (fun W => hV ▸ rclamp_n NA W)
  rw [← hV] at hN
  have HN := Lib.hid hN
  clear hpl hX hV hN hb
  unfold Key at HPL CC ⊢
  go_enter Try.func9, Try.ntmps9
  go_upto_region 1 with fail
  generalize hW : World.alloc (World.alloc (World.alloc w _) _) _ = W
  have hB : Below w.heap.size w W := hW ▸ (((Below.refl w.heap.size w).alloc (Nat.le_refl _) _).alloc (by simp) _).alloc (by simp; omega) _
  have K0 : Blk W (w.heap.size) 23 (Iv .u8 (keyOf NA)) := hW ▸ ((Blk.new' (by simp) _ _).alloc _).alloc _
  have K1 : Blk W (w.heap.size + 1) 23 (Iv .u8 (keyOf NB)) := hW ▸ ((Blk.new' (by simp) _ _).alloc _)
  have KR : Blk W (w.heap.size + 1 + 1) 23 (Iv .u8 (List.replicate 32 0)) := hW ▸ (Blk.new' (by simp) _ _)
  clear hW
  go_wp2_with (refine wpList_load_row rfl 23 _ rfl w.heap.size rfl 23 _ (0, 0) _ K0 Try.underlying23 rfl (info_key _ (keyOf_length _)) ?_)
  refine (CC.out _).mono ?_
  rintro _ w0 ⟨rfl, b⟩
  replace K1 := K1.below' b
  replace KR := KR.below' b
  replace hB := hB.trans (b.mono hB.size)
  clear b CC K0
  have i32 : (Try.prog.info? 23).map (·.size) = some (Iv .u8 (keyOf V)).size := info_key _ (keyOf_length _)
  have u0 := KR.lt
  have hbS := hB.size
  go_upto_region 2 with (refine wpList_store_row rfl 23 _ _ rfl (w0.heap.size) (Iv .u8 (keyOf V)) rfl rfl 23 _ (Blk.new w0 23 (Iv .u8 (List.replicate 32 0))) i32 (by rw [Iv_size, Iv_size, keyOf_length]; rfl) (Iv_one _ _) ?_)
  change Code.wp _ _ _ _ (World.setRow (w0.alloc (.cells (Iv .u8 (List.replicate 32 0)) 23)) w0.heap.size _)
  have b := below_setRow ((Below.refl w0.heap.size w0).alloc (Nat.le_refl _) (.cells (Iv .u8 (List.replicate 32 0)) 23)) (Nat.le_refl w0.heap.size) (Iv .u8 (keyOf V))
  have KC := (Blk.new w0 23 (Iv .u8 (List.replicate 32 0))).row (Iv .u8 (keyOf V))
  replace K1 := K1.below' b
  replace KR := KR.below' b
  replace hB := hB.trans (b.mono hB.size)
  clear b
  generalize World.setRow _ _ _ = W1 at *
  generalize w0.heap.size = gC at *
  go_wp2_with (refine wpList_load_row rfl 23 _ rfl (w.heap.size + 1) rfl 23 _ (0, 0) _ K1 Try.underlying23 rfl (info_key _ (keyOf_length _)) ?_)
  refine (HPL.out _).mono ?_
  rintro _ w1 ⟨vx, rfl, hx, b⟩
  replace KC := KC.below' b
  replace KR := KR.below' b
  replace hB := hB.trans (b.mono hB.size)
  clear b K1 HPL
  go_wp2_with fail
  refine (num_v 1 (by decide) _).mono ?_
  rintro _ w2 ⟨va, rfl, ha, b⟩
  replace hx := hx.below b
  replace KC := KC.below' b
  replace KR := KR.below' b
  replace hB := hB.trans (b.mono hB.size)
  clear b
  go_wp2_with fail
  refine (num_v 0 (by decide) _).mono ?_
  rintro _ w3 ⟨vb, rfl, hb, b⟩
  replace hx := hx.below b
  replace ha := ha.below b
  replace KC := KC.below' b
  replace KR := KR.below' b
  replace hB := hB.trans (b.mono hB.size)
  clear b
  go_wp2_with fail
  refine (num_v 1 (by decide) _).mono ?_
  rintro _ w4 ⟨vd, rfl, hd, b⟩
  replace hx := hx.below b
  replace ha := ha.below b
  replace hb := hb.below b
  replace KC := KC.below' b
  replace KR := KR.below' b
  replace hB := hB.trans (b.mono hB.size)
  clear b
  go_wp2_with fail
  go_loopw [7, 8, 9, 10, 11] (fun a b c d i wr => ∃ k : Nat, k ≤ 255 ∧ i = .int .i64 ((k : Int) - 1) ∧ LongIs wr a (lad V X (255 - k)).a ∧ LongIs wr b (lad V X (255 - k)).b ∧ LongIs wr c (lad V X (255 - k)).c ∧ LongIs wr d (lad V X (255 - k)).d ∧ LongIs wr vx X ∧ Blk wr gC 23 (Iv .u8 (keyOf V)) ∧ Blk wr (w.heap.size + 1 + 1) 23 (Iv .u8 (List.replicate 32 0)) ∧ Below w.heap.size w wr) (fun a b c d i _ => (intOf i + 1).toNat)
  case atStart => exact ⟨255, by omega, rfl, ha, hb, hx, hd, hx, KC, KR, hB⟩
  case round =>
    clear ha hb hd hx KC KR hB
    obtain ⟨k, hk, rfl, ha, hb, hc, hd, hx, KC, KR, hB⟩ := hrel
    generalize u7 = va at *
    generalize u8 = vb at *
    generalize u9 = vc at *
    generalize u10 = vd at *
    have lok := lad_ok V X lX (255 - k)
    by_cases h0 : k = 0
    · subst h0
      have hfin : ladN V X = fm (lad V X 255).a (mpow (lad V X 255).b 57896044618658097711785492504343953926634992332820282019728792003956564819947) := rfl
      simp only [Nat.sub_zero] at ha hb lok
      have la := lok.a
      have lb := lok.b
      generalize lad V X 255 = s at *
      obtain ⟨PA, PB, QA, QB⟩ := s
      simp only at ha hb hfin la lb
      have HF := Lib.hid hfin
      clear hfin lok hc hd hx KC
      go_wp2_with fail
      refine (rover_v vb PB _ _ hb rfl).mono ?_
      rintro _ w5 ⟨vo, rfl, ho, b⟩
      replace ha := ha.below b
      replace hb := hb.below b
      replace KR := KR.below' b
      replace hB := hB.trans (b.mono hB.size)
      clear b
      go_wp2_with fail
      refine (rmul_v va vo PA _ _ _ ha ho rfl).mono ?_
      rintro _ w6 ⟨vm, rfl, hm, b⟩
      replace ha := ha.below b
      replace hb := hb.below b
      replace ho := ho.below b
      replace KR := KR.below' b
      replace hB := hB.trans (b.mono hB.size)
      clear b
      
      rw [show PA * mpow PB 57896044618658097711785492504343953926634992332820282019728792003956564819947 % pp = ladN V X from HF.out.symm] at hm
      clear ha hb ho HF
      rw [← HN.out] at hm
      go_wp2_with fail
      refine (rkey_v vm _ _ hm).mono ?_
      rintro _ w9 ⟨rfl, b⟩
      replace KR := KR.below' b
      replace hB := hB.trans (b.mono hB.size)
      clear b hm
      unfold Key
      go_wp2_with (refine wpList_store_row rfl 23 _ _ rfl (w.heap.size + 1 + 1) _ rfl rfl 23 _ KR (info_key _ (keyOf_length _)) (by rw [Iv_size, Iv_size, keyOf_length]; rfl) (Iv_one _ _) ?_)
      exact bodyPost_ret (results_cell_row rfl _ _ _ 23 _ (0, 0) _ rfl (KR.row _) Try.underlying23 rfl (info_key _ (keyOf_length _))) rfl ⟨rfl, below_setRow hB (by omega) _⟩
    · obtain ⟨j, rfl⟩ : ∃ j, k = j + 1 := ⟨k - 1, by omega⟩
      have e0 : ((j + 1 : Nat) : Int) - 1 = (j : Int) := by omega
      have hm1 : 255 - (j + 1) + 1 = 255 - j := by omega
      have hm2 : 254 - (255 - (j + 1)) = j := by omega
      have hnext : lad V X (255 - (j + 1) + 1) = lswap (V / 2 ^ (254 - (255 - (j + 1)))) (lstep X (lswap (V / 2 ^ (254 - (255 - (j + 1)))) (lad V X (255 - (j + 1))))) := rfl
      rw [hm1, hm2] at hnext
      clear hm1 hm2
      have la := lok.a
      have lb := lok.b
      have lc := lok.c
      have ld := lok.d
      generalize lad V X (255 - (j + 1)) = s at *
      obtain ⟨PA, PB, QA, QB⟩ := s
      simp only at ha hb hc hd la lb lc ld
      clear lok h0
      rw [e0]
      have hj256 : j < 256 := by omega
      have hl := keyOf_bytes V
      have ce : ∀ {W' : World}, Blk W' gC 23 (Iv .u8 (keyOf V)) → W'.cell? ⟨gC, j / 8, none⟩ = some (.int .u8 ((byteAt V (j / 8) : Nat) : Int)) := fun h => by
        rw [h.cell, Iv_get _ _ _ (by rw [hl.len]; omega), hl.get (j / 8) (by omega)]
      have c1 := ce KC
      have hbm := leTo_bit (byteAt V) hl.lt 32 j (by omega)
      rw [leTo_byteAt32 lV] at hbm
      have eb := byte_and1 (byteAt V (j / 8)) (j % 8) (hl.lt _)
      rw [hbm] at eb
      clear hbm ce
      have i1 : (0 : Int) ≤ (j : Int) := by omega
      have i2 : (j : Int) < 256 := by omega
      have i3 : (0 : Int) ≤ (j : Int) / 8 := by omega
      have i4 : (j : Int) / 8 < 32 := by omega
      have i5 : ((j : Int) / 8).toNat = j / 8 := by omega
      have i6 : IntKind.i64.wrap ((j : Int) / 8) = (j : Int) / 8 := by rw [IntKind.wrap_i64]; omega
      have i7 : IntKind.i64.wrap ((j : Int) % 8) = (j : Int) % 8 := by rw [IntKind.wrap_i64]; omega
      have i8 : (0 : Int) ≤ (j : Int) % 8 := by omega
      have i9 : ((j : Int)).tmod 8 = (j : Int) % 8 := Int.tmod_eq_emod_of_nonneg i1
      have j1 : ((j : Int) % 8).toNat = j % 8 := by omega
      have j2 : min (j % 8) 8 = j % 8 := by omega
      by_cases b1 : V / 2 ^ j % 2 = 1
      · rw [b1] at eb
        have hn2 := hnext
        unfold lswap lstep at hn2
        simp only [swapped_one _ _ _ b1] at hn2
        have HX := Lib.hid hn2
        clear hn2 hnext
        go_upto_region 10 with fail
        clear c1 eb i1 i2 i3 i4 i5 i6 i7 i8 i9 j1 j2
        go_wp2_with fail
        refine (radd_v vc vd QA QB (fa QA QB) _ hc hd rfl).mono ?_
        rintro _ w7 ⟨vs, rfl, hs, b⟩
        replace ha := ha.below b
        replace hb := hb.below b
        replace hc := hc.below b
        replace hd := hd.below b
        replace hx := hx.below b
        replace KC := KC.below' b
        replace KR := KR.below' b
        replace hB := hB.trans (b.mono hB.size)
        clear b
        go_wp2_with fail
        refine (rsub_v vc vd QA QB (fs QA QB) _ hc hd ld rfl).mono ?_
        rintro _ w8 ⟨vt, rfl, ht, b⟩
        replace ha := ha.below b
        replace hb := hb.below b
        replace hc := hc.below b
        replace hd := hd.below b
        replace hx := hx.below b
        replace hs := hs.below b
        replace KC := KC.below' b
        replace KR := KR.below' b
        replace hB := hB.trans (b.mono hB.size)
        clear b
        go_wp2_with fail
        refine (rsub_v va vb PA PB (fs PA PB) _ ha hb lb rfl).mono ?_
        rintro _ w9 ⟨vd1, rfl, hd1, b⟩
        replace ha := ha.below b
        replace hb := hb.below b
        replace hc := hc.below b
        replace hd := hd.below b
        replace hx := hx.below b
        replace hs := hs.below b
        replace ht := ht.below b
        replace KC := KC.below' b
        replace KR := KR.below' b
        replace hB := hB.trans (b.mono hB.size)
        clear b
        go_wp2_with fail
        refine (rmul_v vd1 vs (fs PA PB) (fa QA QB) (lDA QA QB PA PB) _ hd1 hs rfl).mono ?_
        rintro _ w10 ⟨vu, rfl, hu, b⟩
        replace ha := ha.below b
        replace hb := hb.below b
        replace hc := hc.below b
        replace hd := hd.below b
        replace hx := hx.below b
        replace hs := hs.below b
        replace ht := ht.below b
        replace hd1 := hd1.below b
        replace KC := KC.below' b
        replace KR := KR.below' b
        replace hB := hB.trans (b.mono hB.size)
        clear b
        clear hd1
        go_wp2_with fail
        refine (radd_v va vb PA PB (fa PA PB) _ ha hb rfl).mono ?_
        rintro _ w11 ⟨vc1, rfl, hc1, b⟩
        replace ha := ha.below b
        replace hb := hb.below b
        replace hc := hc.below b
        replace hd := hd.below b
        replace hx := hx.below b
        replace hs := hs.below b
        replace ht := ht.below b
        replace hu := hu.below b
        replace KC := KC.below' b
        replace KR := KR.below' b
        replace hB := hB.trans (b.mono hB.size)
        clear b
        go_wp2_with fail
        refine (rmul_v vc1 vt (fa PA PB) (fs QA QB) (lCB QA QB PA PB) _ hc1 ht rfl).mono ?_
        rintro _ w12 ⟨vv, rfl, hv, b⟩
        replace ha := ha.below b
        replace hb := hb.below b
        replace hc := hc.below b
        replace hd := hd.below b
        replace hx := hx.below b
        replace hs := hs.below b
        replace ht := ht.below b
        replace hu := hu.below b
        replace hc1 := hc1.below b
        replace KC := KC.below' b
        replace KR := KR.below' b
        replace hB := hB.trans (b.mono hB.size)
        clear b
        clear hc1
        go_wp2_with fail
        refine (rmul_v vs vs (fa QA QB) (fa QA QB) (lAA QA QB) _ hs hs rfl).mono ?_
        rintro _ w13 ⟨vss, rfl, hss, b⟩
        replace ha := ha.below b
        replace hb := hb.below b
        replace hc := hc.below b
        replace hd := hd.below b
        replace hx := hx.below b
        replace hs := hs.below b
        replace ht := ht.below b
        replace hu := hu.below b
        replace hv := hv.below b
        replace KC := KC.below' b
        replace KR := KR.below' b
        replace hB := hB.trans (b.mono hB.size)
        clear b
        go_wp2_with fail
        refine (rmul_v vt vt (fs QA QB) (fs QA QB) (lBB QA QB) _ ht ht rfl).mono ?_
        rintro _ w14 ⟨vtt, rfl, htt, b⟩
        replace ha := ha.below b
        replace hb := hb.below b
        replace hc := hc.below b
        replace hd := hd.below b
        replace hx := hx.below b
        replace hs := hs.below b
        replace ht := ht.below b
        replace hu := hu.below b
        replace hv := hv.below b
        replace hss := hss.below b
        replace KC := KC.below' b
        replace KR := KR.below' b
        replace hB := hB.trans (b.mono hB.size)
        clear b
        clear hs ht
        go_wp2_with fail
        refine (rsub_v vss vtt (lAA QA QB) (lBB QA QB) (lE QA QB) _ hss htt (fm_lt _ _) rfl).mono ?_
        rintro _ w15 ⟨ve, rfl, he, b⟩
        replace ha := ha.below b
        replace hb := hb.below b
        replace hc := hc.below b
        replace hd := hd.below b
        replace hx := hx.below b
        replace hu := hu.below b
        replace hv := hv.below b
        replace hss := hss.below b
        replace htt := htt.below b
        replace KC := KC.below' b
        replace KR := KR.below' b
        replace hB := hB.trans (b.mono hB.size)
        clear b
        go_wp2_with fail
        refine (radd_v vu vv (lDA QA QB PA PB) (lCB QA QB PA PB) (lSum QA QB PA PB) _ hu hv rfl).mono ?_
        rintro _ w16 ⟨vp, rfl, hp, b⟩
        replace ha := ha.below b
        replace hb := hb.below b
        replace hc := hc.below b
        replace hd := hd.below b
        replace hx := hx.below b
        replace hu := hu.below b
        replace hv := hv.below b
        replace hss := hss.below b
        replace htt := htt.below b
        replace he := he.below b
        replace KC := KC.below' b
        replace KR := KR.below' b
        replace hB := hB.trans (b.mono hB.size)
        clear b
        go_wp2_with fail
        refine (rsub_v vu vv (lDA QA QB PA PB) (lCB QA QB PA PB) (lDif QA QB PA PB) _ hu hv (fm_lt _ _) rfl).mono ?_
        rintro _ w17 ⟨vq, rfl, hq, b⟩
        replace ha := ha.below b
        replace hb := hb.below b
        replace hc := hc.below b
        replace hd := hd.below b
        replace hx := hx.below b
        replace hu := hu.below b
        replace hv := hv.below b
        replace hss := hss.below b
        replace htt := htt.below b
        replace he := he.below b
        replace hp := hp.below b
        replace KC := KC.below' b
        replace KR := KR.below' b
        replace hB := hB.trans (b.mono hB.size)
        clear b
        clear hu hv
        go_wp2_with fail
        refine (rmul_v vp vp (lSum QA QB PA PB) (lSum QA QB PA PB) (lx3 QA QB PA PB) _ hp hp rfl).mono ?_
        rintro _ w18 ⟨vC, rfl, hC, b⟩
        replace ha := ha.below b
        replace hb := hb.below b
        replace hc := hc.below b
        replace hd := hd.below b
        replace hx := hx.below b
        replace hss := hss.below b
        replace htt := htt.below b
        replace he := he.below b
        replace hp := hp.below b
        replace hq := hq.below b
        replace KC := KC.below' b
        replace KR := KR.below' b
        replace hB := hB.trans (b.mono hB.size)
        clear b
        clear hp
        go_wp2_with fail
        refine (rmul_v vq vq (lDif QA QB PA PB) (lDif QA QB PA PB) (fm (lDif QA QB PA PB) (lDif QA QB PA PB)) _ hq hq rfl).mono ?_
        rintro _ w19 ⟨vqq, rfl, hqq, b⟩
        replace ha := ha.below b
        replace hb := hb.below b
        replace hc := hc.below b
        replace hd := hd.below b
        replace hx := hx.below b
        replace hss := hss.below b
        replace htt := htt.below b
        replace he := he.below b
        replace hq := hq.below b
        replace hC := hC.below b
        replace KC := KC.below' b
        replace KR := KR.below' b
        replace hB := hB.trans (b.mono hB.size)
        clear b
        clear hq
        go_wp2_with fail
        refine (rmul_v vx vqq X (fm (lDif QA QB PA PB) (lDif QA QB PA PB)) (lz3 X QA QB PA PB) _ hx hqq rfl).mono ?_
        rintro _ w20 ⟨vD, rfl, hD, b⟩
        replace ha := ha.below b
        replace hb := hb.below b
        replace hc := hc.below b
        replace hd := hd.below b
        replace hx := hx.below b
        replace hss := hss.below b
        replace htt := htt.below b
        replace he := he.below b
        replace hC := hC.below b
        replace hqq := hqq.below b
        replace KC := KC.below' b
        replace KR := KR.below' b
        replace hB := hB.trans (b.mono hB.size)
        clear b
        clear hqq
        go_wp2_with fail
        refine (rmul_v vss vtt (lAA QA QB) (lBB QA QB) (lx2 QA QB) _ hss htt rfl).mono ?_
        rintro _ w21 ⟨vA, rfl, hA, b⟩
        replace ha := ha.below b
        replace hb := hb.below b
        replace hc := hc.below b
        replace hd := hd.below b
        replace hx := hx.below b
        replace hss := hss.below b
        replace htt := htt.below b
        replace he := he.below b
        replace hC := hC.below b
        replace hD := hD.below b
        replace KC := KC.below' b
        replace KR := KR.below' b
        replace hB := hB.trans (b.mono hB.size)
        clear b
        clear htt
        go_wp2_with fail
        refine (num_v 121665 (by decide) _).mono ?_
        rintro _ w22 ⟨vn, rfl, hn, b⟩
        replace ha := ha.below b
        replace hb := hb.below b
        replace hc := hc.below b
        replace hd := hd.below b
        replace hx := hx.below b
        replace hss := hss.below b
        replace he := he.below b
        replace hC := hC.below b
        replace hD := hD.below b
        replace hA := hA.below b
        replace KC := KC.below' b
        replace KR := KR.below' b
        replace hB := hB.trans (b.mono hB.size)
        clear b
        go_wp2_with fail
        refine (rmul_v vn ve 121665 (lE QA QB) (fm 121665 (lE QA QB)) _ hn he rfl).mono ?_
        rintro _ w23 ⟨vne, rfl, hne, b⟩
        replace ha := ha.below b
        replace hb := hb.below b
        replace hc := hc.below b
        replace hd := hd.below b
        replace hx := hx.below b
        replace hss := hss.below b
        replace he := he.below b
        replace hC := hC.below b
        replace hD := hD.below b
        replace hA := hA.below b
        replace hn := hn.below b
        replace KC := KC.below' b
        replace KR := KR.below' b
        replace hB := hB.trans (b.mono hB.size)
        clear b
        clear hn
        go_wp2_with fail
        refine (radd_v vss vne (lAA QA QB) (fm 121665 (lE QA QB)) (fa (lAA QA QB) (fm 121665 (lE QA QB))) _ hss hne rfl).mono ?_
        rintro _ w24 ⟨vsn, rfl, hsn, b⟩
        replace ha := ha.below b
        replace hb := hb.below b
        replace hc := hc.below b
        replace hd := hd.below b
        replace hx := hx.below b
        replace hss := hss.below b
        replace he := he.below b
        replace hC := hC.below b
        replace hD := hD.below b
        replace hA := hA.below b
        replace hne := hne.below b
        replace KC := KC.below' b
        replace KR := KR.below' b
        replace hB := hB.trans (b.mono hB.size)
        clear b
        clear hne hss
        go_wp2_with fail
        refine (rmul_v ve vsn (lE QA QB) (fa (lAA QA QB) (fm 121665 (lE QA QB))) (lz2 QA QB) _ he hsn rfl).mono ?_
        rintro _ w25 ⟨vBB, rfl, hBB, b⟩
        replace ha := ha.below b
        replace hb := hb.below b
        replace hc := hc.below b
        replace hd := hd.below b
        replace hx := hx.below b
        replace he := he.below b
        replace hC := hC.below b
        replace hD := hD.below b
        replace hA := hA.below b
        replace hsn := hsn.below b
        replace KC := KC.below' b
        replace KR := KR.below' b
        replace hB := hB.trans (b.mono hB.size)
        clear b
        clear he hsn
        go_wp2
        exact ⟨⟨j, by omega, by go_num, by rw [HX.out]; exact hC, by rw [HX.out]; exact hD, by rw [HX.out]; exact hA, by rw [HX.out]; exact hBB, hx, KC, KR, hB⟩, by simp [intOf]⟩
      · have b0 : V / 2 ^ j % 2 = 0 := by omega
        clear b1
        rw [b0] at eb
        have hn2 := hnext
        unfold lswap lstep at hn2
        simp only [swapped_off _ _ _ b0] at hn2
        have HX := Lib.hid hn2
        clear hn2 hnext
        go_upto_region 10 with fail
        clear c1 eb i1 i2 i3 i4 i5 i6 i7 i8 i9 j1 j2
        go_wp2_with fail
        refine (radd_v va vb PA PB (fa PA PB) _ ha hb rfl).mono ?_
        rintro _ w26 ⟨vs, rfl, hs, b⟩
        replace ha := ha.below b
        replace hb := hb.below b
        replace hc := hc.below b
        replace hd := hd.below b
        replace hx := hx.below b
        replace KC := KC.below' b
        replace KR := KR.below' b
        replace hB := hB.trans (b.mono hB.size)
        clear b
        go_wp2_with fail
        refine (rsub_v va vb PA PB (fs PA PB) _ ha hb lb rfl).mono ?_
        rintro _ w27 ⟨vt, rfl, ht, b⟩
        replace ha := ha.below b
        replace hb := hb.below b
        replace hc := hc.below b
        replace hd := hd.below b
        replace hx := hx.below b
        replace hs := hs.below b
        replace KC := KC.below' b
        replace KR := KR.below' b
        replace hB := hB.trans (b.mono hB.size)
        clear b
        go_wp2_with fail
        refine (rsub_v vc vd QA QB (fs QA QB) _ hc hd ld rfl).mono ?_
        rintro _ w28 ⟨vd1, rfl, hd1, b⟩
        replace ha := ha.below b
        replace hb := hb.below b
        replace hc := hc.below b
        replace hd := hd.below b
        replace hx := hx.below b
        replace hs := hs.below b
        replace ht := ht.below b
        replace KC := KC.below' b
        replace KR := KR.below' b
        replace hB := hB.trans (b.mono hB.size)
        clear b
        go_wp2_with fail
        refine (rmul_v vd1 vs (fs QA QB) (fa PA PB) (lDA PA PB QA QB) _ hd1 hs rfl).mono ?_
        rintro _ w29 ⟨vu, rfl, hu, b⟩
        replace ha := ha.below b
        replace hb := hb.below b
        replace hc := hc.below b
        replace hd := hd.below b
        replace hx := hx.below b
        replace hs := hs.below b
        replace ht := ht.below b
        replace hd1 := hd1.below b
        replace KC := KC.below' b
        replace KR := KR.below' b
        replace hB := hB.trans (b.mono hB.size)
        clear b
        clear hd1
        go_wp2_with fail
        refine (radd_v vc vd QA QB (fa QA QB) _ hc hd rfl).mono ?_
        rintro _ w30 ⟨vc1, rfl, hc1, b⟩
        replace ha := ha.below b
        replace hb := hb.below b
        replace hc := hc.below b
        replace hd := hd.below b
        replace hx := hx.below b
        replace hs := hs.below b
        replace ht := ht.below b
        replace hu := hu.below b
        replace KC := KC.below' b
        replace KR := KR.below' b
        replace hB := hB.trans (b.mono hB.size)
        clear b
        go_wp2_with fail
        refine (rmul_v vc1 vt (fa QA QB) (fs PA PB) (lCB PA PB QA QB) _ hc1 ht rfl).mono ?_
        rintro _ w31 ⟨vv, rfl, hv, b⟩
        replace ha := ha.below b
        replace hb := hb.below b
        replace hc := hc.below b
        replace hd := hd.below b
        replace hx := hx.below b
        replace hs := hs.below b
        replace ht := ht.below b
        replace hu := hu.below b
        replace hc1 := hc1.below b
        replace KC := KC.below' b
        replace KR := KR.below' b
        replace hB := hB.trans (b.mono hB.size)
        clear b
        clear hc1
        go_wp2_with fail
        refine (rmul_v vs vs (fa PA PB) (fa PA PB) (lAA PA PB) _ hs hs rfl).mono ?_
        rintro _ w32 ⟨vss, rfl, hss, b⟩
        replace ha := ha.below b
        replace hb := hb.below b
        replace hc := hc.below b
        replace hd := hd.below b
        replace hx := hx.below b
        replace hs := hs.below b
        replace ht := ht.below b
        replace hu := hu.below b
        replace hv := hv.below b
        replace KC := KC.below' b
        replace KR := KR.below' b
        replace hB := hB.trans (b.mono hB.size)
        clear b
        go_wp2_with fail
        refine (rmul_v vt vt (fs PA PB) (fs PA PB) (lBB PA PB) _ ht ht rfl).mono ?_
        rintro _ w33 ⟨vtt, rfl, htt, b⟩
        replace ha := ha.below b
        replace hb := hb.below b
        replace hc := hc.below b
        replace hd := hd.below b
        replace hx := hx.below b
        replace hs := hs.below b
        replace ht := ht.below b
        replace hu := hu.below b
        replace hv := hv.below b
        replace hss := hss.below b
        replace KC := KC.below' b
        replace KR := KR.below' b
        replace hB := hB.trans (b.mono hB.size)
        clear b
        clear hs ht
        go_wp2_with fail
        refine (rsub_v vss vtt (lAA PA PB) (lBB PA PB) (lE PA PB) _ hss htt (fm_lt _ _) rfl).mono ?_
        rintro _ w34 ⟨ve, rfl, he, b⟩
        replace ha := ha.below b
        replace hb := hb.below b
        replace hc := hc.below b
        replace hd := hd.below b
        replace hx := hx.below b
        replace hu := hu.below b
        replace hv := hv.below b
        replace hss := hss.below b
        replace htt := htt.below b
        replace KC := KC.below' b
        replace KR := KR.below' b
        replace hB := hB.trans (b.mono hB.size)
        clear b
        go_wp2_with fail
        refine (radd_v vu vv (lDA PA PB QA QB) (lCB PA PB QA QB) (lSum PA PB QA QB) _ hu hv rfl).mono ?_
        rintro _ w35 ⟨vp, rfl, hp, b⟩
        replace ha := ha.below b
        replace hb := hb.below b
        replace hc := hc.below b
        replace hd := hd.below b
        replace hx := hx.below b
        replace hu := hu.below b
        replace hv := hv.below b
        replace hss := hss.below b
        replace htt := htt.below b
        replace he := he.below b
        replace KC := KC.below' b
        replace KR := KR.below' b
        replace hB := hB.trans (b.mono hB.size)
        clear b
        go_wp2_with fail
        refine (rsub_v vu vv (lDA PA PB QA QB) (lCB PA PB QA QB) (lDif PA PB QA QB) _ hu hv (fm_lt _ _) rfl).mono ?_
        rintro _ w36 ⟨vq, rfl, hq, b⟩
        replace ha := ha.below b
        replace hb := hb.below b
        replace hc := hc.below b
        replace hd := hd.below b
        replace hx := hx.below b
        replace hu := hu.below b
        replace hv := hv.below b
        replace hss := hss.below b
        replace htt := htt.below b
        replace he := he.below b
        replace hp := hp.below b
        replace KC := KC.below' b
        replace KR := KR.below' b
        replace hB := hB.trans (b.mono hB.size)
        clear b
        clear hu hv
        go_wp2_with fail
        refine (rmul_v vp vp (lSum PA PB QA QB) (lSum PA PB QA QB) (lx3 PA PB QA QB) _ hp hp rfl).mono ?_
        rintro _ w37 ⟨vC, rfl, hC, b⟩
        replace ha := ha.below b
        replace hb := hb.below b
        replace hc := hc.below b
        replace hd := hd.below b
        replace hx := hx.below b
        replace hss := hss.below b
        replace htt := htt.below b
        replace he := he.below b
        replace hp := hp.below b
        replace hq := hq.below b
        replace KC := KC.below' b
        replace KR := KR.below' b
        replace hB := hB.trans (b.mono hB.size)
        clear b
        clear hp
        go_wp2_with fail
        refine (rmul_v vq vq (lDif PA PB QA QB) (lDif PA PB QA QB) (fm (lDif PA PB QA QB) (lDif PA PB QA QB)) _ hq hq rfl).mono ?_
        rintro _ w38 ⟨vqq, rfl, hqq, b⟩
        replace ha := ha.below b
        replace hb := hb.below b
        replace hc := hc.below b
        replace hd := hd.below b
        replace hx := hx.below b
        replace hss := hss.below b
        replace htt := htt.below b
        replace he := he.below b
        replace hq := hq.below b
        replace hC := hC.below b
        replace KC := KC.below' b
        replace KR := KR.below' b
        replace hB := hB.trans (b.mono hB.size)
        clear b
        clear hq
        go_wp2_with fail
        refine (rmul_v vx vqq X (fm (lDif PA PB QA QB) (lDif PA PB QA QB)) (lz3 X PA PB QA QB) _ hx hqq rfl).mono ?_
        rintro _ w39 ⟨vD, rfl, hD, b⟩
        replace ha := ha.below b
        replace hb := hb.below b
        replace hc := hc.below b
        replace hd := hd.below b
        replace hx := hx.below b
        replace hss := hss.below b
        replace htt := htt.below b
        replace he := he.below b
        replace hC := hC.below b
        replace hqq := hqq.below b
        replace KC := KC.below' b
        replace KR := KR.below' b
        replace hB := hB.trans (b.mono hB.size)
        clear b
        clear hqq
        go_wp2_with fail
        refine (rmul_v vss vtt (lAA PA PB) (lBB PA PB) (lx2 PA PB) _ hss htt rfl).mono ?_
        rintro _ w40 ⟨vA, rfl, hA, b⟩
        replace ha := ha.below b
        replace hb := hb.below b
        replace hc := hc.below b
        replace hd := hd.below b
        replace hx := hx.below b
        replace hss := hss.below b
        replace htt := htt.below b
        replace he := he.below b
        replace hC := hC.below b
        replace hD := hD.below b
        replace KC := KC.below' b
        replace KR := KR.below' b
        replace hB := hB.trans (b.mono hB.size)
        clear b
        clear htt
        go_wp2_with fail
        refine (num_v 121665 (by decide) _).mono ?_
        rintro _ w41 ⟨vn, rfl, hn, b⟩
        replace ha := ha.below b
        replace hb := hb.below b
        replace hc := hc.below b
        replace hd := hd.below b
        replace hx := hx.below b
        replace hss := hss.below b
        replace he := he.below b
        replace hC := hC.below b
        replace hD := hD.below b
        replace hA := hA.below b
        replace KC := KC.below' b
        replace KR := KR.below' b
        replace hB := hB.trans (b.mono hB.size)
        clear b
        go_wp2_with fail
        refine (rmul_v vn ve 121665 (lE PA PB) (fm 121665 (lE PA PB)) _ hn he rfl).mono ?_
        rintro _ w42 ⟨vne, rfl, hne, b⟩
        replace ha := ha.below b
        replace hb := hb.below b
        replace hc := hc.below b
        replace hd := hd.below b
        replace hx := hx.below b
        replace hss := hss.below b
        replace he := he.below b
        replace hC := hC.below b
        replace hD := hD.below b
        replace hA := hA.below b
        replace hn := hn.below b
        replace KC := KC.below' b
        replace KR := KR.below' b
        replace hB := hB.trans (b.mono hB.size)
        clear b
        clear hn
        go_wp2_with fail
        refine (radd_v vss vne (lAA PA PB) (fm 121665 (lE PA PB)) (fa (lAA PA PB) (fm 121665 (lE PA PB))) _ hss hne rfl).mono ?_
        rintro _ w43 ⟨vsn, rfl, hsn, b⟩
        replace ha := ha.below b
        replace hb := hb.below b
        replace hc := hc.below b
        replace hd := hd.below b
        replace hx := hx.below b
        replace hss := hss.below b
        replace he := he.below b
        replace hC := hC.below b
        replace hD := hD.below b
        replace hA := hA.below b
        replace hne := hne.below b
        replace KC := KC.below' b
        replace KR := KR.below' b
        replace hB := hB.trans (b.mono hB.size)
        clear b
        clear hne hss
        go_wp2_with fail
        refine (rmul_v ve vsn (lE PA PB) (fa (lAA PA PB) (fm 121665 (lE PA PB))) (lz2 PA PB) _ he hsn rfl).mono ?_
        rintro _ w44 ⟨vBB, rfl, hBB, b⟩
        replace ha := ha.below b
        replace hb := hb.below b
        replace hc := hc.below b
        replace hd := hd.below b
        replace hx := hx.below b
        replace he := he.below b
        replace hC := hC.below b
        replace hD := hD.below b
        replace hA := hA.below b
        replace hsn := hsn.below b
        replace KC := KC.below' b
        replace KR := KR.below' b
        replace hB := hB.trans (b.mono hB.size)
        clear b
        clear he hsn
        go_wp2
        exact ⟨⟨j, by omega, by go_num, by rw [HX.out]; exact hA, by rw [HX.out]; exact hBB, by rw [HX.out]; exact hC, by rw [HX.out]; exact hD, hx, KC, KR, hB⟩, by simp [intOf]⟩
end Go.Proofs.Ytgdhlafggdaipaa
