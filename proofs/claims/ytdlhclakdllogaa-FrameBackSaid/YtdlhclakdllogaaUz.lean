/- The law FrameBack, by contract (printed by gen11/uz.py). -/
import Derived.Test.YtdlhclakdllogaaUy
namespace Go.Proofs.Ytdlhclakdllogaa
open Go.RowKit

theorem kept_skip {l : List Fr} {i : Nat} (h : i < l.length) (hc : (encF l[i]).1 ≠ 0 ∨ (wantK (keptL (l.take i))).length = 64) : keptL (l.take (i + 1)) = keptL (l.take i) := by
  rw [kept_succ l i h]
  exact if_pos (by rw [← wantK_len]; exact hc)
theorem kept_add {l : List Fr} {i : Nat} (h : i < l.length) (hc : ¬ ((encF l[i]).1 ≠ 0 ∨ (wantK (keptL (l.take i))).length = 64)) : keptL (l.take (i + 1)) = keptL (l.take i) ++ [l[i]] := by
  rw [kept_succ l i h]
  exact if_neg (by rw [← wantK_len]; exact hc)
theorem trim_acks (f : Fr) : (trimF f).acks = f.acks ∨ (trimF f).acks = [] := by
  unfold trimF
  repeat' split
  all_goals first | exact Or.inl rfl | exact Or.inr rfl
/-- What is known of the two rows behind so many frames. -/
structure BK (W : World) (l : List Fr) (i : Nat) (wr : World) (va vw : Value) : Prop where
  all : OwL W.heap.size wr va (bytesK (keptL (l.take i)))
  want : ∃ ts : List (Fr × Value × Value), ts.map (·.1) = wantK (keptL (l.take i)) ∧ OwF W.heap.size wr vw ts ∧ ∀ x ∈ ts, FD W x.1 x.2.1 x.2.2
  apart : ∀ g, va.ownBlock = some g → vw.ownBlock ≠ some g
theorem BK.skip {W : World} {l : List Fr} {i : Nat} {w w' : World} {va vw : Value} (h : BK W l i w va vw) (b : Below w.heap.size w w') (hi : i < l.length) (hc : (encF l[i]).1 ≠ 0 ∨ (wantK (keptL (l.take i))).length = 64) : BK W l (i + 1) w' va vw := by
  obtain ⟨h1, ⟨ts, h2, h3, h4⟩, h5⟩ := h
  have e := kept_skip hi hc
  exact ⟨by rw [e]; exact h1.below b, ⟨ts, by rw [e]; exact h2, h3.below b, h4⟩, h5⟩
theorem BK.len {W : World} {l : List Fr} {i : Nat} {w : World} {va vw : Value} (h : BK W l i w va vw) : ∃ p c, vw = .slice p (wantK (keptL (l.take i))).length c := by
  obtain ⟨_, ⟨ts, h2, h3, _⟩, _⟩ := h
  obtain ⟨p, c, e⟩ := h3.shape
  exact ⟨p, c, by rw [e, ← h2, List.length_map]⟩
theorem BK.below {W : World} {l : List Fr} {i : Nat} {w w' : World} {va vw : Value} (h : BK W l i w va vw) (b : Below w.heap.size w w') : BK W l i w' va vw := by
  obtain ⟨h1, ⟨ts, h2, h3, h4⟩, h5⟩ := h
  exact ⟨h1.below b, ⟨ts, h2, h3.below b, h4⟩, h5⟩
/-- Behind the bytes of one more. -/
structure BM (W : World) (l : List Fr) (j : Nat) (f : Fr) (w4 : World) (v4 vw : Value) : Prop where
  all : OwL W.heap.size w4 v4 (bytesK (keptL (l.take (j + 1))))
  want : ∃ ts : List (Fr × Value × Value), ts.map (·.1) = wantK (keptL (l.take j)) ∧ OwF W.heap.size w4 vw ts ∧ ∀ x ∈ ts, FD W x.1 x.2.1 x.2.2
  apart : ∀ g, v4.ownBlock = some g → vw.ownBlock ≠ some g
  add : keptL (l.take (j + 1)) = keptL (l.take j) ++ [f]
  bel : Below W.heap.size W w4
theorem BK.more {W : World} {l : List Fr} {j : Nat} {f : Fr} {wr w3 : World} {va vw v3 : Value} (h : BK W l j wr va vw) (hk : keptL (l.take (j + 1)) = keptL (l.take j) ++ [f]) (b3 : Below wr.heap.size wr w3) (B3 : Below W.heap.size W w3) (s3 : SB w3 v3 (encF f).2) (hl : (bytesK (keptL (l.take j))).length + (encF f).2.length ≤ 1000000) {G : Nat} {t : TypeId} {cs : Array Value} (K : Blk w3 G t cs) (hG : wr.heap.size = G) :
    ∃ v4 w4, (Builtin.append_ #[23, 23] 23 #[va, v3]).run Try.prog w3 = .ok v4 w4 ∧ BM W l j f w4 v4 vw ∧ Blk w4 G t cs := by
  obtain ⟨O, ⟨ts, h2, h3, h4⟩, h5⟩ := h
  have O3 := O.below b3
  obtain ⟨v4, w4, h, O4, g, ob⟩ := append_sb W.heap.size w3 23 va v3 _ _ O3 s3 (by omega) B3.size
  refine ⟨v4, w4, h, ⟨by rw [hk, bytesK_snoc]; exact O4, ⟨ts, h2, ?_, h4⟩, ?_, hk, below_grown' B3 g (fun k hk => (O3.lt k hk).1) B3.size⟩, ?_⟩
  · exact (h3.below b3).of_block fun k hk => g.block k ((h3.below b3).lt k hk).2 (fun e => h5 k e.symm hk)
  · intro k hk hw
    rcases ob with e | e
    · exact h5 k (by rw [← e]; exact hk) hw
    · rw [e] at hk
      have := ((h3.below b3).lt k hw).2
      have := Option.some.inj hk
      omega
  · exact (g.block G K.lt (fun e => by
      have := (O.lt G e.symm).2
      omega)).trans K
theorem BM.pad {W : World} {l : List Fr} {j : Nat} {f : Fr} {w4 : World} {v4 vw : Value} (h : BM W l j f w4 v4 vw) (hk : f.kind = 0) : BK W l (j + 1) w4 v4 vw := by
  obtain ⟨h1, ⟨ts, h2, h3, h4⟩, h5, h6, _⟩ := h
  exact ⟨h1, ⟨ts, by rw [h6, wantK_pad _ _ hk]; exact h2, h3, h4⟩, h5⟩
theorem BM.add_ {W : World} {l : List Fr} {j : Nat} {f : Fr} {w4 w6 : World} {v4 vw : Value} (h : BM W l j f w4 v4 vw) (hk : f.kind ≠ 0) (hw : (wantK (keptL (l.take j))).length ≤ 64) (b : Below w4.heap.size w4 w6) (x : Fr × Value × Value) (hx : x.1 = trimF f) (hd : FD W x.1 x.2.1 x.2.2) (h1 : ∀ u ∈ frL3 x, u.oneCell' = true) :
    ∃ v7 w7, (Builtin.append_ #[29, 29] 29 #[vw, .slice (some ⟨w6.heap.size, 0, none⟩) 1 1]).run Try.prog (w6.alloc (.cells (frL3 x).toArray 26)) = .ok v7 w7 ∧ BK W l (j + 1) w7 v4 v7 ∧ Below W.heap.size W w7 := by
  obtain ⟨O, ⟨ts, h2, h3, h4⟩, h5, h6, B4⟩ := h
  have B6 := B4.trans (b.mono B4.size)
  have b1 := (Below.refl w6.heap.size w6).alloc (Nat.le_refl _) (.cells (frL3 x).toArray 26)
  have hl : ts.length ≤ 1000 := by rw [← List.length_map (·.1), h2]; omega
  obtain ⟨v7, w7, h7, O7, B7, g, ob⟩ := append_frame W.heap.size W w6 29 vw ts x h1 (h3.below b) hl B6 B6.size
  refine ⟨v7, w7, h7, ⟨?_, ⟨ts ++ [x], ?_, O7, ?_⟩, ?_⟩, B7⟩
  · have O6 := (O.below b).below b1
    exact O6.of_block fun k hk => g.block k (O6.lt k hk).2 (fun e => h5 k hk e.symm)
  · rw [List.map_append, h2, h6, wantK_snoc _ _ hk, ← hx]
    rfl
  · intro y hy
    rcases List.mem_append.1 hy with hy | hy
    · exact h4 y hy
    · simp only [List.mem_cons, List.not_mem_nil, or_false] at hy
      subst hy
      exact hd
  · intro k hk hw7
    rcases ob with e | e
    · exact h5 k hk (by rw [← e]; exact hw7)
    · rw [e] at hw7
      have := ((O.below b).lt k hk).2
      have := Option.some.inj hw7
      omega
set_option maxHeartbeats 16000000 in
set_option maxRecDepth 100000 in
theorem fback_c {P : List Nat → Nat × List Fr} (EC : EncC) (PC : ParC P) (PM : ParM P) (l : List Fr) (hl : ∀ f ∈ l, f.Ok) (p : Option Addr) (n c : Nat) (hn : n ≤ 9223372036854775807) (W : World) (hs : FS W (.slice p n c) l) :
    Calls Try.prog 4 #[.slice p n c] W fun e w' => e = .returned (.bool true) ∧ Below W.heap.size W w' := by
  have AW := Lib.hid (fawake_c EC)
  have GC := Lib.hid (fun w (b : Below W.heap.size W w) => great_c l p n c hn w (hs.below b))
  have G1 := Lib.hid (greatL_ok (l := l))
  have EL := Lib.hid hs.len.1
  have HS := Lib.hid hs
  clear hs
  cases hg : greatL l with
  | true =>
    rw [hg] at GC
    clear EC PC PM G1
    go_enter Try.func4, Try.ntmps4
    go_wp2_with fail
    refine (AW.out _).mono ?_
    rintro _ w1 ⟨rfl, b⟩
    go_wp2_with fail
    refine (GC.out _ b).mono ?_
    rintro _ w2 ⟨rfl, b2⟩
    replace b := b.trans (b2.mono b.size)
    go_wp2
    go_ret
    exact ⟨rfl, b⟩
  | false =>
    rw [hg] at GC
    obtain ⟨n100, GD⟩ := G1.out hg
    rw [← EL.out] at n100
    have GD := Lib.hid GD
    have HL := Lib.hid hl
    clear G1 hg hl
    have CE := Lib.hid (fun f (hf : f ∈ l) vd va w h => EC f (HL.out f hf) (GD.out f hf).1 (GD.out f hf).2 vd va w h)
    have CP := Lib.hid (fun b (hb : ∀ x ∈ b, x < 256) (hn : b.length ≤ 300000) p c W h => PC b p b.length c hb hn W h)
    have PB := Lib.hid PM.back
    clear EC PC PM
    go_enter Try.func4, Try.ntmps4
    go_wp2_with fail
    refine (AW.out _).mono ?_
    rintro _ w1 ⟨rfl, b⟩
    go_wp2_with fail
    refine (GC.out _ b).mono ?_
    rintro _ w2 ⟨rfl, b2⟩
    replace b := b.trans (b2.mono b.size)
    clear b2 AW GC
    go_upto_region 8 with fail
    go_loopw [3, 4, 18] (fun va vw t wr => ∃ j : Nat, j ≤ n ∧ t = .int .i64 (j : Int) ∧ BK W l j wr va vw ∧ Below W.heap.size W wr) (fun _ _ t _ => (n - intOf t).toNat)
    case atStart => exact ⟨0, by omega, rfl, ⟨OwL.nil _ _, ⟨[], rfl, OwF.nil _ _, fun x h => by cases h⟩, fun g h => by cases h⟩, b⟩
    case round =>
      clear b
      obtain ⟨j, hj, rfl, BKj, b⟩ := hrel
      by_cases hjn : j = n
      · subst j
        have e : l.take n = l := List.take_of_length_le (by rw [EL.out]; exact Nat.le_refl _)
        obtain ⟨O, ⟨ts, hts, OF, hts2⟩, _⟩ := BKj
        rw [e] at O hts
        have s3 := O.sb
        have K := kept_ok l HL.out
        have F4 := OF.fs (fun x hx => (hts2 x hx).below b)
        rw [hts] at F4
        have lb : ∀ x ∈ bytesK (keptL l), x < 256 := fun x hx => by
          unfold bytesK at hx
          obtain ⟨f, hf, hx⟩ := List.mem_flatMap.1 hx
          have kf := K f hf
          exact (enc_facts kf.1 kf.2.1 (GD.out f kf.2.2).1 (GD.out f kf.2.2).2).2.2 x hx
        have ln : (bytesK (keptL l)).length ≤ 300000 := by
          have h1 := bytesK_len (keptL l) (fun f hf => (K f hf).2.1)
          have h2 := kept_len l
          rw [← EL.out] at h2
          have : 2600 * (keptL l).length ≤ 2600 * 100 := Nat.mul_le_mul_left _ (by omega)
          omega
        have PR := PB.out (keptL l) (fun f hf => ⟨(K f hf).1, (K f hf).2.1⟩) (kept_np l)
        have wl : ∀ f ∈ wantK (keptL l), f.acks.length ≤ 1000000 := fun f hf => by
          unfold wantK at hf
          obtain ⟨g, hg, rfl⟩ := List.mem_map.1 hf
          have kg := K g (List.mem_filter.1 hg).1
          have := (GD.out g kg.2.2).2
          rcases trim_acks g with e | e <;> rw [e]
          · omega
          · exact Nat.zero_le _
        have w64 : (wantK (keptL l)).length ≤ 1000000 := by
          rw [wantK_len]
          have := kept_np l
          omega
        obtain ⟨p3, c3, hv3⟩ := O.shape
        subst hv3
        obtain ⟨p4, c4, hv4⟩ := F4.shape
        subst hv4
        have CQ := CP.out (bytesK (keptL l)) lb ln p3 c3 wr s3
        rw [show P (bytesK (keptL l)) = (0, wantK (keptL l)) from PR] at CQ
        have CQ := Lib.hid CQ
        have CS := Lib.hid (fun q d w (hw : Below wr.heap.size wr w) (h : FS w (.slice q (wantK (keptL l)).length d) (wantK (keptL l))) => samefrs_c (wantK (keptL l)) wl q p4 _ _ d c4 w64 w h (F4.below hw))
        clear HS GD HL CE CP PB O hts OF hts2 e s3 K F4 lb ln PR wl w64 EL
        generalize wantK (keptL l) = WL at *
        generalize (bytesK (keptL l)).length = nb at *
        generalize hwl : WL.length = nw at *
        go_wp2_with fail
        refine CQ.out.mono ?_
        rintro _ w6 ⟨v6, rfl, S6, b6⟩
        replace b := b.trans (b6.mono b.size)
        obtain ⟨p6, c6, hv6⟩ := S6.shape
        subst hv6
        dsimp only at S6 ⊢
        rw [hwl] at S6 ⊢
        have CT := Lib.hid (CS.out p6 c6 w6 b6 S6)
        clear CS CQ S6 b6 hwl
        go_upto_region 36 with fail
        rename_i aK
        refine wp_region_seq ?_
        refine wpSeq_yield (S := fun _ => True) (yieldsIf_move rfl _ rfl (.int .i64 0) rfl) trivial ?_
        simp only [AP]
        refine wpSeq_yield (S := fun _ => True) (v := .bool true) (Or.inl ⟨by rfl, fun w' hw' => by go_simp⟩) trivial ?_
        simp only [AP]
        refine wpSeq_yield (S := fun _ => True) (yieldsIf_move rfl _ rfl (.bool true) rfl) trivial ?_
        simp only [AP]
        refine wpSeq_yield (S := fun _ => True) (yieldsIf_move rfl _ rfl (.slice p6 nw c6) rfl) trivial ?_
        simp only [AP]
        refine wpSeq_yield (S := fun _ => True) (yieldsIf_move rfl _ rfl (.slice p4 nw c4) rfl) trivial ?_
        simp only [AP]
        refine wpSeq_wp rfl ?_
        unfold Oper.wp execOp
        go_simp
        refine CT.out.mono ?_
        rintro _ w7 ⟨rfl, b7⟩
        replace b := b.trans (b7.mono b.size)
        clear CT b7
        go_simp
        refine wpSeq_yield (S := fun _ => True) (yieldsIf_pick rfl _ _ _ rfl true rfl (.bool true) rfl) trivial ?_
        simp only [AP]
        refine wpSeq_yield (S := fun _ => True) (yieldsIf_assign rfl _ rfl (.bool true) rfl) trivial ?_
        simp only [AP]
        refine wpSeq_nil ?_
        refine aK _ _ ?_
        clear aK
        go_wp2
        go_ret
        exact ⟨rfl, b⟩
      · have i1 : (j : Int) < (n : Int) := by omega
        have i0 : (0 : Int) ≤ (j : Int) := by omega
        have il : j < l.length := by rw [← EL.out]; omega
        obtain ⟨g, oo, rfl, hA⟩ : ∃ g o, p = some ⟨g, o, none⟩ ∧ FA W g o l := by
          rcases HS.out.at_ with h0 | h0
          · omega
          · exact h0
        obtain ⟨vd, va, h1, h2⟩ := hA.at_ j il
        have lt := hA.lt
        obtain ⟨p1, c1, rfl⟩ := h1.data.shape
        obtain ⟨p2, c2, rfl⟩ := h1.acks.shape
        replace h2 := rangeAt_below h2 b lt
        have CF := CE.out l[j] (List.getElem_mem il) (.slice p1 l[j].data.length c1) (.slice p2 l[j].acks.length c2)
        obtain ⟨p4, c4, hv4⟩ := BKj.len
        subst hv4
        have BK' := Lib.hid BKj
        have SK := Lib.hid (fun w' (b' : Below wr.heap.size wr w') hc => BKj.skip b' il hc)
        have KA := Lib.hid (fun hc => kept_add il hc)
        have lw : (wantK (keptL (l.take j))).length ≤ 64 := by rw [wantK_len]; exact kept_np _
        have KN := Lib.hid (fun (h : (encF l[j]).1 = 0) => enc_small h)
        have H1 := Lib.hid h1
        clear hA h1 BKj lt CE
        generalize hf : l[j] = f at *
        replace hf := Lib.hid hf
        have CF := Lib.hid CF
        go_upto_region 9 with fail
        rename_i aE _ aK
        refine wp_region_seq ?_
        refine wpSeq_yield (S := fun _ => True) (v := .pointer (some ⟨g, oo + j * 8, none⟩)) (Or.inl ⟨by rfl, fun w' hw' => by go_simp⟩) trivial ?_
        simp only [AP]
        refine wpSeq_yield (S := fun w' => w' = wr) (show YieldsIf _ _ _ _ (frV f (.slice p1 f.data.length c1) (.slice p2 f.acks.length c2)) _ from yieldsIf_load_mid (S := fun w' => w' = wr) rfl 26 _ rfl g (oo + j * 8) rfl (frL f (.slice p1 f.data.length c1) (.slice p2 f.acks.length c2)) _ (fun _ h => h ▸ h2) Try.underlying26 rfl (info_frL f (.slice p1 f.data.length c1) (.slice p2 f.acks.length c2))) rfl ?_
        simp only [AP]
        refine wpSeq_alloc 26 zeroFr rfl (fun W => by go_simp; rfl) ?_
        simp only [AP]
        refine wpSeq_store_row rfl 26 _ _ rfl (wr.heap.size) (frL f (.slice p1 f.data.length c1) (.slice p2 f.acks.length c2)).toArray rfl rfl _ _ (Blk.new _ _ _) info_fr rfl frL_one ?_
        try simp only [Act.put]
        have bb := below_setRow ((Below.refl wr.heap.size wr).alloc (Nat.le_refl _) (.cells zeroFr 26)) (Nat.le_refl wr.heap.size) (frL f (.slice p1 f.data.length c1) (.slice p2 f.acks.length c2)).toArray
        have K := (Blk.new wr 26 zeroFr).row (frL f (.slice p1 f.data.length c1) (.slice p2 f.acks.length c2)).toArray
        clear h2
        generalize World.setRow _ _ _ = W2 at *
        obtain ⟨G1, hG1⟩ : ∃ G, wr.heap.size = G := ⟨_, rfl⟩
        rw [hG1] at K ⊢
        have hG := Lib.hid hG1
        clear hG1
        refine wpSeq_nil ?_
        refine aK _ _ ?_
        clear aK
        have b2 := b.trans (bb.mono b.size)
        have rg := blk_range K
        have hD2 := H1.out.below b2
        go_upto_region 10 with fail
        rename_i aK
        refine wp_region_seq ?_
        refine wpSeq_yield (S := fun w' => w' = W2) (show YieldsIf _ _ _ _ (frV f (.slice p1 f.data.length c1) (.slice p2 f.acks.length c2)) _ from yieldsIf_load_mid (S := fun w' => w' = W2) rfl 26 _ rfl G1 0 rfl (frL f (.slice p1 f.data.length c1) (.slice p2 f.acks.length c2)) _ (fun _ h => h ▸ rg) Try.underlying26 rfl info_fr) rfl ?_
        simp only [AP]
        refine wpSeq_wp rfl ?_
        unfold Oper.wp execOp
        go_simp
        refine (CF.out W2 hD2).mono ?_
        rintro _ w3 ⟨v3, rfl, O3, b3⟩
        have bb3 := bb.trans (b3.mono bb.size)
        have B3 := b2.trans (b3.mono b2.size)
        replace K := K.below' b3
        have s3 := O3.sb
        clear rg hD2 CF O3
        obtain ⟨code, hcode⟩ : ∃ code, (encF f).1 = code := ⟨_, rfl⟩
        rw [hcode] at SK KA KN ⊢
        go_simp
        refine wpSeq_yield (S := fun _ => True) (yieldsIf_move rfl _ rfl (.tuple #[v3, .int .i64 (code : Int)]) rfl) trivial ?_
        simp only [AP]
        refine wpSeq_yield (S := fun _ => True) (v := v3) (Or.inl ⟨by rfl, fun w' hw' => by go_simp⟩) trivial ?_
        simp only [AP]
        refine wpSeq_yield (S := fun _ => True) (v := .int .i64 (code : Int)) (Or.inl ⟨by rfl, fun w' hw' => by go_simp⟩) trivial ?_
        simp only [AP]
        refine wpSeq_yield (S := fun _ => True) (yieldsIf_assign rfl _ rfl (v3) rfl) trivial ?_
        simp only [AP]
        refine wpSeq_yield (S := fun _ => True) (yieldsIf_assign rfl _ rfl (.int .i64 (code : Int)) rfl) trivial ?_
        simp only [AP]
        refine wpSeq_nil ?_
        refine aK _ _ ?_
        clear aK
        obtain ⟨nw, hnw⟩ : ∃ nw, (wantK (keptL (l.take j))).length = nw := ⟨_, rfl⟩
        rw [hnw] at SK KA lw ⊢
        by_cases hc : code = 0
        · subst hc
          by_cases h64 : nw = 64
          · have g6 : (nw : Int) = 64 := by omega
            have SK' := Lib.hid (SK.out w3 bb3 (Or.inr h64))
            clear SK KA KN BK' H1 K s3 hnw hcode h64
            go_upto_region 11 with fail
            rename_i aK
            refine wp_region_seq ?_
            refine wpSeq_yield (S := fun _ => True) (yieldsIf_move rfl _ rfl (.int .i64 0) rfl) trivial ?_
            simp only [AP]
            refine wpSeq_yield (S := fun _ => True) (v := .bool false) (Or.inl ⟨by rfl, fun w' hw' => by go_simp⟩) trivial ?_
            simp only [AP]
            refine wpSeq_yield (S := fun _ => True) (yieldsIf_move rfl _ rfl (.bool false) rfl) trivial ?_
            simp only [AP]
            refine wpSeq_yield (S := fun _ => True) (yieldsIf_move rfl _ rfl (.slice p4 nw c4) rfl) trivial ?_
            simp only [AP]
            refine wpSeq_yield (S := fun _ => True) (v := .int .i64 (nw : Int)) (Or.inl ⟨by rfl, fun w' hw' => by go_simp⟩) trivial ?_
            simp only [AP]
            refine wpSeq_yield (S := fun _ => True) (v := .bool true) (Or.inl ⟨by rfl, fun w' hw' => by go_simp⟩) trivial ?_
            simp only [AP]
            refine wpSeq_yield (S := fun _ => True) (yieldsIf_pick rfl _ _ _ rfl false rfl (.bool true) rfl) trivial ?_
            simp only [AP]
            refine wpSeq_nil ?_
            refine aK _ _ ?_
            clear aK g6
            go_wp2
            exact ⟨⟨j + 1, by omega, rfl, SK'.out, B3⟩, by simp only [intOf]; omega⟩
          · have g6 : ((nw : Int) == 64) = false := beq_eq_false_iff_ne.2 (by omega)
            have KA' := KA.out (fun e => e.elim (fun h => h rfl) h64)
            obtain ⟨ks, kk, kr⟩ := KN.out rfl
            obtain ⟨v4, w4, h4, M4, K4⟩ := BK'.out.more KA' bb3 B3 s3 (by
              have h1 := bytesK_len (keptL (l.take j)) (fun f hf => (kept_ok _ (fun f hf => HL.out f (List.mem_of_mem_take hf)) f hf).2.1)
              have h2 := kept_len (l.take j)
              rw [List.length_take] at h2
              have : 2600 * (keptL (l.take j)).length ≤ 2600 * 100 := Nat.mul_le_mul_left _ (by omega)
              have := (enc_small hcode).1
              omega) K hG.out
            rw [hnw] at M4
            have lw4 := Lib.hid (show (wantK (keptL (l.take j))).length ≤ 64 by rw [hnw]; exact lw)
            clear SK KA KA' KN BK' s3 K bb3 hnw hcode h64 B3 bb b2 kr lw b3 ks
            go_upto_region 11 with fail
            rename_i aK
            refine wp_region_seq ?_
            refine wpSeq_yield (S := fun _ => True) (yieldsIf_move rfl _ rfl (.int .i64 0) rfl) trivial ?_
            simp only [AP]
            refine wpSeq_yield (S := fun _ => True) (v := .bool false) (Or.inl ⟨by rfl, fun w' hw' => by go_simp⟩) trivial ?_
            simp only [AP]
            refine wpSeq_yield (S := fun _ => True) (yieldsIf_move rfl _ rfl (.bool false) rfl) trivial ?_
            simp only [AP]
            refine wpSeq_yield (S := fun _ => True) (yieldsIf_move rfl _ rfl (.slice p4 nw c4) rfl) trivial ?_
            simp only [AP]
            refine wpSeq_yield (S := fun _ => True) (v := .int .i64 (nw : Int)) (Or.inl ⟨by rfl, fun w' hw' => by go_simp⟩) trivial ?_
            simp only [AP]
            refine wpSeq_yield (S := fun _ => True) (v := .bool false) (Or.inl ⟨by rfl, fun w' hw' => by go_simp⟩) trivial ?_
            simp only [AP]
            refine wpSeq_yield (S := fun _ => True) (yieldsIf_pick rfl _ _ _ rfl false rfl (.bool false) rfl) trivial ?_
            simp only [AP]
            refine wpSeq_nil ?_
            refine aK _ _ ?_
            clear aK g6
            go_upto_region 12 with fail
            rename_i aK
            refine wp_region_seq ?_
            refine wpSeq_yield (S := fun _ => True) (yieldsIf_move rfl _ rfl (u3) rfl) trivial ?_
            simp only [AP]
            refine wpSeq_yield (S := fun _ => True) (yieldsIf_move rfl _ rfl (v3) rfl) trivial ?_
            simp only [AP]
            refine wpSeq_wp rfl (wp_append_run _ _ _ _ rfl _ _ rfl rfl v4 w4 h4 ?_)
            simp only [AP]
            refine wpSeq_yield (S := fun _ => True) (yieldsIf_assign rfl _ rfl (v4) rfl) trivial ?_
            simp only [AP]
            refine wpSeq_nil ?_
            refine aK _ _ ?_
            clear aK h4
            obtain ⟨k, i, o, m, q, fn, d, a⟩ := f
            dsimp only at kk
            replace K4 : Blk w4 G1 26 #[.int .u64 (k : Int), .int .u64 (i : Int), .int .u64 (o : Int), .int .u64 (m : Int), .int .u64 (q : Int), .bool fn, .slice p1 d.length c1, .slice p2 a.length c2] := K4
            have x0 : w4.cell? ⟨G1, 0, none⟩ = some (.int .u64 (k : Int)) := K4.cell 0
            have x6 : w4.cell? ⟨G1, 6, none⟩ = some (.slice p1 d.length c1) := K4.cell 6
            go_upto_region 13 with fail
            rename_i aK
            refine wp_region_seq ?_
            refine wpSeq_yield (S := fun _ => True) (v := .pointer (some ⟨G1, 0, none⟩)) (Or.inl ⟨by rfl, fun w' hw' => by go_simp⟩) trivial ?_
            simp only [AP]
            refine wpSeq_yield (S := fun w' => w' = w4) (v := .int .u64 (k : Int)) (Or.inl ⟨by rfl, fun w' hw' => by (rw [hw']; go_simp)⟩) rfl ?_
            simp only [AP]
            refine wpSeq_yield (S := fun _ => True) (v := .pointer (some ⟨G1, 6, none⟩)) (Or.inl ⟨by rfl, fun w' hw' => by go_simp⟩) trivial ?_
            simp only [AP]
            refine wpSeq_yield (S := fun w' => w' = w4) (v := .slice p1 d.length c1) (Or.inl ⟨by rfl, fun w' hw' => by (rw [hw']; go_simp)⟩) rfl ?_
            simp only [AP]
            refine wpSeq_wp rfl ?_
            unfold Oper.wp execOp
            go_simp
            refine wpSeq_alloc 26 zeroFr rfl (fun W => by go_simp; rfl) ?_
            simp only [AP]
            refine wpSeq_store_row rfl 26 _ _ rfl (w4.heap.size) #[.int .u64 (k : Int), .int .u64 0, .int .u64 0, .int .u64 0, .int .u64 0, .bool false, .slice p1 d.length c1, .slice none 0 0] rfl rfl _ _ (Blk.new _ _ _) info_fr rfl (all_oneCell_toArray (cs := [.int .u64 (k : Int), .int .u64 0, .int .u64 0, .int .u64 0, .int .u64 0, .bool false, .slice p1 d.length c1, .slice none 0 0]) (frL_oneL (f := ⟨k, 0, 0, 0, 0, false, [], []⟩))) ?_
            try simp only [Act.put]
            have b5 := below_setRow ((Below.refl w4.heap.size w4).alloc (Nat.le_refl _) (.cells zeroFr 26)) (Nat.le_refl w4.heap.size) #[.int .u64 (k : Int), .int .u64 0, .int .u64 0, .int .u64 0, .int .u64 0, .bool false, .slice p1 d.length c1, .slice none 0 0]
            have K9 := (Blk.new w4 26 zeroFr).row #[.int .u64 (k : Int), .int .u64 0, .int .u64 0, .int .u64 0, .int .u64 0, .bool false, .slice p1 d.length c1, .slice none 0 0]
            have ne : G1 ≠ w4.heap.size := Nat.ne_of_lt K4.lt
            generalize World.setRow _ _ _ = w5 at *
            replace K4 := K4.below' b5
            obtain ⟨G9, hG9⟩ : ∃ G, w4.heap.size = G := ⟨_, rfl⟩
            rw [hG9] at K9 ne ⊢
            have hG9' : w4.heap.size ≤ G9 := Nat.le_of_eq hG9
            clear hG9 x0 x6
            refine wpSeq_nil ?_
            refine aK _ _ ?_
            clear aK
            rcases known_mem kk with rfl | rfl | rfl | rfl | rfl | rfl | rfl | rfl | rfl | rfl | rfl | rfl
            · clear kk
              replace K4 : Blk w5 G1 26 #[.int .u64 0, .int .u64 (i : Int), .int .u64 (o : Int), .int .u64 (m : Int), .int .u64 (q : Int), .bool fn, .slice p1 d.length c1, .slice p2 a.length c2] := K4
              replace K9 : Blk w5 G9 26 #[.int .u64 0, .int .u64 0, .int .u64 0, .int .u64 0, .int .u64 0, .bool false, .slice p1 d.length c1, .slice none 0 0] := K9
              have x0 : w5.cell? ⟨G1, 0, none⟩ = some (.int .u64 0) := K4.cell 0
              have BB := (M4.pad rfl).below b5
              have B5 := M4.bel.trans (b5.mono M4.bel.size)
              clear M4 K4 K9 H1 hf
              go_wp2
              exact ⟨⟨j + 1, by omega, rfl, BB, B5⟩, by simp only [intOf]; omega⟩
            · clear kk
              replace K4 : Blk w5 G1 26 #[.int .u64 1, .int .u64 (i : Int), .int .u64 (o : Int), .int .u64 (m : Int), .int .u64 (q : Int), .bool fn, .slice p1 d.length c1, .slice p2 a.length c2] := K4
              replace K9 : Blk w5 G9 26 #[.int .u64 1, .int .u64 0, .int .u64 0, .int .u64 0, .int .u64 0, .bool false, .slice p1 d.length c1, .slice none 0 0] := K9
              have x0 : w5.cell? ⟨G1, 0, none⟩ = some (.int .u64 1) := K4.cell 0
              have hD : FD W (trimF ⟨1, i, o, m, q, fn, d, a⟩) (.slice p1 d.length c1) (.slice none 0 0) := ⟨H1.out.data, SA.nil _ _ _⟩
              obtain ⟨v7, w7, h7, BB, B7⟩ := M4.add_ (show 1 ≠ 0 by decide) lw4.out b5 (trimF ⟨1, i, o, m, q, fn, d, a⟩, .slice p1 d.length c1, .slice none 0 0) rfl hD frL_oneL
              replace h7 : (Builtin.append_ #[29, 29] 29 #[.slice p4 nw c4, .slice (some ⟨w5.heap.size, 0, none⟩) 1 1]).run Try.prog (w5.alloc (.cells #[.int .u64 1, .int .u64 0, .int .u64 0, .int .u64 0, .int .u64 0, .bool false, .slice p1 d.length c1, .slice none 0 0] 26)) = .ok v7 w7 := h7
              have rg9 : w5.rangeAt G9 0 [.int .u64 1, .int .u64 0, .int .u64 0, .int .u64 0, .int .u64 0, .bool false, .slice p1 d.length c1, .slice none 0 0] := blk_range K9
              go_upto_region 33 with fail
              clear x0
              clear M4 H1 hD hf
              go_upto_region 33 with fail
              refine wp_region_seq ?_
              refine wpSeq_yield (S := fun _ => True) (yieldsIf_move rfl _ rfl (.slice p4 nw c4) rfl) trivial ?_
              simp only [AP]
              refine wpSeq_yield (S := fun w' => w' = w5) (show YieldsIf _ _ _ _ (.agg #[.int .u64 1, .int .u64 0, .int .u64 0, .int .u64 0, .int .u64 0, .bool false, .slice p1 d.length c1, .slice none 0 0]) _ from yieldsIf_load_mid (S := fun w' => w' = w5) rfl 26 _ rfl G9 0 rfl [.int .u64 1, .int .u64 0, .int .u64 0, .int .u64 0, .int .u64 0, .bool false, .slice p1 d.length c1, .slice none 0 0] _ (fun _ h => h ▸ rg9) Try.underlying26 rfl info_fr) rfl ?_
              simp only [AP]
              refine wpSeq_wp rfl ?_
              unfold Oper.wp execOp
              go_simp
              refine wpSeq_wp rfl (wp_append_run _ _ _ _ rfl _ _ rfl rfl v7 w7 h7 ?_)
              simp only [AP]
              refine wpSeq_yield (S := fun _ => True) (yieldsIf_assign rfl _ rfl (v7) rfl) trivial ?_
              simp only [AP]
              refine wpSeq_nil ?_
              refine aE _ _ ?_
              clear aE h7 rg9 K9 b5 ne
              go_wp2
              exact ⟨⟨j + 1, by omega, rfl, BB, B7⟩, by simp only [intOf]; omega⟩
            · clear kk
              replace K4 : Blk w5 G1 26 #[.int .u64 2, .int .u64 (i : Int), .int .u64 (o : Int), .int .u64 (m : Int), .int .u64 (q : Int), .bool fn, .slice p1 d.length c1, .slice p2 a.length c2] := K4
              replace K9 : Blk w5 G9 26 #[.int .u64 2, .int .u64 0, .int .u64 0, .int .u64 0, .int .u64 0, .bool false, .slice p1 d.length c1, .slice none 0 0] := K9
              have x0 : w5.cell? ⟨G1, 0, none⟩ = some (.int .u64 2) := K4.cell 0
              have K4d : Blk w5.drew G1 26 #[.int .u64 2, .int .u64 (i : Int), .int .u64 (o : Int), .int .u64 (m : Int), .int .u64 (q : Int), .bool fn, .slice p1 d.length c1, .slice p2 a.length c2] := K4
              have K9d : Blk w5.drew G9 26 #[.int .u64 2, .int .u64 0, .int .u64 0, .int .u64 0, .int .u64 0, .bool false, .slice p1 d.length c1, .slice none 0 0] := K9
              have b5d := below_drew b5
              go_upto_region 17 with fail
              clear x0
              rename_i aK
              refine wp_region_S (S := fun w' => Blk w' G1 26 #[.int .u64 2, .int .u64 (i : Int), .int .u64 (o : Int), .int .u64 (m : Int), .int .u64 (q : Int), .bool fn, .slice p1 d.length c1, .slice p2 a.length c2]) (by kernel_rfl) ?_
              refine wpAnyS_takeL 0 (v := .pointer (some ⟨G1, 7, none⟩)) rfl (by kernel_rfl) (by kernel_rfl) (by kernel_rfl) (fun _ _ _ H => H) (Or.inl ⟨by rfl, fun w' hw' => by go_simp⟩) K4d ?_
              simp only [AP]
              refine wpAnyS_takeL 1 (v := .slice p2 a.length c2) rfl (by kernel_rfl) (by kernel_rfl) (by kernel_rfl) (fun _ _ _ H => H) (Or.inl ⟨by rfl, fun w' hw' => by (have cc : w'.cell? ⟨G1, 7, none⟩ = some (.slice p2 a.length c2) := hw'.cell 7; go_simp)⟩) K4d ?_
              simp only [AP]
              refine wpAnyS_takeL 2 (v := .pointer (some ⟨G1, 3, none⟩)) rfl (by kernel_rfl) (by kernel_rfl) (by kernel_rfl) (fun _ _ _ H => H) (Or.inl ⟨by rfl, fun w' hw' => by go_simp⟩) K4d ?_
              simp only [AP]
              refine wpAnyS_takeL 3 (v := .int .u64 (m : Int)) rfl (by kernel_rfl) (by kernel_rfl) (by kernel_rfl) (fun _ _ _ H => H) (Or.inl ⟨by rfl, fun w' hw' => by (have cc : w'.cell? ⟨G1, 3, none⟩ = some (.int .u64 (m : Int)) := hw'.cell 3; go_simp)⟩) K4d ?_
              simp only [AP]
              refine wpAnyS_takeL 4 (v := .pointer (some ⟨G9, 7, none⟩)) rfl (by kernel_rfl) (by kernel_rfl) (by kernel_rfl) (fun _ _ _ H => H) (Or.inl ⟨by rfl, fun w' hw' => by go_simp⟩) K4d ?_
              simp only [AP]
              have yc : (w5.drew).cell? ⟨G9, 7, none⟩ = some (.slice none 0 0) := K9d.cell 7
              have yf : (w5.drew).frozen? ⟨G9, 7, none⟩ = false := K9d.frozen 7
              refine gstep 5 rfl rfl (by kernel_rfl) ?_
              unfold Oper.wp execOp
              go_simp
              have K4e : Blk (World.drew (World.setCell w5 ⟨G9, 7, none⟩ (.slice p2 a.length c2))) G1 26 #[.int .u64 2, .int .u64 (i : Int), .int .u64 (o : Int), .int .u64 (m : Int), .int .u64 (q : Int), .bool fn, .slice p1 d.length c1, .slice p2 a.length c2] := K4.far (p := ⟨G9, 7, none⟩) ne (.slice p2 a.length c2)
              have K9e : Blk (World.drew (World.setCell w5 ⟨G9, 7, none⟩ (.slice p2 a.length c2))) G9 26 #[.int .u64 2, .int .u64 0, .int .u64 0, .int .u64 0, .int .u64 0, .bool false, .slice p1 d.length c1, .slice p2 a.length c2] := K9.set 7 (.slice p2 a.length c2)
              have b5e : Below w4.heap.size w4 (World.drew (World.setCell w5 ⟨G9, 7, none⟩ (.slice p2 a.length c2))) := below_drew (b5.setCell (p := ⟨G9, 7, none⟩) hG9' (.slice p2 a.length c2))
              clear yc yf K4d K9d b5d K4 K9 b5
              refine ⟨K4e, ?_⟩
              generalize World.drew _ = w6 at *
              have K4d := K4e
              have K9d := K9e
              have b5d := b5e
              clear K4e K9e b5e
              refine wpAnyS_takeL 6 (v := .pointer (some ⟨G9, 3, none⟩)) rfl (by kernel_rfl) (by kernel_rfl) (by kernel_rfl) (fun _ _ _ H => H) (Or.inl ⟨by rfl, fun w' hw' => by go_simp⟩) K4d ?_
              simp only [AP]
              have yc : (w6).cell? ⟨G9, 3, none⟩ = some (.int .u64 0) := K9d.cell 3
              have yf : (w6).frozen? ⟨G9, 3, none⟩ = false := K9d.frozen 3
              refine gstep 7 rfl rfl (by kernel_rfl) ?_
              unfold Oper.wp execOp
              go_simp
              have K4e := K4d.far (p := ⟨G9, 3, none⟩) ne (.int .u64 (m : Int))
              have K9e : Blk _ G9 26 #[.int .u64 2, .int .u64 0, .int .u64 0, .int .u64 (m : Int), .int .u64 0, .bool false, .slice p1 d.length c1, .slice p2 a.length c2] := K9d.set 3 (.int .u64 (m : Int))
              have b5e := b5d.setCell (p := ⟨G9, 3, none⟩) hG9' (.int .u64 (m : Int))
              clear yc yf K4d K9d b5d
              refine ⟨K4e, ?_⟩
              generalize World.setCell _ _ _ = w60 at *
              have K4d := K4e
              have K9d := K9e
              have b5d := b5e
              clear K4e K9e b5e
              refine wpAnyS_done (by kernel_rfl) ?_ _
              refine aK _ _ ?_
              clear aK
              have K9 := K9d
              have b5 := b5d
              clear K9d b5d K4d
              have hD : FD W (trimF ⟨2, i, o, m, q, fn, d, a⟩) (.slice p1 d.length c1) (.slice p2 a.length c2) := ⟨H1.out.data, H1.out.acks⟩
              obtain ⟨v7, w7, h7, BB, B7⟩ := M4.add_ (show 2 ≠ 0 by decide) lw4.out b5 (trimF ⟨2, i, o, m, q, fn, d, a⟩, .slice p1 d.length c1, .slice p2 a.length c2) rfl hD frL_oneL
              replace h7 : (Builtin.append_ #[29, 29] 29 #[.slice p4 nw c4, .slice (some ⟨w60.heap.size, 0, none⟩) 1 1]).run Try.prog (w60.alloc (.cells #[.int .u64 2, .int .u64 0, .int .u64 0, .int .u64 (m : Int), .int .u64 0, .bool false, .slice p1 d.length c1, .slice p2 a.length c2] 26)) = .ok v7 w7 := h7
              have rg9 : w60.rangeAt G9 0 [.int .u64 2, .int .u64 0, .int .u64 0, .int .u64 (m : Int), .int .u64 0, .bool false, .slice p1 d.length c1, .slice p2 a.length c2] := blk_range K9
              clear M4 H1 hD hf
              go_upto_region 33 with fail
              refine wp_region_seq ?_
              refine wpSeq_yield (S := fun _ => True) (yieldsIf_move rfl _ rfl (.slice p4 nw c4) rfl) trivial ?_
              simp only [AP]
              refine wpSeq_yield (S := fun w' => w' = w60) (show YieldsIf _ _ _ _ (.agg #[.int .u64 2, .int .u64 0, .int .u64 0, .int .u64 (m : Int), .int .u64 0, .bool false, .slice p1 d.length c1, .slice p2 a.length c2]) _ from yieldsIf_load_mid (S := fun w' => w' = w60) rfl 26 _ rfl G9 0 rfl [.int .u64 2, .int .u64 0, .int .u64 0, .int .u64 (m : Int), .int .u64 0, .bool false, .slice p1 d.length c1, .slice p2 a.length c2] _ (fun _ h => h ▸ rg9) Try.underlying26 rfl info_fr) rfl ?_
              simp only [AP]
              refine wpSeq_wp rfl ?_
              unfold Oper.wp execOp
              go_simp
              refine wpSeq_wp rfl (wp_append_run _ _ _ _ rfl _ _ rfl rfl v7 w7 h7 ?_)
              simp only [AP]
              refine wpSeq_yield (S := fun _ => True) (yieldsIf_assign rfl _ rfl (v7) rfl) trivial ?_
              simp only [AP]
              refine wpSeq_nil ?_
              refine aE _ _ ?_
              clear aE h7 rg9 K9 b5 ne
              go_wp2
              exact ⟨⟨j + 1, by omega, rfl, BB, B7⟩, by simp only [intOf]; omega⟩
            · clear kk
              replace K4 : Blk w5 G1 26 #[.int .u64 4, .int .u64 (i : Int), .int .u64 (o : Int), .int .u64 (m : Int), .int .u64 (q : Int), .bool fn, .slice p1 d.length c1, .slice p2 a.length c2] := K4
              replace K9 : Blk w5 G9 26 #[.int .u64 4, .int .u64 0, .int .u64 0, .int .u64 0, .int .u64 0, .bool false, .slice p1 d.length c1, .slice none 0 0] := K9
              have x0 : w5.cell? ⟨G1, 0, none⟩ = some (.int .u64 4) := K4.cell 0
              have K4d : Blk w5.drew G1 26 #[.int .u64 4, .int .u64 (i : Int), .int .u64 (o : Int), .int .u64 (m : Int), .int .u64 (q : Int), .bool fn, .slice p1 d.length c1, .slice p2 a.length c2] := K4
              have K9d : Blk w5.drew G9 26 #[.int .u64 4, .int .u64 0, .int .u64 0, .int .u64 0, .int .u64 0, .bool false, .slice p1 d.length c1, .slice none 0 0] := K9
              have b5d := below_drew b5
              go_upto_region 19 with fail
              clear x0
              rename_i aK
              refine wp_region_S (S := fun w' => Blk w' G1 26 #[.int .u64 4, .int .u64 (i : Int), .int .u64 (o : Int), .int .u64 (m : Int), .int .u64 (q : Int), .bool fn, .slice p1 d.length c1, .slice p2 a.length c2]) (by kernel_rfl) ?_
              refine wpAnyS_takeL 0 (v := .pointer (some ⟨G1, 1, none⟩)) rfl (by kernel_rfl) (by kernel_rfl) (by kernel_rfl) (fun _ _ _ H => H) (Or.inl ⟨by rfl, fun w' hw' => by go_simp⟩) K4d ?_
              simp only [AP]
              refine wpAnyS_takeL 1 (v := .int .u64 (i : Int)) rfl (by kernel_rfl) (by kernel_rfl) (by kernel_rfl) (fun _ _ _ H => H) (Or.inl ⟨by rfl, fun w' hw' => by (have cc : w'.cell? ⟨G1, 1, none⟩ = some (.int .u64 (i : Int)) := hw'.cell 1; go_simp)⟩) K4d ?_
              simp only [AP]
              refine wpAnyS_takeL 2 (v := .pointer (some ⟨G1, 4, none⟩)) rfl (by kernel_rfl) (by kernel_rfl) (by kernel_rfl) (fun _ _ _ H => H) (Or.inl ⟨by rfl, fun w' hw' => by go_simp⟩) K4d ?_
              simp only [AP]
              refine wpAnyS_takeL 3 (v := .int .u64 (q : Int)) rfl (by kernel_rfl) (by kernel_rfl) (by kernel_rfl) (fun _ _ _ H => H) (Or.inl ⟨by rfl, fun w' hw' => by (have cc : w'.cell? ⟨G1, 4, none⟩ = some (.int .u64 (q : Int)) := hw'.cell 4; go_simp)⟩) K4d ?_
              simp only [AP]
              refine wpAnyS_takeL 4 (v := .pointer (some ⟨G1, 3, none⟩)) rfl (by kernel_rfl) (by kernel_rfl) (by kernel_rfl) (fun _ _ _ H => H) (Or.inl ⟨by rfl, fun w' hw' => by go_simp⟩) K4d ?_
              simp only [AP]
              refine wpAnyS_takeL 5 (v := .int .u64 (m : Int)) rfl (by kernel_rfl) (by kernel_rfl) (by kernel_rfl) (fun _ _ _ H => H) (Or.inl ⟨by rfl, fun w' hw' => by (have cc : w'.cell? ⟨G1, 3, none⟩ = some (.int .u64 (m : Int)) := hw'.cell 3; go_simp)⟩) K4d ?_
              simp only [AP]
              refine wpAnyS_takeL 6 (v := .pointer (some ⟨G9, 1, none⟩)) rfl (by kernel_rfl) (by kernel_rfl) (by kernel_rfl) (fun _ _ _ H => H) (Or.inl ⟨by rfl, fun w' hw' => by go_simp⟩) K4d ?_
              simp only [AP]
              have yc : (w5.drew).cell? ⟨G9, 1, none⟩ = some (.int .u64 0) := K9d.cell 1
              have yf : (w5.drew).frozen? ⟨G9, 1, none⟩ = false := K9d.frozen 1
              refine gstep 7 rfl rfl (by kernel_rfl) ?_
              unfold Oper.wp execOp
              go_simp
              have K4e : Blk (World.drew (World.setCell w5 ⟨G9, 1, none⟩ (.int .u64 (i : Int)))) G1 26 #[.int .u64 4, .int .u64 (i : Int), .int .u64 (o : Int), .int .u64 (m : Int), .int .u64 (q : Int), .bool fn, .slice p1 d.length c1, .slice p2 a.length c2] := K4.far (p := ⟨G9, 1, none⟩) ne (.int .u64 (i : Int))
              have K9e : Blk (World.drew (World.setCell w5 ⟨G9, 1, none⟩ (.int .u64 (i : Int)))) G9 26 #[.int .u64 4, .int .u64 (i : Int), .int .u64 0, .int .u64 0, .int .u64 0, .bool false, .slice p1 d.length c1, .slice none 0 0] := K9.set 1 (.int .u64 (i : Int))
              have b5e : Below w4.heap.size w4 (World.drew (World.setCell w5 ⟨G9, 1, none⟩ (.int .u64 (i : Int)))) := below_drew (b5.setCell (p := ⟨G9, 1, none⟩) hG9' (.int .u64 (i : Int)))
              clear yc yf K4d K9d b5d K4 K9 b5
              refine ⟨K4e, ?_⟩
              generalize World.drew _ = w6 at *
              have K4d := K4e
              have K9d := K9e
              have b5d := b5e
              clear K4e K9e b5e
              refine wpAnyS_takeL 8 (v := .pointer (some ⟨G9, 4, none⟩)) rfl (by kernel_rfl) (by kernel_rfl) (by kernel_rfl) (fun _ _ _ H => H) (Or.inl ⟨by rfl, fun w' hw' => by go_simp⟩) K4d ?_
              simp only [AP]
              have yc : (w6).cell? ⟨G9, 4, none⟩ = some (.int .u64 0) := K9d.cell 4
              have yf : (w6).frozen? ⟨G9, 4, none⟩ = false := K9d.frozen 4
              refine gstep 9 rfl rfl (by kernel_rfl) ?_
              unfold Oper.wp execOp
              go_simp
              have K4e := K4d.far (p := ⟨G9, 4, none⟩) ne (.int .u64 (q : Int))
              have K9e : Blk _ G9 26 #[.int .u64 4, .int .u64 (i : Int), .int .u64 0, .int .u64 0, .int .u64 (q : Int), .bool false, .slice p1 d.length c1, .slice none 0 0] := K9d.set 4 (.int .u64 (q : Int))
              have b5e := b5d.setCell (p := ⟨G9, 4, none⟩) hG9' (.int .u64 (q : Int))
              clear yc yf K4d K9d b5d
              refine ⟨K4e, ?_⟩
              generalize World.setCell _ _ _ = w60 at *
              have K4d := K4e
              have K9d := K9e
              have b5d := b5e
              clear K4e K9e b5e
              refine wpAnyS_takeL 10 (v := .pointer (some ⟨G9, 3, none⟩)) rfl (by kernel_rfl) (by kernel_rfl) (by kernel_rfl) (fun _ _ _ H => H) (Or.inl ⟨by rfl, fun w' hw' => by go_simp⟩) K4d ?_
              simp only [AP]
              have yc : (w60).cell? ⟨G9, 3, none⟩ = some (.int .u64 0) := K9d.cell 3
              have yf : (w60).frozen? ⟨G9, 3, none⟩ = false := K9d.frozen 3
              refine gstep 11 rfl rfl (by kernel_rfl) ?_
              unfold Oper.wp execOp
              go_simp
              have K4e := K4d.far (p := ⟨G9, 3, none⟩) ne (.int .u64 (m : Int))
              have K9e : Blk _ G9 26 #[.int .u64 4, .int .u64 (i : Int), .int .u64 0, .int .u64 (m : Int), .int .u64 (q : Int), .bool false, .slice p1 d.length c1, .slice none 0 0] := K9d.set 3 (.int .u64 (m : Int))
              have b5e := b5d.setCell (p := ⟨G9, 3, none⟩) hG9' (.int .u64 (m : Int))
              clear yc yf K4d K9d b5d
              refine ⟨K4e, ?_⟩
              generalize World.setCell _ _ _ = w61 at *
              have K4d := K4e
              have K9d := K9e
              have b5d := b5e
              clear K4e K9e b5e
              refine wpAnyS_done (by kernel_rfl) ?_ _
              refine aK _ _ ?_
              clear aK
              have K9 := K9d
              have b5 := b5d
              clear K9d b5d K4d
              have hD : FD W (trimF ⟨4, i, o, m, q, fn, d, a⟩) (.slice p1 d.length c1) (.slice none 0 0) := ⟨H1.out.data, SA.nil _ _ _⟩
              obtain ⟨v7, w7, h7, BB, B7⟩ := M4.add_ (show 4 ≠ 0 by decide) lw4.out b5 (trimF ⟨4, i, o, m, q, fn, d, a⟩, .slice p1 d.length c1, .slice none 0 0) rfl hD frL_oneL
              replace h7 : (Builtin.append_ #[29, 29] 29 #[.slice p4 nw c4, .slice (some ⟨w61.heap.size, 0, none⟩) 1 1]).run Try.prog (w61.alloc (.cells #[.int .u64 4, .int .u64 (i : Int), .int .u64 0, .int .u64 (m : Int), .int .u64 (q : Int), .bool false, .slice p1 d.length c1, .slice none 0 0] 26)) = .ok v7 w7 := h7
              have rg9 : w61.rangeAt G9 0 [.int .u64 4, .int .u64 (i : Int), .int .u64 0, .int .u64 (m : Int), .int .u64 (q : Int), .bool false, .slice p1 d.length c1, .slice none 0 0] := blk_range K9
              clear M4 H1 hD hf
              go_upto_region 33 with fail
              refine wp_region_seq ?_
              refine wpSeq_yield (S := fun _ => True) (yieldsIf_move rfl _ rfl (.slice p4 nw c4) rfl) trivial ?_
              simp only [AP]
              refine wpSeq_yield (S := fun w' => w' = w61) (show YieldsIf _ _ _ _ (.agg #[.int .u64 4, .int .u64 (i : Int), .int .u64 0, .int .u64 (m : Int), .int .u64 (q : Int), .bool false, .slice p1 d.length c1, .slice none 0 0]) _ from yieldsIf_load_mid (S := fun w' => w' = w61) rfl 26 _ rfl G9 0 rfl [.int .u64 4, .int .u64 (i : Int), .int .u64 0, .int .u64 (m : Int), .int .u64 (q : Int), .bool false, .slice p1 d.length c1, .slice none 0 0] _ (fun _ h => h ▸ rg9) Try.underlying26 rfl info_fr) rfl ?_
              simp only [AP]
              refine wpSeq_wp rfl ?_
              unfold Oper.wp execOp
              go_simp
              refine wpSeq_wp rfl (wp_append_run _ _ _ _ rfl _ _ rfl rfl v7 w7 h7 ?_)
              simp only [AP]
              refine wpSeq_yield (S := fun _ => True) (yieldsIf_assign rfl _ rfl (v7) rfl) trivial ?_
              simp only [AP]
              refine wpSeq_nil ?_
              refine aE _ _ ?_
              clear aE h7 rg9 K9 b5 ne
              go_wp2
              exact ⟨⟨j + 1, by omega, rfl, BB, B7⟩, by simp only [intOf]; omega⟩
            · clear kk
              replace K4 : Blk w5 G1 26 #[.int .u64 5, .int .u64 (i : Int), .int .u64 (o : Int), .int .u64 (m : Int), .int .u64 (q : Int), .bool fn, .slice p1 d.length c1, .slice p2 a.length c2] := K4
              replace K9 : Blk w5 G9 26 #[.int .u64 5, .int .u64 0, .int .u64 0, .int .u64 0, .int .u64 0, .bool false, .slice p1 d.length c1, .slice none 0 0] := K9
              have x0 : w5.cell? ⟨G1, 0, none⟩ = some (.int .u64 5) := K4.cell 0
              have K4d : Blk w5.drew G1 26 #[.int .u64 5, .int .u64 (i : Int), .int .u64 (o : Int), .int .u64 (m : Int), .int .u64 (q : Int), .bool fn, .slice p1 d.length c1, .slice p2 a.length c2] := K4
              have K9d : Blk w5.drew G9 26 #[.int .u64 5, .int .u64 0, .int .u64 0, .int .u64 0, .int .u64 0, .bool false, .slice p1 d.length c1, .slice none 0 0] := K9
              have b5d := below_drew b5
              go_upto_region 21 with fail
              clear x0
              rename_i aK
              refine wp_region_S (S := fun w' => Blk w' G1 26 #[.int .u64 5, .int .u64 (i : Int), .int .u64 (o : Int), .int .u64 (m : Int), .int .u64 (q : Int), .bool fn, .slice p1 d.length c1, .slice p2 a.length c2]) (by kernel_rfl) ?_
              refine wpAnyS_takeL 0 (v := .pointer (some ⟨G1, 1, none⟩)) rfl (by kernel_rfl) (by kernel_rfl) (by kernel_rfl) (fun _ _ _ H => H) (Or.inl ⟨by rfl, fun w' hw' => by go_simp⟩) K4d ?_
              simp only [AP]
              refine wpAnyS_takeL 1 (v := .int .u64 (i : Int)) rfl (by kernel_rfl) (by kernel_rfl) (by kernel_rfl) (fun _ _ _ H => H) (Or.inl ⟨by rfl, fun w' hw' => by (have cc : w'.cell? ⟨G1, 1, none⟩ = some (.int .u64 (i : Int)) := hw'.cell 1; go_simp)⟩) K4d ?_
              simp only [AP]
              refine wpAnyS_takeL 2 (v := .pointer (some ⟨G1, 4, none⟩)) rfl (by kernel_rfl) (by kernel_rfl) (by kernel_rfl) (fun _ _ _ H => H) (Or.inl ⟨by rfl, fun w' hw' => by go_simp⟩) K4d ?_
              simp only [AP]
              refine wpAnyS_takeL 3 (v := .int .u64 (q : Int)) rfl (by kernel_rfl) (by kernel_rfl) (by kernel_rfl) (fun _ _ _ H => H) (Or.inl ⟨by rfl, fun w' hw' => by (have cc : w'.cell? ⟨G1, 4, none⟩ = some (.int .u64 (q : Int)) := hw'.cell 4; go_simp)⟩) K4d ?_
              simp only [AP]
              refine wpAnyS_takeL 4 (v := .pointer (some ⟨G9, 1, none⟩)) rfl (by kernel_rfl) (by kernel_rfl) (by kernel_rfl) (fun _ _ _ H => H) (Or.inl ⟨by rfl, fun w' hw' => by go_simp⟩) K4d ?_
              simp only [AP]
              have yc : (w5.drew).cell? ⟨G9, 1, none⟩ = some (.int .u64 0) := K9d.cell 1
              have yf : (w5.drew).frozen? ⟨G9, 1, none⟩ = false := K9d.frozen 1
              refine gstep 5 rfl rfl (by kernel_rfl) ?_
              unfold Oper.wp execOp
              go_simp
              have K4e : Blk (World.drew (World.setCell w5 ⟨G9, 1, none⟩ (.int .u64 (i : Int)))) G1 26 #[.int .u64 5, .int .u64 (i : Int), .int .u64 (o : Int), .int .u64 (m : Int), .int .u64 (q : Int), .bool fn, .slice p1 d.length c1, .slice p2 a.length c2] := K4.far (p := ⟨G9, 1, none⟩) ne (.int .u64 (i : Int))
              have K9e : Blk (World.drew (World.setCell w5 ⟨G9, 1, none⟩ (.int .u64 (i : Int)))) G9 26 #[.int .u64 5, .int .u64 (i : Int), .int .u64 0, .int .u64 0, .int .u64 0, .bool false, .slice p1 d.length c1, .slice none 0 0] := K9.set 1 (.int .u64 (i : Int))
              have b5e : Below w4.heap.size w4 (World.drew (World.setCell w5 ⟨G9, 1, none⟩ (.int .u64 (i : Int)))) := below_drew (b5.setCell (p := ⟨G9, 1, none⟩) hG9' (.int .u64 (i : Int)))
              clear yc yf K4d K9d b5d K4 K9 b5
              refine ⟨K4e, ?_⟩
              generalize World.drew _ = w6 at *
              have K4d := K4e
              have K9d := K9e
              have b5d := b5e
              clear K4e K9e b5e
              refine wpAnyS_takeL 6 (v := .pointer (some ⟨G9, 4, none⟩)) rfl (by kernel_rfl) (by kernel_rfl) (by kernel_rfl) (fun _ _ _ H => H) (Or.inl ⟨by rfl, fun w' hw' => by go_simp⟩) K4d ?_
              simp only [AP]
              have yc : (w6).cell? ⟨G9, 4, none⟩ = some (.int .u64 0) := K9d.cell 4
              have yf : (w6).frozen? ⟨G9, 4, none⟩ = false := K9d.frozen 4
              refine gstep 7 rfl rfl (by kernel_rfl) ?_
              unfold Oper.wp execOp
              go_simp
              have K4e := K4d.far (p := ⟨G9, 4, none⟩) ne (.int .u64 (q : Int))
              have K9e : Blk _ G9 26 #[.int .u64 5, .int .u64 (i : Int), .int .u64 0, .int .u64 0, .int .u64 (q : Int), .bool false, .slice p1 d.length c1, .slice none 0 0] := K9d.set 4 (.int .u64 (q : Int))
              have b5e := b5d.setCell (p := ⟨G9, 4, none⟩) hG9' (.int .u64 (q : Int))
              clear yc yf K4d K9d b5d
              refine ⟨K4e, ?_⟩
              generalize World.setCell _ _ _ = w60 at *
              have K4d := K4e
              have K9d := K9e
              have b5d := b5e
              clear K4e K9e b5e
              refine wpAnyS_done (by kernel_rfl) ?_ _
              refine aK _ _ ?_
              clear aK
              have K9 := K9d
              have b5 := b5d
              clear K9d b5d K4d
              have hD : FD W (trimF ⟨5, i, o, m, q, fn, d, a⟩) (.slice p1 d.length c1) (.slice none 0 0) := ⟨H1.out.data, SA.nil _ _ _⟩
              obtain ⟨v7, w7, h7, BB, B7⟩ := M4.add_ (show 5 ≠ 0 by decide) lw4.out b5 (trimF ⟨5, i, o, m, q, fn, d, a⟩, .slice p1 d.length c1, .slice none 0 0) rfl hD frL_oneL
              replace h7 : (Builtin.append_ #[29, 29] 29 #[.slice p4 nw c4, .slice (some ⟨w60.heap.size, 0, none⟩) 1 1]).run Try.prog (w60.alloc (.cells #[.int .u64 5, .int .u64 (i : Int), .int .u64 0, .int .u64 0, .int .u64 (q : Int), .bool false, .slice p1 d.length c1, .slice none 0 0] 26)) = .ok v7 w7 := h7
              have rg9 : w60.rangeAt G9 0 [.int .u64 5, .int .u64 (i : Int), .int .u64 0, .int .u64 0, .int .u64 (q : Int), .bool false, .slice p1 d.length c1, .slice none 0 0] := blk_range K9
              clear M4 H1 hD hf
              go_upto_region 33 with fail
              refine wp_region_seq ?_
              refine wpSeq_yield (S := fun _ => True) (yieldsIf_move rfl _ rfl (.slice p4 nw c4) rfl) trivial ?_
              simp only [AP]
              refine wpSeq_yield (S := fun w' => w' = w60) (show YieldsIf _ _ _ _ (.agg #[.int .u64 5, .int .u64 (i : Int), .int .u64 0, .int .u64 0, .int .u64 (q : Int), .bool false, .slice p1 d.length c1, .slice none 0 0]) _ from yieldsIf_load_mid (S := fun w' => w' = w60) rfl 26 _ rfl G9 0 rfl [.int .u64 5, .int .u64 (i : Int), .int .u64 0, .int .u64 0, .int .u64 (q : Int), .bool false, .slice p1 d.length c1, .slice none 0 0] _ (fun _ h => h ▸ rg9) Try.underlying26 rfl info_fr) rfl ?_
              simp only [AP]
              refine wpSeq_wp rfl ?_
              unfold Oper.wp execOp
              go_simp
              refine wpSeq_wp rfl (wp_append_run _ _ _ _ rfl _ _ rfl rfl v7 w7 h7 ?_)
              simp only [AP]
              refine wpSeq_yield (S := fun _ => True) (yieldsIf_assign rfl _ rfl (v7) rfl) trivial ?_
              simp only [AP]
              refine wpSeq_nil ?_
              refine aE _ _ ?_
              clear aE h7 rg9 K9 b5 ne
              go_wp2
              exact ⟨⟨j + 1, by omega, rfl, BB, B7⟩, by simp only [intOf]; omega⟩
            · clear kk
              replace K4 : Blk w5 G1 26 #[.int .u64 6, .int .u64 (i : Int), .int .u64 (o : Int), .int .u64 (m : Int), .int .u64 (q : Int), .bool fn, .slice p1 d.length c1, .slice p2 a.length c2] := K4
              replace K9 : Blk w5 G9 26 #[.int .u64 6, .int .u64 0, .int .u64 0, .int .u64 0, .int .u64 0, .bool false, .slice p1 d.length c1, .slice none 0 0] := K9
              have x0 : w5.cell? ⟨G1, 0, none⟩ = some (.int .u64 6) := K4.cell 0
              have yc : w5.cell? ⟨G9, 2, none⟩ = some (.int .u64 0) := K9.cell 2
              have yf : w5.frozen? ⟨G9, 2, none⟩ = false := K9.frozen 2
              go_upto_region 23 with fail
              rename_i aK
              refine wp_region_seq ?_
              refine wpSeq_yield (S := fun _ => True) (v := .pointer (some ⟨G1, 2, none⟩)) (Or.inl ⟨by rfl, fun w' hw' => by go_simp⟩) trivial ?_
              simp only [AP]
              refine wpSeq_yield (S := fun w' => w' = w5) (v := .int .u64 (o : Int)) (Or.inl ⟨by rfl, fun w' hw' => by (rw [hw']; have cc : w5.cell? ⟨G1, 2, none⟩ = some (.int .u64 (o : Int)) := K4.cell 2; go_simp)⟩) rfl ?_
              simp only [AP]
              refine wpSeq_yield (S := fun _ => True) (v := .pointer (some ⟨G9, 2, none⟩)) (Or.inl ⟨by rfl, fun w' hw' => by go_simp⟩) trivial ?_
              simp only [AP]
              refine wpSeq_wp rfl ?_
              unfold Oper.wp execOp
              go_simp
              have K9e : Blk _ G9 26 #[.int .u64 6, .int .u64 0, .int .u64 (o : Int), .int .u64 0, .int .u64 0, .bool false, .slice p1 d.length c1, .slice none 0 0] := K9.set 2 (.int .u64 (o : Int))
              have b5e := b5.setCell (p := ⟨G9, 2, none⟩) hG9' (.int .u64 (o : Int))
              clear yc yf K9 b5 K4 x0
              generalize World.setCell _ _ _ = w6 at *
              have K9 := K9e
              have b5 := b5e
              clear K9e b5e
              refine wpSeq_nil ?_
              refine aK _ _ ?_
              clear aK
              have hD : FD W (trimF ⟨6, i, o, m, q, fn, d, a⟩) (.slice p1 d.length c1) (.slice none 0 0) := ⟨H1.out.data, SA.nil _ _ _⟩
              obtain ⟨v7, w7, h7, BB, B7⟩ := M4.add_ (show 6 ≠ 0 by decide) lw4.out b5 (trimF ⟨6, i, o, m, q, fn, d, a⟩, .slice p1 d.length c1, .slice none 0 0) rfl hD frL_oneL
              replace h7 : (Builtin.append_ #[29, 29] 29 #[.slice p4 nw c4, .slice (some ⟨w6.heap.size, 0, none⟩) 1 1]).run Try.prog (w6.alloc (.cells #[.int .u64 6, .int .u64 0, .int .u64 (o : Int), .int .u64 0, .int .u64 0, .bool false, .slice p1 d.length c1, .slice none 0 0] 26)) = .ok v7 w7 := h7
              have rg9 : w6.rangeAt G9 0 [.int .u64 6, .int .u64 0, .int .u64 (o : Int), .int .u64 0, .int .u64 0, .bool false, .slice p1 d.length c1, .slice none 0 0] := blk_range K9
              clear M4 H1 hD hf
              go_upto_region 33 with fail
              refine wp_region_seq ?_
              refine wpSeq_yield (S := fun _ => True) (yieldsIf_move rfl _ rfl (.slice p4 nw c4) rfl) trivial ?_
              simp only [AP]
              refine wpSeq_yield (S := fun w' => w' = w6) (show YieldsIf _ _ _ _ (.agg #[.int .u64 6, .int .u64 0, .int .u64 (o : Int), .int .u64 0, .int .u64 0, .bool false, .slice p1 d.length c1, .slice none 0 0]) _ from yieldsIf_load_mid (S := fun w' => w' = w6) rfl 26 _ rfl G9 0 rfl [.int .u64 6, .int .u64 0, .int .u64 (o : Int), .int .u64 0, .int .u64 0, .bool false, .slice p1 d.length c1, .slice none 0 0] _ (fun _ h => h ▸ rg9) Try.underlying26 rfl info_fr) rfl ?_
              simp only [AP]
              refine wpSeq_wp rfl ?_
              unfold Oper.wp execOp
              go_simp
              refine wpSeq_wp rfl (wp_append_run _ _ _ _ rfl _ _ rfl rfl v7 w7 h7 ?_)
              simp only [AP]
              refine wpSeq_yield (S := fun _ => True) (yieldsIf_assign rfl _ rfl (v7) rfl) trivial ?_
              simp only [AP]
              refine wpSeq_nil ?_
              refine aE _ _ ?_
              clear aE h7 rg9 K9 b5 ne
              go_wp2
              exact ⟨⟨j + 1, by omega, rfl, BB, B7⟩, by simp only [intOf]; omega⟩
            · clear kk
              replace K4 : Blk w5 G1 26 #[.int .u64 8, .int .u64 (i : Int), .int .u64 (o : Int), .int .u64 (m : Int), .int .u64 (q : Int), .bool fn, .slice p1 d.length c1, .slice p2 a.length c2] := K4
              replace K9 : Blk w5 G9 26 #[.int .u64 8, .int .u64 0, .int .u64 0, .int .u64 0, .int .u64 0, .bool false, .slice p1 d.length c1, .slice none 0 0] := K9
              have x0 : w5.cell? ⟨G1, 0, none⟩ = some (.int .u64 8) := K4.cell 0
              have K4d : Blk w5.drew G1 26 #[.int .u64 8, .int .u64 (i : Int), .int .u64 (o : Int), .int .u64 (m : Int), .int .u64 (q : Int), .bool fn, .slice p1 d.length c1, .slice p2 a.length c2] := K4
              have K9d : Blk w5.drew G9 26 #[.int .u64 8, .int .u64 0, .int .u64 0, .int .u64 0, .int .u64 0, .bool false, .slice p1 d.length c1, .slice none 0 0] := K9
              have b5d := below_drew b5
              go_upto_region 25 with fail
              clear x0
              rename_i aK
              refine wp_region_S (S := fun w' => Blk w' G1 26 #[.int .u64 8, .int .u64 (i : Int), .int .u64 (o : Int), .int .u64 (m : Int), .int .u64 (q : Int), .bool fn, .slice p1 d.length c1, .slice p2 a.length c2]) (by kernel_rfl) ?_
              refine wpAnyS_takeL 0 (v := .pointer (some ⟨G1, 1, none⟩)) rfl (by kernel_rfl) (by kernel_rfl) (by kernel_rfl) (fun _ _ _ H => H) (Or.inl ⟨by rfl, fun w' hw' => by go_simp⟩) K4d ?_
              simp only [AP]
              refine wpAnyS_takeL 1 (v := .int .u64 (i : Int)) rfl (by kernel_rfl) (by kernel_rfl) (by kernel_rfl) (fun _ _ _ H => H) (Or.inl ⟨by rfl, fun w' hw' => by (have cc : w'.cell? ⟨G1, 1, none⟩ = some (.int .u64 (i : Int)) := hw'.cell 1; go_simp)⟩) K4d ?_
              simp only [AP]
              refine wpAnyS_takeL 2 (v := .pointer (some ⟨G1, 2, none⟩)) rfl (by kernel_rfl) (by kernel_rfl) (by kernel_rfl) (fun _ _ _ H => H) (Or.inl ⟨by rfl, fun w' hw' => by go_simp⟩) K4d ?_
              simp only [AP]
              refine wpAnyS_takeL 3 (v := .int .u64 (o : Int)) rfl (by kernel_rfl) (by kernel_rfl) (by kernel_rfl) (fun _ _ _ H => H) (Or.inl ⟨by rfl, fun w' hw' => by (have cc : w'.cell? ⟨G1, 2, none⟩ = some (.int .u64 (o : Int)) := hw'.cell 2; go_simp)⟩) K4d ?_
              simp only [AP]
              refine wpAnyS_takeL 4 (v := .pointer (some ⟨G1, 5, none⟩)) rfl (by kernel_rfl) (by kernel_rfl) (by kernel_rfl) (fun _ _ _ H => H) (Or.inl ⟨by rfl, fun w' hw' => by go_simp⟩) K4d ?_
              simp only [AP]
              refine wpAnyS_takeL 5 (v := .bool fn) rfl (by kernel_rfl) (by kernel_rfl) (by kernel_rfl) (fun _ _ _ H => H) (Or.inl ⟨by rfl, fun w' hw' => by (have cc : w'.cell? ⟨G1, 5, none⟩ = some (.bool fn) := hw'.cell 5; go_simp)⟩) K4d ?_
              simp only [AP]
              refine wpAnyS_takeL 6 (v := .pointer (some ⟨G9, 1, none⟩)) rfl (by kernel_rfl) (by kernel_rfl) (by kernel_rfl) (fun _ _ _ H => H) (Or.inl ⟨by rfl, fun w' hw' => by go_simp⟩) K4d ?_
              simp only [AP]
              have yc : (w5.drew).cell? ⟨G9, 1, none⟩ = some (.int .u64 0) := K9d.cell 1
              have yf : (w5.drew).frozen? ⟨G9, 1, none⟩ = false := K9d.frozen 1
              refine gstep 7 rfl rfl (by kernel_rfl) ?_
              unfold Oper.wp execOp
              go_simp
              have K4e : Blk (World.drew (World.setCell w5 ⟨G9, 1, none⟩ (.int .u64 (i : Int)))) G1 26 #[.int .u64 8, .int .u64 (i : Int), .int .u64 (o : Int), .int .u64 (m : Int), .int .u64 (q : Int), .bool fn, .slice p1 d.length c1, .slice p2 a.length c2] := K4.far (p := ⟨G9, 1, none⟩) ne (.int .u64 (i : Int))
              have K9e : Blk (World.drew (World.setCell w5 ⟨G9, 1, none⟩ (.int .u64 (i : Int)))) G9 26 #[.int .u64 8, .int .u64 (i : Int), .int .u64 0, .int .u64 0, .int .u64 0, .bool false, .slice p1 d.length c1, .slice none 0 0] := K9.set 1 (.int .u64 (i : Int))
              have b5e : Below w4.heap.size w4 (World.drew (World.setCell w5 ⟨G9, 1, none⟩ (.int .u64 (i : Int)))) := below_drew (b5.setCell (p := ⟨G9, 1, none⟩) hG9' (.int .u64 (i : Int)))
              clear yc yf K4d K9d b5d K4 K9 b5
              refine ⟨K4e, ?_⟩
              generalize World.drew _ = w6 at *
              have K4d := K4e
              have K9d := K9e
              have b5d := b5e
              clear K4e K9e b5e
              refine wpAnyS_takeL 8 (v := .pointer (some ⟨G9, 2, none⟩)) rfl (by kernel_rfl) (by kernel_rfl) (by kernel_rfl) (fun _ _ _ H => H) (Or.inl ⟨by rfl, fun w' hw' => by go_simp⟩) K4d ?_
              simp only [AP]
              have yc : (w6).cell? ⟨G9, 2, none⟩ = some (.int .u64 0) := K9d.cell 2
              have yf : (w6).frozen? ⟨G9, 2, none⟩ = false := K9d.frozen 2
              refine gstep 9 rfl rfl (by kernel_rfl) ?_
              unfold Oper.wp execOp
              go_simp
              have K4e := K4d.far (p := ⟨G9, 2, none⟩) ne (.int .u64 (o : Int))
              have K9e : Blk _ G9 26 #[.int .u64 8, .int .u64 (i : Int), .int .u64 (o : Int), .int .u64 0, .int .u64 0, .bool false, .slice p1 d.length c1, .slice none 0 0] := K9d.set 2 (.int .u64 (o : Int))
              have b5e := b5d.setCell (p := ⟨G9, 2, none⟩) hG9' (.int .u64 (o : Int))
              clear yc yf K4d K9d b5d
              refine ⟨K4e, ?_⟩
              generalize World.setCell _ _ _ = w60 at *
              have K4d := K4e
              have K9d := K9e
              have b5d := b5e
              clear K4e K9e b5e
              refine wpAnyS_takeL 10 (v := .pointer (some ⟨G9, 5, none⟩)) rfl (by kernel_rfl) (by kernel_rfl) (by kernel_rfl) (fun _ _ _ H => H) (Or.inl ⟨by rfl, fun w' hw' => by go_simp⟩) K4d ?_
              simp only [AP]
              have yc : (w60).cell? ⟨G9, 5, none⟩ = some (.bool false) := K9d.cell 5
              have yf : (w60).frozen? ⟨G9, 5, none⟩ = false := K9d.frozen 5
              refine gstep 11 rfl rfl (by kernel_rfl) ?_
              unfold Oper.wp execOp
              go_simp
              have K4e := K4d.far (p := ⟨G9, 5, none⟩) ne (.bool fn)
              have K9e : Blk _ G9 26 #[.int .u64 8, .int .u64 (i : Int), .int .u64 (o : Int), .int .u64 0, .int .u64 0, .bool fn, .slice p1 d.length c1, .slice none 0 0] := K9d.set 5 (.bool fn)
              have b5e := b5d.setCell (p := ⟨G9, 5, none⟩) hG9' (.bool fn)
              clear yc yf K4d K9d b5d
              refine ⟨K4e, ?_⟩
              generalize World.setCell _ _ _ = w61 at *
              have K4d := K4e
              have K9d := K9e
              have b5d := b5e
              clear K4e K9e b5e
              refine wpAnyS_done (by kernel_rfl) ?_ _
              refine aK _ _ ?_
              clear aK
              have K9 := K9d
              have b5 := b5d
              clear K9d b5d K4d
              have hD : FD W (trimF ⟨8, i, o, m, q, fn, d, a⟩) (.slice p1 d.length c1) (.slice none 0 0) := ⟨H1.out.data, SA.nil _ _ _⟩
              obtain ⟨v7, w7, h7, BB, B7⟩ := M4.add_ (show 8 ≠ 0 by decide) lw4.out b5 (trimF ⟨8, i, o, m, q, fn, d, a⟩, .slice p1 d.length c1, .slice none 0 0) rfl hD frL_oneL
              replace h7 : (Builtin.append_ #[29, 29] 29 #[.slice p4 nw c4, .slice (some ⟨w61.heap.size, 0, none⟩) 1 1]).run Try.prog (w61.alloc (.cells #[.int .u64 8, .int .u64 (i : Int), .int .u64 (o : Int), .int .u64 0, .int .u64 0, .bool fn, .slice p1 d.length c1, .slice none 0 0] 26)) = .ok v7 w7 := h7
              have rg9 : w61.rangeAt G9 0 [.int .u64 8, .int .u64 (i : Int), .int .u64 (o : Int), .int .u64 0, .int .u64 0, .bool fn, .slice p1 d.length c1, .slice none 0 0] := blk_range K9
              clear M4 H1 hD hf
              go_upto_region 33 with fail
              refine wp_region_seq ?_
              refine wpSeq_yield (S := fun _ => True) (yieldsIf_move rfl _ rfl (.slice p4 nw c4) rfl) trivial ?_
              simp only [AP]
              refine wpSeq_yield (S := fun w' => w' = w61) (show YieldsIf _ _ _ _ (.agg #[.int .u64 8, .int .u64 (i : Int), .int .u64 (o : Int), .int .u64 0, .int .u64 0, .bool fn, .slice p1 d.length c1, .slice none 0 0]) _ from yieldsIf_load_mid (S := fun w' => w' = w61) rfl 26 _ rfl G9 0 rfl [.int .u64 8, .int .u64 (i : Int), .int .u64 (o : Int), .int .u64 0, .int .u64 0, .bool fn, .slice p1 d.length c1, .slice none 0 0] _ (fun _ h => h ▸ rg9) Try.underlying26 rfl info_fr) rfl ?_
              simp only [AP]
              refine wpSeq_wp rfl ?_
              unfold Oper.wp execOp
              go_simp
              refine wpSeq_wp rfl (wp_append_run _ _ _ _ rfl _ _ rfl rfl v7 w7 h7 ?_)
              simp only [AP]
              refine wpSeq_yield (S := fun _ => True) (yieldsIf_assign rfl _ rfl (v7) rfl) trivial ?_
              simp only [AP]
              refine wpSeq_nil ?_
              refine aE _ _ ?_
              clear aE h7 rg9 K9 b5 ne
              go_wp2
              exact ⟨⟨j + 1, by omega, rfl, BB, B7⟩, by simp only [intOf]; omega⟩
            · clear kk
              replace K4 : Blk w5 G1 26 #[.int .u64 16, .int .u64 (i : Int), .int .u64 (o : Int), .int .u64 (m : Int), .int .u64 (q : Int), .bool fn, .slice p1 d.length c1, .slice p2 a.length c2] := K4
              replace K9 : Blk w5 G9 26 #[.int .u64 16, .int .u64 0, .int .u64 0, .int .u64 0, .int .u64 0, .bool false, .slice p1 d.length c1, .slice none 0 0] := K9
              have x0 : w5.cell? ⟨G1, 0, none⟩ = some (.int .u64 16) := K4.cell 0
              have yc : w5.cell? ⟨G9, 3, none⟩ = some (.int .u64 0) := K9.cell 3
              have yf : w5.frozen? ⟨G9, 3, none⟩ = false := K9.frozen 3
              go_upto_region 28 with fail
              rename_i aK
              refine wp_region_seq ?_
              refine wpSeq_yield (S := fun _ => True) (v := .pointer (some ⟨G1, 3, none⟩)) (Or.inl ⟨by rfl, fun w' hw' => by go_simp⟩) trivial ?_
              simp only [AP]
              refine wpSeq_yield (S := fun w' => w' = w5) (v := .int .u64 (m : Int)) (Or.inl ⟨by rfl, fun w' hw' => by (rw [hw']; have cc : w5.cell? ⟨G1, 3, none⟩ = some (.int .u64 (m : Int)) := K4.cell 3; go_simp)⟩) rfl ?_
              simp only [AP]
              refine wpSeq_yield (S := fun _ => True) (v := .pointer (some ⟨G9, 3, none⟩)) (Or.inl ⟨by rfl, fun w' hw' => by go_simp⟩) trivial ?_
              simp only [AP]
              refine wpSeq_wp rfl ?_
              unfold Oper.wp execOp
              go_simp
              have K9e : Blk _ G9 26 #[.int .u64 16, .int .u64 0, .int .u64 0, .int .u64 (m : Int), .int .u64 0, .bool false, .slice p1 d.length c1, .slice none 0 0] := K9.set 3 (.int .u64 (m : Int))
              have b5e := b5.setCell (p := ⟨G9, 3, none⟩) hG9' (.int .u64 (m : Int))
              clear yc yf K9 b5 K4 x0
              generalize World.setCell _ _ _ = w6 at *
              have K9 := K9e
              have b5 := b5e
              clear K9e b5e
              refine wpSeq_nil ?_
              refine aK _ _ ?_
              clear aK
              have hD : FD W (trimF ⟨16, i, o, m, q, fn, d, a⟩) (.slice p1 d.length c1) (.slice none 0 0) := ⟨H1.out.data, SA.nil _ _ _⟩
              obtain ⟨v7, w7, h7, BB, B7⟩ := M4.add_ (show 16 ≠ 0 by decide) lw4.out b5 (trimF ⟨16, i, o, m, q, fn, d, a⟩, .slice p1 d.length c1, .slice none 0 0) rfl hD frL_oneL
              replace h7 : (Builtin.append_ #[29, 29] 29 #[.slice p4 nw c4, .slice (some ⟨w6.heap.size, 0, none⟩) 1 1]).run Try.prog (w6.alloc (.cells #[.int .u64 16, .int .u64 0, .int .u64 0, .int .u64 (m : Int), .int .u64 0, .bool false, .slice p1 d.length c1, .slice none 0 0] 26)) = .ok v7 w7 := h7
              have rg9 : w6.rangeAt G9 0 [.int .u64 16, .int .u64 0, .int .u64 0, .int .u64 (m : Int), .int .u64 0, .bool false, .slice p1 d.length c1, .slice none 0 0] := blk_range K9
              clear M4 H1 hD hf
              go_upto_region 33 with fail
              refine wp_region_seq ?_
              refine wpSeq_yield (S := fun _ => True) (yieldsIf_move rfl _ rfl (.slice p4 nw c4) rfl) trivial ?_
              simp only [AP]
              refine wpSeq_yield (S := fun w' => w' = w6) (show YieldsIf _ _ _ _ (.agg #[.int .u64 16, .int .u64 0, .int .u64 0, .int .u64 (m : Int), .int .u64 0, .bool false, .slice p1 d.length c1, .slice none 0 0]) _ from yieldsIf_load_mid (S := fun w' => w' = w6) rfl 26 _ rfl G9 0 rfl [.int .u64 16, .int .u64 0, .int .u64 0, .int .u64 (m : Int), .int .u64 0, .bool false, .slice p1 d.length c1, .slice none 0 0] _ (fun _ h => h ▸ rg9) Try.underlying26 rfl info_fr) rfl ?_
              simp only [AP]
              refine wpSeq_wp rfl ?_
              unfold Oper.wp execOp
              go_simp
              refine wpSeq_wp rfl (wp_append_run _ _ _ _ rfl _ _ rfl rfl v7 w7 h7 ?_)
              simp only [AP]
              refine wpSeq_yield (S := fun _ => True) (yieldsIf_assign rfl _ rfl (v7) rfl) trivial ?_
              simp only [AP]
              refine wpSeq_nil ?_
              refine aE _ _ ?_
              clear aE h7 rg9 K9 b5 ne
              go_wp2
              exact ⟨⟨j + 1, by omega, rfl, BB, B7⟩, by simp only [intOf]; omega⟩
            · clear kk
              replace K4 : Blk w5 G1 26 #[.int .u64 17, .int .u64 (i : Int), .int .u64 (o : Int), .int .u64 (m : Int), .int .u64 (q : Int), .bool fn, .slice p1 d.length c1, .slice p2 a.length c2] := K4
              replace K9 : Blk w5 G9 26 #[.int .u64 17, .int .u64 0, .int .u64 0, .int .u64 0, .int .u64 0, .bool false, .slice p1 d.length c1, .slice none 0 0] := K9
              have x0 : w5.cell? ⟨G1, 0, none⟩ = some (.int .u64 17) := K4.cell 0
              have K4d : Blk w5.drew G1 26 #[.int .u64 17, .int .u64 (i : Int), .int .u64 (o : Int), .int .u64 (m : Int), .int .u64 (q : Int), .bool fn, .slice p1 d.length c1, .slice p2 a.length c2] := K4
              have K9d : Blk w5.drew G9 26 #[.int .u64 17, .int .u64 0, .int .u64 0, .int .u64 0, .int .u64 0, .bool false, .slice p1 d.length c1, .slice none 0 0] := K9
              have b5d := below_drew b5
              go_upto_region 30 with fail
              clear x0
              rename_i aK
              refine wp_region_S (S := fun w' => Blk w' G1 26 #[.int .u64 17, .int .u64 (i : Int), .int .u64 (o : Int), .int .u64 (m : Int), .int .u64 (q : Int), .bool fn, .slice p1 d.length c1, .slice p2 a.length c2]) (by kernel_rfl) ?_
              refine wpAnyS_takeL 0 (v := .pointer (some ⟨G1, 1, none⟩)) rfl (by kernel_rfl) (by kernel_rfl) (by kernel_rfl) (fun _ _ _ H => H) (Or.inl ⟨by rfl, fun w' hw' => by go_simp⟩) K4d ?_
              simp only [AP]
              refine wpAnyS_takeL 1 (v := .int .u64 (i : Int)) rfl (by kernel_rfl) (by kernel_rfl) (by kernel_rfl) (fun _ _ _ H => H) (Or.inl ⟨by rfl, fun w' hw' => by (have cc : w'.cell? ⟨G1, 1, none⟩ = some (.int .u64 (i : Int)) := hw'.cell 1; go_simp)⟩) K4d ?_
              simp only [AP]
              refine wpAnyS_takeL 2 (v := .pointer (some ⟨G1, 3, none⟩)) rfl (by kernel_rfl) (by kernel_rfl) (by kernel_rfl) (fun _ _ _ H => H) (Or.inl ⟨by rfl, fun w' hw' => by go_simp⟩) K4d ?_
              simp only [AP]
              refine wpAnyS_takeL 3 (v := .int .u64 (m : Int)) rfl (by kernel_rfl) (by kernel_rfl) (by kernel_rfl) (fun _ _ _ H => H) (Or.inl ⟨by rfl, fun w' hw' => by (have cc : w'.cell? ⟨G1, 3, none⟩ = some (.int .u64 (m : Int)) := hw'.cell 3; go_simp)⟩) K4d ?_
              simp only [AP]
              refine wpAnyS_takeL 4 (v := .pointer (some ⟨G9, 1, none⟩)) rfl (by kernel_rfl) (by kernel_rfl) (by kernel_rfl) (fun _ _ _ H => H) (Or.inl ⟨by rfl, fun w' hw' => by go_simp⟩) K4d ?_
              simp only [AP]
              have yc : (w5.drew).cell? ⟨G9, 1, none⟩ = some (.int .u64 0) := K9d.cell 1
              have yf : (w5.drew).frozen? ⟨G9, 1, none⟩ = false := K9d.frozen 1
              refine gstep 5 rfl rfl (by kernel_rfl) ?_
              unfold Oper.wp execOp
              go_simp
              have K4e : Blk (World.drew (World.setCell w5 ⟨G9, 1, none⟩ (.int .u64 (i : Int)))) G1 26 #[.int .u64 17, .int .u64 (i : Int), .int .u64 (o : Int), .int .u64 (m : Int), .int .u64 (q : Int), .bool fn, .slice p1 d.length c1, .slice p2 a.length c2] := K4.far (p := ⟨G9, 1, none⟩) ne (.int .u64 (i : Int))
              have K9e : Blk (World.drew (World.setCell w5 ⟨G9, 1, none⟩ (.int .u64 (i : Int)))) G9 26 #[.int .u64 17, .int .u64 (i : Int), .int .u64 0, .int .u64 0, .int .u64 0, .bool false, .slice p1 d.length c1, .slice none 0 0] := K9.set 1 (.int .u64 (i : Int))
              have b5e : Below w4.heap.size w4 (World.drew (World.setCell w5 ⟨G9, 1, none⟩ (.int .u64 (i : Int)))) := below_drew (b5.setCell (p := ⟨G9, 1, none⟩) hG9' (.int .u64 (i : Int)))
              clear yc yf K4d K9d b5d K4 K9 b5
              refine ⟨K4e, ?_⟩
              generalize World.drew _ = w6 at *
              have K4d := K4e
              have K9d := K9e
              have b5d := b5e
              clear K4e K9e b5e
              refine wpAnyS_takeL 6 (v := .pointer (some ⟨G9, 3, none⟩)) rfl (by kernel_rfl) (by kernel_rfl) (by kernel_rfl) (fun _ _ _ H => H) (Or.inl ⟨by rfl, fun w' hw' => by go_simp⟩) K4d ?_
              simp only [AP]
              have yc : (w6).cell? ⟨G9, 3, none⟩ = some (.int .u64 0) := K9d.cell 3
              have yf : (w6).frozen? ⟨G9, 3, none⟩ = false := K9d.frozen 3
              refine gstep 7 rfl rfl (by kernel_rfl) ?_
              unfold Oper.wp execOp
              go_simp
              have K4e := K4d.far (p := ⟨G9, 3, none⟩) ne (.int .u64 (m : Int))
              have K9e : Blk _ G9 26 #[.int .u64 17, .int .u64 (i : Int), .int .u64 0, .int .u64 (m : Int), .int .u64 0, .bool false, .slice p1 d.length c1, .slice none 0 0] := K9d.set 3 (.int .u64 (m : Int))
              have b5e := b5d.setCell (p := ⟨G9, 3, none⟩) hG9' (.int .u64 (m : Int))
              clear yc yf K4d K9d b5d
              refine ⟨K4e, ?_⟩
              generalize World.setCell _ _ _ = w60 at *
              have K4d := K4e
              have K9d := K9e
              have b5d := b5e
              clear K4e K9e b5e
              refine wpAnyS_done (by kernel_rfl) ?_ _
              refine aK _ _ ?_
              clear aK
              have K9 := K9d
              have b5 := b5d
              clear K9d b5d K4d
              have hD : FD W (trimF ⟨17, i, o, m, q, fn, d, a⟩) (.slice p1 d.length c1) (.slice none 0 0) := ⟨H1.out.data, SA.nil _ _ _⟩
              obtain ⟨v7, w7, h7, BB, B7⟩ := M4.add_ (show 17 ≠ 0 by decide) lw4.out b5 (trimF ⟨17, i, o, m, q, fn, d, a⟩, .slice p1 d.length c1, .slice none 0 0) rfl hD frL_oneL
              replace h7 : (Builtin.append_ #[29, 29] 29 #[.slice p4 nw c4, .slice (some ⟨w60.heap.size, 0, none⟩) 1 1]).run Try.prog (w60.alloc (.cells #[.int .u64 17, .int .u64 (i : Int), .int .u64 0, .int .u64 (m : Int), .int .u64 0, .bool false, .slice p1 d.length c1, .slice none 0 0] 26)) = .ok v7 w7 := h7
              have rg9 : w60.rangeAt G9 0 [.int .u64 17, .int .u64 (i : Int), .int .u64 0, .int .u64 (m : Int), .int .u64 0, .bool false, .slice p1 d.length c1, .slice none 0 0] := blk_range K9
              clear M4 H1 hD hf
              go_upto_region 33 with fail
              refine wp_region_seq ?_
              refine wpSeq_yield (S := fun _ => True) (yieldsIf_move rfl _ rfl (.slice p4 nw c4) rfl) trivial ?_
              simp only [AP]
              refine wpSeq_yield (S := fun w' => w' = w60) (show YieldsIf _ _ _ _ (.agg #[.int .u64 17, .int .u64 (i : Int), .int .u64 0, .int .u64 (m : Int), .int .u64 0, .bool false, .slice p1 d.length c1, .slice none 0 0]) _ from yieldsIf_load_mid (S := fun w' => w' = w60) rfl 26 _ rfl G9 0 rfl [.int .u64 17, .int .u64 (i : Int), .int .u64 0, .int .u64 (m : Int), .int .u64 0, .bool false, .slice p1 d.length c1, .slice none 0 0] _ (fun _ h => h ▸ rg9) Try.underlying26 rfl info_fr) rfl ?_
              simp only [AP]
              refine wpSeq_wp rfl ?_
              unfold Oper.wp execOp
              go_simp
              refine wpSeq_wp rfl (wp_append_run _ _ _ _ rfl _ _ rfl rfl v7 w7 h7 ?_)
              simp only [AP]
              refine wpSeq_yield (S := fun _ => True) (yieldsIf_assign rfl _ rfl (v7) rfl) trivial ?_
              simp only [AP]
              refine wpSeq_nil ?_
              refine aE _ _ ?_
              clear aE h7 rg9 K9 b5 ne
              go_wp2
              exact ⟨⟨j + 1, by omega, rfl, BB, B7⟩, by simp only [intOf]; omega⟩
            · clear kk
              replace K4 : Blk w5 G1 26 #[.int .u64 18, .int .u64 (i : Int), .int .u64 (o : Int), .int .u64 (m : Int), .int .u64 (q : Int), .bool fn, .slice p1 d.length c1, .slice p2 a.length c2] := K4
              replace K9 : Blk w5 G9 26 #[.int .u64 18, .int .u64 0, .int .u64 0, .int .u64 0, .int .u64 0, .bool false, .slice p1 d.length c1, .slice none 0 0] := K9
              have x0 : w5.cell? ⟨G1, 0, none⟩ = some (.int .u64 18) := K4.cell 0
              have yc : w5.cell? ⟨G9, 3, none⟩ = some (.int .u64 0) := K9.cell 3
              have yf : w5.frozen? ⟨G9, 3, none⟩ = false := K9.frozen 3
              go_upto_region 28 with fail
              rename_i aK
              refine wp_region_seq ?_
              refine wpSeq_yield (S := fun _ => True) (v := .pointer (some ⟨G1, 3, none⟩)) (Or.inl ⟨by rfl, fun w' hw' => by go_simp⟩) trivial ?_
              simp only [AP]
              refine wpSeq_yield (S := fun w' => w' = w5) (v := .int .u64 (m : Int)) (Or.inl ⟨by rfl, fun w' hw' => by (rw [hw']; have cc : w5.cell? ⟨G1, 3, none⟩ = some (.int .u64 (m : Int)) := K4.cell 3; go_simp)⟩) rfl ?_
              simp only [AP]
              refine wpSeq_yield (S := fun _ => True) (v := .pointer (some ⟨G9, 3, none⟩)) (Or.inl ⟨by rfl, fun w' hw' => by go_simp⟩) trivial ?_
              simp only [AP]
              refine wpSeq_wp rfl ?_
              unfold Oper.wp execOp
              go_simp
              have K9e : Blk _ G9 26 #[.int .u64 18, .int .u64 0, .int .u64 0, .int .u64 (m : Int), .int .u64 0, .bool false, .slice p1 d.length c1, .slice none 0 0] := K9.set 3 (.int .u64 (m : Int))
              have b5e := b5.setCell (p := ⟨G9, 3, none⟩) hG9' (.int .u64 (m : Int))
              clear yc yf K9 b5 K4 x0
              generalize World.setCell _ _ _ = w6 at *
              have K9 := K9e
              have b5 := b5e
              clear K9e b5e
              refine wpSeq_nil ?_
              refine aK _ _ ?_
              clear aK
              have hD : FD W (trimF ⟨18, i, o, m, q, fn, d, a⟩) (.slice p1 d.length c1) (.slice none 0 0) := ⟨H1.out.data, SA.nil _ _ _⟩
              obtain ⟨v7, w7, h7, BB, B7⟩ := M4.add_ (show 18 ≠ 0 by decide) lw4.out b5 (trimF ⟨18, i, o, m, q, fn, d, a⟩, .slice p1 d.length c1, .slice none 0 0) rfl hD frL_oneL
              replace h7 : (Builtin.append_ #[29, 29] 29 #[.slice p4 nw c4, .slice (some ⟨w6.heap.size, 0, none⟩) 1 1]).run Try.prog (w6.alloc (.cells #[.int .u64 18, .int .u64 0, .int .u64 0, .int .u64 (m : Int), .int .u64 0, .bool false, .slice p1 d.length c1, .slice none 0 0] 26)) = .ok v7 w7 := h7
              have rg9 : w6.rangeAt G9 0 [.int .u64 18, .int .u64 0, .int .u64 0, .int .u64 (m : Int), .int .u64 0, .bool false, .slice p1 d.length c1, .slice none 0 0] := blk_range K9
              clear M4 H1 hD hf
              go_upto_region 33 with fail
              refine wp_region_seq ?_
              refine wpSeq_yield (S := fun _ => True) (yieldsIf_move rfl _ rfl (.slice p4 nw c4) rfl) trivial ?_
              simp only [AP]
              refine wpSeq_yield (S := fun w' => w' = w6) (show YieldsIf _ _ _ _ (.agg #[.int .u64 18, .int .u64 0, .int .u64 0, .int .u64 (m : Int), .int .u64 0, .bool false, .slice p1 d.length c1, .slice none 0 0]) _ from yieldsIf_load_mid (S := fun w' => w' = w6) rfl 26 _ rfl G9 0 rfl [.int .u64 18, .int .u64 0, .int .u64 0, .int .u64 (m : Int), .int .u64 0, .bool false, .slice p1 d.length c1, .slice none 0 0] _ (fun _ h => h ▸ rg9) Try.underlying26 rfl info_fr) rfl ?_
              simp only [AP]
              refine wpSeq_wp rfl ?_
              unfold Oper.wp execOp
              go_simp
              refine wpSeq_wp rfl (wp_append_run _ _ _ _ rfl _ _ rfl rfl v7 w7 h7 ?_)
              simp only [AP]
              refine wpSeq_yield (S := fun _ => True) (yieldsIf_assign rfl _ rfl (v7) rfl) trivial ?_
              simp only [AP]
              refine wpSeq_nil ?_
              refine aE _ _ ?_
              clear aE h7 rg9 K9 b5 ne
              go_wp2
              exact ⟨⟨j + 1, by omega, rfl, BB, B7⟩, by simp only [intOf]; omega⟩
            · clear kk
              replace K4 : Blk w5 G1 26 #[.int .u64 28, .int .u64 (i : Int), .int .u64 (o : Int), .int .u64 (m : Int), .int .u64 (q : Int), .bool fn, .slice p1 d.length c1, .slice p2 a.length c2] := K4
              replace K9 : Blk w5 G9 26 #[.int .u64 28, .int .u64 0, .int .u64 0, .int .u64 0, .int .u64 0, .bool false, .slice p1 d.length c1, .slice none 0 0] := K9
              have x0 : w5.cell? ⟨G1, 0, none⟩ = some (.int .u64 28) := K4.cell 0
              have yc : w5.cell? ⟨G9, 4, none⟩ = some (.int .u64 0) := K9.cell 4
              have yf : w5.frozen? ⟨G9, 4, none⟩ = false := K9.frozen 4
              go_upto_region 32 with fail
              rename_i aK
              refine wp_region_seq ?_
              refine wpSeq_yield (S := fun _ => True) (v := .pointer (some ⟨G1, 4, none⟩)) (Or.inl ⟨by rfl, fun w' hw' => by go_simp⟩) trivial ?_
              simp only [AP]
              refine wpSeq_yield (S := fun w' => w' = w5) (v := .int .u64 (q : Int)) (Or.inl ⟨by rfl, fun w' hw' => by (rw [hw']; have cc : w5.cell? ⟨G1, 4, none⟩ = some (.int .u64 (q : Int)) := K4.cell 4; go_simp)⟩) rfl ?_
              simp only [AP]
              refine wpSeq_yield (S := fun _ => True) (v := .pointer (some ⟨G9, 4, none⟩)) (Or.inl ⟨by rfl, fun w' hw' => by go_simp⟩) trivial ?_
              simp only [AP]
              refine wpSeq_wp rfl ?_
              unfold Oper.wp execOp
              go_simp
              have K9e : Blk _ G9 26 #[.int .u64 28, .int .u64 0, .int .u64 0, .int .u64 0, .int .u64 (q : Int), .bool false, .slice p1 d.length c1, .slice none 0 0] := K9.set 4 (.int .u64 (q : Int))
              have b5e := b5.setCell (p := ⟨G9, 4, none⟩) hG9' (.int .u64 (q : Int))
              clear yc yf K9 b5 K4 x0
              generalize World.setCell _ _ _ = w6 at *
              have K9 := K9e
              have b5 := b5e
              clear K9e b5e
              refine wpSeq_nil ?_
              refine aK _ _ ?_
              clear aK
              have hD : FD W (trimF ⟨28, i, o, m, q, fn, d, a⟩) (.slice p1 d.length c1) (.slice none 0 0) := ⟨H1.out.data, SA.nil _ _ _⟩
              obtain ⟨v7, w7, h7, BB, B7⟩ := M4.add_ (show 28 ≠ 0 by decide) lw4.out b5 (trimF ⟨28, i, o, m, q, fn, d, a⟩, .slice p1 d.length c1, .slice none 0 0) rfl hD frL_oneL
              replace h7 : (Builtin.append_ #[29, 29] 29 #[.slice p4 nw c4, .slice (some ⟨w6.heap.size, 0, none⟩) 1 1]).run Try.prog (w6.alloc (.cells #[.int .u64 28, .int .u64 0, .int .u64 0, .int .u64 0, .int .u64 (q : Int), .bool false, .slice p1 d.length c1, .slice none 0 0] 26)) = .ok v7 w7 := h7
              have rg9 : w6.rangeAt G9 0 [.int .u64 28, .int .u64 0, .int .u64 0, .int .u64 0, .int .u64 (q : Int), .bool false, .slice p1 d.length c1, .slice none 0 0] := blk_range K9
              clear M4 H1 hD hf
              go_upto_region 33 with fail
              refine wp_region_seq ?_
              refine wpSeq_yield (S := fun _ => True) (yieldsIf_move rfl _ rfl (.slice p4 nw c4) rfl) trivial ?_
              simp only [AP]
              refine wpSeq_yield (S := fun w' => w' = w6) (show YieldsIf _ _ _ _ (.agg #[.int .u64 28, .int .u64 0, .int .u64 0, .int .u64 0, .int .u64 (q : Int), .bool false, .slice p1 d.length c1, .slice none 0 0]) _ from yieldsIf_load_mid (S := fun w' => w' = w6) rfl 26 _ rfl G9 0 rfl [.int .u64 28, .int .u64 0, .int .u64 0, .int .u64 0, .int .u64 (q : Int), .bool false, .slice p1 d.length c1, .slice none 0 0] _ (fun _ h => h ▸ rg9) Try.underlying26 rfl info_fr) rfl ?_
              simp only [AP]
              refine wpSeq_wp rfl ?_
              unfold Oper.wp execOp
              go_simp
              refine wpSeq_wp rfl (wp_append_run _ _ _ _ rfl _ _ rfl rfl v7 w7 h7 ?_)
              simp only [AP]
              refine wpSeq_yield (S := fun _ => True) (yieldsIf_assign rfl _ rfl (v7) rfl) trivial ?_
              simp only [AP]
              refine wpSeq_nil ?_
              refine aE _ _ ?_
              clear aE h7 rg9 K9 b5 ne
              go_wp2
              exact ⟨⟨j + 1, by omega, rfl, BB, B7⟩, by simp only [intOf]; omega⟩
            · clear kk
              replace K4 : Blk w5 G1 26 #[.int .u64 30, .int .u64 (i : Int), .int .u64 (o : Int), .int .u64 (m : Int), .int .u64 (q : Int), .bool fn, .slice p1 d.length c1, .slice p2 a.length c2] := K4
              replace K9 : Blk w5 G9 26 #[.int .u64 30, .int .u64 0, .int .u64 0, .int .u64 0, .int .u64 0, .bool false, .slice p1 d.length c1, .slice none 0 0] := K9
              have x0 : w5.cell? ⟨G1, 0, none⟩ = some (.int .u64 30) := K4.cell 0
              have hD : FD W (trimF ⟨30, i, o, m, q, fn, d, a⟩) (.slice p1 d.length c1) (.slice none 0 0) := ⟨H1.out.data, SA.nil _ _ _⟩
              obtain ⟨v7, w7, h7, BB, B7⟩ := M4.add_ (show 30 ≠ 0 by decide) lw4.out b5 (trimF ⟨30, i, o, m, q, fn, d, a⟩, .slice p1 d.length c1, .slice none 0 0) rfl hD frL_oneL
              replace h7 : (Builtin.append_ #[29, 29] 29 #[.slice p4 nw c4, .slice (some ⟨w5.heap.size, 0, none⟩) 1 1]).run Try.prog (w5.alloc (.cells #[.int .u64 30, .int .u64 0, .int .u64 0, .int .u64 0, .int .u64 0, .bool false, .slice p1 d.length c1, .slice none 0 0] 26)) = .ok v7 w7 := h7
              have rg9 : w5.rangeAt G9 0 [.int .u64 30, .int .u64 0, .int .u64 0, .int .u64 0, .int .u64 0, .bool false, .slice p1 d.length c1, .slice none 0 0] := blk_range K9
              go_upto_region 33 with fail
              clear x0
              clear M4 H1 hD hf
              go_upto_region 33 with fail
              refine wp_region_seq ?_
              refine wpSeq_yield (S := fun _ => True) (yieldsIf_move rfl _ rfl (.slice p4 nw c4) rfl) trivial ?_
              simp only [AP]
              refine wpSeq_yield (S := fun w' => w' = w5) (show YieldsIf _ _ _ _ (.agg #[.int .u64 30, .int .u64 0, .int .u64 0, .int .u64 0, .int .u64 0, .bool false, .slice p1 d.length c1, .slice none 0 0]) _ from yieldsIf_load_mid (S := fun w' => w' = w5) rfl 26 _ rfl G9 0 rfl [.int .u64 30, .int .u64 0, .int .u64 0, .int .u64 0, .int .u64 0, .bool false, .slice p1 d.length c1, .slice none 0 0] _ (fun _ h => h ▸ rg9) Try.underlying26 rfl info_fr) rfl ?_
              simp only [AP]
              refine wpSeq_wp rfl ?_
              unfold Oper.wp execOp
              go_simp
              refine wpSeq_wp rfl (wp_append_run _ _ _ _ rfl _ _ rfl rfl v7 w7 h7 ?_)
              simp only [AP]
              refine wpSeq_yield (S := fun _ => True) (yieldsIf_assign rfl _ rfl (v7) rfl) trivial ?_
              simp only [AP]
              refine wpSeq_nil ?_
              refine aE _ _ ?_
              clear aE h7 rg9 K9 b5 ne
              go_wp2
              exact ⟨⟨j + 1, by omega, rfl, BB, B7⟩, by simp only [intOf]; omega⟩
        · have c0 : ¬ (code : Int) = 0 := by omega
          have SK' := Lib.hid (SK.out w3 bb3 (Or.inl hc))
          clear SK KA KN BK' H1 K s3 hnw hcode
          go_upto_region 11 with fail
          rename_i aK
          refine wp_region_seq ?_
          refine wpSeq_yield (S := fun _ => True) (yieldsIf_move rfl _ rfl (.int .i64 (code : Int)) rfl) trivial ?_
          simp only [AP]
          refine wpSeq_yield (S := fun _ => True) (v := .bool true) (Or.inl ⟨by rfl, fun w' hw' => by (go_simp; try omega)⟩) trivial ?_
          simp only [AP]
          refine wpSeq_yield (S := fun _ => True) (yieldsIf_move rfl _ rfl (.bool true) rfl) trivial ?_
          simp only [AP]
          refine wpSeq_yield (S := fun _ => True) (yieldsIf_off rfl) trivial ?_
          simp only [AP]
          refine wpSeq_yield (S := fun _ => True) (yieldsIf_off rfl) trivial ?_
          simp only [AP]
          refine wpSeq_yield (S := fun _ => True) (yieldsIf_off rfl) trivial ?_
          simp only [AP]
          refine wpSeq_yield (S := fun _ => True) (yieldsIf_pick rfl _ _ _ rfl true rfl (.bool true) rfl) trivial ?_
          simp only [AP]
          refine wpSeq_nil ?_
          refine aK _ _ ?_
          clear aK c0
          go_wp2
          exact ⟨⟨j + 1, by omega, rfl, SK'.out, B3⟩, by simp only [intOf]; omega⟩
end Go.Proofs.Ytdlhclakdllogaa
