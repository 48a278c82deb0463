/- The law GuardBack (printed by gen13/jb.py). -/
import Derived.Test.YtpihgljdbpnehaaDoorNf0Ja
namespace Go.Proofs.YtpihgljdbpnehaaDoor
open Go.RowKit
/-- A packet is no longer than so. -/
theorem sealG_small {K N Mk : List Nat} (lK : Bytes K) (lN : Bytes N) (lM : Bytes Mk) (sp : Int) {to fr : List Nat} (bt : Bytes to) (bf : Bytes fr) (pn acked : Nat) {b : List Nat} (bb : Bytes b) (lb : b.length ≤ 200) : (sealG K N Mk sp to fr pn acked b).2.length ≤ 300 ∧ Bytes (sealG K N Mk sp to fr pn acked b).2 := by
  unfold sealG
  split
  · exact ⟨Nat.zero_le _, Bytes.nil⟩
  · split
    · exact ⟨Nat.zero_le _, Bytes.nil⟩
    · rename_i h
      have n4 := shortN_is pn acked
      generalize shortN pn acked = n at *
      have o := putF_ok sp to fr pn n ((padN n b).length + 16) bt bf (Decidable.not_not.1 h)
      generalize (putF sp to fr pn (n : Int) (((padN n b).length + 16 : Nat) : Int)).2 = hd at *
      have lp := padN_length n b
      dsimp only
      refine ⟨?_, hidN_bytes (encL_bytes lM ?_) ?_ _ _ _⟩
      · rw [hidN_length, List.length_append, sealL_length]
        omega
      · intro x hx
        have hx2 := List.mem_of_mem_drop (List.mem_of_mem_take hx)
        exact (o.2.2.1.append (sealL_bytes lK (nonceN_bytes lN pn) (padN_bytes n bb) (by omega))) x hx2
      · exact o.2.2.1.append (sealL_bytes lK (nonceN_bytes lN pn) (padN_bytes n bb) (by omega))
set_option maxHeartbeats 16000000 in
set_option maxRecDepth 100000 in
theorem gback_c (OC : OfC) (FC : FirstC) (SC : GSealC) (PC : GOpenC) (s to fr bb : List Nat) (sp : Int) (pn ac : Nat) (r : Bool) (vt vf vb : Value) (W : World) (ls : s.length = 32) (bs : Bytes s) (ws : i64_ok sp) (bt : Bytes to) (bf : Bytes fr) (b3 : Bytes bb) (hp : pn < 18446744073709551616) (ha : ac < 18446744073709551616) (h1 : SB W vt to) (h2 : SB W vf fr) (h3 : SB W vb bb) (nr : Nat) (mo : List Nat) (vm : Value) (hnr : nr < 65536) (b4 : Bytes mo) (h4 : SB W vm mo) (T : Tab W cuT) (Q : Sq W sqT) :
    Calls Tryd.prog 5 #[.agg (csA s (csT sp vt vf pn ac r vb)), .int .u16 (nr : Int), vm] W fun e w' => e = .returned (.bool true) ∧ Below W.heap.size W w' := by
  obtain ⟨p4, c4, rfl⟩ := h4.shape
  obtain ⟨m4, hm4⟩ : ∃ k, mo.length = k := ⟨_, rfl⟩
  rw [hm4] at h4 ⊢
  have HL4 := Lib.hid hm4
  have H4 := Lib.hid h4
  have B4 := Lib.hid b4
  clear hm4 h4 b4
  have AW := Lib.hid (fun w (h : Below W.heap.size W w) => gawake_c OC FC w (T.below h) (Q.below h))
  have OCC := Lib.hid (fun w (h : Below W.heap.size W w) => OC s ls bs w (T.below h) (Q.below h))
  have LCC := Lib.hid (fun w (h : Below W.heap.size W w) => clong_c s to fr bb sp pn ac r vt vf vb w ls (h1.below h) (h2.below h) (h3.below h))
  have HCC := Lib.hid (fun w (h : Below W.heap.size W w) (hm : to.length ≤ 50) (hn : fr.length ≤ 50) => chead_c s to fr sp pn ac true vt vf vb w ls hm hn hp ha (h1.below h) (h2.below h))
  obtain ⟨p3, c3, rfl⟩ := h3.shape
  obtain ⟨k3, hk3⟩ : ∃ k, bb.length = k := ⟨_, rfl⟩
  rw [hk3] at h3 LCC HCC ⊢
  have HL3 := Lib.hid hk3
  have L32 := Lib.hid ls
  have cz := fun (t : Array Value) (h : t.size = 7) => info_csz ls t h
  have BT := Lib.hid (And.intro bt bf)
  have WS := Lib.hid (And.intro ws (And.intro hp ha))
  have H3 := Lib.hid h3
  have B3 := Lib.hid b3
  clear T Q ls bs bt bf hk3 ws hp ha h1 h2 h3 b3 OC FC
  obtain ⟨CS, hCS⟩ : ∃ CS, csA s (csT sp vt vf pn ac r (.slice p3 k3 c3)) = CS := ⟨_, rfl⟩
  rw [hCS] at LCC ⊢
  have HCS := Lib.hid hCS
  have csz : (Tryd.prog.info? 40).map (·.size) = some CS.size := by rw [← hCS]; exact cz _ rfl
  clear hCS
  go_enter Tryd.func5, Tryd.ntmps5
  go_upto_region 0 with fail
  rename_i aK
  refine wp_region_seq ?_
  refine wpSeq_wp rfl ?_
  unfold Oper.wp execOp
  go_simp
  refine wpSeq_yield (S := fun _ => True) (yieldsIf_assign rfl _ rfl (.bool false) rfl) trivial ?_
  simp only [AP]
  refine wpSeq_nil ?_
  refine aK _ _ ?_
  clear aK
  have K := Blk.new W 40 CS
  have b := (Below.refl W.heap.size W).alloc (Nat.le_refl _) (.cells CS 40)
  generalize World.alloc W _ = w1 at *
  go_upto_region 1 with fail
  rename_i aK
  refine wp_region_seq ?_
  refine wpSeq_wp rfl ?_
  unfold Oper.wp execOp
  go_simp
  refine (AW.out w1 b).mono ?_
  rintro _ w2 ⟨rfl, b2⟩
  replace K := K.below' b2
  replace b := b.trans (b2.mono b.size)
  clear b2 AW
  go_simp
  refine wpSeq_yield (S := fun _ => True) (v := .bool false) (Or.inl ⟨by rfl, fun w' hw' => by go_simp⟩) trivial ?_
  simp only [AP]
  refine wpSeq_nil ?_
  refine (by assumption : ∀ (a : Act) (w : World), _ → _) _ _ ?_
  by_cases q1 : 50 < to.length ∨ 50 < fr.length ∨ 120 < k3
  · rw [decide_eq_true q1] at LCC
    go_upto_region 3 with fail
    rename_i aK
    refine wp_region_seq ?_
    refine wpSeq_yield (S := fun w' => w' = w2) (show YieldsIf _ _ _ _ (.agg CS) _ from yieldsIf_row_wanted (S := fun w' => w' = w2) rfl 40 _ rfl W.heap.size rfl 40 _ _ (fun _ h => h ▸ K) Tryd.underlying40 rfl csz) rfl ?_
    simp only [AP]
    refine wpSeq_wp rfl ?_
    unfold Oper.wp execOp
    go_simp
    refine (LCC.out w2 b).mono ?_
    rintro _ w3 ⟨rfl, bz⟩
    replace K := K.below' bz
    replace b := b.trans (bz.mono b.size)
    clear bz LCC
    go_simp
    refine wpSeq_yield (S := fun _ => True) (yieldsIf_move rfl _ rfl (.bool true) rfl) trivial ?_
    simp only [AP]
    refine wpSeq_yield (S := fun _ => True) (yieldsIf_off rfl) trivial ?_
    simp only [AP]
    refine wpSeq_yield (S := fun _ => True) (yieldsIf_off rfl) trivial ?_
    simp only [AP]
    refine wpSeq_yield (S := fun _ => True) (yieldsIf_off rfl) trivial ?_
    simp only [AP]
    refine wpSeq_yield (S := fun _ => True) (yieldsIf_pick rfl _ _ _ rfl true rfl (.bool true) rfl) trivial ?_
    simp only [AP]
    refine wpSeq_nil ?_
    refine (by assumption : ∀ (a : Act) (w : World), _ → _) _ _ ?_
    go_upto_region 4 with fail
    rename_i aK
    refine wp_region_seq ?_
    refine wpSeq_yield (S := fun _ => True) (yieldsIf_assign rfl _ rfl (.bool true) rfl) trivial ?_
    simp only [AP]
    refine wpSeq_nil ?_
    refine (by assumption : ∀ (a : Act) (w : World), _ → _) _ _ ?_
    go_wp2
    go_ret
    exact ⟨rfl, b⟩
  rw [decide_eq_false q1] at LCC
  by_cases q2 : 100 < m4
  · skip
    go_upto_region 3 with fail
    rename_i aK
    refine wp_region_seq ?_
    refine wpSeq_yield (S := fun w' => w' = w2) (show YieldsIf _ _ _ _ (.agg CS) _ from yieldsIf_row_wanted (S := fun w' => w' = w2) rfl 40 _ rfl W.heap.size rfl 40 _ _ (fun _ h => h ▸ K) Tryd.underlying40 rfl csz) rfl ?_
    simp only [AP]
    refine wpSeq_wp rfl ?_
    unfold Oper.wp execOp
    go_simp
    refine (LCC.out w2 b).mono ?_
    rintro _ w3 ⟨rfl, bz⟩
    replace K := K.below' bz
    replace b := b.trans (bz.mono b.size)
    clear bz LCC
    go_simp
    refine wpSeq_yield (S := fun _ => True) (yieldsIf_move rfl _ rfl (.bool false) rfl) trivial ?_
    simp only [AP]
    refine wpSeq_yield (S := fun _ => True) (yieldsIf_move rfl _ rfl (.slice p4 m4 c4) rfl) trivial ?_
    simp only [AP]
    refine wpSeq_yield (S := fun _ => True) (v := .int .i64 (m4 : Int)) (Or.inl ⟨by rfl, fun w' hw' => by go_simp⟩) trivial ?_
    simp only [AP]
    refine wpSeq_yield (S := fun _ => True) (v := .bool true) (Or.inl ⟨by rfl, fun w' hw' => by (go_simp; try omega)⟩) trivial ?_
    simp only [AP]
    refine wpSeq_yield (S := fun _ => True) (yieldsIf_pick rfl _ _ _ rfl false rfl (.bool true) rfl) trivial ?_
    simp only [AP]
    refine wpSeq_nil ?_
    refine (by assumption : ∀ (a : Act) (w : World), _ → _) _ _ ?_
    go_upto_region 4 with fail
    rename_i aK
    refine wp_region_seq ?_
    refine wpSeq_yield (S := fun _ => True) (yieldsIf_assign rfl _ rfl (.bool true) rfl) trivial ?_
    simp only [AP]
    refine wpSeq_nil ?_
    refine (by assumption : ∀ (a : Act) (w : World), _ → _) _ _ ?_
    go_wp2
    go_ret
    exact ⟨rfl, b⟩
  go_upto_region 3 with fail
  rename_i aK
  refine wp_region_seq ?_
  refine wpSeq_yield (S := fun w' => w' = w2) (show YieldsIf _ _ _ _ (.agg CS) _ from yieldsIf_row_wanted (S := fun w' => w' = w2) rfl 40 _ rfl W.heap.size rfl 40 _ _ (fun _ h => h ▸ K) Tryd.underlying40 rfl csz) rfl ?_
  simp only [AP]
  refine wpSeq_wp rfl ?_
  unfold Oper.wp execOp
  go_simp
  refine (LCC.out w2 b).mono ?_
  rintro _ w3 ⟨rfl, bz⟩
  replace K := K.below' bz
  replace b := b.trans (bz.mono b.size)
  clear bz LCC
  go_simp
  refine wpSeq_yield (S := fun _ => True) (yieldsIf_move rfl _ rfl (.bool false) rfl) trivial ?_
  simp only [AP]
  refine wpSeq_yield (S := fun _ => True) (yieldsIf_move rfl _ rfl (.slice p4 m4 c4) rfl) trivial ?_
  simp only [AP]
  refine wpSeq_yield (S := fun _ => True) (v := .int .i64 (m4 : Int)) (Or.inl ⟨by rfl, fun w' hw' => by go_simp⟩) trivial ?_
  simp only [AP]
  refine wpSeq_yield (S := fun _ => True) (v := .bool false) (Or.inl ⟨by rfl, fun w' hw' => by (go_simp; try omega)⟩) trivial ?_
  simp only [AP]
  refine wpSeq_yield (S := fun _ => True) (yieldsIf_pick rfl _ _ _ rfl false rfl (.bool false) rfl) trivial ?_
  simp only [AP]
  refine wpSeq_nil ?_
  refine (by assumption : ∀ (a : Act) (w : World), _ → _) _ _ ?_
  have HQ := Lib.hid (show to.length ≤ 50 ∧ fr.length ≤ 50 ∧ k3 ≤ 120 ∧ m4 ≤ 100 by omega)
  clear q1 q2
  obtain ⟨q, to8, fr8, p, a, hC, q2, lt8, lf8, bt8, bf8, p62, ap, ad⟩ := caseH_right sp to fr pn ac BT.out.1 BT.out.2
  replace HCC := Lib.hid (fun w (h : Below W.heap.size W w) => show Calls Tryd.prog 15 #[.agg (csA s (csT sp vt vf pn ac true (.slice p3 k3 c3)))] w fun e w' => ∃ vt vf, e = .returned (.tuple #[.agg #[.int .i64 (q : Int), vt, vf], .int .u64 (p : Int), .int .u64 (a : Int)]) ∧ SB w' vt to8 ∧ SB w' vf fr8 ∧ Below w.heap.size w w' by
    have := HCC.out w h HQ.out.1 HQ.out.2.1
    rw [hC] at this
    exact this)
  clear hC
  obtain ⟨Kk, hKk⟩ : ∃ k, keyG s = k := ⟨_, rfl⟩
  obtain ⟨Nn, hNn⟩ : ∃ k, nonG s = k := ⟨_, rfl⟩
  obtain ⟨Mm, hMm⟩ : ∃ k, masG s = k := ⟨_, rfl⟩
  have LN := Lib.hid (show (Kk.length = 16 ∧ Nn.length = 12 ∧ Mm.length = 16) ∧ Bytes Kk ∧ Bytes Nn ∧ Bytes Mm by
    rw [← hKk, ← hNn, ← hMm]
    exact ⟨⟨keyG_length s, nonG_length s, masG_length s⟩, keyG_bytes s, nonG_bytes s, masG_bytes s⟩)
  have hks : keysG s = Kk ++ (Nn ++ Mm) := by rw [← hKk, ← hNn, ← hMm]; rfl
  have KZ0 := keysG_size s
  have KO0 := u8s_one (keysG s)
  rw [hks] at OCC KZ0 KO0
  clear hks hKk hNn hMm
  obtain ⟨KC, hKC⟩ : ∃ KC, Iv .u8 (NI (Kk ++ (Nn ++ Mm))) = KC := ⟨_, rfl⟩
  rw [hKC] at OCC KZ0 KO0
  have HK := Lib.hid hKC
  have KZ := Lib.hid KZ0
  have KO := Lib.hid KO0
  clear hKC KZ0 KO0
  have SGM := sealG_small LN.out.2.1 LN.out.2.2.1 LN.out.2.2.2 (q : Int) bt8 bf8 p a B3.out (by rw [HL3.out]; have := HQ.out; omega)
  have OPN := fun nx more h1 h2 => open_sealG Kk Nn Mm q q2 to8 fr8 lt8 lf8 p a nx bb more p62 h1 h2 ad (by rw [HL3.out]; have := HQ.out; omega)
  have SCC := Lib.hid (fun vt vf w h1 h2 h3 => SC Kk Nn Mm (q : Int) to8 fr8 p a bb vt vf (.slice p3 k3 c3) LN.out.1.1 LN.out.1.2.1 LN.out.1.2.2 LN.out.2.1 LN.out.2.2.1 LN.out.2.2.2 (by unfold i64_ok; omega) bt8 bf8 (by omega) (by omega) (by omega) (by omega) B3.out (by rw [HL3.out]; have := HQ.out; omega) w h1 h2 h3)
  rw [HK.out] at SCC
  have s0 : (sealG Kk Nn Mm (q : Int) to8 fr8 p a bb).1 = 0 := (OPN p [] ap (Nat.le_refl _)).1
  obtain ⟨G, hG⟩ : ∃ G, sealG Kk Nn Mm (q : Int) to8 fr8 p a bb = G := ⟨_, rfl⟩
  rw [hG] at SGM OPN SCC s0
  obtain ⟨code, X⟩ := G
  dsimp only at SGM OPN SCC s0
  subst s0
  obtain ⟨pl, hpl⟩ : ∃ pl, (if q = 0 then 26 else if q = 1 then 25 else 9) = pl := ⟨_, rfl⟩
  rw [hpl] at OPN
  have PLC := Lib.hid (fun w => place_c q q2 w)
  rw [hpl] at PLC
  have pl30 : pl ≤ 30 := by rw [← hpl]; split; decide; split <;> decide
  have n4 := shortN_is p a
  obtain ⟨n, hn⟩ : ∃ n, shortN p a = n := ⟨_, rfl⟩
  rw [hn] at OPN n4
  obtain ⟨d, hd⟩ : ∃ d, p - a = d := ⟨_, rfl⟩
  obtain ⟨d1, hd1⟩ : ∃ d1, d + 1 = d1 := ⟨_, rfl⟩
  obtain ⟨rm, hrm⟩ : ∃ rm, nr % d1 = rm := ⟨_, rfl⟩
  obtain ⟨nx, hnx⟩ : ∃ nx, a + rm = nx := ⟨_, rfl⟩
  have rl : rm < d1 := by rw [← hrm]; exact Nat.mod_lt _ (by omega)
  have f0 : IntKind.u64.wrap (nr : Int) = (nr : Int) := by rw [IntKind.wrap_u64]; omega
  have f57 : IntKind.u64.wrap ((p : Int) - (a : Int)) = (d : Int) := by rw [IntKind.wrap_u64]; omega
  have f58 : IntKind.u64.wrap ((d : Int) + 1) = (d1 : Int) := by rw [IntKind.wrap_u64]; omega
  have f59 : (nr : Int).tmod (d1 : Int) = (rm : Int) := by rw [← hrm]; rfl
  have f60 : IntKind.u64.wrap ((a : Int) + (rm : Int)) = (nx : Int) := by rw [IntKind.wrap_u64]; omega
  have f61 : IntKind.u64.wrap (rm : Int) = (rm : Int) := by rw [IntKind.wrap_u64]; omega
  have dz : ¬ (d1 : Int) = 0 := by omega
  have dz2 : ¬ d1 = 0 := by omega
  have nx62 : nx < 4611686018427387904 := by omega
  have OPX := Lib.hid (OPN nx mo (by omega) (by omega)).2
  have FX := Lib.hid (And.intro f0 (And.intro f57 (And.intro f58 (And.intro f59 (And.intro f60 (And.intro f61 (And.intro dz dz2)))))))
  obtain ⟨lx, hlx⟩ : ∃ k, X.length = k := ⟨_, rfl⟩
  have XM := Lib.hid (show (X ++ mo).length ≤ 1000 ∧ Bytes (X ++ mo) ∧ lx ≤ 300 ∧ Bytes X by
    rw [List.length_append, HL4.out]
    have := HQ.out
    have := SGM.1
    exact ⟨by omega, SGM.2.append B4.out, by omega, SGM.2⟩)
  have PCC := Lib.hid (fun vx w h => PC Kk Nn Mm (X ++ mo) (pl : Int) (lx : Int) nx vx LN.out.1.1 LN.out.1.2.1 LN.out.1.2.2 LN.out.2.1 LN.out.2.2.1 LN.out.2.2.2 XM.out.2.1 XM.out.1 (by unfold i64_ok; omega) (by unfold i64_ok; have := XM.out; omega) nx62 w h)
  rw [hlx] at OPX
  rw [HK.out, OPX.out] at PCC
  dsimp only at PCC
  have HX := Lib.hid hlx
  obtain ⟨z, hz⟩ : ∃ z, (padN n bb).length = z := ⟨_, rfl⟩
  have lz := padN_length n bb
  rw [hz, HL3.out] at lz
  have HZ := Lib.hid hz
  obtain ⟨dd, hdd⟩ : ∃ dd, 4 - (n + k3) = dd := ⟨_, rfl⟩
  have PD := Lib.hid (show padN n bb = bb ++ List.replicate dd 0 by unfold padN; rw [HL3.out, hdd])
  have ZD := Lib.hid (show z = k3 + dd ∧ dd ≤ 3 ∧ k3 ≤ 120 by have := HQ.out; omega)
  clear SGM OPN OPX hG hpl pl30 n4 hn hd hd1 hrm hnx rl f0 f57 f58 f59 f60 f61 dz dz2 nx62 hlx hz lz hdd q2 bt8 bf8 p62 ap ad hnr SC PC
  obtain ⟨m1, hm1⟩ : ∃ k, to8.length = k := ⟨_, rfl⟩
  obtain ⟨m2, hm2⟩ : ∃ k, fr8.length = k := ⟨_, rfl⟩
  have KC37 := (cs_cells (show Blk w3 W.heap.size 40 (csA s #[.int .i64 sp, vt, vf, .int .u64 (pn : Int), .int .u64 (ac : Int), .bool r, .slice p3 k3 c3]) by rw [show csA s #[.int .i64 sp, vt, vf, .int .u64 (pn : Int), .int .u64 (ac : Int), .bool r, .slice p3 k3 c3] = CS from HCS.out]; exact K) L32.out).2.2.2.2.2.1
  have KF37 := K.frozen 37
  go_upto_region 5 with fail
  rename_i aK
  refine wp_region_seq ?_
  refine wpSeq_yield (S := fun _ => True) (v := .pointer (some ⟨W.heap.size, 37, none⟩)) (Or.inl ⟨by rfl, fun w' hw' => by (go_simp)⟩) trivial ?_
  simp only [AP]
  refine wpSeq_wp rfl ?_
  unfold Oper.wp execOp
  go_simp
  refine wpSeq_nil ?_
  refine (by assumption : ∀ (a : Act) (w : World), _ → _) _ _ ?_
  have K5 := K.set 37 (.bool true)
  rw [← HCS.out, show (csA s (csT sp vt vf pn ac r (.slice p3 k3 c3))).setIfInBounds 37 (.bool true) = _ from csA_set L32.out _ 5 _] at K5
  replace b := b.setCell (p := ⟨W.heap.size, 37, none⟩) (Nat.le_refl _) (.bool true)
  clear K KC37 KF37
  generalize World.setCell w3 _ _ = w4 at *
  obtain ⟨CS2, hCS2⟩ : ∃ CS, csA s (csT sp vt vf pn ac true (.slice p3 k3 c3)) = CS := ⟨_, rfl⟩
  replace K5 : Blk w4 W.heap.size 40 CS2 := by rw [← hCS2]; exact K5
  have K := K5
  rw [hCS2] at HCC
  have csz2 : (Tryd.prog.info? 40).map (·.size) = some CS2.size := by rw [← hCS2]; exact cz _ rfl
  have HCS2 := Lib.hid hCS2
  clear hCS2 K5 csz cz
  go_upto_region 6 with fail
  rename_i aK
  refine wp_region_seq ?_
  refine wpSeq_yield (S := fun w' => w' = w4) (show YieldsIf _ _ _ _ (.agg CS2) _ from yieldsIf_row_wanted (S := fun w' => w' = w4) rfl 40 _ rfl W.heap.size rfl 40 _ _ (fun _ h => h ▸ K) Tryd.underlying40 rfl csz2) rfl ?_
  simp only [AP]
  refine wpSeq_wp rfl ?_
  unfold Oper.wp execOp
  go_simp
  refine (HCC.out w4 b).mono ?_
  rintro _ w5 ⟨vt2, vf2, rfl, S1, S2, b5⟩
  replace K := K.below' b5
  replace b := b.trans (b5.mono b.size)
  obtain ⟨pt, ct, rfl⟩ := S1.shape
  obtain ⟨pf, cf, rfl⟩ := S2.shape
  rw [hm1] at S1 ⊢
  rw [hm2] at S2 ⊢
  clear b5 HCC
  go_simp
  refine wpSeq_yield (S := fun _ => True) (yieldsIf_move rfl _ rfl (.tuple #[.agg #[.int .i64 (q : Int), .slice pt m1 ct, .slice pf m2 cf], .int .u64 (p : Int), .int .u64 (a : Int)]) rfl) trivial ?_
  simp only [AP]
  refine wpSeq_yield (S := fun _ => True) (v := .agg #[.int .i64 (q : Int), .slice pt m1 ct, .slice pf m2 cf]) (Or.inl ⟨by rfl, fun w' hw' => by go_simp⟩) trivial ?_
  simp only [AP]
  refine wpSeq_yield (S := fun _ => True) (v := .int .u64 (p : Int)) (Or.inl ⟨by rfl, fun w' hw' => by go_simp⟩) trivial ?_
  simp only [AP]
  refine wpSeq_yield (S := fun _ => True) (v := .int .u64 (a : Int)) (Or.inl ⟨by rfl, fun w' hw' => by go_simp⟩) trivial ?_
  simp only [AP]
  refine wpSeq_wp rfl ?_
  unfold Oper.wp execOp
  go_simp
  refine wpSeq_store_row rfl 42 _ _ rfl w5.heap.size _ rfl rfl _ _ (Blk.new w5 _ _) (by exact info_hd) rfl (cell_one _ _ _ _ _ _ _) ?_
  simp only [Act.put]
  refine wpSeq_yield (S := fun _ => True) (yieldsIf_assign rfl _ rfl (.int .u64 (p : Int)) rfl) trivial ?_
  simp only [AP]
  refine wpSeq_yield (S := fun _ => True) (yieldsIf_assign rfl _ rfl (.int .u64 (a : Int)) rfl) trivial ?_
  simp only [AP]
  refine wpSeq_nil ?_
  refine (by assumption : ∀ (a : Act) (w : World), _ → _) _ _ ?_
  generalize hw6 : World.setRow _ w5.heap.size _ = w6
  have F6 : Blk w6 w5.heap.size 42 #[.int .i64 (q : Int), .slice pt m1 ct, .slice pf m2 cf] ∧ Below w5.heap.size w5 w6 := by
    rw [← hw6]
    exact one_row _ _ _ _
  clear hw6
  obtain ⟨KH, b6⟩ := F6
  have NG := Lib.hid (And.intro K.lt (Nat.le_refl w5.heap.size))
  replace K := K.below' b6
  replace b := b.trans (b6.mono b.size)
  replace S1 := S1.below b6
  replace S2 := S2.below b6
  clear b6
  obtain ⟨gh, hgh⟩ : ∃ g, w5.heap.size = g := ⟨_, rfl⟩
  rw [hgh] at KH ⊢
  clear hgh NG
  go_upto_region 7 with fail
  rename_i aK
  refine wp_region_seq ?_
  refine wpSeq_yield (S := fun _ => True) (v := .pointer (some ⟨W.heap.size, 0, none⟩)) (Or.inl ⟨by rfl, fun w' hw' => by (go_simp)⟩) trivial ?_
  simp only [AP]
  refine wpSeq_yield (S := fun w' => w' = w6) (show YieldsIf _ _ _ _ (.agg (Iv .u8 (NI s))) _ from yieldsIf_load_mid (S := fun w' => w' = w6) rfl 23 _ rfl W.heap.size 0 rfl ((NI s).map (Value.int .u8)) _ (fun _ h => h ▸ cs_key L32.out _ (show Blk w6 W.heap.size 40 (csA s (csT sp vt vf pn ac true (.slice p3 k3 c3))) by rw [HCS2.out]; exact K)) Tryd.underlying23 rfl (by rw [info_key32]; simp [NI, L32.out])) rfl ?_
  simp only [AP]
  refine wpSeq_wp rfl ?_
  unfold Oper.wp execOp
  go_simp
  refine (OCC.out w6 b).mono ?_
  rintro _ w7 ⟨rfl, b7⟩
  replace K := K.below' b7
  replace KH := KH.below' b7
  replace b := b.trans (b7.mono b.size)
  replace S1 := S1.below b7
  replace S2 := S2.below b7
  clear b7 OCC
  go_simp
  refine wpSeq_wp rfl ?_
  unfold Oper.wp execOp
  go_simp
  refine wpSeq_store_row rfl 30 _ _ rfl w7.heap.size KC rfl rfl _ _ (Blk.new w7 _ _) (info_keys KC KZ.out) (by rw [KZ.out]; rfl) KO.out ?_
  simp only [Act.put]
  refine wpSeq_nil ?_
  refine (by assumption : ∀ (a : Act) (w : World), _ → _) _ _ ?_
  generalize hw8 : World.setRow _ w7.heap.size _ = w8
  have F8 : Blk w8 w7.heap.size 30 KC ∧ Below w7.heap.size w7 w8 := by
    rw [← hw8]
    exact one_row _ _ _ _
  clear hw8
  obtain ⟨KK, b8⟩ := F8
  replace K := K.below' b8
  replace KH := KH.below' b8
  replace b := b.trans (b8.mono b.size)
  replace S1 := S1.below b8
  replace S2 := S2.below b8
  clear b8
  obtain ⟨gk, hgk⟩ : ∃ g, w7.heap.size = g := ⟨_, rfl⟩
  rw [hgk] at KK ⊢
  clear hgk
  have C38 := (cs_cells (show Blk w8 W.heap.size 40 (csA s #[.int .i64 sp, vt, vf, .int .u64 (pn : Int), .int .u64 (ac : Int), .bool true, .slice p3 k3 c3]) by rw [show csA s #[.int .i64 sp, vt, vf, .int .u64 (pn : Int), .int .u64 (ac : Int), .bool true, .slice p3 k3 c3] = CS2 from HCS2.out]; exact K) L32.out).2.2.2.2.2.2
  go_upto_region 8 with fail
  rename_i aK
  refine wp_region_seq ?_
  refine wpSeq_yield (S := fun w' => w' = w8) (show YieldsIf _ _ _ _ (.agg KC) _ from yieldsIf_row_wanted (S := fun w' => w' = w8) rfl 30 _ rfl gk rfl 30 _ _ (fun _ h => h ▸ KK) Tryd.underlying30 rfl (info_keys KC KZ.out)) rfl ?_
  simp only [AP]
  refine wpSeq_yield (S := fun w' => w' = w8) (load_hdS (S := fun w' => w' = w8) rfl _ rfl gh rfl (q : Int) _ _ (fun _ h => h ▸ KH)) rfl ?_
  simp only [AP]
  refine wpSeq_yield (S := fun _ => True) (yieldsIf_move rfl _ rfl (.int .u64 (p : Int)) rfl) trivial ?_
  simp only [AP]
  refine wpSeq_yield (S := fun _ => True) (yieldsIf_move rfl _ rfl (.int .u64 (a : Int)) rfl) trivial ?_
  simp only [AP]
  refine wpSeq_yield (S := fun _ => True) (v := .pointer (some ⟨W.heap.size, 38, none⟩)) (Or.inl ⟨by rfl, fun w' hw' => by (go_simp)⟩) trivial ?_
  simp only [AP]
  refine wpSeq_yield (S := fun w' => w' = w8) (v := .slice p3 k3 c3) (Or.inl ⟨by rfl, fun w' hw' => by (rw [hw']; go_simp)⟩) rfl ?_
  simp only [AP]
  refine wpSeq_wp rfl ?_
  unfold Oper.wp execOp
  go_simp
  refine (SCC.out _ _ w8 S1 S2 (H3.out.below b)).mono ?_
  rintro _ w9 ⟨v9, rfl, O9, b9⟩
  replace K := K.below' b9
  replace KH := KH.below' b9
  replace KK := KK.below' b9
  replace O9 := O9.mono b.size
  replace b := b.trans (b9.mono b.size)
  obtain ⟨p9, c9, hv9⟩ := O9.shape
  subst hv9
  clear b9 SCC C38 S1 S2
  go_simp
  refine wpSeq_yield (S := fun _ => True) (yieldsIf_move rfl _ rfl (.tuple #[.slice p9 X.length c9, .int .i64 ((0 : Nat) : Int)]) rfl) trivial ?_
  simp only [AP]
  refine wpSeq_yield (S := fun _ => True) (v := .slice p9 X.length c9) (Or.inl ⟨by rfl, fun w' hw' => by go_simp⟩) trivial ?_
  simp only [AP]
  refine wpSeq_yield (S := fun _ => True) (v := .int .i64 ((0 : Nat) : Int)) (Or.inl ⟨by rfl, fun w' hw' => by go_simp⟩) trivial ?_
  simp only [AP]
  refine wpSeq_yield (S := fun _ => True) (yieldsIf_assign rfl _ rfl (.slice p9 X.length c9) rfl) trivial ?_
  simp only [AP]
  refine wpSeq_yield (S := fun _ => True) (yieldsIf_assign rfl _ rfl (.int .i64 ((0 : Nat) : Int)) rfl) trivial ?_
  simp only [AP]
  refine wpSeq_nil ?_
  refine (by assumption : ∀ (a : Act) (w : World), _ → _) _ _ ?_
  rw [HX.out] at O9 ⊢
  go_upto_region 9 with fail
  rename_i aK
  refine wp_region_seq ?_
  refine wpSeq_yield (S := fun _ => True) (v := .pointer (some ⟨gh, 0, none⟩)) (Or.inl ⟨by rfl, fun w' hw' => by go_simp⟩) trivial ?_
  simp only [AP]
  refine wpSeq_yield (S := fun w' => w' = w9) (v := .int .i64 (q : Int)) (Or.inl ⟨by rfl, fun w' hw' => by (rw [hw']; have cc : w9.cell? ⟨gh, 0, none⟩ = some (.int .i64 (q : Int)) := KH.cell 0; go_simp)⟩) rfl ?_
  simp only [AP]
  refine wpSeq_wp rfl ?_
  unfold Oper.wp execOp
  go_simp
  refine (PLC.out w9).mono ?_
  rintro _ w10 ⟨rfl, b10⟩
  replace K := K.below' b10
  replace KK := KK.below' b10
  replace O9 := O9.below b10
  replace b := b.trans (b10.mono b.size)
  clear b10 PLC
  go_simp
  refine wpSeq_yield (S := fun _ => True) (yieldsIf_assign rfl _ rfl (.int .i64 (pl : Int)) rfl) trivial ?_
  simp only [AP]
  refine wpSeq_nil ?_
  refine (by assumption : ∀ (a : Act) (w : World), _ → _) _ _ ?_
  obtain ⟨f0, f57, f58, f59, f60, f61, dz, dz2⟩ := FX.out
  go_upto_region 10 with fail
  rename_i aK
  refine wp_region_seq ?_
  refine wpSeq_yield (S := fun _ => True) (yieldsIf_move rfl _ rfl (.int .u64 (a : Int)) rfl) trivial ?_
  simp only [AP]
  refine wpSeq_yield (S := fun _ => True) (yieldsIf_move rfl _ rfl (.int .u16 (nr : Int)) rfl) trivial ?_
  simp only [AP]
  refine wpSeq_yield (S := fun _ => True) (v := .int .u64 (nr : Int)) (Or.inl ⟨by rfl, fun w' hw' => by go_simp⟩) trivial ?_
  simp only [AP]
  refine wpSeq_yield (S := fun _ => True) (yieldsIf_move rfl _ rfl (.int .u64 (p : Int)) rfl) trivial ?_
  simp only [AP]
  refine wpSeq_yield (S := fun _ => True) (yieldsIf_move rfl _ rfl (.int .u64 (a : Int)) rfl) trivial ?_
  simp only [AP]
  refine wpSeq_yield (S := fun _ => True) (v := .int .u64 (d : Int)) (Or.inl ⟨by rfl, fun w' hw' => by go_simp⟩) trivial ?_
  simp only [AP]
  refine wpSeq_yield (S := fun _ => True) (v := .int .u64 (d1 : Int)) (Or.inl ⟨by rfl, fun w' hw' => by go_simp⟩) trivial ?_
  simp only [AP]
  refine wpSeq_yield (S := fun _ => True) (v := .int .u64 (rm : Int)) (Or.inl ⟨by rfl, fun w' hw' => by go_simp⟩) trivial ?_
  simp only [AP]
  refine wpSeq_yield (S := fun _ => True) (v := .int .u64 (nx : Int)) (Or.inl ⟨by rfl, fun w' hw' => by go_simp⟩) trivial ?_
  simp only [AP]
  refine wpSeq_yield (S := fun _ => True) (yieldsIf_assign rfl _ rfl (.int .u64 (nx : Int)) rfl) trivial ?_
  simp only [AP]
  refine wpSeq_nil ?_
  refine (by assumption : ∀ (a : Act) (w : World), _ → _) _ _ ?_
  clear f0 f57 f58 f59 f60 f61 dz dz2 KH
  have bd := below_drew (Below.refl w10.heap.size w10)
  replace K := K.below' bd
  replace KK := KK.below' bd
  replace O9 := O9.below bd
  replace b := b.trans (bd.mono b.size)
  clear bd
  go_upto_region 11 with fail
  rename_i aK
  refine wp_region_S (S := fun w' => Below w10.drew.heap.size w10.drew w') (by kernel_rfl) ?_
  generalize w10.drew = w11 at *
  have hS := Below.refl w11.heap.size w11
  refine wpAnyS_takeL 0 (v := .agg KC) rfl (by kernel_rfl) (by kernel_rfl) (by kernel_rfl) (fun _ _ _ H => H) (show YieldsIf _ _ _ _ (.agg KC) _ from yieldsIf_row_wanted (S := fun w' => Below w11.heap.size w11 w') rfl 30 _ rfl gk rfl 30 _ _ (fun _ h => KK.below' h) Tryd.underlying30 rfl (info_keys KC KZ.out)) hS ?_
  simp only [AP]
  refine wpAnyS_takeL 2 (v := .slice p9 lx c9) rfl (by kernel_rfl) (by kernel_rfl) (by kernel_rfl) (fun _ _ _ H => H) (yieldsIf_move rfl _ rfl (.slice p9 lx c9) rfl) hS ?_
  simp only [AP]
  refine wpAnyS_takeL 4 (v := .slice p4 m4 c4) rfl (by kernel_rfl) (by kernel_rfl) (by kernel_rfl) (fun _ _ _ H => H) (yieldsIf_move rfl _ rfl (.slice p4 m4 c4) rfl) hS ?_
  simp only [AP]
  refine wpAnyS_takeL 6 (v := .int .i64 (pl : Int)) rfl (by kernel_rfl) (by kernel_rfl) (by kernel_rfl) (fun _ _ _ H => H) (yieldsIf_move rfl _ rfl (.int .i64 (pl : Int)) rfl) hS ?_
  simp only [AP]
  refine wpAnyS_takeL 7 (v := .slice p9 lx c9) rfl (by kernel_rfl) (by kernel_rfl) (by kernel_rfl) (fun _ _ _ H => H) (yieldsIf_move rfl _ rfl (.slice p9 lx c9) rfl) hS ?_
  simp only [AP]
  refine wpAnyS_takeL 8 (v := .int .i64 (lx : Int)) rfl (by kernel_rfl) (by kernel_rfl) (by kernel_rfl) (fun _ _ _ H => H) (Or.inl ⟨by rfl, fun w' hw' => by go_simp⟩) hS ?_
  simp only [AP]
  refine wpAnyS_takeL 9 (v := .int .u64 (nx : Int)) rfl (by kernel_rfl) (by kernel_rfl) (by kernel_rfl) (fun _ _ _ H => H) (yieldsIf_move rfl _ rfl (.int .u64 (nx : Int)) rfl) hS ?_
  simp only [AP]
  have B1 := Own1.build w11.heap.size w11 (Nat.le_refl _)
  have b1 := (Below.refl w11.heap.size w11).alloc (Nat.le_refl _) (.cells #[] 5)
  refine gstep 1 rfl rfl (by kernel_rfl) (wp_build_run _ rfl _ _ (run_buildSlice_none _) ⟨b1, ?_⟩)
  simp only [AP]
  obtain ⟨v12, w12, hr12, O12, b12⟩ := own1_bytes 24 (.slice p9 lx c9) X B1 (O9.sb.below b1) (by have := XM.out; rw [HX.out]; simp only [List.length_nil]; omega) b1 b1.size
  refine gstep 3 rfl rfl (by kernel_rfl) (wp_append_run _ _ _ _ rfl _ _ rfl rfl v12 w12 hr12 ⟨b12, ?_⟩)
  simp only [AP]
  obtain ⟨v13, w13, hr13, O13, b13⟩ := own1_bytes 24 (.slice p4 m4 c4) mo O12 (H4.out.below (b.trans (b12.mono b.size))) (by have := XM.out; rw [List.nil_append, HX.out, HL4.out]; have := HQ.out; omega) b12 b12.size
  rw [List.nil_append] at O13
  refine gstep 5 rfl rfl (by kernel_rfl) (wp_append_run _ _ _ _ rfl _ _ rfl rfl v13 w13 hr13 ⟨b13, ?_⟩)
  simp only [AP]
  clear hr12 hr13 B1 b1 O12 b12 hS
  refine gstep 10 rfl rfl (by kernel_rfl) ?_
  unfold Oper.wp execOp
  go_simp
  refine (PCC.out v13 w13 O13.own.sb).mono ?_
  rintro _ w14 ⟨v14, rfl, O14, b14⟩
  have hS := b13.trans (b14.mono b13.size)
  refine ⟨hS, ?_⟩
  replace K := K.below' hS
  replace b := b.trans (hS.mono b.size)
  obtain ⟨p14, c14, hv14⟩ := O14.shape
  subst hv14
  clear PCC b13 b14 O13 KK O9
  rw [HZ.out] at O14 ⊢
  refine wpAnyS_takeL 11 (v := .tuple #[.int .u64 (p : Int), .slice p14 z c14, .int .i64 ((0 : Nat) : Int)]) rfl (by kernel_rfl) (by kernel_rfl) (by kernel_rfl) (fun _ _ _ H => H) (yieldsIf_move rfl _ rfl (.tuple #[.int .u64 (p : Int), .slice p14 z c14, .int .i64 ((0 : Nat) : Int)]) rfl) hS ?_
  simp only [AP]
  refine wpAnyS_takeL 12 (v := .int .u64 (p : Int)) rfl (by kernel_rfl) (by kernel_rfl) (by kernel_rfl) (fun _ _ _ H => H) (Or.inl ⟨by rfl, fun w' hw' => by go_simp⟩) hS ?_
  simp only [AP]
  refine wpAnyS_takeL 13 (v := .slice p14 z c14) rfl (by kernel_rfl) (by kernel_rfl) (by kernel_rfl) (fun _ _ _ H => H) (Or.inl ⟨by rfl, fun w' hw' => by go_simp⟩) hS ?_
  simp only [AP]
  refine wpAnyS_takeL 14 (v := .int .i64 ((0 : Nat) : Int)) rfl (by kernel_rfl) (by kernel_rfl) (by kernel_rfl) (fun _ _ _ H => H) (Or.inl ⟨by rfl, fun w' hw' => by go_simp⟩) hS ?_
  simp only [AP]
  refine wpAnyS_takeL 15 (v := .int .u64 (p : Int)) rfl (by kernel_rfl) (by kernel_rfl) (by kernel_rfl) (fun _ _ _ H => H) (yieldsIf_assign rfl _ rfl (.int .u64 (p : Int)) rfl) hS ?_
  simp only [AP]
  refine wpAnyS_takeL 16 (v := .slice p14 z c14) rfl (by kernel_rfl) (by kernel_rfl) (by kernel_rfl) (fun _ _ _ H => H) (yieldsIf_assign rfl _ rfl (.slice p14 z c14) rfl) hS ?_
  simp only [AP]
  refine wpAnyS_takeL 17 (v := .int .i64 ((0 : Nat) : Int)) rfl (by kernel_rfl) (by kernel_rfl) (by kernel_rfl) (fun _ _ _ H => H) (yieldsIf_assign rfl _ rfl (.int .i64 ((0 : Nat) : Int)) rfl) hS ?_
  simp only [AP]
  refine wpAnyS_done (by kernel_rfl) ?_ _
  refine (by assumption : ∀ (a : Act) (w : World), _ → _) _ _ ?_
  clear aK hS
  have C38 := (cs_cells (show Blk w14 W.heap.size 40 (csA s #[.int .i64 sp, vt, vf, .int .u64 (pn : Int), .int .u64 (ac : Int), .bool true, .slice p3 k3 c3]) by rw [show csA s #[.int .i64 sp, vt, vf, .int .u64 (pn : Int), .int .u64 (ac : Int), .bool true, .slice p3 k3 c3] = CS2 from HCS2.out]; exact K) L32.out).2.2.2.2.2.2
  go_upto_region 12 with fail
  rename_i aK
  refine wp_region_seq ?_
  refine wpSeq_yield (S := fun _ => True) (v := .pointer (some ⟨W.heap.size, 38, none⟩)) (Or.inl ⟨by rfl, fun w' hw' => by (go_simp)⟩) trivial ?_
  simp only [AP]
  refine wpSeq_yield (S := fun w' => w' = w14) (v := .slice p3 k3 c3) (Or.inl ⟨by rfl, fun w' hw' => by (rw [hw']; go_simp)⟩) rfl ?_
  simp only [AP]
  refine wpSeq_yield (S := fun _ => True) (yieldsIf_assign rfl _ rfl (.slice p3 k3 c3) rfl) trivial ?_
  simp only [AP]
  refine wpSeq_nil ?_
  refine (by assumption : ∀ (a : Act) (w : World), _ → _) _ _ ?_
  clear C38 K
  replace H3 := Lib.hid (H3.out.below b)
  replace O14 := Lib.hid O14
  have ZD2 := ZD.out.2
  have f82 : IntKind.i64.wrap ((z : Int) - (k3 : Int)) = (dd : Int) := by have := ZD.out; rw [IntKind.wrap_i64]; omega
  go_upto_region 13 with fail
  rename_i aK
  refine wp_region_seq ?_
  refine wpSeq_yield (S := fun _ => True) (yieldsIf_move rfl _ rfl (.slice p14 z c14) rfl) trivial ?_
  simp only [AP]
  refine wpSeq_yield (S := fun _ => True) (v := .int .i64 (z : Int)) (Or.inl ⟨by rfl, fun w' hw' => by go_simp⟩) trivial ?_
  simp only [AP]
  refine wpSeq_yield (S := fun _ => True) (yieldsIf_move rfl _ rfl (.slice p3 k3 c3) rfl) trivial ?_
  simp only [AP]
  refine wpSeq_yield (S := fun _ => True) (v := .int .i64 (k3 : Int)) (Or.inl ⟨by rfl, fun w' hw' => by go_simp⟩) trivial ?_
  simp only [AP]
  refine wpSeq_yield (S := fun _ => True) (v := .int .i64 (dd : Int)) (Or.inl ⟨by rfl, fun w' hw' => by go_simp⟩) trivial ?_
  simp only [AP]
  refine wpSeq_yield (S := fun _ => True) (yieldsIf_assign rfl _ rfl (.int .i64 (dd : Int)) rfl) trivial ?_
  simp only [AP]
  refine wpSeq_nil ?_
  refine (by assumption : ∀ (a : Act) (w : World), _ → _) _ _ ?_
  clear f82
  by_cases d0 : 0 < dd
  · skip
    go_upto_region 14 with fail
    rename_i aK
    refine wp_region_seq ?_
    refine wpSeq_yield (S := fun _ => True) (yieldsIf_move rfl _ rfl (.int .i64 (dd : Int)) rfl) trivial ?_
    simp only [AP]
    refine wpSeq_yield (S := fun _ => True) (v := .bool true) (Or.inl ⟨by rfl, fun w' hw' => by (go_simp; try omega)⟩) trivial ?_
    simp only [AP]
    refine wpSeq_yield (S := fun _ => True) (yieldsIf_move rfl _ rfl (.bool true) rfl) trivial ?_
    simp only [AP]
    refine wpSeq_yield (S := fun _ => True) (yieldsIf_move rfl _ rfl (.int .i64 (dd : Int)) rfl) trivial ?_
    simp only [AP]
    refine wpSeq_yield (S := fun _ => True) (v := .bool true) (Or.inl ⟨by rfl, fun w' hw' => by (go_simp; try omega)⟩) trivial ?_
    simp only [AP]
    refine wpSeq_yield (S := fun _ => True) (yieldsIf_pick rfl _ _ _ rfl true rfl (.bool true) rfl) trivial ?_
    simp only [AP]
    refine wpSeq_nil ?_
    refine (by assumption : ∀ (a : Act) (w : World), _ → _) _ _ ?_
    have B1 := Own1.build w14.heap.size w14 (Nat.le_refl _)
    have b1 := (Below.refl w14.heap.size w14).alloc (Nat.le_refl _) (.cells #[] 5)
    obtain ⟨v15, w15, hr15, O15, b15⟩ := own1_bytes 24 (.slice p3 k3 c3) bb B1 (H3.out.below b1) (by rw [HL3.out]; simp only [List.length_nil]; omega) b1 b1.size
    obtain ⟨v16, w16, hr16, O16, b16⟩ := own1_noughts 24 dd (by omega) d0 O15 (by rw [List.nil_append, HL3.out]; omega) b15 b15.size
    rw [List.nil_append] at O16
    have SX := (O14.out.sb).below b16
    replace b := b.trans (b16.mono b.size)
    clear B1 b1 O15 b15 b16 H3 O14
    go_upto_region 15 with fail
    rename_i aK
    refine wp_region_seq ?_
    refine wpSeq_wp rfl (wp_build_run _ rfl _ _ (run_buildSlice_none _) ?_)
    simp only [AP]
    refine wpSeq_yield (S := fun _ => True) (yieldsIf_move rfl _ rfl (.slice p3 k3 c3) rfl) trivial ?_
    simp only [AP]
    refine wpSeq_wp rfl (wp_append_run _ _ _ _ rfl _ _ rfl rfl v15 w15 hr15 ?_)
    simp only [AP]
    refine wpSeq_yield (S := fun _ => True) (yieldsIf_move rfl _ rfl (.int .i64 (dd : Int)) rfl) trivial ?_
    simp only [AP]
    refine wpSeq_wp rfl (wp_append_run _ _ _ _ rfl _ _ rfl rfl v16 w16 hr16 ?_)
    simp only [AP]
    refine wpSeq_yield (S := fun _ => True) (yieldsIf_assign rfl _ rfl (v16) rfl) trivial ?_
    simp only [AP]
    refine wpSeq_nil ?_
    refine (by assumption : ∀ (a : Act) (w : World), _ → _) _ _ ?_
    clear hr15 hr16
    go_upto_region 16 with fail
    rename_i aK
    refine wp_region_seq ?_
    refine wpSeq_yield (S := fun _ => True) (yieldsIf_move rfl _ rfl (.int .i64 ((0 : Nat) : Int)) rfl) trivial ?_
    simp only [AP]
    refine wpSeq_yield (S := fun _ => True) (v := .bool true) (Or.inl ⟨by rfl, fun w' hw' => by go_simp⟩) trivial ?_
    simp only [AP]
    refine wpSeq_yield (S := fun _ => True) (yieldsIf_move rfl _ rfl (.bool true) rfl) trivial ?_
    simp only [AP]
    refine wpSeq_yield (S := fun _ => True) (yieldsIf_move rfl _ rfl (.int .i64 ((0 : Nat) : Int)) rfl) trivial ?_
    simp only [AP]
    refine wpSeq_yield (S := fun _ => True) (v := .bool true) (Or.inl ⟨by rfl, fun w' hw' => by go_simp⟩) trivial ?_
    simp only [AP]
    refine wpSeq_yield (S := fun _ => True) (yieldsIf_pick rfl _ _ _ rfl true rfl (.bool true) rfl) trivial ?_
    simp only [AP]
    refine wpSeq_yield (S := fun _ => True) (yieldsIf_move rfl _ rfl (.bool true) rfl) trivial ?_
    simp only [AP]
    refine wpSeq_yield (S := fun _ => True) (yieldsIf_move rfl _ rfl (.int .u64 (p : Int)) rfl) trivial ?_
    simp only [AP]
    refine wpSeq_yield (S := fun _ => True) (yieldsIf_move rfl _ rfl (.int .u64 (p : Int)) rfl) trivial ?_
    simp only [AP]
    refine wpSeq_yield (S := fun _ => True) (v := .bool true) (Or.inl ⟨by rfl, fun w' hw' => by go_simp⟩) trivial ?_
    simp only [AP]
    refine wpSeq_yield (S := fun _ => True) (yieldsIf_pick rfl _ _ _ rfl true rfl (.bool true) rfl) trivial ?_
    simp only [AP]
    refine wpSeq_yield (S := fun _ => True) (yieldsIf_move rfl _ rfl (.bool true) rfl) trivial ?_
    simp only [AP]
    refine wpSeq_yield (S := fun _ => True) (yieldsIf_move rfl _ rfl (.slice p14 z c14) rfl) trivial ?_
    simp only [AP]
    refine wpSeq_yield (S := fun w' => w' = w16) (yieldsIf_conv (S := fun w' => w' = w16) rfl _ rfl (.slice p14 z c14) rfl (padN n bb) (fun w' h => h ▸ SX)) rfl ?_
    simp only [AP]
    refine wpSeq_yield (S := fun _ => True) (yieldsIf_move rfl _ rfl (v16) rfl) trivial ?_
    simp only [AP]
    refine wpSeq_yield (S := fun w' => w' = w16) (yieldsIf_conv (S := fun w' => w' = w16) rfl _ rfl (v16) rfl (bb ++ List.replicate dd 0) (fun w' h => h ▸ O16.own.sb)) rfl ?_
    simp only [AP]
    refine wpSeq_yield (S := fun _ => True) (yieldsIf_strB rfl _ _ rfl _ _ rfl rfl PD.out) trivial ?_
    simp only [AP]
    refine wpSeq_yield (S := fun _ => True) (yieldsIf_pick rfl _ _ _ rfl true rfl (.bool true) rfl) trivial ?_
    simp only [AP]
    refine wpSeq_yield (S := fun _ => True) (yieldsIf_assign rfl _ rfl (.bool true) rfl) trivial ?_
    simp only [AP]
    refine wpSeq_nil ?_
    refine (by assumption : ∀ (a : Act) (w : World), _ → _) _ _ ?_
    go_wp2
    go_ret
    exact ⟨rfl, b⟩
  have d1z : dd = 0 := by omega
  have PD0 : padN n bb = bb := by rw [PD.out, d1z]; exact List.append_nil _
  have SX := O14.out.sb
  go_upto_region 14 with fail
  rename_i aK
  refine wp_region_seq ?_
  refine wpSeq_yield (S := fun _ => True) (yieldsIf_move rfl _ rfl (.int .i64 (dd : Int)) rfl) trivial ?_
  simp only [AP]
  refine wpSeq_yield (S := fun _ => True) (v := .bool false) (Or.inl ⟨by rfl, fun w' hw' => by (go_simp; try omega)⟩) trivial ?_
  simp only [AP]
  refine wpSeq_yield (S := fun _ => True) (yieldsIf_move rfl _ rfl (.bool false) rfl) trivial ?_
  simp only [AP]
  refine wpSeq_yield (S := fun _ => True) (yieldsIf_off rfl) trivial ?_
  simp only [AP]
  refine wpSeq_yield (S := fun _ => True) (yieldsIf_off rfl) trivial ?_
  simp only [AP]
  refine wpSeq_yield (S := fun _ => True) (yieldsIf_pick rfl _ _ _ rfl false rfl (.bool false) rfl) trivial ?_
  simp only [AP]
  refine wpSeq_nil ?_
  refine (by assumption : ∀ (a : Act) (w : World), _ → _) _ _ ?_
  go_upto_region 16 with fail
  rename_i aK
  refine wp_region_seq ?_
  refine wpSeq_yield (S := fun _ => True) (yieldsIf_move rfl _ rfl (.int .i64 ((0 : Nat) : Int)) rfl) trivial ?_
  simp only [AP]
  refine wpSeq_yield (S := fun _ => True) (v := .bool true) (Or.inl ⟨by rfl, fun w' hw' => by go_simp⟩) trivial ?_
  simp only [AP]
  refine wpSeq_yield (S := fun _ => True) (yieldsIf_move rfl _ rfl (.bool true) rfl) trivial ?_
  simp only [AP]
  refine wpSeq_yield (S := fun _ => True) (yieldsIf_move rfl _ rfl (.int .i64 ((0 : Nat) : Int)) rfl) trivial ?_
  simp only [AP]
  refine wpSeq_yield (S := fun _ => True) (v := .bool true) (Or.inl ⟨by rfl, fun w' hw' => by go_simp⟩) trivial ?_
  simp only [AP]
  refine wpSeq_yield (S := fun _ => True) (yieldsIf_pick rfl _ _ _ rfl true rfl (.bool true) rfl) trivial ?_
  simp only [AP]
  refine wpSeq_yield (S := fun _ => True) (yieldsIf_move rfl _ rfl (.bool true) rfl) trivial ?_
  simp only [AP]
  refine wpSeq_yield (S := fun _ => True) (yieldsIf_move rfl _ rfl (.int .u64 (p : Int)) rfl) trivial ?_
  simp only [AP]
  refine wpSeq_yield (S := fun _ => True) (yieldsIf_move rfl _ rfl (.int .u64 (p : Int)) rfl) trivial ?_
  simp only [AP]
  refine wpSeq_yield (S := fun _ => True) (v := .bool true) (Or.inl ⟨by rfl, fun w' hw' => by go_simp⟩) trivial ?_
  simp only [AP]
  refine wpSeq_yield (S := fun _ => True) (yieldsIf_pick rfl _ _ _ rfl true rfl (.bool true) rfl) trivial ?_
  simp only [AP]
  refine wpSeq_yield (S := fun _ => True) (yieldsIf_move rfl _ rfl (.bool true) rfl) trivial ?_
  simp only [AP]
  refine wpSeq_yield (S := fun _ => True) (yieldsIf_move rfl _ rfl (.slice p14 z c14) rfl) trivial ?_
  simp only [AP]
  refine wpSeq_yield (S := fun w' => w' = w14) (yieldsIf_conv (S := fun w' => w' = w14) rfl _ rfl (.slice p14 z c14) rfl (padN n bb) (fun w' h => h ▸ SX)) rfl ?_
  simp only [AP]
  refine wpSeq_yield (S := fun _ => True) (yieldsIf_move rfl _ rfl (.slice p3 k3 c3) rfl) trivial ?_
  simp only [AP]
  refine wpSeq_yield (S := fun w' => w' = w14) (yieldsIf_conv (S := fun w' => w' = w14) rfl _ rfl (.slice p3 k3 c3) rfl (bb) (fun w' h => h ▸ H3.out)) rfl ?_
  simp only [AP]
  refine wpSeq_yield (S := fun _ => True) (yieldsIf_strB rfl _ _ rfl _ _ rfl rfl PD0) trivial ?_
  simp only [AP]
  refine wpSeq_yield (S := fun _ => True) (yieldsIf_pick rfl _ _ _ rfl true rfl (.bool true) rfl) trivial ?_
  simp only [AP]
  refine wpSeq_yield (S := fun _ => True) (yieldsIf_assign rfl _ rfl (.bool true) rfl) trivial ?_
  simp only [AP]
  refine wpSeq_nil ?_
  refine (by assumption : ∀ (a : Act) (w : World), _ → _) _ _ ?_
  go_wp2
  go_ret
  exact ⟨rfl, b⟩
end Go.Proofs.YtpihgljdbpnehaaDoor
