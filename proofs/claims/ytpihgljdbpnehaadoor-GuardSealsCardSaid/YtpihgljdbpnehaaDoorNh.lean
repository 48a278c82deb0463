/- The law's own sealing (printed by gen13/nh.py). -/
import Derived.Test.YtpihgljdbpnehaaDoorNf0HSb
import Derived.Test.YtpihgljdbpnehaaDoorHSi0HSj
import Derived.Test.YtpihgljdbpnehaaDoorPa0Pc
import Derived.Test.YtpihgljdbpnehaaDoorNc
namespace Go.Proofs.YtpihgljdbpnehaaDoor
open Go.RowKit
/-- What stands while a packet is sealed: the keys, the head. -/
structure PkV (W : World) (kc hc : Array Value) (w : World) : Prop where
  ky : Blk w W.heap.size 30 kc
  hd : Blk w (W.heap.size + 1) 42 hc
  bel : Below W.heap.size W w
theorem PkV.step {W w w' : World} {kc hc : Array Value} (h : PkV W kc hc w) (b : Below w.heap.size w w') : PkV W kc hc w' := ⟨h.ky.below' b, h.hd.below' b, h.bel.trans (b.mono h.bel.size)⟩
theorem PkV.lt {W w : World} {kc hc : Array Value} (h : PkV W kc hc w) : W.heap.size + 1 < w.heap.size := h.hd.lt
section
variable {P : Program} {md : Region.Mode} {ops : Array Oper} {Q : Exit → Act → World → Prop} {S : World → Prop}
/-- One of the two that are ready, whichever. -/
theorem gsteps (i j : Nat) {oi oj : Oper} {fuel : Nat} {listed : Array Bool} {a : Act} {w : World} (hi : ops.toList[i]? = some oi) (hj : ops.toList[j]? = some oj) (hwi : Region.wanted oi (yielded ops a.tmps) = true) (hwj : Region.wanted oj (yielded ops a.tmps) = true) (hr : Region.ready md ops listed = [i, j])
    (h1 : oi.wp P a w (fun a' w' => S w' ∧ wpAnyS P md ops Q S fuel (listed.setIfInBounds i true) a' w') Q) (h2 : oj.wp P a w (fun a' w' => S w' ∧ wpAnyS P md ops Q S fuel (listed.setIfInBounds j true) a' w') Q) : wpAnyS P md ops Q S (fuel + 1) listed a w := by
  refine ⟨fun h0 => ?_, fun k hk => ?_⟩
  · rw [hr] at h0
    cases h0
  · rw [hr] at hk
    simp only [List.mem_cons, List.not_mem_nil, or_false] at hk
    rcases hk with rfl | rfl
    · unfold wpOp
      rw [← Array.getElem?_toList, hi]
      simp only [hwi, if_true]
      left
      exact h1
    · unfold wpOp
      rw [← Array.getElem?_toList, hj]
      simp only [hwj, if_true]
      left
      exact h2
end
def sliceLen : Value → Nat
  | .slice _ n _ => n
  | _ => 0
theorem PkV.grow {W w w' : World} {kc hc : Array Value} {row : Option Nat} (h : PkV W kc hc w) (g : w.grownBy w' row) (hr : ∀ j, row = some j → W.heap.size + 2 ≤ j) : PkV W kc hc w' :=
  ⟨(g.block _ h.ky.lt (fun e => by have := hr _ e.symm; omega)).trans h.ky, (g.block _ h.hd.lt (fun e => by have := hr _ e.symm; omega)).trans h.hd, below_grown' h.bel g (fun j e => by have := hr j e; omega) h.bel.size⟩
/-- A range of bytes in the middle of a row of one's own. -/
theorem BA.smp_range {w : World} {g : Nat} {X : List Nat} (h : BA w g 0 X) (a : Nat) (ha : a + 20 ≤ X.length) : w.rangeAt g (a + 4) ((NI (smpN a X)).map (Value.int .u8)) := fun j v hv => by
  have hj : j < 16 := by
    have := (List.getElem?_eq_some_iff.1 hv).1
    simpa [NI, smpN_length a X ha] using this
  have c := h.cell (a + 4 + j) (by omega)
  rw [Nat.zero_add] at c
  rw [c, ← hv]
  simp only [NI, smpN, List.map_map, List.getElem?_map, List.getElem?_take, List.getElem?_drop]
  rw [if_pos hj, List.getElem?_eq_getElem (by omega)]
  rfl
theorem load_hdV {ops : Array Oper} {o : Oper} {a : Act} (hgd : Region.wanted o (yielded ops a.tmps) = true) (x : Operand) (ho : o.op = .load 42 x) (g : Nat) (hx : a.eval x = .pointer (some ⟨g, 0, none⟩)) (sp : Int) (vt vf : Value) (W : World) (K : Blk W g 42 #[.int .i64 sp, vt, vf]) : YieldsIf Tryd.prog ops (fun w' => w' = W) o (.agg #[.int .i64 sp, vt, vf]) a :=
  yieldsIf_load_mid (S := fun w' => w' = W) hgd 42 x ho g 0 hx [.int .i64 sp, vt, vf] _ (fun _ h => h ▸ blk_range K) Tryd.underlying42 rfl info_hd
theorem info_a16 : (Tryd.prog.info? 26).map (·.size) = some 16 := by kernel_rfl
set_option maxHeartbeats 16000000 in
set_option maxRecDepth 100000 in
theorem sealed_c (K N Mk : List Nat) (lK : K.length = 16) (lN : N.length = 12) (lM : Mk.length = 16) (bK : Bytes K) (bN : Bytes N) (bM : Bytes Mk) (sp : Int) (to fr : List Nat) (pn acked : Nat) (b : List Nat) (vt vf vb : Value) (W : World)
    (ht : to.length ≤ 100) (hf : fr.length ≤ 100) (bt : Bytes to) (bf : Bytes fr) (hp : pn < 18446744073709551616) (_ha : acked < 18446744073709551616) (bb : Bytes b) (lb : b.length ≤ 200) (h1 : SB W vt to) (h2 : SB W vf fr) (h3 : SB W vb b) :
    Calls Tryd.prog 17 #[.agg (Iv .u8 (NI (K ++ (N ++ Mk)))), hdV sp vt vf, .int .u64 (pn : Int), .int .u64 (acked : Int), vb] W fun e w' => ∃ v, e = .returned (.tuple #[v, .int .i64 (((sealG K N Mk sp to fr pn acked b).1 : Nat) : Int)]) ∧ SB w' v (sealG K N Mk sp to fr pn acked b).2 ∧ Below W.heap.size W w' := by
  obtain ⟨p1, c1, rfl⟩ := h1.shape
  obtain ⟨p2, c2, rfl⟩ := h2.shape
  obtain ⟨p3, c3, rfl⟩ := h3.shape
  have LN := Lib.hid (And.intro (And.intro lK (And.intro lN lM)) (And.intro bK (And.intro bN bM)))
  have FT := Lib.hid (And.intro (And.intro ht hf) (And.intro bt bf))
  clear lK lN lM bK bN bM ht hf bt bf _ha
  have P0 := Lib.hid (And.intro bb lb)
  obtain ⟨k0, hk0⟩ : ∃ k0, b.length = k0 := ⟨_, rfl⟩
  obtain ⟨m, hm⟩ : ∃ m, to.length = m := ⟨_, rfl⟩
  obtain ⟨n2, hn2⟩ : ∃ n2, fr.length = n2 := ⟨_, rfl⟩
  show Calls Tryd.prog 17 #[.agg (Iv .u8 (NI (K ++ (N ++ Mk)))), .agg #[.int .i64 sp, .slice p1 to.length c1, .slice p2 fr.length c2], .int .u64 (pn : Int), .int .u64 (acked : Int), .slice p3 b.length c3] W _
  rw [hk0] at h3 lb ⊢
  rw [hm] at h1 ⊢
  rw [hn2] at h2 ⊢
  clear hk0 hm hn2 bb
  obtain ⟨G, hG⟩ : ∃ G, sealG K N Mk sp to fr pn acked b = G := ⟨_, rfl⟩
  rw [hG]
  have HG := Lib.hid hG
  clear hG
  obtain ⟨KC, hKC⟩ : ∃ KC, Iv .u8 (NI (K ++ (N ++ Mk))) = KC := ⟨_, rfl⟩
  rw [hKC]
  have HK := Lib.hid hKC
  clear hKC
  obtain ⟨HC, hHC⟩ : ∃ HC, (#[.int .i64 sp, .slice p1 m c1, .slice p2 n2 c2] : Array Value) = HC := ⟨_, rfl⟩
  rw [hHC]
  have HH := Lib.hid hHC
  clear hHC
  go_enter Tryd.func17, Tryd.ntmps17
  go_upto_region 0 with fail
  rename_i aK
  refine wp_region_seq ?_
  refine wpSeq_wp rfl ?_
  unfold Oper.wp execOp
  go_simp
  refine wpSeq_wp rfl ?_
  unfold Oper.wp execOp
  go_simp
  refine wpSeq_yield (S := fun _ => True) (yieldsIf_assign rfl _ rfl (.slice none 0 0) rfl) trivial ?_
  simp only [AP]
  refine wpSeq_yield (S := fun _ => True) (yieldsIf_assign rfl _ rfl (.int .i64 0) rfl) trivial ?_
  simp only [AP]
  refine wpSeq_nil ?_
  refine aK _ _ ?_
  clear aK
  have b0 := ((Below.refl W.heap.size W).alloc (Nat.le_refl _) (.cells KC 30)).alloc (by rw [size_alloc1]; omega) (.cells HC 42)
  have KH := Blk.new (W.alloc (.cells KC 30)) 42 HC
  rw [size_alloc1] at KH
  have P := Lib.hid (PkV.mk ((Blk.new W 30 KC).alloc (.cells HC 42)) KH b0)
  clear KH
  generalize World.alloc (World.alloc W _) _ = w2 at *
  replace h1 := Lib.hid (h1.below b0)
  replace h2 := Lib.hid (h2.below b0)
  replace h3 := Lib.hid (h3.below b0)
  clear b0
  by_cases q1 : 4611686018427387904 ≤ pn
  · skip
    go_upto_region 1 with fail
    rename_i aK
    refine wp_region_seq ?_
    refine wpSeq_yield (S := fun _ => True) (yieldsIf_move rfl _ rfl (.int .u64 (pn : Int)) rfl) trivial ?_
    simp only [AP]
    refine wpSeq_yield (S := fun _ => True) (v := .bool true) (Or.inl ⟨by rfl, fun w' hw' => by (go_simp; try omega)⟩) trivial ?_
    simp only [AP]
    refine wpSeq_yield (S := fun _ => True) (yieldsIf_move rfl _ rfl (.bool true) rfl) trivial ?_
    simp only [AP]
    refine wpSeq_yield (S := fun _ => True) (yieldsIf_off rfl) trivial ?_
    simp only [AP]
    refine wpSeq_yield (S := fun _ => True) (yieldsIf_off rfl) trivial ?_
    simp only [AP]
    refine wpSeq_yield (S := fun _ => True) (yieldsIf_off rfl) trivial ?_
    simp only [AP]
    refine wpSeq_yield (S := fun _ => True) (yieldsIf_pick rfl _ _ _ rfl true rfl (.bool true) rfl) trivial ?_
    simp only [AP]
    refine wpSeq_nil ?_
    refine (by assumption : ∀ (a : Act) (w : World), _ → _) _ _ ?_
    go_upto_region 2 with fail
    rename_i aK
    refine wp_region_seq ?_
    refine wpSeq_yield (S := fun _ => True) (yieldsIf_assign rfl _ rfl (.slice none 0 0) rfl) trivial ?_
    simp only [AP]
    refine wpSeq_yield (S := fun _ => True) (yieldsIf_assign rfl _ rfl (.int .i64 2) rfl) trivial ?_
    simp only [AP]
    refine wpSeq_nil ?_
    refine (by assumption : ∀ (a : Act) (w : World), _ → _) _ _ ?_
    go_wp2
    refine bodyPost_ret (results_tmp2 rfl _ _ _) rfl ?_
    have e : G = (2, []) := HG.out.symm.trans (if_pos (Or.inl q1))
    subst e
    exact ⟨_, rfl, SB.nil _ _ _, P.out.bel⟩
  by_cases q2 : pn < acked
  · skip
    go_upto_region 1 with fail
    rename_i aK
    refine wp_region_seq ?_
    refine wpSeq_yield (S := fun _ => True) (yieldsIf_move rfl _ rfl (.int .u64 (pn : Int)) rfl) trivial ?_
    simp only [AP]
    refine wpSeq_yield (S := fun _ => True) (v := .bool false) (Or.inl ⟨by rfl, fun w' hw' => by (go_simp; try omega)⟩) trivial ?_
    simp only [AP]
    refine wpSeq_yield (S := fun _ => True) (yieldsIf_move rfl _ rfl (.bool false) rfl) trivial ?_
    simp only [AP]
    refine wpSeq_yield (S := fun _ => True) (yieldsIf_move rfl _ rfl (.int .u64 (acked : Int)) rfl) trivial ?_
    simp only [AP]
    refine wpSeq_yield (S := fun _ => True) (yieldsIf_move rfl _ rfl (.int .u64 (pn : Int)) rfl) trivial ?_
    simp only [AP]
    refine wpSeq_yield (S := fun _ => True) (v := .bool true) (Or.inl ⟨by rfl, fun w' hw' => by (go_simp; try omega)⟩) trivial ?_
    simp only [AP]
    refine wpSeq_yield (S := fun _ => True) (yieldsIf_pick rfl _ _ _ rfl false rfl (.bool true) rfl) trivial ?_
    simp only [AP]
    refine wpSeq_nil ?_
    refine (by assumption : ∀ (a : Act) (w : World), _ → _) _ _ ?_
    go_upto_region 2 with fail
    rename_i aK
    refine wp_region_seq ?_
    refine wpSeq_yield (S := fun _ => True) (yieldsIf_assign rfl _ rfl (.slice none 0 0) rfl) trivial ?_
    simp only [AP]
    refine wpSeq_yield (S := fun _ => True) (yieldsIf_assign rfl _ rfl (.int .i64 2) rfl) trivial ?_
    simp only [AP]
    refine wpSeq_nil ?_
    refine (by assumption : ∀ (a : Act) (w : World), _ → _) _ _ ?_
    go_wp2
    refine bodyPost_ret (results_tmp2 rfl _ _ _) rfl ?_
    have e : G = (2, []) := HG.out.symm.trans (if_pos (Or.inr q2))
    subst e
    exact ⟨_, rfl, SB.nil _ _ _, P.out.bel⟩
  go_upto_region 1 with fail
  rename_i aK
  refine wp_region_seq ?_
  refine wpSeq_yield (S := fun _ => True) (yieldsIf_move rfl _ rfl (.int .u64 (pn : Int)) rfl) trivial ?_
  simp only [AP]
  refine wpSeq_yield (S := fun _ => True) (v := .bool false) (Or.inl ⟨by rfl, fun w' hw' => by (go_simp; try omega)⟩) trivial ?_
  simp only [AP]
  refine wpSeq_yield (S := fun _ => True) (yieldsIf_move rfl _ rfl (.bool false) rfl) trivial ?_
  simp only [AP]
  refine wpSeq_yield (S := fun _ => True) (yieldsIf_move rfl _ rfl (.int .u64 (acked : Int)) rfl) trivial ?_
  simp only [AP]
  refine wpSeq_yield (S := fun _ => True) (yieldsIf_move rfl _ rfl (.int .u64 (pn : Int)) rfl) trivial ?_
  simp only [AP]
  refine wpSeq_yield (S := fun _ => True) (v := .bool false) (Or.inl ⟨by rfl, fun w' hw' => by (go_simp; try omega)⟩) trivial ?_
  simp only [AP]
  refine wpSeq_yield (S := fun _ => True) (yieldsIf_pick rfl _ _ _ rfl false rfl (.bool false) rfl) trivial ?_
  simp only [AP]
  refine wpSeq_nil ?_
  refine (by assumption : ∀ (a : Act) (w : World), _ → _) _ _ ?_
  have SC := Lib.hid (fun w => rshort_c pn acked (by omega) (by omega) w)
  have NO := Lib.hid (show ¬ (4611686018427387904 ≤ pn ∨ pn < acked) by omega)
  have n4 := shortN_is pn acked
  obtain ⟨n, hn⟩ : ∃ n, shortN pn acked = n := ⟨_, rfl⟩
  rw [hn] at SC n4
  have HN := Lib.hid hn
  clear hn q1 q2
  go_upto_region 3 with fail
  rename_i aK
  refine wp_region_seq ?_
  refine wpSeq_yield (S := fun _ => True) (yieldsIf_move rfl _ rfl (.int .u64 (pn : Int)) rfl) trivial ?_
  simp only [AP]
  refine wpSeq_yield (S := fun _ => True) (yieldsIf_move rfl _ rfl (.int .u64 (acked : Int)) rfl) trivial ?_
  simp only [AP]
  refine wpSeq_wp rfl ?_
  unfold Oper.wp execOp
  go_simp
  refine (SC.out _).mono ?_
  rintro _ w3 ⟨rfl, b3⟩
  replace P := Lib.hid (P.out.step b3)
  replace h1 := Lib.hid (h1.out.below b3)
  replace h2 := Lib.hid (h2.out.below b3)
  replace h3 := Lib.hid (h3.out.below b3)
  clear b3 SC
  go_simp
  refine wpSeq_yield (S := fun _ => True) (yieldsIf_assign rfl _ rfl (.int .i64 (n : Int)) rfl) trivial ?_
  simp only [AP]
  refine wpSeq_nil ?_
  refine (by assumption : ∀ (a : Act) (w : World), _ → _) _ _ ?_
  obtain ⟨c, hc⟩ : ∃ c, padN n b = c := ⟨_, rfl⟩
  have HB := Lib.hid hc
  go_upto_region 4 with fail
  go_loopw [4] (fun v wr => ∃ (p : Option Addr) (k cap : Nat) (bs : List Nat), v = .slice p k cap ∧ SB wr (.slice p k cap) bs ∧ padN n bs = c ∧ Bytes bs ∧ k ≤ 200 ∧ PkV W KC HC wr ∧ SB wr (.slice p1 m c1) to ∧ SB wr (.slice p2 n2 c2) fr) (fun v _ => 4 - (n + sliceLen v))
  case atStart => exact ⟨p3, k0, c3, b, rfl, h3.out, hc, P0.out.1, lb, P.out, h1.out, h2.out⟩
  case round =>
    clear P h1 h2 h3 lb hc
    obtain ⟨p, k, cap, bs, rfl, S3, pc, bs8, lk, P, h1, h2⟩ := hrel
    have ek : k = bs.length := S3.len.1
    have f0 : IntKind.i64.wrap ((n : Int) + (k : Int)) = ((n + k : Nat) : Int) := by rw [IntKind.wrap_i64]; omega
    replace ek := Lib.hid ek
    replace S3 := Lib.hid S3
    replace P := Lib.hid P
    replace h1 := Lib.hid h1
    replace h2 := Lib.hid h2
    replace bs8 := Lib.hid bs8
    by_cases c4 : n + k < 4
    · have B1 := ow_none wr.heap.size wr (Nat.le_refl _)
      have b1 := (Below.refl wr.heap.size wr).alloc (Nat.le_refl _) (.cells #[] 5)
      obtain ⟨v1, W1, hr1, O1, b1'⟩ := append_more wr.heap.size wr _ 24 _ _ _ _ B1 (S3.out.below b1) (by rw [← ek.out]; simp; omega) b1 b1.size
      rw [List.nil_append] at O1
      obtain ⟨v2, W2, hr2, O2, b2⟩ := append_new W1 wr.heap.size 24 v1 _ [0] O1 (by rw [← ek.out]; simp; omega) b1'.size wr b1'
      replace hr2 : (Builtin.append_ #[24, 24] 24 #[v1, .slice (some ⟨W1.heap.size, 0, none⟩) 1 1]).run Tryd.prog (W1.alloc (.cells #[.int .u8 0] 5)) = .ok v2 W2 := hr2
      obtain ⟨pv, cv, hv⟩ := O2.shape
      generalize hL : (bs ++ [0]).length = L at *
      subst hv
      have pc2 : padN n (bs ++ [0]) = c := by rw [padN_step n bs (by have := ek.out; omega)]; exact pc
      have l2 : L = k + 1 := by rw [← hL, List.length_append, ← ek.out]; rfl
      clear hL
      replace O2 := Lib.hid (show SB W2 (.slice pv L cv) (bs ++ [0]) from O2.sb)
      replace b2 := Lib.hid b2
      clear B1 b1 O1 b1' pc
      go_upto_region 4 with fail
      rename_i aK
      refine wp_region_seq ?_
      refine wpSeq_yield (S := fun _ => True) (yieldsIf_move rfl _ rfl (.int .i64 (n : Int)) rfl) trivial ?_
      simp only [AP]
      refine wpSeq_yield (S := fun _ => True) (yieldsIf_move rfl _ rfl (.slice p k cap) rfl) trivial ?_
      simp only [AP]
      refine wpSeq_yield (S := fun _ => True) (v := .int .i64 (k : Int)) (Or.inl ⟨by rfl, fun w' hw' => by go_simp⟩) trivial ?_
      simp only [AP]
      refine wpSeq_yield (S := fun _ => True) (v := .int .i64 ((n + k : Nat) : Int)) (Or.inl ⟨by rfl, fun w' hw' => by go_simp⟩) trivial ?_
      simp only [AP]
      refine wpSeq_yield (S := fun _ => True) (v := .bool true) (Or.inl ⟨by rfl, fun w' hw' => by (go_simp; try omega)⟩) trivial ?_
      simp only [AP]
      refine wpSeq_nil ?_
      refine (by assumption : ∀ (a : Act) (w : World), _ → _) _ _ ?_
      go_upto_region 5 with fail
      rename_i aK
      refine wp_region_seq ?_
      refine wpSeq_wp rfl (wp_build_run _ rfl _ _ (run_buildSlice_none _) ?_)
      simp only [AP]
      refine wpSeq_yield (S := fun _ => True) (yieldsIf_move rfl _ rfl (.slice p k cap) rfl) trivial ?_
      simp only [AP]
      refine wpSeq_wp rfl (wp_append_run _ _ _ _ rfl _ _ rfl rfl v1 W1 hr1 ?_)
      simp only [AP]
      refine wpSeq_wp rfl ?_
      unfold Oper.wp execOp
      go_simp
      refine wpSeq_wp rfl (wp_append_run _ _ _ _ rfl _ _ rfl rfl (.slice pv L cv) W2 hr2 ?_)
      simp only [AP]
      refine wpSeq_yield (S := fun _ => True) (yieldsIf_assign rfl _ rfl (.slice pv L cv) rfl) trivial ?_
      simp only [AP]
      refine wpSeq_nil ?_
      go_wp2
      exact ⟨⟨pv, _, cv, bs ++ [0], rfl, O2.out, pc2, bs8.out.append (Bytes.replicate 1 (by decide)), by omega, P.out.step b2.out, h1.out.below b2.out, h2.out.below b2.out⟩, by show 4 - (n + L) < 4 - (n + k); omega⟩
    · rw [padN_done n bs (by have := ek.out; omega)] at pc
      subst pc
      go_upto_region 4 with fail
      rename_i aK
      refine wp_region_seq ?_
      refine wpSeq_yield (S := fun _ => True) (yieldsIf_move rfl _ rfl (.int .i64 (n : Int)) rfl) trivial ?_
      simp only [AP]
      refine wpSeq_yield (S := fun _ => True) (yieldsIf_move rfl _ rfl (.slice p k cap) rfl) trivial ?_
      simp only [AP]
      refine wpSeq_yield (S := fun _ => True) (v := .int .i64 (k : Int)) (Or.inl ⟨by rfl, fun w' hw' => by go_simp⟩) trivial ?_
      simp only [AP]
      refine wpSeq_yield (S := fun _ => True) (v := .int .i64 ((n + k : Nat) : Int)) (Or.inl ⟨by rfl, fun w' hw' => by go_simp⟩) trivial ?_
      simp only [AP]
      refine wpSeq_yield (S := fun _ => True) (v := .bool false) (Or.inl ⟨by rfl, fun w' hw' => by (go_simp; try omega)⟩) trivial ?_
      simp only [AP]
      refine wpSeq_nil ?_
      refine (by assumption : ∀ (a : Act) (w : World), _ → _) _ _ ?_
      obtain ⟨pf, hpf⟩ : ∃ pf, putF sp to fr pn (n : Int) ((k + 16 : Nat) : Int) = pf := ⟨_, rfl⟩
      have z0 : IntKind.i64.wrap ((k : Int) + 16) = ((k + 16 : Nat) : Int) := by rw [IntKind.wrap_i64]; omega
      have RH := Lib.hid (show Calls Tryd.prog 33 #[.agg #[.int .i64 sp, .slice p1 m c1, .slice p2 n2 c2], .int .u64 (pn : Int), .int .i64 (n : Int), .int .i64 ((k + 16 : Nat) : Int)] wr _ from rhead_c sp to fr pn (n : Int) ((k + 16 : Nat) : Int) (.slice p1 m c1) (.slice p2 n2 c2) wr FT.out.1.1 FT.out.1.2 hp h1.out h2.out)
      unfold PutPost at RH
      have SG := HG.out
      unfold sealG at SG
      rw [HN.out, if_neg NO.out, HB.out, ← ek.out, hpf] at SG
      dsimp only at SG
      have OKF : pf.1 = 0 → 9 + n ≤ pf.2.length ∧ pf.2.length ≤ 40 ∧ Bytes pf.2 ∧ 1 ≤ n ∧ n ≤ 4 := fun h => by
        have := putF_ok sp to fr pn n (k + 16) FT.out.2.1 FT.out.2.2 (by rw [hpf]; exact h)
        rw [hpf] at this
        exact this
      rw [hpf] at RH
      obtain ⟨code, hd⟩ := pf
      dsimp only at RH SG OKF
      clear hpf
      replace OKF := Lib.hid OKF
      replace SG := Lib.hid SG
      go_upto_region 6 with fail
      rename_i aK
      refine wp_region_seq ?_
      refine wpSeq_yield (S := fun w' => w' = wr) (load_hdV rfl _ rfl (W.heap.size + 1) rfl sp _ _ wr (by rw [HH.out]; exact P.out.hd)) rfl ?_
      simp only [AP]
      refine wpSeq_yield (S := fun _ => True) (yieldsIf_move rfl _ rfl (.int .u64 (pn : Int)) rfl) trivial ?_
      simp only [AP]
      refine wpSeq_yield (S := fun _ => True) (yieldsIf_move rfl _ rfl (.int .i64 (n : Int)) rfl) trivial ?_
      simp only [AP]
      refine wpSeq_yield (S := fun _ => True) (yieldsIf_move rfl _ rfl (.slice p k cap) rfl) trivial ?_
      simp only [AP]
      refine wpSeq_yield (S := fun _ => True) (v := .int .i64 (k : Int)) (Or.inl ⟨by rfl, fun w' hw' => by go_simp⟩) trivial ?_
      simp only [AP]
      refine wpSeq_yield (S := fun _ => True) (v := .int .i64 ((k + 16 : Nat) : Int)) (Or.inl ⟨by rfl, fun w' hw' => by go_simp⟩) trivial ?_
      simp only [AP]
      refine wpSeq_wp rfl ?_
      unfold Oper.wp execOp
      go_simp
      refine RH.out.mono ?_
      rintro _ w5 ⟨v5, rfl, O5, b5⟩
      have PL := Lib.hid P.out.lt
      replace P := Lib.hid (P.out.step b5)
      replace S3 := Lib.hid (S3.out.below b5)
      obtain ⟨p5, c5, hv5⟩ := O5.shape
      subst hv5
      obtain ⟨B0, hB0⟩ : ∃ B0, wr.heap.size = B0 := ⟨_, rfl⟩
      rw [hB0] at O5
      have HBB := Lib.hid (show W.heap.size + 2 ≤ B0 ∧ B0 ≤ w5.heap.size by have := b5.size; have := PL.out; omega)
      clear b5 RH h1 h2 hB0
      go_simp
      refine wpSeq_yield (S := fun _ => True) (yieldsIf_move rfl _ rfl (.tuple #[.slice p5 hd.length c5, .int .i64 (code : Int)]) rfl) trivial ?_
      simp only [AP]
      refine wpSeq_yield (S := fun _ => True) (v := .slice p5 hd.length c5) (Or.inl ⟨by rfl, fun w' hw' => by go_simp⟩) trivial ?_
      simp only [AP]
      refine wpSeq_yield (S := fun _ => True) (v := .int .i64 (code : Int)) (Or.inl ⟨by rfl, fun w' hw' => by go_simp⟩) trivial ?_
      simp only [AP]
      refine wpSeq_yield (S := fun _ => True) (yieldsIf_assign rfl _ rfl (.slice p5 hd.length c5) rfl) trivial ?_
      simp only [AP]
      refine wpSeq_yield (S := fun _ => True) (yieldsIf_assign rfl _ rfl (.int .i64 (code : Int)) rfl) trivial ?_
      simp only [AP]
      refine wpSeq_nil ?_
      refine (by assumption : ∀ (a : Act) (w : World), _ → _) _ _ ?_
      obtain ⟨lh, hlh⟩ : ∃ lh, hd.length = lh := ⟨_, rfl⟩
      rw [hlh] at O5
      have L5 := Lib.hid (fun j e => O5.lt j e)
      have O5 := Lib.hid O5
      replace OKF := Lib.hid (show code = 0 → 9 + n ≤ lh ∧ lh ≤ 40 ∧ Bytes hd ∧ 1 ≤ n ∧ n ≤ 4 by rw [← hlh]; exact OKF.out)
      have HL := Lib.hid hlh
      clear f0 z0
      rw [hlh]
      clear hlh
      by_cases z : code ≠ 0
      · skip
        go_upto_region 7 with fail
        rename_i aK
        refine wp_region_seq ?_
        refine wpSeq_yield (S := fun _ => True) (yieldsIf_move rfl _ rfl (.int .i64 (code : Int)) rfl) trivial ?_
        simp only [AP]
        refine wpSeq_yield (S := fun _ => True) (v := .bool true) (Or.inl ⟨by rfl, fun w' hw' => by (go_simp; try omega)⟩) trivial ?_
        simp only [AP]
        refine wpSeq_nil ?_
        refine (by assumption : ∀ (a : Act) (w : World), _ → _) _ _ ?_
        go_upto_region 8 with fail
        rename_i aK
        refine wp_region_seq ?_
        refine wpSeq_yield (S := fun _ => True) (yieldsIf_move rfl _ rfl (.int .i64 (code : Int)) rfl) trivial ?_
        simp only [AP]
        refine wpSeq_yield (S := fun _ => True) (yieldsIf_assign rfl _ rfl (.slice none 0 0) rfl) trivial ?_
        simp only [AP]
        refine wpSeq_yield (S := fun _ => True) (yieldsIf_assign rfl _ rfl (.int .i64 (code : Int)) rfl) trivial ?_
        simp only [AP]
        refine wpSeq_nil ?_
        refine (by assumption : ∀ (a : Act) (w : World), _ → _) _ _ ?_
        go_wp2
        refine bodyPost_ret (results_tmp2 rfl _ _ _) rfl ?_
        have e : G = (code, []) := SG.out.symm.trans (if_pos z)
        subst e
        exact ⟨_, rfl, SB.nil _ _ _, P.out.bel⟩
      have z0 : code = 0 := Decidable.not_not.1 z
      clear z
      subst z0
      replace SG := Lib.hid (SG.out.symm.trans (if_neg (fun e => e rfl)))
      have OK := OKF.out rfl
      obtain ⟨a, ha⟩ : ∃ a, lh - n = a := ⟨_, rfl⟩
      have f0 : IntKind.i64.wrap ((lh : Int) - (n : Int)) = (a : Int) := by rw [IntKind.wrap_i64]; omega
      have AA := Lib.hid (show a + n = lh ∧ 9 ≤ a ∧ lh ≤ 40 ∧ Bytes hd ∧ 1 ≤ n ∧ n ≤ 4 ∧ lh - n = a by exact ⟨by omega, by omega, OK.2.1, OK.2.2.1, OK.2.2.2.1, OK.2.2.2.2, ha⟩)
      clear OK OKF ha
      go_upto_region 7 with fail
      rename_i aK
      refine wp_region_seq ?_
      refine wpSeq_yield (S := fun _ => True) (yieldsIf_move rfl _ rfl (.int .i64 ((0 : Nat) : Int)) rfl) trivial ?_
      simp only [AP]
      refine wpSeq_yield (S := fun _ => True) (v := .bool false) (Or.inl ⟨by rfl, fun w' hw' => by (go_simp; try omega)⟩) trivial ?_
      simp only [AP]
      refine wpSeq_nil ?_
      refine (by assumption : ∀ (a : Act) (w : World), _ → _) _ _ ?_
      go_upto_region 9 with fail
      rename_i aK
      refine wp_region_seq ?_
      refine wpSeq_yield (S := fun _ => True) (yieldsIf_move rfl _ rfl (.slice p5 lh c5) rfl) trivial ?_
      simp only [AP]
      refine wpSeq_yield (S := fun _ => True) (v := .int .i64 (lh : Int)) (Or.inl ⟨by rfl, fun w' hw' => by go_simp⟩) trivial ?_
      simp only [AP]
      refine wpSeq_yield (S := fun _ => True) (yieldsIf_move rfl _ rfl (.int .i64 (n : Int)) rfl) trivial ?_
      simp only [AP]
      refine wpSeq_yield (S := fun _ => True) (v := .int .i64 (a : Int)) (Or.inl ⟨by rfl, fun w' hw' => by go_simp⟩) trivial ?_
      simp only [AP]
      refine wpSeq_yield (S := fun _ => True) (yieldsIf_assign rfl _ rfl (.int .i64 (a : Int)) rfl) trivial ?_
      simp only [AP]
      refine wpSeq_nil ?_
      refine (by assumption : ∀ (a : Act) (w : World), _ → _) _ _ ?_
      go_upto_region 10 with fail
      rename_i aK
      refine wp_region_seq ?_
      refine wpSeq_wp rfl ?_
      unfold Oper.wp execOp
      go_simp
      refine (rbox_any _).mono ?_
      rintro _ w6 ⟨v6, rfl, O6, b6⟩
      replace P := Lib.hid (P.out.step b6)
      replace S3 := Lib.hid (S3.out.below b6)
      replace O5 := Lib.hid (O5.out.below b6)
      replace O6 := Lib.hid O6
      have Z5 := Lib.hid b6.size
      clear b6
      go_simp
      refine wpSeq_yield (S := fun _ => True) (yieldsIf_assign rfl _ rfl (v6) rfl) trivial ?_
      simp only [AP]
      refine wpSeq_nil ?_
      refine (by assumption : ∀ (a : Act) (w : World), _ → _) _ _ ?_
      go_upto_region 11 with fail
      rename_i aK
      refine wp_region_seq ?_
      refine wpSeq_yield (S := fun _ => True) (v := .pointer (some ⟨W.heap.size, 16, none⟩)) (Or.inl ⟨by rfl, fun w' hw' => by go_simp⟩) trivial ?_
      simp only [AP]
      refine wpSeq_yield (S := fun w' => w' = w6) (show YieldsIf _ _ _ _ (.agg (Iv .u8 (NI N))) _ from yieldsIf_load_mid (S := fun w' => w' = w6) rfl 28 _ rfl W.heap.size 16 rfl ((NI N).map (Value.int .u8)) _ (fun _ h => h ▸ (by have x := mid_range (A := K) (B := N) (C := Mk) (show Blk w6 W.heap.size 30 (Iv .u8 (NI (K ++ (N ++ Mk)))) by rw [HK.out]; exact P.out.ky); rw [LN.out.1.1] at x; exact x)) Tryd.underlying28 rfl (by rw [info_a12]; simp [NI, LN.out.1.2.1])) rfl ?_
      simp only [AP]
      refine wpSeq_wp rfl ?_
      unfold Oper.wp execOp
      go_simp
      refine wpSeq_store_row rfl 28 _ _ rfl (w6.heap.size) (Iv .u8 (NI N)) rfl rfl _ _ (Blk.new w6 _ _) (by rw [info_a12, Iv_size, NI_length, LN.out.1.2.1]) (by rw [Iv_size, NI_length, LN.out.1.2.1]; rfl) (u8s_one _) ?_
      simp only [Act.put]
      refine wpSeq_nil ?_
      refine (by assumption : ∀ (a : Act) (w : World), _ → _) _ _ ?_
      generalize hw7 : World.setRow _ w6.heap.size _ = w7
      have F7 : Blk w7 w6.heap.size 28 (Iv .u8 (NI N)) ∧ Below w6.heap.size w6 w7 := by
        rw [← hw7]
        exact one_row _ _ _ _
      clear hw7
      obtain ⟨N7, b7⟩ := F7
      rw [← nonK_zero N pn LN.out.1.2.1] at N7
      clear f0
      go_upto_region 12 with fail
      rename_i aK
      refine wp_region_seq ?_
      refine wpSeq_yield (S := fun _ => True) (v := .int .i64 0) (Or.inl ⟨by rfl, fun w' hw' => by go_simp⟩) trivial ?_
      simp only [AP]
      refine wpSeq_nil ?_
      refine (by assumption : ∀ (a : Act) (w : World), _ → _) _ _ ?_
      go_upto_region 13 with fail
      go_loopw [62] (fun t wr => ∃ j : Nat, j ≤ 8 ∧ t = .int .i64 (j : Int) ∧ Blk wr w6.heap.size 28 (Iv .u8 (NI (nonK N pn j))) ∧ Below w6.heap.size w6 wr) (fun t _ => (8 - intOf t).toNat)
      case atStart => exact ⟨0, by omega, rfl, N7, b7⟩
      case round =>
        clear N7 b7
        obtain ⟨j, j8, rfl, NB, bq⟩ := hrel
        by_cases jj : j = 8
        · subst jj
          rw [nonK_full] at NB
          replace NB := Lib.hid NB
          replace bq := Lib.hid bq
          go_upto_region 13 with fail
          rename_i aK
          refine wp_region_seq ?_
          refine wpSeq_yield (S := fun _ => True) (v := .bool false) (Or.inl ⟨by rfl, fun w' hw' => by (go_simp; try omega)⟩) trivial ?_
          simp only [AP]
          refine wpSeq_nil ?_
          refine (by assumption : ∀ (a : Act) (w : World), _ → _) _ _ ?_
          replace P := Lib.hid (P.out.step bq.out)
          replace S3 := Lib.hid (S3.out.below bq.out)
          replace O5 := Lib.hid (O5.out.below bq.out)
          replace O6 := Lib.hid (O6.out.below bq.out)
          replace Z5 := Lib.hid (Nat.le_trans Z5.out bq.out.size)
          clear bq
          obtain ⟨S, hS⟩ : ∃ S, sealL K (nonceN N pn) hd bs = S := ⟨_, rfl⟩
          have lS : S.length = k + 16 := by rw [← hS, sealL_length, ← ek.out]
          have LL := Lib.hid (show lh ≤ 1000 ∧ k ≤ 1000 ∧ S.length = k + 16 by have := AA.out; omega)
          have CS := Lib.hid (rseal_f K (nonceN N pn) hd bs LN.out.1.1 (nonceN_length _ _) LN.out.2.1 (nonceN_bytes LN.out.2.2.1 pn) AA.out.2.2.2.1 bs8.out v6 p5 p lh k c5 cap LL.out.1 LL.out.2.1 wr O6.out.sb O5.out.sb S3.out)
          rw [hS] at CS
          have HS0 := Lib.hid hS
          clear hS lS
          go_upto_region 17 with fail
          rename_i aK
          refine wp_region_seq ?_
          refine wpSeq_yield (S := fun _ => True) (yieldsIf_move rfl _ rfl (.slice p5 lh c5) rfl) trivial ?_
          simp only [AP]
          refine wpSeq_yield (S := fun _ => True) (yieldsIf_move rfl _ rfl (v6) rfl) trivial ?_
          simp only [AP]
          refine wpSeq_yield (S := fun _ => True) (v := .pointer (some ⟨W.heap.size, 0, none⟩)) (Or.inl ⟨by rfl, fun w' hw' => by go_simp⟩) trivial ?_
          simp only [AP]
          refine wpSeq_yield (S := fun w' => w' = wr) (show YieldsIf _ _ _ _ (.agg (Iv .u8 (NI K))) _ from yieldsIf_load_mid (S := fun w' => w' = wr) rfl 27 _ rfl W.heap.size 0 rfl ((NI K).map (Value.int .u8)) _ (fun _ h => h ▸ (mid_range (A := []) (B := K) (C := N ++ Mk) (show Blk wr W.heap.size 30 (Iv .u8 (NI (K ++ (N ++ Mk)))) by rw [HK.out]; exact P.out.ky))) Tryd.underlying27 rfl (by rw [info_ab]; simp [NI, LN.out.1.1])) rfl ?_
          simp only [AP]
          refine wpSeq_yield (S := fun w' => w' = wr) (show YieldsIf _ _ _ _ (.agg (Iv .u8 (NI (nonceN N pn)))) _ from yieldsIf_row_wanted (S := fun w' => w' = wr) rfl 28 _ rfl w6.heap.size rfl 28 _ _ (fun _ h => h ▸ NB.out) Tryd.underlying28 rfl (by rw [info_a12, Iv_size, NI_length, nonceN_length])) rfl ?_
          simp only [AP]
          refine wpSeq_yield (S := fun _ => True) (yieldsIf_move rfl _ rfl (.slice p5 lh c5) rfl) trivial ?_
          simp only [AP]
          refine wpSeq_yield (S := fun _ => True) (yieldsIf_move rfl _ rfl (.slice p k cap) rfl) trivial ?_
          simp only [AP]
          refine wpSeq_wp rfl ?_
          unfold Oper.wp execOp
          go_simp
          refine CS.out.mono ?_
          rintro _ w8 ⟨v8, rfl, O8, b8⟩
          replace P := Lib.hid (P.out.step b8)
          replace O5 := Lib.hid (O5.out.below b8)
          replace O6 := Lib.hid (O6.out.below b8)
          replace Z5 := Lib.hid (Nat.le_trans Z5.out b8.size)
          obtain ⟨v9, W9, hr9, O9, g9, _⟩ := append_sb B0 w8 24 (.slice p5 lh c5) v8 hd S O5.out O8.sb (by have := LL.out; have := HL.out; omega) (by have := HBB.out; have := Z5.out; omega)
          clear b8 CS S3 NB O8
          go_simp
          refine wpSeq_wp rfl (wp_append_run _ _ _ _ rfl _ _ rfl rfl v9 W9 hr9 ?_)
          simp only [AP]
          refine wpSeq_yield (S := fun _ => True) (yieldsIf_assign rfl _ rfl (v9) rfl) trivial ?_
          simp only [AP]
          refine wpSeq_nil ?_
          refine (by assumption : ∀ (a : Act) (w : World), _ → _) _ _ ?_
          obtain ⟨X, hX⟩ : ∃ X, hd ++ S = X := ⟨_, rfl⟩
          rw [hX] at O9
          obtain ⟨lx, hlx⟩ : ∃ lx, X.length = lx := ⟨_, rfl⟩
          have lX : lx = lh + (k + 16) := by rw [← hlx, ← hX, List.length_append, HL.out, LL.out.2.2]
          have bX : Bytes X := by rw [← hX, ← HS0.out]; exact AA.out.2.2.2.1.append (sealL_bytes LN.out.2.1 (nonceN_bytes LN.out.2.2.1 pn) bs8.out (by rw [← ek.out]; omega))
          replace P := Lib.hid (P.out.grow g9 (fun j e => by have := (L5.out j e).1; have := HBB.out; omega))
          replace O6 := Lib.hid (O6.out.of_block fun j e => g9.block j (O6.out.lt j e).2 (fun e2 => by have := (L5.out j e2.symm).2; have := (O6.out.lt j e).1; omega))
          rcases O9.row with ⟨_, e⟩ | ⟨g, cx, hv9, lg, lc, _, A9, _⟩
          · have : X.length = 0 := by rw [e]; rfl
            have := AA.out
            omega
          rw [hlx] at hv9 lc
          subst hv9
          have LX := Lib.hid (show a + 20 ≤ lx ∧ lx = lh + (k + 16) ∧ lx ≤ cx ∧ B0 ≤ g ∧ g < W9.heap.size ∧ X.length = lx by have := AA.out; exact ⟨by omega, lX, lc, lg, A9.blk, hlx⟩)
          replace bX := Lib.hid bX
          replace O9 := Lib.hid O9
          have RG := A9.smp_range a (by rw [hlx]; exact LX.out.1)
          obtain ⟨M, hM⟩ : ∃ M, maskN Mk a X = M := ⟨_, rfl⟩
          have s16 := smpN_length a X (by rw [hlx]; exact LX.out.1)
          have b16 : Bytes (smpN a X) := fun x hx => bX.out x (List.mem_of_mem_drop (List.mem_of_mem_take hx))
          have EC := Lib.hid (fun w (h : SB w v6 boxL) => rencrypt_any w v6 h Mk (smpN a X) LN.out.1.2.2 s16 LN.out.2.2.2 b16)
          rw [show encL boxL Mk (smpN a X) = M from hM] at EC
          have HM := Lib.hid hM
          have M16 : M.length = 16 := by rw [← hM]; exact blockF_length _ _ _ _
          have M8 : Bytes M := by rw [← hM]; exact blockF_bytes (keysF_bytes boxL_bytes LN.out.2.2.2 40) b16 10
          replace M8 := Lib.hid M8
          have rs := Lib.hid (show ((NI (smpN a X)).map (Value.int .u8)).length = 16 by simp [NI, s16])
          have HX := Lib.hid hX
          clear hX hlx lX g9 lg lc A9 b16 s16 hM hr9
          go_upto_region 18 with fail
          rename_i KK aK
          have AK : ∀ (gm : Nat) (w' : World), W9.heap.size ≤ gm → Blk w' gm 26 (Iv .u8 (NI M)) → Below W9.heap.size W9 w' → KK { tmps := #[.agg KC, .agg HC, .int .u64 (pn : Int), .int .u64 (acked : Int), .slice p k cap, .pointer (some ⟨W.heap.size, 0, none⟩), .pointer (some ⟨W.heap.size + 1, 0, none⟩), undef, undef, undef, .slice none 0 0, .int .i64 0, .int .i64 (n : Int), .slice (some ⟨g, 0, none⟩) lx cx, .int .i64 ((0 : Nat) : Int), .int .i64 (a : Int), v6, .pointer (some ⟨w6.heap.size, 0, none⟩), u18, .pointer (some ⟨gm, 0, none⟩), undef, undef, .int .u64 (pn : Int), .bool false, .bool false, .int .u64 (acked : Int), .int .u64 (pn : Int), .bool false, .bool false, .int .u64 (pn : Int), .int .u64 (acked : Int), .int .i64 (n : Int), .int .i64 (n : Int), .slice p k cap, .int .i64 (k : Int), .int .i64 ((n + k : Nat) : Int), .bool false, u37, u38, u39, u40, u41, .tuple #[.slice p5 lh c5, .int .i64 ((0 : Nat) : Int)], .agg #[.int .i64 sp, .slice p1 m c1, .slice p2 n2 c2], .int .u64 (pn : Int), .int .i64 (n : Int), .slice p k cap, .int .i64 (k : Int), .int .i64 ((k + 16 : Nat) : Int), .tuple #[.slice p5 lh c5, .int .i64 ((0 : Nat) : Int)], .slice p5 lh c5, .int .i64 ((0 : Nat) : Int), .int .i64 ((0 : Nat) : Int), .bool false, undef, .slice p5 lh c5, .int .i64 (lh : Int), .int .i64 (n : Int), .int .i64 (a : Int), v6, .pointer (some ⟨W.heap.size, 16, none⟩), .agg (Iv .u8 (NI N)), .int .i64 ((8 : Nat) : Int), .bool false, u64, u65, u66, u67, u68, u69, u70, u71, u72, u73, u74, u75, u76, .slice p5 lh c5, v6, .pointer (some ⟨W.heap.size, 0, none⟩), .agg (Iv .u8 (NI K)), .agg (Iv .u8 (NI (nonceN N pn))), .slice p5 lh c5, .slice p k cap, v8, .slice (some ⟨g, 0, none⟩) lx cx, v6, .pointer (some ⟨W.heap.size, 28, none⟩), .agg (Iv .u8 (NI Mk)), .slice (some ⟨g, 0, none⟩) lx cx, .int .i64 (a : Int), .int .i64 ((a + 4 : Nat) : Int), .int .i64 (a : Int), .int .i64 ((a + 20 : Nat) : Int), .slice (some ⟨g, a + 4, none⟩) 16 (cx - (a + 4)), .pointer (some ⟨g, a + 4, none⟩), .agg (Iv .u8 (NI (smpN a X))), .agg (Iv .u8 (NI M)), undef, undef, undef, undef, undef, undef, undef, undef, undef, undef, undef, undef, undef, undef, undef, undef, undef, undef, undef, undef, undef, undef, undef, undef, undef, undef, undef, undef, undef, undef], defers := [] } w' := by
            intro gm w11 lgm MB b11
            refine aK _ _ ?_
            clear aK EC RG rs O6
            replace P := Lib.hid (P.out.step b11)
            replace O9 := Lib.hid (O9.out.below b11)
            replace MB := Lib.hid MB
            have NG := Lib.hid (show gm ≠ g ∧ W.heap.size + 2 ≤ g by have := LX.out; have := HBB.out; omega)
            clear b11 lgm
            go_upto_region 19 with fail
            rename_i aK
            refine wp_region_seq ?_
            refine wpSeq_yield (S := fun _ => True) (yieldsIf_assign rfl _ rfl (.int .u8 15) rfl) trivial ?_
            simp only [AP]
            refine wpSeq_nil ?_
            refine (by assumption : ∀ (a : Act) (w : World), _ → _) _ _ ?_
            have y0 : w11.cell? ⟨W.heap.size + 1, 0, none⟩ = some (.int .i64 sp) := by
              have x := P.out.hd
              rw [← HH.out] at x
              exact x.cell 0
            by_cases s2 : sp = 2
            · skip
              go_upto_region 20 with fail
              rename_i aK
              refine wp_region_seq ?_
              refine wpSeq_yield (S := fun _ => True) (v := .pointer (some ⟨W.heap.size + 1, 0, none⟩)) (Or.inl ⟨by rfl, fun w' hw' => by go_simp⟩) trivial ?_
              simp only [AP]
              refine wpSeq_yield (S := fun w' => w' = w11) (v := .int .i64 sp) (Or.inl ⟨by rfl, fun w' hw' => by (rw [hw']; go_simp)⟩) rfl ?_
              simp only [AP]
              refine wpSeq_yield (S := fun _ => True) (v := .bool true) (Or.inl ⟨by rfl, fun w' hw' => by (go_simp; try omega)⟩) trivial ?_
              simp only [AP]
              refine wpSeq_nil ?_
              refine (by assumption : ∀ (a : Act) (w : World), _ → _) _ _ ?_
              go_upto_region 21 with fail
              rename_i aK
              refine wp_region_seq ?_
              refine wpSeq_yield (S := fun _ => True) (yieldsIf_assign rfl _ rfl (.int .u8 31) rfl) trivial ?_
              simp only [AP]
              refine wpSeq_nil ?_
              refine (by assumption : ∀ (a : Act) (w : World), _ → _) _ _ ?_
              clear y0
              obtain ⟨x0, hx0⟩ : ∃ x0, X.getD 0 0 = x0 := ⟨_, rfl⟩
              obtain ⟨m0, hm0⟩ : ∃ m0, M.getD 0 0 = m0 := ⟨_, rfl⟩
              have x8 : x0 < 256 := by rw [← hx0]; exact getD_bytes bX.out 0
              have m8 : m0 < 256 := by rw [← hm0]; exact getD_bytes M8.out 0
              have f1 : bits BinOp.and IntKind.u8 (m0 : Int) 31 = ((m0 &&& 31 : Nat) : Int) := and_low m0 31 m8 (by omega)
              obtain ⟨f, hf⟩ : ∃ f, x0 ^^^ (m0 &&& 31) = f := ⟨_, rfl⟩
              have f2 : bits BinOp.xor IntKind.u8 (x0 : Int) ((m0 &&& 31 : Nat) : Int) = (f : Int) := by rw [xor_u8 _ _ x8 (Nat.lt_of_le_of_lt Nat.and_le_left m8), hf]
              have HZ := hidN_zero M a 31 X (by have := LX.out; omega)
              rw [hx0, hm0, hf] at HZ
              have lx0 : 0 < lx := by have := LX.out; omega
              have bd := below_drew (Below.refl w11.heap.size w11)
              have P2 := P.out.step bd
              have O2 := O9.out.below bd
              have MB2 := MB.out.below' bd
              clear bd P O9 MB x8 m8 hf
              have cx0 := (O2.at_cell 0 (by rw [LX.out.2.2.2.2.2]; exact lx0)).1
              have fx0 := (O2.at_cell 0 (by rw [LX.out.2.2.2.2.2]; exact lx0)).2
              rw [hx0] at cx0
              have cm0 := cell_list MB2 0 m0 (by rw [M16]; decide) hm0
              go_upto_region 22 with fail
              rename_i aK
              refine wp_region_Z (S := fun w' => w'.cell? ⟨g, 0, none⟩ = some (.int .u8 (x0 : Int)) ∧ w'.cell? ⟨gm, 0, none⟩ = some (.int .u8 (m0 : Int))) 9 (by kernel_rfl) ?_
              generalize World.drew w11 = w12 at *
              have hS := And.intro cx0 cm0
              refine wpAnyZ_takeL 0 (v := .slice (some ⟨g, 0, none⟩) lx cx) rfl (by kernel_rfl) (by kernel_rfl) (by kernel_rfl) (by kernel_rfl) (by kernel_rfl) (fun _ _ _ H => H) (yieldsIf_move rfl _ rfl (.slice (some ⟨g, 0, none⟩) lx cx) rfl) hS ?_
              simp only [AP]
              refine wpAnyZ_takeL 1 (v := .pointer (some ⟨g, 0, none⟩)) rfl (by kernel_rfl) (by kernel_rfl) (by kernel_rfl) (by kernel_rfl) (by kernel_rfl) (fun _ _ _ H => H) (Or.inl ⟨by rfl, fun w' hw' => by (go_simp; try omega)⟩) hS ?_
              simp only [AP]
              refine wpAnyZ_takeL 2 (v := .int .u8 (x0 : Int)) rfl (by kernel_rfl) (by kernel_rfl) (by kernel_rfl) (by kernel_rfl) (by kernel_rfl) (fun _ _ _ H => H) (Or.inl ⟨by rfl, fun w' hw' => by (have cc := hw'.1; go_simp)⟩) hS ?_
              simp only [AP]
              refine wpAnyZ_takeL 3 (v := .pointer (some ⟨gm, 0, none⟩)) rfl (by kernel_rfl) (by kernel_rfl) (by kernel_rfl) (by kernel_rfl) (by kernel_rfl) (fun _ _ _ H => H) (Or.inl ⟨by rfl, fun w' hw' => by (go_simp; try omega)⟩) hS ?_
              simp only [AP]
              refine wpAnyZ_takeL 4 (v := .int .u8 (m0 : Int)) rfl (by kernel_rfl) (by kernel_rfl) (by kernel_rfl) (by kernel_rfl) (by kernel_rfl) (fun _ _ _ H => H) (Or.inl ⟨by rfl, fun w' hw' => by (have cc := hw'.2; go_simp)⟩) hS ?_
              simp only [AP]
              refine wpAnyZ_takeL 5 (v := .int .u8 31) rfl (by kernel_rfl) (by kernel_rfl) (by kernel_rfl) (by kernel_rfl) (by kernel_rfl) (fun _ _ _ H => H) (yieldsIf_move rfl _ rfl (.int .u8 31) rfl) hS ?_
              simp only [AP]
              refine wpAnyZ_takeL 6 (v := .int .u8 ((m0 &&& 31 : Nat) : Int)) rfl (by kernel_rfl) (by kernel_rfl) (by kernel_rfl) (by kernel_rfl) (by kernel_rfl) (fun _ _ _ H => H) (Or.inl ⟨by rfl, fun w' hw' => by go_simp⟩) hS ?_
              simp only [AP]
              refine wpAnyZ_takeL 7 (v := .int .u8 (f : Int)) rfl (by kernel_rfl) (by kernel_rfl) (by kernel_rfl) (by kernel_rfl) (by kernel_rfl) (fun _ _ _ H => H) (Or.inl ⟨by rfl, fun w' hw' => by go_simp⟩) hS ?_
              simp only [AP]
              refine wpAnyZ_takeL 8 (v := .pointer (some ⟨g, 0, none⟩)) rfl (by kernel_rfl) (by kernel_rfl) (by kernel_rfl) (by kernel_rfl) (by kernel_rfl) (fun _ _ _ H => H) (Or.inl ⟨by rfl, fun w' hw' => by (go_simp; try omega)⟩) hS ?_
              simp only [AP]
              refine hzstep 9 rfl (by kernel_rfl) rfl ?_
              unfold Oper.wp execOp
              go_simp
              refine wpAnyZ_done (by kernel_rfl) ?_ _
              refine (by assumption : ∀ (a : Act) (w : World), _ → _) _ _ ?_
              have O3 := O2.put 0 f
              rw [← HZ] at O3
              replace O3 := Lib.hid O3
              have P3 := Lib.hid (P2.grow (gb_cell1 w12 g 0 (.int .u8 (f : Int))) (fun j e => by have := Option.some.inj e; have := NG.out; omega))
              have MB3 := Lib.hid (MB2.far (p := ⟨g, 0, none⟩) NG.out.1 (.int .u8 (f : Int)))
              clear O2 P2 MB2 HZ f1 f2 cx0 fx0 cm0 hS hx0 hm0 aK
              generalize World.setCell w12 _ _ = w13 at *
              go_upto_region 23 with fail
              rename_i aK
              refine wp_region_seq ?_
              refine wpSeq_yield (S := fun _ => True) (v := .int .i64 (n : Int)) (Or.inl ⟨by rfl, fun w' hw' => by go_simp⟩) trivial ?_
              simp only [AP]
              refine wpSeq_yield (S := fun _ => True) (v := .int .i64 0) (Or.inl ⟨by rfl, fun w' hw' => by go_simp⟩) trivial ?_
              simp only [AP]
              refine wpSeq_nil ?_
              refine (by assumption : ∀ (a : Act) (w : World), _ → _) _ _ ?_
              go_upto_region 24 with fail
              go_loopw [111] (fun t wr => ∃ j : Nat, j ≤ n ∧ t = .int .i64 (j : Int) ∧ OwL B0 wr (.slice (some ⟨g, 0, none⟩) lx cx) (hidN M a j 31 X) ∧ PkV W KC HC wr ∧ Blk wr gm 26 (Iv .u8 (NI M))) (fun t _ => (n - intOf t).toNat)
              case atStart => exact ⟨0, by omega, rfl, O3.out, P3.out, MB3.out⟩
              case round =>
                clear O3 P3 MB3
                obtain ⟨j, jn, rfl, O3, P3, MB3⟩ := hrel
                by_cases jj : j = n
                · subst jj
                  go_upto_region 24 with fail
                  rename_i aK
                  refine wp_region_seq ?_
                  refine wpSeq_yield (S := fun _ => True) (v := .bool false) (Or.inl ⟨by rfl, fun w' hw' => by (go_simp; try omega)⟩) trivial ?_
                  simp only [AP]
                  refine wpSeq_nil ?_
                  refine (by assumption : ∀ (a : Act) (w : World), _ → _) _ _ ?_
                  go_upto_region 28 with fail
                  rename_i aK
                  refine wp_region_seq ?_
                  refine wpSeq_yield (S := fun _ => True) (yieldsIf_move rfl _ rfl (.slice (some ⟨g, 0, none⟩) lx cx) rfl) trivial ?_
                  simp only [AP]
                  refine wpSeq_yield (S := fun _ => True) (yieldsIf_assign rfl _ rfl (.slice (some ⟨g, 0, none⟩) lx cx) rfl) trivial ?_
                  simp only [AP]
                  refine wpSeq_yield (S := fun _ => True) (yieldsIf_assign rfl _ rfl (.int .i64 0) rfl) trivial ?_
                  simp only [AP]
                  refine wpSeq_nil ?_
                  refine (by assumption : ∀ (a : Act) (w : World), _ → _) _ _ ?_
                  go_wp2
                  refine bodyPost_ret (results_tmp2 rfl _ _ _) rfl ?_
                  have e : G = (0, hidN M a j 31 X) := by
                    have s := SG.out
                    rw [HL.out, AA.out.2.2.2.2.2.2, HS0.out, HX.out, HM.out, if_pos s2] at s
                    exact s
                  subst e
                  exact ⟨_, rfl, O3.sb, P3.bel⟩
                · have jl : j < n := by omega
                  obtain ⟨i, hi⟩ : ∃ i, a + j = i := ⟨_, rfl⟩
                  obtain ⟨i2, hi2⟩ : ∃ i2, 1 + j = i2 := ⟨_, rfl⟩
                  have aj : a + j < X.length := by have := AA.out; have := LX.out; omega
                  have HS := hidN_succ M a j 31 X (by have := AA.out; omega) aj
                  have HA := hidN_at M a j 31 X (by have := AA.out; omega) aj
                  rw [hi] at HS HA aj
                  rw [hi2] at HS
                  obtain ⟨x0, hx0⟩ : ∃ x0, X.getD i 0 = x0 := ⟨_, rfl⟩
                  obtain ⟨m0, hm0⟩ : ∃ m0, M.getD i2 0 = m0 := ⟨_, rfl⟩
                  rw [hx0] at HS HA
                  rw [hm0] at HS
                  have f1 : IntKind.i64.wrap ((a : Int) + (j : Int)) = (i : Int) := by rw [IntKind.wrap_i64]; have := AA.out; omega
                  have f2 : IntKind.i64.wrap (1 + (j : Int)) = (i2 : Int) := by rw [IntKind.wrap_i64]; have := AA.out; omega
                  have x8 : x0 < 256 := by rw [← hx0]; exact getD_bytes bX.out i
                  have m8 : m0 < 256 := by rw [← hm0]; exact getD_bytes M8.out i2
                  have f3 : bits BinOp.xor IntKind.u8 (x0 : Int) (m0 : Int) = ((x0 ^^^ m0 : Nat) : Int) := xor_u8 _ _ x8 m8
                  have f4 : IntKind.i64.wrap ((j : Int) + 1) = ((j + 1 : Nat) : Int) := by rw [IntKind.wrap_i64]; have := AA.out; omega
                  have il : i < lx := by have := LX.out; omega
                  have il2 : i2 < 16 := by have := AA.out; omega
                  have bd := below_drew (Below.refl wr.heap.size wr)
                  have P2 := P3.step bd
                  have O2 := O3.below bd
                  have MB2 := MB3.below' bd
                  clear bd P3 O3 MB3 hx0 jj
                  have cx0 := (O2.at_cell i (by rw [hidN_length]; exact aj)).1
                  have fx0 := (O2.at_cell i (by rw [hidN_length]; exact aj)).2
                  rw [HA] at cx0
                  have cm0 := cell_list MB2 i2 m0 (by rw [M16]; exact il2) hm0
                  have f5 := Lib.hid f4
                  clear f4 HA hm0 aj hi hi2
                  go_upto_region 24 with fail
                  rename_i aK
                  refine wp_region_seq ?_
                  refine wpSeq_yield (S := fun _ => True) (v := .bool true) (Or.inl ⟨by rfl, fun w' hw' => by (go_simp; try omega)⟩) trivial ?_
                  simp only [AP]
                  refine wpSeq_nil ?_
                  refine (by assumption : ∀ (a : Act) (w : World), _ → _) _ _ ?_
                  go_upto_region 25 with fail
                  rename_i aK
                  refine wp_region_seq ?_
                  refine wpSeq_yield (S := fun _ => True) (yieldsIf_move rfl _ rfl (.int .i64 (j : Int)) rfl) trivial ?_
                  simp only [AP]
                  refine wpSeq_yield (S := fun _ => True) (yieldsIf_assign rfl _ rfl (.int .i64 (j : Int)) rfl) trivial ?_
                  simp only [AP]
                  refine wpSeq_nil ?_
                  refine (by assumption : ∀ (a : Act) (w : World), _ → _) _ _ ?_
                  go_upto_region 26 with fail
                  rename_i aK
                  refine wp_region_Z (S := fun w' => w'.cell? ⟨g, i, none⟩ = some (.int .u8 (x0 : Int)) ∧ w'.cell? ⟨gm, i2, none⟩ = some (.int .u8 (m0 : Int))) 12 (by kernel_rfl) ?_
                  generalize World.drew wr = w14 at *
                  have hS := And.intro cx0 cm0
                  refine wpAnyZ_takeL 0 (v := .slice (some ⟨g, 0, none⟩) lx cx) rfl (by kernel_rfl) (by kernel_rfl) (by kernel_rfl) (by kernel_rfl) (by kernel_rfl) (fun _ _ _ H => H) (yieldsIf_move rfl _ rfl (.slice (some ⟨g, 0, none⟩) lx cx) rfl) hS ?_
                  simp only [AP]
                  refine wpAnyZ_takeL 1 (v := .int .i64 (a : Int)) rfl (by kernel_rfl) (by kernel_rfl) (by kernel_rfl) (by kernel_rfl) (by kernel_rfl) (fun _ _ _ H => H) (yieldsIf_move rfl _ rfl (.int .i64 (a : Int)) rfl) hS ?_
                  simp only [AP]
                  refine wpAnyZ_takeL 2 (v := .int .i64 (j : Int)) rfl (by kernel_rfl) (by kernel_rfl) (by kernel_rfl) (by kernel_rfl) (by kernel_rfl) (fun _ _ _ H => H) (yieldsIf_move rfl _ rfl (.int .i64 (j : Int)) rfl) hS ?_
                  simp only [AP]
                  refine wpAnyZ_takeL 3 (v := .int .i64 (i : Int)) rfl (by kernel_rfl) (by kernel_rfl) (by kernel_rfl) (by kernel_rfl) (by kernel_rfl) (fun _ _ _ H => H) (Or.inl ⟨by rfl, fun w' hw' => by go_simp⟩) hS ?_
                  simp only [AP]
                  refine wpAnyZ_takeL 4 (v := .pointer (some ⟨g, i, none⟩)) rfl (by kernel_rfl) (by kernel_rfl) (by kernel_rfl) (by kernel_rfl) (by kernel_rfl) (fun _ _ _ H => H) (Or.inl ⟨by rfl, fun w' hw' => by (go_simp; try omega)⟩) hS ?_
                  simp only [AP]
                  refine wpAnyZ_takeL 5 (v := .int .u8 (x0 : Int)) rfl (by kernel_rfl) (by kernel_rfl) (by kernel_rfl) (by kernel_rfl) (by kernel_rfl) (fun _ _ _ H => H) (Or.inl ⟨by rfl, fun w' hw' => by (have cc := hw'.1; go_simp)⟩) hS ?_
                  simp only [AP]
                  refine wpAnyZ_takeL 6 (v := .int .i64 (j : Int)) rfl (by kernel_rfl) (by kernel_rfl) (by kernel_rfl) (by kernel_rfl) (by kernel_rfl) (fun _ _ _ H => H) (yieldsIf_move rfl _ rfl (.int .i64 (j : Int)) rfl) hS ?_
                  simp only [AP]
                  refine wpAnyZ_takeL 7 (v := .int .i64 (i2 : Int)) rfl (by kernel_rfl) (by kernel_rfl) (by kernel_rfl) (by kernel_rfl) (by kernel_rfl) (fun _ _ _ H => H) (Or.inl ⟨by rfl, fun w' hw' => by go_simp⟩) hS ?_
                  simp only [AP]
                  refine wpAnyZ_takeL 8 (v := .pointer (some ⟨gm, i2, none⟩)) rfl (by kernel_rfl) (by kernel_rfl) (by kernel_rfl) (by kernel_rfl) (by kernel_rfl) (fun _ _ _ H => H) (Or.inl ⟨by rfl, fun w' hw' => by (go_simp; try omega)⟩) hS ?_
                  simp only [AP]
                  refine wpAnyZ_takeL 9 (v := .int .u8 (m0 : Int)) rfl (by kernel_rfl) (by kernel_rfl) (by kernel_rfl) (by kernel_rfl) (by kernel_rfl) (fun _ _ _ H => H) (Or.inl ⟨by rfl, fun w' hw' => by (have cc := hw'.2; go_simp)⟩) hS ?_
                  simp only [AP]
                  refine wpAnyZ_takeL 10 (v := .int .u8 ((x0 ^^^ m0 : Nat) : Int)) rfl (by kernel_rfl) (by kernel_rfl) (by kernel_rfl) (by kernel_rfl) (by kernel_rfl) (fun _ _ _ H => H) (Or.inl ⟨by rfl, fun w' hw' => by go_simp⟩) hS ?_
                  simp only [AP]
                  refine wpAnyZ_takeL 11 (v := .pointer (some ⟨g, i, none⟩)) rfl (by kernel_rfl) (by kernel_rfl) (by kernel_rfl) (by kernel_rfl) (by kernel_rfl) (fun _ _ _ H => H) (Or.inl ⟨by rfl, fun w' hw' => by (go_simp; try omega)⟩) hS ?_
                  simp only [AP]
                  refine hzstep 12 rfl (by kernel_rfl) rfl ?_
                  unfold Oper.wp execOp
                  go_simp
                  refine wpAnyZ_done (by kernel_rfl) ?_ _
                  refine (by assumption : ∀ (a : Act) (w : World), _ → _) _ _ ?_
                  have O3 := O2.put i (x0 ^^^ m0)
                  rw [← HS] at O3
                  have P3 := P2.grow (gb_cell1 w14 g i (.int .u8 ((x0 ^^^ m0 : Nat) : Int))) (fun j e => by have := Option.some.inj e; have := NG.out; omega)
                  have MB3 := MB2.far (p := ⟨g, i, none⟩) NG.out.1 (.int .u8 ((x0 ^^^ m0 : Nat) : Int))
                  have f4 := f5.out
                  clear O2 P2 MB2 HS f1 f2 f3 f5 cx0 fx0 cm0 hS x8 m8 il il2 aK
                  generalize World.setCell w14 _ _ = w15 at *
                  go_wp2
                  exact ⟨⟨j + 1, by omega, rfl, O3, P3, MB3⟩, by simp only [intOf]; omega⟩
            · skip
              go_upto_region 20 with fail
              rename_i aK
              refine wp_region_seq ?_
              refine wpSeq_yield (S := fun _ => True) (v := .pointer (some ⟨W.heap.size + 1, 0, none⟩)) (Or.inl ⟨by rfl, fun w' hw' => by go_simp⟩) trivial ?_
              simp only [AP]
              refine wpSeq_yield (S := fun w' => w' = w11) (v := .int .i64 sp) (Or.inl ⟨by rfl, fun w' hw' => by (rw [hw']; go_simp)⟩) rfl ?_
              simp only [AP]
              refine wpSeq_yield (S := fun _ => True) (v := .bool false) (Or.inl ⟨by rfl, fun w' hw' => by (go_simp; try omega)⟩) trivial ?_
              simp only [AP]
              refine wpSeq_nil ?_
              refine (by assumption : ∀ (a : Act) (w : World), _ → _) _ _ ?_
              clear y0
              obtain ⟨x0, hx0⟩ : ∃ x0, X.getD 0 0 = x0 := ⟨_, rfl⟩
              obtain ⟨m0, hm0⟩ : ∃ m0, M.getD 0 0 = m0 := ⟨_, rfl⟩
              have x8 : x0 < 256 := by rw [← hx0]; exact getD_bytes bX.out 0
              have m8 : m0 < 256 := by rw [← hm0]; exact getD_bytes M8.out 0
              have f1 : bits BinOp.and IntKind.u8 (m0 : Int) 15 = ((m0 &&& 15 : Nat) : Int) := and_low m0 15 m8 (by omega)
              obtain ⟨f, hf⟩ : ∃ f, x0 ^^^ (m0 &&& 15) = f := ⟨_, rfl⟩
              have f2 : bits BinOp.xor IntKind.u8 (x0 : Int) ((m0 &&& 15 : Nat) : Int) = (f : Int) := by rw [xor_u8 _ _ x8 (Nat.lt_of_le_of_lt Nat.and_le_left m8), hf]
              have HZ := hidN_zero M a 15 X (by have := LX.out; omega)
              rw [hx0, hm0, hf] at HZ
              have lx0 : 0 < lx := by have := LX.out; omega
              have bd := below_drew (Below.refl w11.heap.size w11)
              have P2 := P.out.step bd
              have O2 := O9.out.below bd
              have MB2 := MB.out.below' bd
              clear bd P O9 MB x8 m8 hf
              have cx0 := (O2.at_cell 0 (by rw [LX.out.2.2.2.2.2]; exact lx0)).1
              have fx0 := (O2.at_cell 0 (by rw [LX.out.2.2.2.2.2]; exact lx0)).2
              rw [hx0] at cx0
              have cm0 := cell_list MB2 0 m0 (by rw [M16]; decide) hm0
              go_upto_region 22 with fail
              rename_i aK
              refine wp_region_Z (S := fun w' => w'.cell? ⟨g, 0, none⟩ = some (.int .u8 (x0 : Int)) ∧ w'.cell? ⟨gm, 0, none⟩ = some (.int .u8 (m0 : Int))) 9 (by kernel_rfl) ?_
              generalize World.drew w11 = w12 at *
              have hS := And.intro cx0 cm0
              refine wpAnyZ_takeL 0 (v := .slice (some ⟨g, 0, none⟩) lx cx) rfl (by kernel_rfl) (by kernel_rfl) (by kernel_rfl) (by kernel_rfl) (by kernel_rfl) (fun _ _ _ H => H) (yieldsIf_move rfl _ rfl (.slice (some ⟨g, 0, none⟩) lx cx) rfl) hS ?_
              simp only [AP]
              refine wpAnyZ_takeL 1 (v := .pointer (some ⟨g, 0, none⟩)) rfl (by kernel_rfl) (by kernel_rfl) (by kernel_rfl) (by kernel_rfl) (by kernel_rfl) (fun _ _ _ H => H) (Or.inl ⟨by rfl, fun w' hw' => by (go_simp; try omega)⟩) hS ?_
              simp only [AP]
              refine wpAnyZ_takeL 2 (v := .int .u8 (x0 : Int)) rfl (by kernel_rfl) (by kernel_rfl) (by kernel_rfl) (by kernel_rfl) (by kernel_rfl) (fun _ _ _ H => H) (Or.inl ⟨by rfl, fun w' hw' => by (have cc := hw'.1; go_simp)⟩) hS ?_
              simp only [AP]
              refine wpAnyZ_takeL 3 (v := .pointer (some ⟨gm, 0, none⟩)) rfl (by kernel_rfl) (by kernel_rfl) (by kernel_rfl) (by kernel_rfl) (by kernel_rfl) (fun _ _ _ H => H) (Or.inl ⟨by rfl, fun w' hw' => by (go_simp; try omega)⟩) hS ?_
              simp only [AP]
              refine wpAnyZ_takeL 4 (v := .int .u8 (m0 : Int)) rfl (by kernel_rfl) (by kernel_rfl) (by kernel_rfl) (by kernel_rfl) (by kernel_rfl) (fun _ _ _ H => H) (Or.inl ⟨by rfl, fun w' hw' => by (have cc := hw'.2; go_simp)⟩) hS ?_
              simp only [AP]
              refine wpAnyZ_takeL 5 (v := .int .u8 15) rfl (by kernel_rfl) (by kernel_rfl) (by kernel_rfl) (by kernel_rfl) (by kernel_rfl) (fun _ _ _ H => H) (yieldsIf_move rfl _ rfl (.int .u8 15) rfl) hS ?_
              simp only [AP]
              refine wpAnyZ_takeL 6 (v := .int .u8 ((m0 &&& 15 : Nat) : Int)) rfl (by kernel_rfl) (by kernel_rfl) (by kernel_rfl) (by kernel_rfl) (by kernel_rfl) (fun _ _ _ H => H) (Or.inl ⟨by rfl, fun w' hw' => by go_simp⟩) hS ?_
              simp only [AP]
              refine wpAnyZ_takeL 7 (v := .int .u8 (f : Int)) rfl (by kernel_rfl) (by kernel_rfl) (by kernel_rfl) (by kernel_rfl) (by kernel_rfl) (fun _ _ _ H => H) (Or.inl ⟨by rfl, fun w' hw' => by go_simp⟩) hS ?_
              simp only [AP]
              refine wpAnyZ_takeL 8 (v := .pointer (some ⟨g, 0, none⟩)) rfl (by kernel_rfl) (by kernel_rfl) (by kernel_rfl) (by kernel_rfl) (by kernel_rfl) (fun _ _ _ H => H) (Or.inl ⟨by rfl, fun w' hw' => by (go_simp; try omega)⟩) hS ?_
              simp only [AP]
              refine hzstep 9 rfl (by kernel_rfl) rfl ?_
              unfold Oper.wp execOp
              go_simp
              refine wpAnyZ_done (by kernel_rfl) ?_ _
              refine (by assumption : ∀ (a : Act) (w : World), _ → _) _ _ ?_
              have O3 := O2.put 0 f
              rw [← HZ] at O3
              replace O3 := Lib.hid O3
              have P3 := Lib.hid (P2.grow (gb_cell1 w12 g 0 (.int .u8 (f : Int))) (fun j e => by have := Option.some.inj e; have := NG.out; omega))
              have MB3 := Lib.hid (MB2.far (p := ⟨g, 0, none⟩) NG.out.1 (.int .u8 (f : Int)))
              clear O2 P2 MB2 HZ f1 f2 cx0 fx0 cm0 hS hx0 hm0 aK
              generalize World.setCell w12 _ _ = w13 at *
              go_upto_region 23 with fail
              rename_i aK
              refine wp_region_seq ?_
              refine wpSeq_yield (S := fun _ => True) (v := .int .i64 (n : Int)) (Or.inl ⟨by rfl, fun w' hw' => by go_simp⟩) trivial ?_
              simp only [AP]
              refine wpSeq_yield (S := fun _ => True) (v := .int .i64 0) (Or.inl ⟨by rfl, fun w' hw' => by go_simp⟩) trivial ?_
              simp only [AP]
              refine wpSeq_nil ?_
              refine (by assumption : ∀ (a : Act) (w : World), _ → _) _ _ ?_
              go_upto_region 24 with fail
              go_loopw [111] (fun t wr => ∃ j : Nat, j ≤ n ∧ t = .int .i64 (j : Int) ∧ OwL B0 wr (.slice (some ⟨g, 0, none⟩) lx cx) (hidN M a j 15 X) ∧ PkV W KC HC wr ∧ Blk wr gm 26 (Iv .u8 (NI M))) (fun t _ => (n - intOf t).toNat)
              case atStart => exact ⟨0, by omega, rfl, O3.out, P3.out, MB3.out⟩
              case round =>
                clear O3 P3 MB3
                obtain ⟨j, jn, rfl, O3, P3, MB3⟩ := hrel
                by_cases jj : j = n
                · subst jj
                  go_upto_region 24 with fail
                  rename_i aK
                  refine wp_region_seq ?_
                  refine wpSeq_yield (S := fun _ => True) (v := .bool false) (Or.inl ⟨by rfl, fun w' hw' => by (go_simp; try omega)⟩) trivial ?_
                  simp only [AP]
                  refine wpSeq_nil ?_
                  refine (by assumption : ∀ (a : Act) (w : World), _ → _) _ _ ?_
                  go_upto_region 28 with fail
                  rename_i aK
                  refine wp_region_seq ?_
                  refine wpSeq_yield (S := fun _ => True) (yieldsIf_move rfl _ rfl (.slice (some ⟨g, 0, none⟩) lx cx) rfl) trivial ?_
                  simp only [AP]
                  refine wpSeq_yield (S := fun _ => True) (yieldsIf_assign rfl _ rfl (.slice (some ⟨g, 0, none⟩) lx cx) rfl) trivial ?_
                  simp only [AP]
                  refine wpSeq_yield (S := fun _ => True) (yieldsIf_assign rfl _ rfl (.int .i64 0) rfl) trivial ?_
                  simp only [AP]
                  refine wpSeq_nil ?_
                  refine (by assumption : ∀ (a : Act) (w : World), _ → _) _ _ ?_
                  go_wp2
                  refine bodyPost_ret (results_tmp2 rfl _ _ _) rfl ?_
                  have e : G = (0, hidN M a j 15 X) := by
                    have s := SG.out
                    rw [HL.out, AA.out.2.2.2.2.2.2, HS0.out, HX.out, HM.out, if_neg s2] at s
                    exact s
                  subst e
                  exact ⟨_, rfl, O3.sb, P3.bel⟩
                · have jl : j < n := by omega
                  obtain ⟨i, hi⟩ : ∃ i, a + j = i := ⟨_, rfl⟩
                  obtain ⟨i2, hi2⟩ : ∃ i2, 1 + j = i2 := ⟨_, rfl⟩
                  have aj : a + j < X.length := by have := AA.out; have := LX.out; omega
                  have HS := hidN_succ M a j 15 X (by have := AA.out; omega) aj
                  have HA := hidN_at M a j 15 X (by have := AA.out; omega) aj
                  rw [hi] at HS HA aj
                  rw [hi2] at HS
                  obtain ⟨x0, hx0⟩ : ∃ x0, X.getD i 0 = x0 := ⟨_, rfl⟩
                  obtain ⟨m0, hm0⟩ : ∃ m0, M.getD i2 0 = m0 := ⟨_, rfl⟩
                  rw [hx0] at HS HA
                  rw [hm0] at HS
                  have f1 : IntKind.i64.wrap ((a : Int) + (j : Int)) = (i : Int) := by rw [IntKind.wrap_i64]; have := AA.out; omega
                  have f2 : IntKind.i64.wrap (1 + (j : Int)) = (i2 : Int) := by rw [IntKind.wrap_i64]; have := AA.out; omega
                  have x8 : x0 < 256 := by rw [← hx0]; exact getD_bytes bX.out i
                  have m8 : m0 < 256 := by rw [← hm0]; exact getD_bytes M8.out i2
                  have f3 : bits BinOp.xor IntKind.u8 (x0 : Int) (m0 : Int) = ((x0 ^^^ m0 : Nat) : Int) := xor_u8 _ _ x8 m8
                  have f4 : IntKind.i64.wrap ((j : Int) + 1) = ((j + 1 : Nat) : Int) := by rw [IntKind.wrap_i64]; have := AA.out; omega
                  have il : i < lx := by have := LX.out; omega
                  have il2 : i2 < 16 := by have := AA.out; omega
                  have bd := below_drew (Below.refl wr.heap.size wr)
                  have P2 := P3.step bd
                  have O2 := O3.below bd
                  have MB2 := MB3.below' bd
                  clear bd P3 O3 MB3 hx0 jj
                  have cx0 := (O2.at_cell i (by rw [hidN_length]; exact aj)).1
                  have fx0 := (O2.at_cell i (by rw [hidN_length]; exact aj)).2
                  rw [HA] at cx0
                  have cm0 := cell_list MB2 i2 m0 (by rw [M16]; exact il2) hm0
                  have f5 := Lib.hid f4
                  clear f4 HA hm0 aj hi hi2
                  go_upto_region 24 with fail
                  rename_i aK
                  refine wp_region_seq ?_
                  refine wpSeq_yield (S := fun _ => True) (v := .bool true) (Or.inl ⟨by rfl, fun w' hw' => by (go_simp; try omega)⟩) trivial ?_
                  simp only [AP]
                  refine wpSeq_nil ?_
                  refine (by assumption : ∀ (a : Act) (w : World), _ → _) _ _ ?_
                  go_upto_region 25 with fail
                  rename_i aK
                  refine wp_region_seq ?_
                  refine wpSeq_yield (S := fun _ => True) (yieldsIf_move rfl _ rfl (.int .i64 (j : Int)) rfl) trivial ?_
                  simp only [AP]
                  refine wpSeq_yield (S := fun _ => True) (yieldsIf_assign rfl _ rfl (.int .i64 (j : Int)) rfl) trivial ?_
                  simp only [AP]
                  refine wpSeq_nil ?_
                  refine (by assumption : ∀ (a : Act) (w : World), _ → _) _ _ ?_
                  go_upto_region 26 with fail
                  rename_i aK
                  refine wp_region_Z (S := fun w' => w'.cell? ⟨g, i, none⟩ = some (.int .u8 (x0 : Int)) ∧ w'.cell? ⟨gm, i2, none⟩ = some (.int .u8 (m0 : Int))) 12 (by kernel_rfl) ?_
                  generalize World.drew wr = w14 at *
                  have hS := And.intro cx0 cm0
                  refine wpAnyZ_takeL 0 (v := .slice (some ⟨g, 0, none⟩) lx cx) rfl (by kernel_rfl) (by kernel_rfl) (by kernel_rfl) (by kernel_rfl) (by kernel_rfl) (fun _ _ _ H => H) (yieldsIf_move rfl _ rfl (.slice (some ⟨g, 0, none⟩) lx cx) rfl) hS ?_
                  simp only [AP]
                  refine wpAnyZ_takeL 1 (v := .int .i64 (a : Int)) rfl (by kernel_rfl) (by kernel_rfl) (by kernel_rfl) (by kernel_rfl) (by kernel_rfl) (fun _ _ _ H => H) (yieldsIf_move rfl _ rfl (.int .i64 (a : Int)) rfl) hS ?_
                  simp only [AP]
                  refine wpAnyZ_takeL 2 (v := .int .i64 (j : Int)) rfl (by kernel_rfl) (by kernel_rfl) (by kernel_rfl) (by kernel_rfl) (by kernel_rfl) (fun _ _ _ H => H) (yieldsIf_move rfl _ rfl (.int .i64 (j : Int)) rfl) hS ?_
                  simp only [AP]
                  refine wpAnyZ_takeL 3 (v := .int .i64 (i : Int)) rfl (by kernel_rfl) (by kernel_rfl) (by kernel_rfl) (by kernel_rfl) (by kernel_rfl) (fun _ _ _ H => H) (Or.inl ⟨by rfl, fun w' hw' => by go_simp⟩) hS ?_
                  simp only [AP]
                  refine wpAnyZ_takeL 4 (v := .pointer (some ⟨g, i, none⟩)) rfl (by kernel_rfl) (by kernel_rfl) (by kernel_rfl) (by kernel_rfl) (by kernel_rfl) (fun _ _ _ H => H) (Or.inl ⟨by rfl, fun w' hw' => by (go_simp; try omega)⟩) hS ?_
                  simp only [AP]
                  refine wpAnyZ_takeL 5 (v := .int .u8 (x0 : Int)) rfl (by kernel_rfl) (by kernel_rfl) (by kernel_rfl) (by kernel_rfl) (by kernel_rfl) (fun _ _ _ H => H) (Or.inl ⟨by rfl, fun w' hw' => by (have cc := hw'.1; go_simp)⟩) hS ?_
                  simp only [AP]
                  refine wpAnyZ_takeL 6 (v := .int .i64 (j : Int)) rfl (by kernel_rfl) (by kernel_rfl) (by kernel_rfl) (by kernel_rfl) (by kernel_rfl) (fun _ _ _ H => H) (yieldsIf_move rfl _ rfl (.int .i64 (j : Int)) rfl) hS ?_
                  simp only [AP]
                  refine wpAnyZ_takeL 7 (v := .int .i64 (i2 : Int)) rfl (by kernel_rfl) (by kernel_rfl) (by kernel_rfl) (by kernel_rfl) (by kernel_rfl) (fun _ _ _ H => H) (Or.inl ⟨by rfl, fun w' hw' => by go_simp⟩) hS ?_
                  simp only [AP]
                  refine wpAnyZ_takeL 8 (v := .pointer (some ⟨gm, i2, none⟩)) rfl (by kernel_rfl) (by kernel_rfl) (by kernel_rfl) (by kernel_rfl) (by kernel_rfl) (fun _ _ _ H => H) (Or.inl ⟨by rfl, fun w' hw' => by (go_simp; try omega)⟩) hS ?_
                  simp only [AP]
                  refine wpAnyZ_takeL 9 (v := .int .u8 (m0 : Int)) rfl (by kernel_rfl) (by kernel_rfl) (by kernel_rfl) (by kernel_rfl) (by kernel_rfl) (fun _ _ _ H => H) (Or.inl ⟨by rfl, fun w' hw' => by (have cc := hw'.2; go_simp)⟩) hS ?_
                  simp only [AP]
                  refine wpAnyZ_takeL 10 (v := .int .u8 ((x0 ^^^ m0 : Nat) : Int)) rfl (by kernel_rfl) (by kernel_rfl) (by kernel_rfl) (by kernel_rfl) (by kernel_rfl) (fun _ _ _ H => H) (Or.inl ⟨by rfl, fun w' hw' => by go_simp⟩) hS ?_
                  simp only [AP]
                  refine wpAnyZ_takeL 11 (v := .pointer (some ⟨g, i, none⟩)) rfl (by kernel_rfl) (by kernel_rfl) (by kernel_rfl) (by kernel_rfl) (by kernel_rfl) (fun _ _ _ H => H) (Or.inl ⟨by rfl, fun w' hw' => by (go_simp; try omega)⟩) hS ?_
                  simp only [AP]
                  refine hzstep 12 rfl (by kernel_rfl) rfl ?_
                  unfold Oper.wp execOp
                  go_simp
                  refine wpAnyZ_done (by kernel_rfl) ?_ _
                  refine (by assumption : ∀ (a : Act) (w : World), _ → _) _ _ ?_
                  have O3 := O2.put i (x0 ^^^ m0)
                  rw [← HS] at O3
                  have P3 := P2.grow (gb_cell1 w14 g i (.int .u8 ((x0 ^^^ m0 : Nat) : Int))) (fun j e => by have := Option.some.inj e; have := NG.out; omega)
                  have MB3 := MB2.far (p := ⟨g, i, none⟩) NG.out.1 (.int .u8 ((x0 ^^^ m0 : Nat) : Int))
                  have f4 := f5.out
                  clear O2 P2 MB2 HS f1 f2 f3 f5 cx0 fx0 cm0 hS x8 m8 il il2 aK
                  generalize World.setCell w14 _ _ = w15 at *
                  go_wp2
                  exact ⟨⟨j + 1, by omega, rfl, O3, P3, MB3⟩, by simp only [intOf]; omega⟩
          clear aK
          have bd := below_drew (Below.refl W9.heap.size W9)
          have P10 := P.out.step bd
          have O10 := O6.out.below bd
          have RG10 := rangeAt_below RG bd LX.out.2.2.2.2.1
          have f4 : IntKind.i64.wrap ((a : Int) + 4) = ((a + 4 : Nat) : Int) := by rw [IntKind.wrap_i64]; have := AA.out; omega
          have f20 : IntKind.i64.wrap ((a : Int) + 20) = ((a + 20 : Nat) : Int) := by rw [IntKind.wrap_i64]; have := AA.out; omega
          refine wp_region_S (S := fun w' => Below W9.drew.heap.size W9.drew w') (by kernel_rfl) ?_
          replace bd := Lib.hid bd
          replace P10 := Lib.hid P10
          generalize W9.drew = w10 at *
          have hS := Below.refl w10.heap.size w10
          have gl : g < w10.heap.size := Nat.lt_of_lt_of_le LX.out.2.2.2.2.1 bd.out.size
          have l2 : a + 20 ≤ cx ∧ 20 ≤ cx := by have := LX.out; omega
          replace l2 := Lib.hid l2
          have har : ∀ w', (Instr.arrayAt 26 (.slice (some ⟨g, a + 4, none⟩) 16 (cx - (a + 4)))).run Tryd.prog w' = .ok (.pointer (some ⟨g, a + 4, none⟩)) w' := fun w' => by simp [Instr.arrayAt, run_underlying Tryd.underlying26]
          refine wpAnyS_takeL 0 (v := v6) rfl (by kernel_rfl) (by kernel_rfl) (by kernel_rfl) (fun _ _ _ H => H) (yieldsIf_move rfl _ rfl (v6) rfl) hS ?_
          simp only [AP]
          refine wpAnyS_takeL 1 (v := .pointer (some ⟨W.heap.size, 28, none⟩)) rfl (by kernel_rfl) (by kernel_rfl) (by kernel_rfl) (fun _ _ _ H => H) (Or.inl ⟨by rfl, fun w' hw' => by (go_simp)⟩) hS ?_
          simp only [AP]
          refine wpAnyS_takeL 2 (v := .agg (Iv .u8 (NI Mk))) rfl (by kernel_rfl) (by kernel_rfl) (by kernel_rfl) (fun _ _ _ H => H) (show YieldsIf _ _ _ _ (.agg (Iv .u8 (NI Mk))) _ from yieldsIf_load_mid (S := fun w' => Below w10.heap.size w10 w') rfl 27 _ rfl W.heap.size 28 rfl ((NI Mk).map (Value.int .u8)) _ (fun w' h => ky_mask (show Blk w' W.heap.size 30 (Iv .u8 (NI (K ++ (N ++ Mk)))) by rw [HK.out]; exact (P10.out.step h).ky) LN.out.1.1 LN.out.1.2.1) Tryd.underlying27 rfl (by rw [info_ab]; simp [NI, LN.out.1.2.2])) hS ?_
          simp only [AP]
          refine wpAnyS_takeL 3 (v := .slice (some ⟨g, 0, none⟩) lx cx) rfl (by kernel_rfl) (by kernel_rfl) (by kernel_rfl) (fun _ _ _ H => H) (yieldsIf_move rfl _ rfl (.slice (some ⟨g, 0, none⟩) lx cx) rfl) hS ?_
          simp only [AP]
          refine wpAnyS_takeL 4 (v := .int .i64 (a : Int)) rfl (by kernel_rfl) (by kernel_rfl) (by kernel_rfl) (fun _ _ _ H => H) (yieldsIf_move rfl _ rfl (.int .i64 (a : Int)) rfl) hS ?_
          simp only [AP]
          refine wpAnyS_takeL 5 (v := .int .i64 ((a + 4 : Nat) : Int)) rfl (by kernel_rfl) (by kernel_rfl) (by kernel_rfl) (fun _ _ _ H => H) (Or.inl ⟨by rfl, fun w' hw' => by go_simp⟩) hS ?_
          simp only [AP]
          refine wpAnyS_takeL 6 (v := .int .i64 (a : Int)) rfl (by kernel_rfl) (by kernel_rfl) (by kernel_rfl) (fun _ _ _ H => H) (yieldsIf_move rfl _ rfl (.int .i64 (a : Int)) rfl) hS ?_
          simp only [AP]
          refine wpAnyS_takeL 7 (v := .int .i64 ((a + 20 : Nat) : Int)) rfl (by kernel_rfl) (by kernel_rfl) (by kernel_rfl) (fun _ _ _ H => H) (Or.inl ⟨by rfl, fun w' hw' => by go_simp⟩) hS ?_
          simp only [AP]
          refine wpAnyS_takeL 8 (v := .slice (some ⟨g, a + 4, none⟩) 16 (cx - (a + 4))) rfl (by kernel_rfl) (by kernel_rfl) (by kernel_rfl) (fun _ _ _ H => H) (Or.inl ⟨by rfl, fun w' hw' => by (go_simp; have l3 := l2.out; rw [if_pos ⟨by omega, by omega⟩, if_pos ⟨by omega, by omega⟩, show ((a : Int) + 4).toNat = a + 4 by omega, show ((a : Int) + 20).toNat = a + 20 by omega, if_neg (by omega), show a + 20 - (a + 4) = 16 by omega])⟩) hS ?_
          simp only [AP]
          refine wpAnyS_takeL 9 (v := .pointer (some ⟨g, a + 4, none⟩)) rfl (by kernel_rfl) (by kernel_rfl) (by kernel_rfl) (fun _ _ _ H => H) (Or.inl ⟨by rfl, fun w' hw' => by (go_simp)⟩) hS ?_
          simp only [AP]
          refine wpAnyS_takeL 10 (v := .agg (Iv .u8 (NI (smpN a X)))) rfl (by kernel_rfl) (by kernel_rfl) (by kernel_rfl) (fun _ _ _ H => H) (show YieldsIf _ _ _ _ (.agg (Iv .u8 (NI (smpN a X)))) _ from yieldsIf_load_mid (S := fun w' => Below w10.heap.size w10 w') rfl 26 _ rfl g (a + 4) rfl ((NI (smpN a X)).map (Value.int .u8)) _ (fun w' h => rangeAt_below RG10 h gl) Tryd.underlying26 rfl (by rw [info_a16, rs.out])) hS ?_
          simp only [AP]
          clear l2 f4 f20 hS har
          refine gsteps 11 12 rfl rfl rfl rfl (by kernel_rfl) ?_ ?_
          · unfold Oper.wp execOp
            go_simp
            refine (EC.out w10 O10.sb).mono ?_
            rintro _ w11 ⟨rfl, b11⟩
            refine ⟨b11, ?_⟩
            refine gstep 12 rfl rfl (by kernel_rfl) ?_
            unfold Oper.wp execOp
            go_simp
            refine ⟨b11.alloc b11.size _, ?_⟩
            refine gstep 13 rfl rfl (by kernel_rfl) (wp_store_row 26 _ _ rfl w11.heap.size (Iv .u8 (NI M)) rfl rfl _ _ (Blk.new _ _ _) (by rw [info_a16, Iv_size, NI_length, M16]) (by rw [Iv_size, NI_length, M16]; rfl) (u8s_one _) ⟨below_setRow (b11.alloc b11.size _) b11.size _, ?_⟩)
            simp only [Act.put]
            refine wpAnyS_done (by kernel_rfl) ?_ _
            exact AK w11.heap.size _ (Nat.le_trans bd.out.size b11.size) (one_row w11 26 _ (Iv .u8 (NI M))).1 (bd.out.trans ((b11.trans ((one_row w11 26 _ (Iv .u8 (NI M))).2.mono b11.size)).mono bd.out.size))
          · unfold Oper.wp execOp
            go_simp
            generalize hZ : World.alloc w10 _ = w11
            obtain ⟨Z, hz, K11, b11⟩ : ∃ Z : Array Value, Z.size = 16 ∧ Blk w11 w10.heap.size 26 Z ∧ Below w10.heap.size w10 w11 := by
              rw [← hZ]
              exact ⟨_, rfl, Blk.new _ _ _, (Below.refl w10.heap.size w10).alloc (Nat.le_refl _) _⟩
            clear hZ
            refine ⟨b11, ?_⟩
            refine gstep 11 rfl rfl (by kernel_rfl) ?_
            unfold Oper.wp execOp
            go_simp
            refine (EC.out w11 (O10.below b11).sb).mono ?_
            rintro _ w12 ⟨rfl, b12⟩
            have b13 := b11.trans (b12.mono b11.size)
            refine ⟨b13, ?_⟩
            have K12 := K11.below' b12
            refine gstep 13 rfl rfl (by kernel_rfl) (wp_store_row 26 _ _ rfl w10.heap.size (Iv .u8 (NI M)) rfl rfl _ _ K12 (by rw [info_a16, Iv_size, NI_length, M16]) (by rw [Iv_size, NI_length, M16]; exact hz) (u8s_one _) ⟨below_setRow b13 (Nat.le_refl _) _, ?_⟩)
            simp only [Act.put]
            refine wpAnyS_done (by kernel_rfl) ?_ _
            exact AK w10.heap.size _ bd.out.size (K12.row _) (bd.out.trans ((below_setRow b13 (Nat.le_refl _) _).mono bd.out.size))
        · have jl : j < 8 := by omega
          obtain ⟨i, hi⟩ : ∃ i, 11 - j = i := ⟨_, rfl⟩
          have f1 : IntKind.i64.wrap (11 - (j : Int)) = (i : Int) := by rw [IntKind.wrap_i64]; omega
          have NS := nonK_succ N pn j jl
          have NA := nonK_at N pn j jl
          rw [hi] at NS NA
          obtain ⟨y, hy⟩ : ∃ y, N.getD i 0 = y := ⟨_, rfl⟩
          rw [hy] at NS NA
          have y8 : y < 256 := by rw [← hy]; exact getD_bytes LN.out.2.2.1 i
          obtain ⟨q, hq⟩ : ∃ q, pn / 256 ^ j = q := ⟨_, rfl⟩
          rw [hq] at NS
          obtain ⟨r, hr⟩ : ∃ r, q % 256 = r := ⟨_, rfl⟩
          rw [hr] at NS
          have QQ := Lib.hid (show (j = 0 ∧ pn = q) ∨ (j = 1 ∧ pn / 256 = q) ∨ (j = 2 ∧ pn / 65536 = q) ∨ (j = 3 ∧ pn / 16777216 = q) ∨ (j = 4 ∧ pn / 4294967296 = q) ∨ (j = 5 ∧ pn / 1099511627776 = q) ∨ (j = 6 ∧ pn / 281474976710656 = q) ∨ (j = 7 ∧ pn / 72057594037927936 = q) by
            have : j = 0 ∨ j = 1 ∨ j = 2 ∨ j = 3 ∨ j = 4 ∨ j = 5 ∨ j = 6 ∨ j = 7 := by omega
            rcases this with rfl | rfl | rfl | rfl | rfl | rfl | rfl | rfl
            · exact Or.inl ⟨rfl, by rw [← hq]; simp⟩
            · exact Or.inr (Or.inl ⟨rfl, hq⟩)
            · exact Or.inr (Or.inr (Or.inl ⟨rfl, hq⟩))
            · exact Or.inr (Or.inr (Or.inr (Or.inl ⟨rfl, hq⟩)))
            · exact Or.inr (Or.inr (Or.inr (Or.inr (Or.inl ⟨rfl, hq⟩))))
            · exact Or.inr (Or.inr (Or.inr (Or.inr (Or.inr (Or.inl ⟨rfl, hq⟩)))))
            · exact Or.inr (Or.inr (Or.inr (Or.inr (Or.inr (Or.inr (Or.inl ⟨rfl, hq⟩))))))
            · exact Or.inr (Or.inr (Or.inr (Or.inr (Or.inr (Or.inr (Or.inr ⟨rfl, hq⟩)))))))
          have f2 : IntKind.u8.wrap (q : Int) = (r : Int) := by rw [IntKind.wrap_u8]; omega
          have f3 : bits BinOp.xor IntKind.u8 (y : Int) (r : Int) = ((y ^^^ r : Nat) : Int) := xor_u8 y r y8 (by omega)
          have f4 : IntKind.i64.wrap ((j : Int) + 1) = ((j + 1 : Nat) : Int) := by rw [IntKind.wrap_i64]; omega
          have i12 : i < 12 := by omega
          have NA0 := Lib.hid NA
          have bd := below_drew (Below.refl wr.heap.size wr)
          have NB2 := NB.below' bd
          have bq2 := bq.trans (bd.mono bq.size)
          clear bd hq hr hy NA NB bq jj
          go_upto_region 13 with fail
          rename_i aK
          refine wp_region_seq ?_
          refine wpSeq_yield (S := fun _ => True) (v := .bool true) (Or.inl ⟨by rfl, fun w' hw' => by (go_simp; try omega)⟩) trivial ?_
          simp only [AP]
          refine wpSeq_nil ?_
          refine (by assumption : ∀ (a : Act) (w : World), _ → _) _ _ ?_
          go_upto_region 14 with fail
          rename_i aK
          refine wp_region_seq ?_
          refine wpSeq_yield (S := fun _ => True) (yieldsIf_move rfl _ rfl (.int .i64 (j : Int)) rfl) trivial ?_
          simp only [AP]
          refine wpSeq_yield (S := fun _ => True) (yieldsIf_assign rfl _ rfl (.int .i64 (j : Int)) rfl) trivial ?_
          simp only [AP]
          refine wpSeq_nil ?_
          refine (by assumption : ∀ (a : Act) (w : World), _ → _) _ _ ?_
          go_upto_region 15 with fail
          rename_i aK
          refine wp_region_Z (S := fun w' => Blk w' w6.heap.size 28 (Iv .u8 (NI (nonK N pn j)))) 11 (by kernel_rfl) ?_
          generalize World.drew wr = w8 at *
          refine wpAnyZ_takeL 0 (v := .int .i64 (j : Int)) rfl (by kernel_rfl) (by kernel_rfl) (by kernel_rfl) (by kernel_rfl) (by kernel_rfl) (fun _ _ _ H => H) (yieldsIf_move rfl _ rfl (.int .i64 (j : Int)) rfl) NB2 ?_
          simp only [AP]
          refine wpAnyZ_takeL 1 (v := .int .i64 (i : Int)) rfl (by kernel_rfl) (by kernel_rfl) (by kernel_rfl) (by kernel_rfl) (by kernel_rfl) (fun _ _ _ H => H) (Or.inl ⟨by rfl, fun w' hw' => by go_simp⟩) NB2 ?_
          simp only [AP]
          refine wpAnyZ_takeL 2 (v := .pointer (some ⟨w6.heap.size, i, none⟩)) rfl (by kernel_rfl) (by kernel_rfl) (by kernel_rfl) (by kernel_rfl) (by kernel_rfl) (fun _ _ _ H => H) (Or.inl ⟨by rfl, fun w' hw' => by (go_simp; try omega)⟩) NB2 ?_
          simp only [AP]
          refine wpAnyZ_takeL 3 (v := .int .u8 (y : Int)) rfl (by kernel_rfl) (by kernel_rfl) (by kernel_rfl) (by kernel_rfl) (by kernel_rfl) (fun _ _ _ H => H) (Or.inl ⟨by rfl, fun w' hw' => by (have cc := cell_list hw' i y (by rw [nonK_length]; exact i12) NA0.out; go_simp)⟩) NB2 ?_
          simp only [AP]
          refine wpAnyZ_takeL 4 (v := .int .u64 (pn : Int)) rfl (by kernel_rfl) (by kernel_rfl) (by kernel_rfl) (by kernel_rfl) (by kernel_rfl) (fun _ _ _ H => H) (yieldsIf_move rfl _ rfl (.int .u64 (pn : Int)) rfl) NB2 ?_
          simp only [AP]
          refine wpAnyZ_takeL 5 (v := .int .i64 (j : Int)) rfl (by kernel_rfl) (by kernel_rfl) (by kernel_rfl) (by kernel_rfl) (by kernel_rfl) (fun _ _ _ H => H) (yieldsIf_move rfl _ rfl (.int .i64 (j : Int)) rfl) NB2 ?_
          simp only [AP]
          refine wpAnyZ_takeL 6 (v := .int .i64 ((8 * j : Nat) : Int)) rfl (by kernel_rfl) (by kernel_rfl) (by kernel_rfl) (by kernel_rfl) (by kernel_rfl) (fun _ _ _ H => H) (Or.inl ⟨by rfl, fun w' hw' => by (rcases QQ.out with ⟨rfl, rfl⟩ | ⟨rfl, rfl⟩ | ⟨rfl, rfl⟩ | ⟨rfl, rfl⟩ | ⟨rfl, rfl⟩ | ⟨rfl, rfl⟩ | ⟨rfl, rfl⟩ | ⟨rfl, rfl⟩ <;> go_simp <;> try (first | omega | decide))⟩) NB2 ?_
          simp only [AP]
          refine wpAnyZ_takeL 7 (v := .int .u64 (q : Int)) rfl (by kernel_rfl) (by kernel_rfl) (by kernel_rfl) (by kernel_rfl) (by kernel_rfl) (fun _ _ _ H => H) (Or.inl ⟨by rfl, fun w' hw' => by (rcases QQ.out with ⟨rfl, rfl⟩ | ⟨rfl, rfl⟩ | ⟨rfl, rfl⟩ | ⟨rfl, rfl⟩ | ⟨rfl, rfl⟩ | ⟨rfl, rfl⟩ | ⟨rfl, rfl⟩ | ⟨rfl, rfl⟩ <;> go_simp <;> try (first | omega | decide))⟩) NB2 ?_
          simp only [AP]
          refine wpAnyZ_takeL 8 (v := .int .u8 (r : Int)) rfl (by kernel_rfl) (by kernel_rfl) (by kernel_rfl) (by kernel_rfl) (by kernel_rfl) (fun _ _ _ H => H) (Or.inl ⟨by rfl, fun w' hw' => by go_simp⟩) NB2 ?_
          simp only [AP]
          refine wpAnyZ_takeL 9 (v := .int .u8 ((y ^^^ r : Nat) : Int)) rfl (by kernel_rfl) (by kernel_rfl) (by kernel_rfl) (by kernel_rfl) (by kernel_rfl) (fun _ _ _ H => H) (Or.inl ⟨by rfl, fun w' hw' => by go_simp⟩) NB2 ?_
          simp only [AP]
          refine wpAnyZ_takeL 10 (v := .pointer (some ⟨w6.heap.size, i, none⟩)) rfl (by kernel_rfl) (by kernel_rfl) (by kernel_rfl) (by kernel_rfl) (by kernel_rfl) (fun _ _ _ H => H) (Or.inl ⟨by rfl, fun w' hw' => by (go_simp; try omega)⟩) NB2 ?_
          simp only [AP]
          have c0 := cell_list NB2 i y (by rw [nonK_length]; exact i12) NA0.out
          have z0 := NB2.frozen i
          refine hzstep 11 rfl (by kernel_rfl) rfl ?_
          unfold Oper.wp execOp
          go_simp
          refine wpAnyZ_done (by kernel_rfl) ?_ _
          refine (by assumption : ∀ (a : Act) (w : World), _ → _) _ _ ?_
          have NB3 : Blk (w8.setCell ⟨w6.heap.size, i, none⟩ (.int .u8 ((y ^^^ r : Nat) : Int))) w6.heap.size 28 (Iv .u8 (NI (nonK N pn (j + 1)))) := by
            rw [NS, ← Iv_put]
            exact NB2.set i _
          have bq3 := bq2.setCell (p := ⟨w6.heap.size, i, none⟩) (Nat.le_refl w6.heap.size) (.int .u8 ((y ^^^ r : Nat) : Int))
          clear f1 f2 f3 QQ c0 z0 NB2 bq2 NS NA0 y8 i12 aK
          generalize World.setCell w8 _ _ = w9 at *
          go_wp2
          exact ⟨⟨j + 1, by omega, rfl, NB3, bq3⟩, by simp only [intOf]; omega⟩
end Go.Proofs.YtpihgljdbpnehaaDoor
