/- The program's signed: what a certificate's signature is of (printed by gen14/ed.py). -/
import Derived.Test.YtegbnadnodlalaaGreatDoorRn0E3a
import Derived.Lib.UnsafeStr
import Derived.Great.BuildSlice
namespace Go.Proofs.YtegbnadnodlalaaGreatDoor
open Go.RowKit
section
variable {P : Program} {md : Region.Mode} {ops : Array Oper} {Q : Exit → Act → World → Prop} {S : World → Prop}
theorem gsteps (i j : Nat) {oi oj : Oper} {fuel : Nat} {listed : Array Bool} {a : Act} {w : World} (hi : ops.toList[i]? = some oi) (hj : ops.toList[j]? = some oj) (hwi : Region.wanted oi (yielded ops a.tmps) = true) (hwj : Region.wanted oj (yielded ops a.tmps) = true) (hr : Region.ready md ops listed = [i, j])
  (h1 : oi.wp P a w (fun a' w' => S w' ∧ wpAnyS P md ops Q S fuel (listed.setIfInBounds i true) a' w') Q) (h2 : oj.wp P a w (fun a' w' => S w' ∧ wpAnyS P md ops Q S fuel (listed.setIfInBounds j true) a' w') Q) : wpAnyS P md ops Q S (fuel + 1) listed a w := by
 refine ⟨fun h0 => ?_, fun k hk => ?_⟩
 ·
  rw [hr] at h0
  cases h0
 ·
  rw [hr] at hk
  simp only [List.mem_cons, List.not_mem_nil, or_false] at hk
  rcases hk with rfl | rfl
  ·
   unfold wpOp
   rw [← Array.getElem?_toList, hi]
   simp only [hwi, if_true]
   left
   exact h1
  ·
   unfold wpOp
   rw [← Array.getElem?_toList, hj]
   simp only [hwj, if_true]
   left
   exact h2
end
theorem freeze_cell (w : World) (a : Addr) (n : Nat) (p : Addr) : (w.freeze a n).cell? p = w.cell? p := by
 unfold World.freeze
 split
 · rfl
 ·
  unfold World.cell?
  simp only [Array.getElem?_modify]
  by_cases h : a.block = p.block
  ·
   rw [if_pos h]
   cases w.heap[p.block]? with
   | none => rfl
   | some o => cases o <;> rfl
  · rw [if_neg h]
theorem freeze_size (w : World) (a : Addr) (n : Nat) : (w.freeze a n).heap.size = w.heap.size := by
 unfold World.freeze
 split <;> simp
/-- Bytes out of a literal string, turned into what they are: their row is marked. -/
theorem wp_mark {o : Oper} {a : Act} {w : World} {K : Act → World → Prop} {Q : Exit → Act → World → Prop} (x : Operand) (ho : o.op = .convert 29 29 x) (g n c : Nat) (C : Array Value) (hx : a.eval x = .slice (some ⟨g, 0, none⟩) n c) (hg : Blk w g 5 C)
  (hK : ∀ w', (∀ p, w'.cell? p = w.cell? p) → w'.heap.size = w.heap.size → (∀ B w0, B ≤ g → Below B w0 w → Below B w0 w') → K (a.put o.dst (.slice (some ⟨g, 0, none⟩) n c)) w') : o.wp Tryz.prog a w K Q := by
 have hsh : w.shape? g = some (5, C.size) := by
  unfold World.shape?
  rw [show w.heap[g]? = some (.cells C 5 (0, 0)) from hg]
 have hr : (convert 29 29 (.slice (some ⟨g, 0, none⟩) n c)).run Tryz.prog w = .ok (.slice (some ⟨g, 0, none⟩) n c) (w.freeze ⟨g, C.size, none⟩ 1) := by
  simp [convert, run_underlying Tryz.underlying29, run_underlying Tryz.underlying5, markStringish, hsh]
 unfold Oper.wp execOp
 simp only [ho, hx, Sem.run_bind, hr, Result.andThen_ok, Sem.run_pure]
 exact hK _ (freeze_cell w _ _) (freeze_size w _ _) (fun B w0 hB h => Lib.below_freeze h (p := ⟨g, C.size, none⟩) hB 1)
theorem BA.same {w w' : World} {g o : Nat} {l : List Nat} (h : BA w g o l) (hc : ∀ p, w'.cell? p = w.cell? p) (hs : w'.heap.size = w.heap.size) : BA w' g o l := ⟨fun i hi => (hc _).trans (h.cell i hi), by rw [hs]; exact h.blk⟩
theorem SB.same {w w' : World} {v : Value} {l : List Nat} (h : SB w v l) (hc : ∀ p, w'.cell? p = w.cell? p) (hs : w'.heap.size = w.heap.size) : SB w' v l := by
 obtain ⟨p, c, h1, h2, h3 | ⟨g, o, h4, h5⟩⟩ := h
 · exact ⟨p, c, h1, h2, Or.inl h3⟩
 · exact ⟨p, c, h1, h2, Or.inr ⟨g, o, h4, h5.same hc hs⟩⟩
theorem wp_conv_str {o : Oper} {a : Act} {w : World} {K : Act → World → Prop} {Q : Exit → Act → World → Prop} (x : Operand) (ho : o.op = .convert 9 29 x) (t : ByteArray) (hx : a.eval x = .string t)
  (hK : ∀ v w', SB w' v (bL t) → Below w.heap.size w w' → K (a.put o.dst v) w') : o.wp Tryz.prog a w K Q := by
 obtain ⟨v, w', hr, h1, h2⟩ := conv_str w t
 unfold Oper.wp execOp
 simp only [ho, hx, Sem.run_bind, hr, Result.andThen_ok, Sem.run_pure]
 exact hK v w' h1 h2
theorem sq_three {w : World} {u v x : Value} {l m n : List Nat} (t : TypeId) (h : SB w u l) (k : SB w v m) (j : SB w x n) : SP (w.alloc (.cells #[u, v, x] t)) (.slice (some ⟨w.heap.size, 0, none⟩) 3 3) [l, m, n] := by
 have b := (Below.refl w.heap.size w).alloc (Nat.le_refl _) (.cells #[u, v, x] t)
 refine ⟨_, 3, rfl, Nat.le_refl _, Or.inr ⟨w.heap.size, 0, rfl, by simp, fun i hi => ?_⟩⟩
 have hb := (Blk.new w t #[u, v, x]).cell i
 rw [Nat.zero_add]
 match i, hi with
 | 0, _ => exact ⟨u, hb, h.below b⟩
 | 1, _ => exact ⟨v, hb, k.below b⟩
 | 2, _ => exact ⟨x, hb, j.below b⟩
theorem qinfo_sl : (Tryz.prog.info? 29).map (·.size) = some 1 := by kernel_rfl
theorem qzero_sl : ((Tryz.prog.info? 29).bind (·.zero)).isSome = true := by kernel_rfl
theorem qunder_sls : Tryz.prog.underlying 41 = some (.slice 29) := by kernel_rfl
theorem qflat_ones : ∀ (vs : List Value), (∀ v ∈ vs, v.cells = #[v]) → (vs.flatMap fun v => v.cells.toList) = vs
 | [], _ => rfl
 | v :: vs, h => by rw [List.flatMap_cons, h v (by simp), qflat_ones vs fun x hx => h x (by simp [hx])]; rfl
theorem wq_lists {o : Oper} {a : Act} {w : World} {K : Act → World → Prop} {Q : Exit → Act → World → Prop} (n : Nat) (parts : Array (Nat × Operand)) (ho : o.op = .buildSlice 41 n parts)
  (vs : List Value) (hp : (parts.map fun (i, x) => (i, a.eval x)).toList = (vs.zipIdx 0).map fun x => (x.2, x.1)) (hn : vs.length = n) (hpos : 0 < n) (hs : n ≤ 1000) (hc : ∀ v ∈ vs, v.cells = #[v])
  (h : K (a.put o.dst (.slice (some ⟨w.heap.size, 0, none⟩) n n)) (w.alloc (.cells vs.toArray 29))) : o.wp Tryz.prog a w K Q := by
 have hr : (Instr.buildSlice 41 n (parts.map fun (i, x) => (i, a.eval x))).run Tryz.prog w = .ok (.slice (some ⟨w.heap.size, 0, none⟩) n n) (w.alloc (.cells vs.toArray 29)) := by
  have h1 := qinfo_sl
  have h2 := qzero_sl
  cases hie : Tryz.prog.info? 29 with
  | none => rw [hie] at h1; cases h1
  | some ie =>
   simp only [hie, Option.map_some, Option.some.injEq, Option.bind_some] at h1 h2
   obtain ⟨z, hz⟩ := Option.isSome_iff_exists.1 h2
   refine run_buildSlice w _ _ n _ _ ie z qunder_sls hie hz (by rw [h1]; omega) (by rw [h1]; omega) ?_
   rw [hp, h1]
   refine (Go.Great.fill_whole (show 0 < 1 by decide) vs _ (fun v hv => by rw [hc v hv]; rfl) (by simp [hn])).trans ?_
   rw [qflat_ones vs hc]
 unfold Oper.wp execOp
 simp only [ho, Sem.run_bind, hr, Result.andThen_ok]
 exact h
theorem sb_cells {w : World} {v : Value} {l : List Nat} (h : SB w v l) : v.cells = #[v] := by
 obtain ⟨p, c, rfl, _⟩ := h
 rfl
/-- Three slices of bytes laid in a row. -/
theorem wq_three {o : Oper} {a : Act} {w : World} {K : Act → World → Prop} {Q : Exit → Act → World → Prop} (x0 x1 x2 : Operand) (ho : o.op = .buildSlice 41 3 #[(0, x0), (1, x1), (2, x2)]) (v0 v1 v2 : Value) (h0 : a.eval x0 = v0) (h1 : a.eval x1 = v1) (h2 : a.eval x2 = v2)
  (l0 l1 l2 : List Nat) (s0 : SB w v0 l0) (s1 : SB w v1 l1) (s2 : SB w v2 l2)
  (h : ∀ p w', SP w' (.slice p 3 3) [l0, l1, l2] → Below w.heap.size w w' → K (a.put o.dst (.slice p 3 3)) w') : o.wp Tryz.prog a w K Q := by
 refine wq_lists 3 _ ho [v0, v1, v2] (by simp [h0, h1, h2]) rfl (by decide) (by decide) (by
  intro v hv
  simp only [List.mem_cons, List.not_mem_nil, or_false] at hv
  rcases hv with rfl | rfl | rfl
  · exact sb_cells s0
  · exact sb_cells s1
  · exact sb_cells s2) ?_
 exact h _ _ (sq_three _ s0 s1 s2) ((Below.refl _ _).alloc (Nat.le_refl _) _)
/-- 'skiff cert'. -/
def purL : List Nat := [115, 107, 105, 102, 102, 32, 99, 101, 114, 116]
theorem purL_bytes : Bytes purL := fun x hx => by
 simp only [purL, List.mem_cons, List.not_mem_nil, or_false] at hx
 omega
def sgnL (t : ByteArray) (k : List Nat) : List Nat := purL ++ (k ++ bL t)
theorem sgn_flat (t : ByteArray) (k : List Nat) : [purL, k, bL t].flatten = sgnL t k := by simp [sgnL]
theorem row_vals (W : World) : W.alloc (.cells #[.int .u8 115, .int .u8 107, .int .u8 105, .int .u8 102, .int .u8 102, .int .u8 32, .int .u8 99, .int .u8 101, .int .u8 114, .int .u8 116] 5) = W.alloc (.cells (vals purL).toArray 5) := rfl
theorem ba_vals {w : World} {g : Nat} {l : List Nat} (h : Blk w g 5 (vals l).toArray) : BA w g 0 l := BA.of_blk (by rw [vals_iv]; exact h)
set_option maxHeartbeats 8000000 in
set_option maxRecDepth 100000 in
theorem signed_c (t : ByteArray) (k s : List Nat) (lk : k.length = 32) (ls : s.length = 64) (lt : t.size ≤ 1000) (W : World) :
  Calls Tryz.prog 32 #[.agg (cerV t k s)] W fun e w' => ∃ v, e = .returned v ∧ SB w' v (sgnL t k) ∧ Below W.heap.size W w' := by
 have CC := Lib.hid (fun (p : Option Addr) (n c : Nat) (w : World) (h : SP w (.slice p n c) [purL, k, bL t]) => concat_c [purL, k, bL t] p n c (by rw [sgn_flat, sgnL, List.length_append, List.length_append, bL_length, lk]; show 10 + (32 + t.size) ≤ 100000; omega) w h (Nat.le_of_ble_eq_true rfl))
 have kz := info_cerV t lk ls
 have KR := Lib.hid (fun (w : World) (h : Blk w W.heap.size 50 (cerV t k s)) => show SB w (.slice (some ⟨W.heap.size, 1, none⟩) 32 32) k from SB.of_ba' (ba_range (cert_key h) h.lt) lk.symm (by omega))
 have KN := Lib.hid (fun (w : World) (h : Blk w W.heap.size 50 (cerV t k s)) => cert_name h)
 generalize cerV t k s = CV at *
 have SF := Lib.hid (sgn_flat t k)
 clear lk ls lt
 go_enter Tryz.func32, Tryz.ntmps32
 go_upto_region 0 with fail
 rename_i aK
 refine wp_region_seq ?_
 refine wpSeq_wp rfl ?_
 unfold Oper.wp execOp
 go_simp
 refine sas (.slice none 0 0) rfl rfl rfl ?_
 simp only [AP]
 refine wpSeq_nil ?_
 refine aK _ _ ?_
 clear aK
 have K0 := Blk.new W 50 CV
 have b0 := (Below.refl W.heap.size W).alloc (Nat.le_refl _) (.cells CV 50)
 generalize World.alloc W _ = w1 at *
 have bd := below_drew (Below.refl w1.heap.size w1)
 replace K0 := K0.below' bd
 replace b0 := b0.trans (bd.mono b0.size)
 clear bd
 have lt0 := Lib.hid K0.lt
 go_upto_region 1 with fail
 rename_i aK
 refine wp_region_S (S := fun w' => Blk w' W.heap.size 50 CV) (by kernel_rfl) ?_
 generalize w1.drew = w2 at *
 have hS := K0
 refine wpAnyS_takeL 2 (v := .pointer (some ⟨W.heap.size, 1, none⟩)) rfl (by kernel_rfl) (by kernel_rfl) (by kernel_rfl) (fun _ _ _ H => H) (Or.inl ⟨by rfl, fun w' hw' => by (go_simp)⟩) hS ?_
 simp only [AP]
 refine wpAnyS_takeL 3 (v := .slice (some ⟨W.heap.size, 1, none⟩) 32 32) rfl (by kernel_rfl) (by kernel_rfl) (by kernel_rfl) (fun _ _ _ H => H) (Or.inl ⟨by rfl, fun w' hw' => by (go_simp)⟩) hS ?_
 simp only [AP]
 refine wpAnyS_takeL 4 (v := .pointer (some ⟨W.heap.size, 0, none⟩)) rfl (by kernel_rfl) (by kernel_rfl) (by kernel_rfl) (fun _ _ _ H => H) (Or.inl ⟨by rfl, fun w' hw' => by (go_simp)⟩) hS ?_
 simp only [AP]
 refine wpAnyS_takeL 5 (v := .string t) rfl (by kernel_rfl) (by kernel_rfl) (by kernel_rfl) (fun _ _ _ H => H) (Or.inl ⟨by rfl, fun w' hw' => by (have cc := KN.out w' hw'; go_simp)⟩) hS ?_
 simp only [AP]
 clear hS KN
 refine gsteps 0 6 rfl rfl rfl rfl (by kernel_rfl) ?_ ?_
 ·
  skip
  unfold Oper.wp execOp
  go_simp
  rw [row_vals]
  have K4 := Blk.new w2 5 (vals purL).toArray
  have b4 := (Below.refl w2.heap.size w2).alloc (Nat.le_refl _) (.cells (vals purL).toArray 5)
  have G4 := Lib.hid K0.lt
  generalize World.alloc w2 _ = w3 at *
  replace K0 := K0.below' b4
  replace b0 := b0.trans (b4.mono b0.size)
  have _z := 0
  clear b4
  obtain ⟨g4, hg4⟩ : ∃ g, w2.heap.size = g := ⟨_, rfl⟩
  rw [hg4] at K4 G4 ⊢
  refine ⟨K0, ?_⟩
  refine gsteps 1 6 rfl rfl rfl rfl (by kernel_rfl) ?_ ?_
  ·
   skip
   refine wp_mark _ rfl g4 10 10 _ rfl K4 ?_
   intro w4 hc hz hb
   have S4 : SB w4 (.slice (some ⟨g4, 0, none⟩) 10 10) purL := SB.of_ba' ((ba_vals K4).same hc hz) rfl (Nat.le_refl _)
   replace K0 : Blk w4 W.heap.size 50 CV := ((hb (W.heap.size + 1) _ G4.out (Below.refl _ _)).block _ (Nat.lt_succ_self _)).trans K0
   replace b0 : Below W.heap.size W w4 := hb _ _ (Nat.le_of_lt G4.out) b0
   have _z := 0
   simp only [AP]
   refine ⟨K0, ?_⟩
   clear hc hz hb K4
   refine gstep 6 rfl rfl (by kernel_rfl) ?_
   refine wp_conv_str _ rfl t rfl ?_
   intro v9 w5 S9 b9
   replace K0 := K0.below' b9
   replace b0 := b0.trans (b9.mono b0.size)
   replace S4 := S4.below b9
   simp only [AP]
   refine ⟨K0, ?_⟩
   clear b9
   refine gstep 7 rfl rfl (by kernel_rfl) ?_
   refine wq_three _ _ _ rfl _ _ _ rfl rfl rfl _ _ _ S4 (KR.out w5 K0) S9 ?_
   intro g5 ww SL b5
   simp only [AP]
   replace K0 := K0.below' b5
   replace b0 := b0.trans (b5.mono b0.size)
   refine ⟨K0, ?_⟩
   clear b5 S4 S9 KR
   refine gstep 8 rfl rfl (by kernel_rfl) ?_
   unfold Oper.wp execOp
   go_simp
   refine (CC.out _ _ _ ww SL).mono ?_
   rintro _ wz ⟨vz, rfl, Oz, bz⟩
   replace K0 := K0.below' bz
   replace b0 := b0.trans (bz.mono b0.size)
   refine ⟨K0, ?_⟩
   clear CC bz SL
   refine wpAnyS_takeL 9 (v := vz) rfl (by kernel_rfl) (by kernel_rfl) (by kernel_rfl) (fun _ _ _ H => H) (yieldsIf_assign rfl _ rfl (vz) rfl) K0 ?_
   simp only [AP]
   refine wpAnyS_done (by kernel_rfl) ?_ _
   refine aK _ _ ?_
   clear aK
   go_wp2
   go_ret
   exact ⟨_, rfl, SF.out ▸ Oz.sb, b0⟩
  ·
   skip
   refine wp_conv_str _ rfl t rfl ?_
   intro v9 w6 S9 b9
   replace K0 := K0.below' b9
   replace b0 := b0.trans (b9.mono b0.size)
   replace K4 := K4.below' b9
   simp only [AP]
   refine ⟨K0, ?_⟩
   clear b9
   refine gstep 1 rfl rfl (by kernel_rfl) ?_
   refine wp_mark _ rfl g4 10 10 _ rfl K4 ?_
   intro w7 hc hz hb
   have S4 : SB w7 (.slice (some ⟨g4, 0, none⟩) 10 10) purL := SB.of_ba' ((ba_vals K4).same hc hz) rfl (Nat.le_refl _)
   replace K0 : Blk w7 W.heap.size 50 CV := ((hb (W.heap.size + 1) _ G4.out (Below.refl _ _)).block _ (Nat.lt_succ_self _)).trans K0
   replace b0 : Below W.heap.size W w7 := hb _ _ (Nat.le_of_lt G4.out) b0
   replace S9 := S9.same hc hz
   simp only [AP]
   refine ⟨K0, ?_⟩
   clear hc hz hb K4
   refine gstep 7 rfl rfl (by kernel_rfl) ?_
   refine wq_three _ _ _ rfl _ _ _ rfl rfl rfl _ _ _ S4 (KR.out w7 K0) S9 ?_
   intro g5 ww SL b5
   simp only [AP]
   replace K0 := K0.below' b5
   replace b0 := b0.trans (b5.mono b0.size)
   refine ⟨K0, ?_⟩
   clear b5 S4 S9 KR
   refine gstep 8 rfl rfl (by kernel_rfl) ?_
   unfold Oper.wp execOp
   go_simp
   refine (CC.out _ _ _ ww SL).mono ?_
   rintro _ wz ⟨vz, rfl, Oz, bz⟩
   replace K0 := K0.below' bz
   replace b0 := b0.trans (bz.mono b0.size)
   refine ⟨K0, ?_⟩
   clear CC bz SL
   refine wpAnyS_takeL 9 (v := vz) rfl (by kernel_rfl) (by kernel_rfl) (by kernel_rfl) (fun _ _ _ H => H) (yieldsIf_assign rfl _ rfl (vz) rfl) K0 ?_
   simp only [AP]
   refine wpAnyS_done (by kernel_rfl) ?_ _
   refine aK _ _ ?_
   clear aK
   go_wp2
   go_ret
   exact ⟨_, rfl, SF.out ▸ Oz.sb, b0⟩
 ·
  skip
  refine wp_conv_str _ rfl t rfl ?_
  intro v9 w8 S9 b9
  replace K0 := K0.below' b9
  replace b0 := b0.trans (b9.mono b0.size)
  have _z := 0
  simp only [AP]
  refine ⟨K0, ?_⟩
  clear b9
  refine gstep 0 rfl rfl (by kernel_rfl) ?_
  unfold Oper.wp execOp
  go_simp
  rw [row_vals]
  have K4 := Blk.new w8 5 (vals purL).toArray
  have b4 := (Below.refl w8.heap.size w8).alloc (Nat.le_refl _) (.cells (vals purL).toArray 5)
  have G4 := Lib.hid K0.lt
  generalize World.alloc w8 _ = w9 at *
  replace K0 := K0.below' b4
  replace b0 := b0.trans (b4.mono b0.size)
  replace S9 := S9.below b4
  clear b4
  obtain ⟨g4, hg4⟩ : ∃ g, w8.heap.size = g := ⟨_, rfl⟩
  rw [hg4] at K4 G4 ⊢
  refine ⟨K0, ?_⟩
  refine gstep 1 rfl rfl (by kernel_rfl) ?_
  refine wp_mark _ rfl g4 10 10 _ rfl K4 ?_
  intro w10 hc hz hb
  have S4 : SB w10 (.slice (some ⟨g4, 0, none⟩) 10 10) purL := SB.of_ba' ((ba_vals K4).same hc hz) rfl (Nat.le_refl _)
  replace K0 : Blk w10 W.heap.size 50 CV := ((hb (W.heap.size + 1) _ G4.out (Below.refl _ _)).block _ (Nat.lt_succ_self _)).trans K0
  replace b0 : Below W.heap.size W w10 := hb _ _ (Nat.le_of_lt G4.out) b0
  replace S9 := S9.same hc hz
  simp only [AP]
  refine ⟨K0, ?_⟩
  clear hc hz hb K4
  refine gstep 7 rfl rfl (by kernel_rfl) ?_
  refine wq_three _ _ _ rfl _ _ _ rfl rfl rfl _ _ _ S4 (KR.out w10 K0) S9 ?_
  intro g5 ww SL b5
  simp only [AP]
  replace K0 := K0.below' b5
  replace b0 := b0.trans (b5.mono b0.size)
  refine ⟨K0, ?_⟩
  clear b5 S4 S9 KR
  refine gstep 8 rfl rfl (by kernel_rfl) ?_
  unfold Oper.wp execOp
  go_simp
  refine (CC.out _ _ _ ww SL).mono ?_
  rintro _ wz ⟨vz, rfl, Oz, bz⟩
  replace K0 := K0.below' bz
  replace b0 := b0.trans (bz.mono b0.size)
  refine ⟨K0, ?_⟩
  clear CC bz SL
  refine wpAnyS_takeL 9 (v := vz) rfl (by kernel_rfl) (by kernel_rfl) (by kernel_rfl) (fun _ _ _ H => H) (yieldsIf_assign rfl _ rfl (vz) rfl) K0 ?_
  simp only [AP]
  refine wpAnyS_done (by kernel_rfl) ?_ _
  refine aK _ _ ?_
  clear aK
  go_wp2
  go_ret
  exact ⟨_, rfl, SF.out ▸ Oz.sb, b0⟩
end Go.Proofs.YtegbnadnodlalaaGreatDoor
