/- The program's next: the round's key behind another one; its contract (printed by genpg.py). -/
import Derived.Test.YtpihgljdbpnehaaDoorPd0Pf
namespace Go.Proofs.YtpihgljdbpnehaaDoor
open Go.RowKit
section
variable {P : Program} {md : Region.Mode} {ops : Array Oper} {Q : Exit → Act → World → Prop} {S : World → Prop}
/-- The one operation that may come up. -/
theorem zstep (i : Nat) {z : Nat} {oi : Oper} {fuel : Nat} {listed : Array Bool} {a : Act} {w : World} (hi : ops.toList[i]? = some oi) (hgd : oi.guard = none) (hr : Region.ready md ops listed = [i])
  (h : oi.wp P a w (fun a' w' => ((listed.setIfInBounds i true).getD z true = false → S w') ∧ wpAnyZ P md ops Q S z fuel (listed.setIfInBounds i true) a' w') Q) : wpAnyZ P md ops Q S z (fuel + 1) listed a w := by
 refine wpAnyZ_one hr ?_
 unfold wpOp
 rw [← Array.getElem?_toList, hi]
 have hwd : Region.wanted oi (yielded ops a.tmps) = true := by simp [Region.wanted, hgd]
 simp only [hwd, if_true]
 left
 exact h
end
theorem info_4 (l : List Nat) (h : l.length = 4) : (Tryd.prog.info? 132).map (·.size) = some (Iv .u8 (NI l)).size := by
 rw [Iv_size, NI_length, h]
 kernel_rfl
/-- What stands while the next key is made. -/
structure NM (w0 : World) (gc g4 : Nat) (ks S : List Nat) (f : Nat → Nat) (w : World) : Prop where
 c : CI w gc ks S
 k : BB w g4 f
 r : BB w (g4 + 1) (fun _ => 0)
 bel : Below w0.heap.size w0 w
 lo : w0.heap.size ≤ g4
 far : gc < g4
theorem NM.drew {w0 w : World} {gc g4 : Nat} {ks S : List Nat} {f : Nat → Nat} (h : NM w0 gc g4 ks S f w) : NM w0 gc g4 ks S f w.drew := ⟨h.c.of_block rfl, h.k.of_block rfl, h.r.of_block rfl, below_drew h.bel, h.lo, h.far⟩
theorem NM.below {w0 w w1 : World} {gc g4 : Nat} {ks S : List Nat} {f : Nat → Nat} (h : NM w0 gc g4 ks S f w) (b : Below w.heap.size w w1) : NM w0 gc g4 ks S f w1 := ⟨h.c.below b, h.k.below b, h.r.below b, h.bel.trans (b.mono h.bel.size), h.lo, h.far⟩
theorem NM.row {w0 w : World} {gc g4 g : Nat} {ks S : List Nat} {f : Nat → Nat} (h : NM w0 gc g4 ks S f w) (hg : g4 + 1 < g) (cs : Array Value) : NM w0 gc g4 ks S f (w.setRow g cs) :=
 have := h.far; have := h.lo
 ⟨Blk.rowFar h.c (by omega) cs, Blk.rowFar h.k (by omega) cs, Blk.rowFar h.r (by omega) cs, below_setRow h.bel (by omega) cs, h.lo, h.far⟩
theorem NM.set {w0 w : World} {gc g4 : Nat} {ks S : List Nat} {f : Nat → Nat} (h : NM w0 gc g4 ks S f w) (k : Nat) (f' : Nat → Nat) (ho : ∀ i, i ≠ k → f' i = f i) : NM w0 gc g4 ks S f' (w.setCell ⟨g4, k, none⟩ (.int .u8 ((f' k : Nat) : Int))) :=
 have := h.far
 ⟨h.c.far (by omega) _, h.k.set k f' ho, h.r.far (by omega) _, h.bel.setCell (p := ⟨g4, k, none⟩) h.lo _, h.lo, h.far⟩
set_option maxHeartbeats 8000000 in
set_option maxRecDepth 100000 in
theorem next_any (gc : Nat) (ks S k : List Nat) (p : Nat) (lks : ks.length = 176) (lS : S.length = 256) (bS : ∀ x ∈ S, x < 256) (lk : k.length = 16) (bk : ∀ x ∈ k, x < 256) (lp : p < 256) (w : World) (hC : CI w gc ks S) :
  Calls Tryd.prog 64 #[.pointer (some ⟨gc, 0, none⟩), .agg (Iv .u8 (NI k)), .int .u8 (p : Int)] w fun e w' => e = .returned (.agg (Iv .u8 (NI (nextL S k p)))) ∧ Below w.heap.size w w' := by
 rw [NI_of k lk]
 obtain ⟨f, hf⟩ : ∃ f, f = fun i => k.getD i 0 := ⟨_, rfl⟩
 rw [← hf]
 have HFI := Lib.hid (show ∀ i, k.getD i 0 = f i from fun i => by rw [hf])
 clear hf
 unfold nextL
 go_enter Tryd.func64, Tryd.ntmps64
 go_upto_region 1 with fail
 rename_i aK
 generalize hW : World.alloc (World.alloc w _) _ = W
 have gcl := hC.lt
 have B0 : Below w.heap.size w W := hW ▸ ((Below.refl w.heap.size w).alloc (Nat.le_refl _) _).alloc (by simp) _
 have K0 : BB W w.heap.size f := hW ▸ (Blk.new w 27 (Iv .u8 (NI (LB f)))).alloc _
 have K1 : BB W (w.heap.size + 1) (fun _ => 0) := hW ▸ Blk.new' (by simp) _ (Iv .u8 (NI (LB fun _ => 0)))
 have N0 : NM w gc w.heap.size ks S f W := ⟨hC.below B0, K0, K1, B0, Nat.le_refl _, gcl⟩
 clear K0 K1
 have sz : W.heap.size = w.heap.size + 2 := by rw [← hW]; simp
 clear hW B0 hC
 have hfi := HFI.out
 have lx := fun i => getD_lt bk i
 have ls := fun i => getD_lt bS i
 have q0 : firstN S k p 0 = S.getD (k.getD 13 0) 0 ^^^ p := rfl
 have q1 : firstN S k p 1 = S.getD (k.getD 14 0) 0 := rfl
 have q2 : firstN S k p 2 = S.getD (k.getD 15 0) 0 := rfl
 have q3 : firstN S k p 3 = S.getD (k.getD 12 0) 0 := rfl
 have ex := u8_xor _ _ (ls (k.getD 13 0)) lp
 have HX := Lib.hid ex
 clear ex
 refine wp_region_Z (S := NM w gc w.heap.size ks S f) 32 (by kernel_rfl) ?_
 have hS := N0.drew
 have szV : W.drew.heap.size = w.heap.size + 2 := sz
 clear N0
 generalize W.drew = V at hS szV ⊢
 clear sz W
 obtain ⟨x12, h12⟩ : ∃ x, x = k.getD 12 0 := ⟨_, rfl⟩
 obtain ⟨x13, h13⟩ : ∃ x, x = k.getD 13 0 := ⟨_, rfl⟩
 obtain ⟨x14, h14⟩ : ∃ x, x = k.getD 14 0 := ⟨_, rfl⟩
 obtain ⟨x15, h15⟩ : ∃ x, x = k.getD 15 0 := ⟨_, rfl⟩
 have l12 : x12 < 256 := by rw [h12]; exact lx _
 have m12 : (x12 : Int) < 256 := by omega
 have z12 : (0 : Int) ≤ (x12 : Int) := by omega
 have c12 := Lib.hid (fun w' (hw' : NM w gc w.heap.size ks S f w') => hw'.k.cell 12 (by omega))
 rw [← hfi, ← h12] at c12
 have d12 := Lib.hid (fun w' (hw' : NM w gc w.heap.size ks S f w') => hw'.c.sub lks x12 (by omega))
 have l13 : x13 < 256 := by rw [h13]; exact lx _
 have m13 : (x13 : Int) < 256 := by omega
 have z13 : (0 : Int) ≤ (x13 : Int) := by omega
 have c13 := Lib.hid (fun w' (hw' : NM w gc w.heap.size ks S f w') => hw'.k.cell 13 (by omega))
 rw [← hfi, ← h13] at c13
 have d13 := Lib.hid (fun w' (hw' : NM w gc w.heap.size ks S f w') => hw'.c.sub lks x13 (by omega))
 have l14 : x14 < 256 := by rw [h14]; exact lx _
 have m14 : (x14 : Int) < 256 := by omega
 have z14 : (0 : Int) ≤ (x14 : Int) := by omega
 have c14 := Lib.hid (fun w' (hw' : NM w gc w.heap.size ks S f w') => hw'.k.cell 14 (by omega))
 rw [← hfi, ← h14] at c14
 have d14 := Lib.hid (fun w' (hw' : NM w gc w.heap.size ks S f w') => hw'.c.sub lks x14 (by omega))
 have l15 : x15 < 256 := by rw [h15]; exact lx _
 have m15 : (x15 : Int) < 256 := by omega
 have z15 : (0 : Int) ≤ (x15 : Int) := by omega
 have c15 := Lib.hid (fun w' (hw' : NM w gc w.heap.size ks S f w') => hw'.k.cell 15 (by omega))
 rw [← hfi, ← h15] at c15
 have d15 := Lib.hid (fun w' (hw' : NM w gc w.heap.size ks S f w') => hw'.c.sub lks x15 (by omega))
 rw [← h13] at q0 HX
 rw [← h14] at q1
 rw [← h15] at q2
 rw [← h12] at q3
 clear h12 h13 h14 h15
 generalize S.getD x12 0 = s12 at *
 generalize S.getD x13 0 = s13 at *
 generalize S.getD x14 0 = s14 at *
 generalize S.getD x15 0 = s15 at *
 generalize s13 ^^^ p = F0 at *
 have Q0 := Lib.hid q0
 have Q1 := Lib.hid q1
 have Q2 := Lib.hid q2
 have Q3 := Lib.hid q3
 clear q0 q1 q2 q3
 refine wpAnyZ_takeL 0 rfl (by kernel_rfl) (by kernel_rfl) (by kernel_rfl) (by kernel_rfl) (by kernel_rfl) (fun _ _ _ h => h) (yieldsIf_move rfl _ rfl _ rfl) hS ?_
 simp only [Act.put, List.setIfInBounds_toArray, List.set_cons_zero, List.set_cons_succ]
 refine wpAnyZ_takeL 1 (v := (Value.pointer (some ⟨w.heap.size, 13, none⟩))) rfl (by kernel_rfl) (by kernel_rfl) (by kernel_rfl) (by kernel_rfl) (by kernel_rfl) (fun _ _ _ h => h) (Or.inl ⟨by rfl, ?_⟩) hS ?_
 ·
  intro w' hw'
  go_simp
 simp only [Act.put, List.setIfInBounds_toArray, List.set_cons_zero, List.set_cons_succ]
 refine wpAnyZ_takeL 2 (v := (Value.int .u8 ((x13 : Nat) : Int))) rfl (by kernel_rfl) (by kernel_rfl) (by kernel_rfl) (by kernel_rfl) (by kernel_rfl) (fun _ _ _ h => h) (Or.inl ⟨by rfl, ?_⟩) hS ?_
 ·
  intro w' hw'
  have c9 := c13.out w' hw'
  go_simp
 simp only [Act.put, List.setIfInBounds_toArray, List.set_cons_zero, List.set_cons_succ]
 refine wpAnyZ_takeL 3 (v := (Value.pointer (some ⟨gc, 0, none⟩))) rfl (by kernel_rfl) (by kernel_rfl) (by kernel_rfl) (by kernel_rfl) (by kernel_rfl) (fun _ _ _ h => h) (Or.inl ⟨by rfl, ?_⟩) hS ?_
 ·
  intro w' hw'
  go_simp
 simp only [Act.put, List.setIfInBounds_toArray, List.set_cons_zero, List.set_cons_succ]
 refine wpAnyZ_takeL 4 (v := (Value.pointer (some ⟨gc, 176, none⟩))) rfl (by kernel_rfl) (by kernel_rfl) (by kernel_rfl) (by kernel_rfl) (by kernel_rfl) (fun _ _ _ h => h) (Or.inl ⟨by rfl, ?_⟩) hS ?_
 ·
  intro w' hw'
  go_simp
 simp only [Act.put, List.setIfInBounds_toArray, List.set_cons_zero, List.set_cons_succ]
 refine wpAnyZ_takeL 5 (v := (Value.pointer (some ⟨gc, 176 + x13, none⟩))) rfl (by kernel_rfl) (by kernel_rfl) (by kernel_rfl) (by kernel_rfl) (by kernel_rfl) (fun _ _ _ h => h) (Or.inl ⟨by rfl, ?_⟩) hS ?_
 ·
  intro w' hw'
  go_simp
 simp only [Act.put, List.setIfInBounds_toArray, List.set_cons_zero, List.set_cons_succ]
 refine wpAnyZ_takeL 6 (v := (Value.int .u8 ((s13 : Nat) : Int))) rfl (by kernel_rfl) (by kernel_rfl) (by kernel_rfl) (by kernel_rfl) (by kernel_rfl) (fun _ _ _ h => h) (Or.inl ⟨by rfl, ?_⟩) hS ?_
 ·
  intro w' hw'
  have c9 := d13.out w' hw'
  go_simp
 simp only [Act.put, List.setIfInBounds_toArray, List.set_cons_zero, List.set_cons_succ]
 refine wpAnyZ_takeL 7 rfl (by kernel_rfl) (by kernel_rfl) (by kernel_rfl) (by kernel_rfl) (by kernel_rfl) (fun _ _ _ h => h) (yieldsIf_move rfl _ rfl _ rfl) hS ?_
 simp only [Act.put, List.setIfInBounds_toArray, List.set_cons_zero, List.set_cons_succ]
 refine wpAnyZ_takeL 8 (v := (Value.int .u8 ((F0 : Nat) : Int))) rfl (by kernel_rfl) (by kernel_rfl) (by kernel_rfl) (by kernel_rfl) (by kernel_rfl) (fun _ _ _ h => h) (Or.inl ⟨by rfl, ?_⟩) hS ?_
 ·
  intro w' hw'
  have c9 := HX.out
  go_simp
 simp only [Act.put, List.setIfInBounds_toArray, List.set_cons_zero, List.set_cons_succ]
 refine wpAnyZ_takeL 9 rfl (by kernel_rfl) (by kernel_rfl) (by kernel_rfl) (by kernel_rfl) (by kernel_rfl) (fun _ _ _ h => h) (yieldsIf_move rfl _ rfl _ rfl) hS ?_
 simp only [Act.put, List.setIfInBounds_toArray, List.set_cons_zero, List.set_cons_succ]
 refine wpAnyZ_takeL 10 (v := (Value.pointer (some ⟨w.heap.size, 14, none⟩))) rfl (by kernel_rfl) (by kernel_rfl) (by kernel_rfl) (by kernel_rfl) (by kernel_rfl) (fun _ _ _ h => h) (Or.inl ⟨by rfl, ?_⟩) hS ?_
 ·
  intro w' hw'
  go_simp
 simp only [Act.put, List.setIfInBounds_toArray, List.set_cons_zero, List.set_cons_succ]
 refine wpAnyZ_takeL 11 (v := (Value.int .u8 ((x14 : Nat) : Int))) rfl (by kernel_rfl) (by kernel_rfl) (by kernel_rfl) (by kernel_rfl) (by kernel_rfl) (fun _ _ _ h => h) (Or.inl ⟨by rfl, ?_⟩) hS ?_
 ·
  intro w' hw'
  have c9 := c14.out w' hw'
  go_simp
 simp only [Act.put, List.setIfInBounds_toArray, List.set_cons_zero, List.set_cons_succ]
 refine wpAnyZ_takeL 12 (v := (Value.pointer (some ⟨gc, 0, none⟩))) rfl (by kernel_rfl) (by kernel_rfl) (by kernel_rfl) (by kernel_rfl) (by kernel_rfl) (fun _ _ _ h => h) (Or.inl ⟨by rfl, ?_⟩) hS ?_
 ·
  intro w' hw'
  go_simp
 simp only [Act.put, List.setIfInBounds_toArray, List.set_cons_zero, List.set_cons_succ]
 refine wpAnyZ_takeL 13 (v := (Value.pointer (some ⟨gc, 176, none⟩))) rfl (by kernel_rfl) (by kernel_rfl) (by kernel_rfl) (by kernel_rfl) (by kernel_rfl) (fun _ _ _ h => h) (Or.inl ⟨by rfl, ?_⟩) hS ?_
 ·
  intro w' hw'
  go_simp
 simp only [Act.put, List.setIfInBounds_toArray, List.set_cons_zero, List.set_cons_succ]
 refine wpAnyZ_takeL 14 (v := (Value.pointer (some ⟨gc, 176 + x14, none⟩))) rfl (by kernel_rfl) (by kernel_rfl) (by kernel_rfl) (by kernel_rfl) (by kernel_rfl) (fun _ _ _ h => h) (Or.inl ⟨by rfl, ?_⟩) hS ?_
 ·
  intro w' hw'
  go_simp
 simp only [Act.put, List.setIfInBounds_toArray, List.set_cons_zero, List.set_cons_succ]
 refine wpAnyZ_takeL 15 (v := (Value.int .u8 ((s14 : Nat) : Int))) rfl (by kernel_rfl) (by kernel_rfl) (by kernel_rfl) (by kernel_rfl) (by kernel_rfl) (fun _ _ _ h => h) (Or.inl ⟨by rfl, ?_⟩) hS ?_
 ·
  intro w' hw'
  have c9 := d14.out w' hw'
  go_simp
 simp only [Act.put, List.setIfInBounds_toArray, List.set_cons_zero, List.set_cons_succ]
 refine wpAnyZ_takeL 16 rfl (by kernel_rfl) (by kernel_rfl) (by kernel_rfl) (by kernel_rfl) (by kernel_rfl) (fun _ _ _ h => h) (yieldsIf_move rfl _ rfl _ rfl) hS ?_
 simp only [Act.put, List.setIfInBounds_toArray, List.set_cons_zero, List.set_cons_succ]
 refine wpAnyZ_takeL 17 (v := (Value.pointer (some ⟨w.heap.size, 15, none⟩))) rfl (by kernel_rfl) (by kernel_rfl) (by kernel_rfl) (by kernel_rfl) (by kernel_rfl) (fun _ _ _ h => h) (Or.inl ⟨by rfl, ?_⟩) hS ?_
 ·
  intro w' hw'
  go_simp
 simp only [Act.put, List.setIfInBounds_toArray, List.set_cons_zero, List.set_cons_succ]
 refine wpAnyZ_takeL 18 (v := (Value.int .u8 ((x15 : Nat) : Int))) rfl (by kernel_rfl) (by kernel_rfl) (by kernel_rfl) (by kernel_rfl) (by kernel_rfl) (fun _ _ _ h => h) (Or.inl ⟨by rfl, ?_⟩) hS ?_
 ·
  intro w' hw'
  have c9 := c15.out w' hw'
  go_simp
 simp only [Act.put, List.setIfInBounds_toArray, List.set_cons_zero, List.set_cons_succ]
 refine wpAnyZ_takeL 19 (v := (Value.pointer (some ⟨gc, 0, none⟩))) rfl (by kernel_rfl) (by kernel_rfl) (by kernel_rfl) (by kernel_rfl) (by kernel_rfl) (fun _ _ _ h => h) (Or.inl ⟨by rfl, ?_⟩) hS ?_
 ·
  intro w' hw'
  go_simp
 simp only [Act.put, List.setIfInBounds_toArray, List.set_cons_zero, List.set_cons_succ]
 refine wpAnyZ_takeL 20 (v := (Value.pointer (some ⟨gc, 176, none⟩))) rfl (by kernel_rfl) (by kernel_rfl) (by kernel_rfl) (by kernel_rfl) (by kernel_rfl) (fun _ _ _ h => h) (Or.inl ⟨by rfl, ?_⟩) hS ?_
 ·
  intro w' hw'
  go_simp
 simp only [Act.put, List.setIfInBounds_toArray, List.set_cons_zero, List.set_cons_succ]
 refine wpAnyZ_takeL 21 (v := (Value.pointer (some ⟨gc, 176 + x15, none⟩))) rfl (by kernel_rfl) (by kernel_rfl) (by kernel_rfl) (by kernel_rfl) (by kernel_rfl) (fun _ _ _ h => h) (Or.inl ⟨by rfl, ?_⟩) hS ?_
 ·
  intro w' hw'
  go_simp
 simp only [Act.put, List.setIfInBounds_toArray, List.set_cons_zero, List.set_cons_succ]
 refine wpAnyZ_takeL 22 (v := (Value.int .u8 ((s15 : Nat) : Int))) rfl (by kernel_rfl) (by kernel_rfl) (by kernel_rfl) (by kernel_rfl) (by kernel_rfl) (fun _ _ _ h => h) (Or.inl ⟨by rfl, ?_⟩) hS ?_
 ·
  intro w' hw'
  have c9 := d15.out w' hw'
  go_simp
 simp only [Act.put, List.setIfInBounds_toArray, List.set_cons_zero, List.set_cons_succ]
 refine wpAnyZ_takeL 23 rfl (by kernel_rfl) (by kernel_rfl) (by kernel_rfl) (by kernel_rfl) (by kernel_rfl) (fun _ _ _ h => h) (yieldsIf_move rfl _ rfl _ rfl) hS ?_
 simp only [Act.put, List.setIfInBounds_toArray, List.set_cons_zero, List.set_cons_succ]
 refine wpAnyZ_takeL 24 (v := (Value.pointer (some ⟨w.heap.size, 12, none⟩))) rfl (by kernel_rfl) (by kernel_rfl) (by kernel_rfl) (by kernel_rfl) (by kernel_rfl) (fun _ _ _ h => h) (Or.inl ⟨by rfl, ?_⟩) hS ?_
 ·
  intro w' hw'
  go_simp
 simp only [Act.put, List.setIfInBounds_toArray, List.set_cons_zero, List.set_cons_succ]
 refine wpAnyZ_takeL 25 (v := (Value.int .u8 ((x12 : Nat) : Int))) rfl (by kernel_rfl) (by kernel_rfl) (by kernel_rfl) (by kernel_rfl) (by kernel_rfl) (fun _ _ _ h => h) (Or.inl ⟨by rfl, ?_⟩) hS ?_
 ·
  intro w' hw'
  have c9 := c12.out w' hw'
  go_simp
 simp only [Act.put, List.setIfInBounds_toArray, List.set_cons_zero, List.set_cons_succ]
 refine wpAnyZ_takeL 26 (v := (Value.pointer (some ⟨gc, 0, none⟩))) rfl (by kernel_rfl) (by kernel_rfl) (by kernel_rfl) (by kernel_rfl) (by kernel_rfl) (fun _ _ _ h => h) (Or.inl ⟨by rfl, ?_⟩) hS ?_
 ·
  intro w' hw'
  go_simp
 simp only [Act.put, List.setIfInBounds_toArray, List.set_cons_zero, List.set_cons_succ]
 refine wpAnyZ_takeL 27 (v := (Value.pointer (some ⟨gc, 176, none⟩))) rfl (by kernel_rfl) (by kernel_rfl) (by kernel_rfl) (by kernel_rfl) (by kernel_rfl) (fun _ _ _ h => h) (Or.inl ⟨by rfl, ?_⟩) hS ?_
 ·
  intro w' hw'
  go_simp
 simp only [Act.put, List.setIfInBounds_toArray, List.set_cons_zero, List.set_cons_succ]
 refine wpAnyZ_takeL 28 (v := (Value.pointer (some ⟨gc, 176 + x12, none⟩))) rfl (by kernel_rfl) (by kernel_rfl) (by kernel_rfl) (by kernel_rfl) (by kernel_rfl) (fun _ _ _ h => h) (Or.inl ⟨by rfl, ?_⟩) hS ?_
 ·
  intro w' hw'
  go_simp
 simp only [Act.put, List.setIfInBounds_toArray, List.set_cons_zero, List.set_cons_succ]
 refine wpAnyZ_takeL 29 (v := (Value.int .u8 ((s12 : Nat) : Int))) rfl (by kernel_rfl) (by kernel_rfl) (by kernel_rfl) (by kernel_rfl) (by kernel_rfl) (fun _ _ _ h => h) (Or.inl ⟨by rfl, ?_⟩) hS ?_
 ·
  intro w' hw'
  have c9 := d12.out w' hw'
  go_simp
 simp only [Act.put, List.setIfInBounds_toArray, List.set_cons_zero, List.set_cons_succ]
 refine wpAnyZ_takeL 30 (v := (Value.agg (Iv .u8 (NI [F0, s14, s15, s12])))) rfl (by kernel_rfl) (by kernel_rfl) (by kernel_rfl) (by kernel_rfl) (by kernel_rfl) (fun _ _ _ h => h) (Or.inl ⟨by rfl, ?_⟩) hS ?_
 ·
  intro w' hw'
  go_simp
  rfl
 simp only [Act.put, List.setIfInBounds_toArray, List.set_cons_zero, List.set_cons_succ]
 refine zstep 31 rfl rfl (by kernel_rfl) ?_
 unfold Oper.wp execOp
 go_simp
 refine ⟨hS.below ((Below.refl _ _).alloc (Nat.le_refl _) (.cells #[.int .u8 0, .int .u8 0, .int .u8 0, .int .u8 0] 132)), ?_⟩
 have T0 : Blk (V.alloc (.cells #[.int .u8 0, .int .u8 0, .int .u8 0, .int .u8 0] 132)) V.heap.size 132 _ := Blk.new V _ _
 have hS2 := hS.below ((Below.refl _ _).alloc (Nat.le_refl _) (.cells #[.int .u8 0, .int .u8 0, .int .u8 0, .int .u8 0] 132))
 rw [szV] at T0
 clear hS
 generalize World.alloc V _ = V2 at *
 refine zstep 32 rfl rfl (by kernel_rfl) ?_
 refine wp_store_row 132 _ _ rfl (w.heap.size + 2) (Iv .u8 (NI [F0, s14, s15, s12])) rfl rfl 132 _ T0 (info_4 _ rfl) rfl (Iv_one _ _) ?_
 refine ⟨fun e => Bool.noConfusion ((e.symm.trans (show _ = true from rfl) : false = true)), ?_⟩
 refine wpAnyZ_done (by kernel_rfl) ?_ _
 have T1 := T0.row (Iv .u8 (NI [F0, s14, s15, s12]))
 have N1 := hS2.row (g := w.heap.size + 2) (by omega) (Iv .u8 (NI [F0, s14, s15, s12]))
 clear T0 hS2 szV
 generalize World.setRow V2 _ _ = U at *
 clear c12 c13 c14 c15 d12 d13 d14 d15
 refine aK _ _ ?_
 clear aK
 have fN : ∀ j, j < 4 → [F0, s14, s15, s12].getD j 0 = firstN S k p j := fun j hj => by
  match j, hj with
  | 0, _ => exact Q0.out.symm
  | 1, _ => exact Q1.out.symm
  | 2, _ => exact Q2.out.symm
  | 3, _ => exact Q3.out.symm
 have lN : [F0, s14, s15, s12].length = 4 := rfl
 generalize [F0, s14, s15, s12] = FL at *
 have fM : ∀ i, f i < 256 := fun i => by rw [← hfi]; exact lx i
 have n1 : ∀ j, j < 4 → nx S k p j = f j ^^^ FL.getD j 0 := fun j hj => by rw [nx_low _ _ _ hj, hfi, fN j hj]
 have n2 : ∀ j, 4 ≤ j → nx S k p j = f j ^^^ nx S k p (j - 4) := fun j hj => by rw [nx_high _ _ _ hj, hfi]
 have fF : ∀ j, j < 4 → FL.getD j 0 < 256 := fun j hj => by rw [fN j hj]; exact firstN_lt bS lp j
 have nL := fun j => nx_lt bS bk lp j
 have HF := Lib.hid fN
 have H1 := Lib.hid n1
 have H2 := Lib.hid n2
 clear fN n1 n2 Q0 Q1 Q2 Q3 HX lx ls hfi lks lS bS lk bk HF
 generalize hNX : nx S k p = NX at *
 have HN := Lib.hid hNX
 clear hNX
 go_upto_region 3 with fail
 go_loopw [40] (fun i wr => ∃ j : Nat, j ≤ 16 ∧ i = .int .i64 (j : Int) ∧ NM w gc w.heap.size ks S (MX NX f j) wr ∧ Blk wr (w.heap.size + 2) 132 (Iv .u8 (NI FL))) (fun i _ => (16 - intOf i).toNat)
 case atStart => exact ⟨0, by omega, rfl, N1, T1⟩
 case round =>
  clear N1 T1
  obtain ⟨j, hj, rfl, N1, T1⟩ := hrel
  by_cases h16 : j = 16
  ·
   subst h16
   have K0 := N1.k.congr (f' := NX) fun i hi => if_pos hi
   have K1 := N1.r
   have hB := N1.bel
   clear N1 T1
   go_wp2_with (first | (refine wpList_load_row rfl 27 _ rfl w.heap.size rfl 27 _ (0, 0) _ K0 Tryd.underlying27 rfl (info_bl _) ?_) | (refine wpList_store_row rfl 27 _ _ rfl (w.heap.size + 1) (Iv .u8 (NI (LB NX))) rfl rfl 27 _ K1 (info_bl _) (by rw [Iv_size, Iv_size, NI_length, NI_length, LB_length, LB_length]) (Iv_one _ _) ?_))
   exact bodyPost_ret (results_cell_row rfl _ _ _ 27 _ (0, 0) _ rfl (Blk.row K1 (Iv .u8 (NI (LB NX)))) Tryd.underlying27 rfl (info_bl _)) rfl ⟨by rw [HN.out], below_setRow hB (by omega) _⟩
  ·
   have i1 : (j : Int) < 16 := by omega
   have i0 : (0 : Int) ≤ (j : Int) := by omega
   have lf := fM j
   by_cases h4 : j < 4
   ·
    have i4 : (j : Int) < 4 := by omega
    have lg := fF j h4
    have en := H1.out j h4
    go_upto_region 6 with fail
    rename_i aK
    refine wp_region_still_tail 8 (by kernel_rfl) (by kernel_rfl) ?_
    simp only [List.take_succ_cons, List.take_zero, List.drop_succ_cons, List.drop_zero]
    change wpStill _ _ (World.drew wr) (fun a' => wpList _ _ _ _ a' (World.drew wr)) _ _
    replace N1 := N1.drew
    replace T1 : Blk wr.drew _ _ _ := T1.drew
    generalize World.drew wr = V at *
    have c0 := N1.k.cell j (by omega)
    rw [MX_old] at c0
    have f0 := Blk.frozen N1.k j
    have c1 : V.cell? ⟨w.heap.size + 2, j, none⟩ = some (.int .u8 ((FL.getD j 0 : Nat) : Int)) := by
     rw [Blk.cell T1, NI_get _ _ (by omega)]
     simp [List.getD_eq_getElem?_getD, show j < FL.length by omega]
    have N2 := N1.set j (MX NX f (j + 1)) (MX_step _ _ j)
    rw [MX_new, en] at N2
    generalize f j = F at *
    generalize FL.getD j 0 = G at *
    have ex := u8_xor _ _ lf lg
    generalize F ^^^ G = X at *
    have T2 : Blk _ (w.heap.size + 2) _ _ := Blk.far (p := ⟨w.heap.size, j, none⟩) T1 (by simp) (.int .u8 (X : Int))
    clear N1 T1 en
    repeat still_step
    refine wpStill_nil ?_
    go_wp2
    exact ⟨⟨j + 1, by omega, rfl, N2, T2⟩, by simp only [intOf]; omega⟩
   ·
    have i4 : ¬ (j : Int) < 4 := by omega
    have lg := nL (j - 4)
    have en := H2.out j (by omega)
    obtain ⟨q, hq⟩ : ∃ q, q = j - 4 := ⟨_, rfl⟩
    have w4 : IntKind.i64.wrap ((j : Int) - 4) = (q : Int) := by rw [IntKind.wrap_i64]; omega
    have w5 : (0 : Int) ≤ (q : Int) := by omega
    have w6 : (q : Int) < 16 := by omega
    have hqj : q < j := by omega
    rw [← hq] at lg en
    clear hq
    go_upto_region 7 with fail
    rename_i aK
    refine wp_region_still_tail 9 (by kernel_rfl) (by kernel_rfl) ?_
    simp only [List.take_succ_cons, List.take_zero, List.drop_succ_cons, List.drop_zero]
    change wpStill _ _ (World.drew wr) (fun a' => wpList _ _ _ _ a' (World.drew wr)) _ _
    replace N1 := N1.drew
    replace T1 : Blk wr.drew _ _ _ := T1.drew
    generalize World.drew wr = V at *
    have c0 := N1.k.cell j (by omega)
    rw [MX_old] at c0
    have f0 := Blk.frozen N1.k j
    have c1 := N1.k.cell q (by omega)
    rw [show MX NX f j q = NX q from if_pos hqj] at c1
    have N2 := N1.set j (MX NX f (j + 1)) (MX_step _ _ j)
    rw [MX_new, en] at N2
    generalize f j = F at *
    generalize NX q = G at *
    have ex := u8_xor _ _ lf lg
    generalize F ^^^ G = X at *
    have T2 : Blk _ (w.heap.size + 2) _ _ := Blk.far (p := ⟨w.heap.size, j, none⟩) T1 (by simp) (.int .u8 (X : Int))
    clear N1 T1 en
    repeat still_step
    refine wpStill_nil ?_
    go_wp2
    exact ⟨⟨j + 1, by omega, rfl, N2, T2⟩, by simp only [intOf]; omega⟩
end Go.Proofs.YtpihgljdbpnehaaDoor
