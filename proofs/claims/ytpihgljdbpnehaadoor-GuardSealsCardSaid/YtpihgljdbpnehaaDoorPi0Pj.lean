/- The program's New: a key made ready; its contract (printed by genpi.py). A Cipher's Encrypt; Encrypt: their contracts (printed by genpj.py). -/
import Derived.Test.YtpihgljdbpnehaaDoorJc0Ph
namespace Go.Proofs.YtpihgljdbpnehaaDoor
open Go.RowKit
section
variable {P : Program} {md : Region.Mode} {ops : Array Oper} {Q : Exit → Act → World → Prop} {S : World → Prop}
theorem sstep (i : Nat) {oi : Oper} {fuel : Nat} {listed : Array Bool} {a : Act} {w : World} (hi : ops.toList[i]? = some oi) (hgd : oi.guard = none) (hr : Region.ready md ops listed = [i])
    (h : oi.wp P a w (fun a' w' => S w' ∧ wpAnyS P md ops Q S fuel (listed.setIfInBounds i true) a' w') Q) : wpAnyS P md ops Q S (fuel + 1) listed a w := by
  refine wpAnyS_one hr ?_
  unfold wpOp
  rw [← Array.getElem?_toList, hi]
  have hwd : Region.wanted oi (yielded ops a.tmps) = true := by simp [Region.wanted, hgd]
  simp only [hwd, if_true]
  left
  exact h
end
theorem info_bk (l : List Nat) (h : l.length = 16) : (Tryd.prog.info? 27).map (·.size) = some (Iv .u8 (NI l)).size := info_b l h
theorem CI.below_setCells {w0 w : World} {g : Nat} (hg : w0.heap.size ≤ g) (h : Below w0.heap.size w0 w) (o : Nat) (vs : List Value) : Below w0.heap.size w0 (w.setCells g o vs) := below_setCells' hg vs o w h
theorem range_apart {w : World} {g i n : Nat} {cs vs : List Value} (h : w.rangeAt g (16 * i) cs) (hc : cs.length = 16) (hin : i < n) : (w.setCells g (16 * n) vs).rangeAt g (16 * i) cs :=
  World.rangeAt_setCells_apart h g (16 * n) vs (Or.inr (Or.inl (by omega)))
theorem run_ciph0 (w : World) (k : List Nat) : (Instr.build 114 #[(1, .agg (Iv .u8 (NI boxL)))]).run Tryd.prog w = .ok (.agg (Iv .u8 (NI (KM boxL k 0 ++ boxL)))) w := by
  rw [KM_zero]
  exact run_ciph w boxL boxL_length
set_option maxHeartbeats 8000000 in
set_option maxRecDepth 100000 in
theorem new_any (k : List Nat) (lk : k.length = 16) (bk : ∀ x ∈ k, x < 256) (w : World) :
    Calls Tryd.prog 46 #[.agg (Iv .u8 (NI k))] w fun e w' => ∃ g, e = .returned (.pointer (some ⟨g, 0, none⟩)) ∧ w.heap.size ≤ g ∧ CI w' g (KM boxL k 11) boxL ∧ Below w.heap.size w w' := by
  go_enter Tryd.func46, Tryd.ntmps46
  go_upto_region 1 with fail
  rename_i aK
  have B0 := (Below.refl w.heap.size w).alloc (Nat.le_refl _) (.cells (Iv .u8 (NI k)) 27)
  have K0 : Blk (w.alloc (.cells (Iv .u8 (NI k)) 27)) w.heap.size 27 (Iv .u8 (NI k)) := Blk.new w _ _
  generalize World.alloc w _ = W at *
  refine wp_region_seq ?_
  refine wpSeq_wp rfl ?_
  unfold Oper.wp execOp
  go_simp
  refine (subs_any _).mono ?_
  rintro _ w1 ⟨rfl, b1⟩
  replace K0 := Blk.below' K0 b1
  replace B0 := B0.trans (b1.mono B0.size)
  clear b1
  go_simp
  have lB := boxL_length
  have bB := boxL_bytes
  refine wpSeq_yield (S := fun w' => w' = w1) (v := .agg (Iv .u8 (NI (KM boxL k 0 ++ boxL)))) (Or.inl ⟨rfl, fun w' hw' => ?_⟩) rfl ?_
  · simp only [execOp, List.map_toArray, List.map_cons, List.map_nil, Act.eval, Sem.run_bind, Sem.run_pure]
    show ((Sem.run _ (Instr.build _ #[(1, Value.agg (Iv .u8 (NI boxL)))]) w').andThen _) = _
    rw [run_ciph0 w' k]
    rfl
  refine wpSeq_wp rfl ?_
  unfold Oper.wp execOp
  go_simp
  have C0 : CI (w1.alloc (.cells (Iv .u8 (NI (KM boxL k 0 ++ boxL))) 114)) w1.heap.size (KM boxL k 0) boxL := Blk.new w1 _ _
  have b2 : Below w1.heap.size w1 (w1.alloc (.cells (Iv .u8 (NI (KM boxL k 0 ++ boxL))) 114)) := (Below.refl _ _).alloc (Nat.le_refl _) _
  have lt1 := K0.lt
  replace K0 := Blk.below' K0 b2
  replace B0 := B0.trans (b2.mono B0.size)
  have hgn : w.heap.size ≠ w1.heap.size := by omega
  have hgl : w.heap.size ≤ w1.heap.size := by omega
  clear b2
  generalize World.alloc w1 _ = W2 at *
  generalize w1.heap.size = g at *
  refine wpSeq_yield (S := fun w' => w' = W2) (yieldsIf_assign rfl _ rfl (.pointer (some ⟨g, 0, none⟩)) rfl) rfl ?_
  refine wpSeq_nil ?_
  refine aK _ _ ?_
  clear aK
  go_upto_region 2 with fail
  rename_i aK
  refine wp_region_S (S := fun w' => Blk w' w.heap.size 27 (Iv .u8 (NI k))) (by kernel_rfl) ?_
  have hS : Blk W2.drew w.heap.size 27 (Iv .u8 (NI k)) := K0.drew
  replace C0 : CI W2.drew _ _ _ := C0.of_block rfl
  replace B0 := below_drew B0
  clear K0
  generalize World.drew W2 = V at *
  refine wpAnyS_takeL 0 rfl (by kernel_rfl) (by kernel_rfl) (by kernel_rfl) (fun _ _ _ h => h) (yieldsIf_move rfl _ rfl (Value.pointer (some ⟨g, 0, none⟩)) rfl) hS ?_
  simp only [Act.put, List.setIfInBounds_toArray, List.set_cons_zero, List.set_cons_succ]
  refine wpAnyS_takeL 1 rfl (by kernel_rfl) (by kernel_rfl) (by kernel_rfl) (fun _ _ _ h => h) (yieldsIf_row_wanted rfl 27 _ rfl w.heap.size rfl 27 _ _ (fun _ h => h) Tryd.underlying27 rfl (info_bk k lk)) hS ?_
  simp only [Act.put, List.setIfInBounds_toArray, List.set_cons_zero, List.set_cons_succ]
  refine wpAnyS_takeL 2 (v := (Value.pointer (some ⟨g, 0, none⟩))) rfl (by kernel_rfl) (by kernel_rfl) (by kernel_rfl) (fun _ _ _ h => h) (Or.inl ⟨by rfl, ?_⟩) hS ?_
  · intro w' hw'
    go_simp
  simp only [Act.put, List.setIfInBounds_toArray, List.set_cons_zero, List.set_cons_succ]
  refine wpAnyS_takeL 3 (v := (Value.pointer (some ⟨g, 0, none⟩))) rfl (by kernel_rfl) (by kernel_rfl) (by kernel_rfl) (fun _ _ _ h => h) (Or.inl ⟨by rfl, ?_⟩) hS ?_
  · intro w' hw'
    go_simp
  simp only [Act.put, List.setIfInBounds_toArray, List.set_cons_zero, List.set_cons_succ]
  refine wpAnyS_takeL 4 (v := (Value.pointer (some ⟨g, 0, none⟩))) rfl (by kernel_rfl) (by kernel_rfl) (by kernel_rfl) (fun _ _ _ h => h) (Or.inl ⟨by rfl, ?_⟩) hS ?_
  · intro w' hw'
    go_simp
  simp only [Act.put, List.setIfInBounds_toArray, List.set_cons_zero, List.set_cons_succ]
  refine sstep 5 rfl rfl (by kernel_rfl) ?_
  refine wp_store_mid 27 _ _ rfl g 0 (Iv .u8 (NI k)) rfl rfl (by rw [Iv_size, NI_length, lk]; exact C0.there (KM_length _ _ _) 0 (by omega)) (info_bk k lk) (Iv_one _ _) ?_
  rw [iv_cl]
  refine ⟨blk_setCells_far hgn _ _ _ hS, ?_⟩
  refine wpAnyS_done (by kernel_rfl) ?_ _
  refine aK _ _ ?_
  clear aK
  have C1 : CI (V.setCells g 0 (cl k)) g (KM boxL k (0 + 1)) boxL := C0.put lk (n := 0) (by omega)
  have B1 := CI.below_setCells hgl B0 0 (cl k)
  clear C0 B0 hS
  generalize World.setCells V g 0 (cl k) = U at *
  go_upto_region 5 with fail
  go_loopw [4, 14] (fun p i wr => ∃ n : Nat, n ≤ 10 ∧ i = .int .i64 (n : Int) ∧ p = .int .u8 (((ksF boxL k n).2 : Nat) : Int) ∧ CI wr g (KM boxL k (n + 1)) boxL ∧ Below w.heap.size w wr) (fun _ i _ => (10 - intOf i).toNat)
  case atStart => exact ⟨0, by omega, rfl, rfl, C1, B1⟩
  case round =>
    clear C1 B1
    obtain ⟨n, hn, rfl, rfl, C1, B1⟩ := hrel
    by_cases h10 : n = 10
    · subst h10
      go_wp2
      go_ret
      exact ⟨g, rfl, hgl, C1, B1⟩
    · have i1 : (n : Int) < 10 := by omega
      have i0 : (0 : Int) ≤ (n : Int) := by omega
      have i2 : (n : Int) < 11 := by omega
      have i3 : (n : Int) + 1 < 11 := by omega
      have i4 : (0 : Int) ≤ (n : Int) + 1 := by omega
      have w1 : IntKind.i64.wrap ((n : Int) + 1) = ((n + 1 : Nat) : Int) := by rw [IntKind.wrap_i64]; omega
      have w2 : wrap64 ((n : Int) + 1) = (n : Int) + 1 := by unfold wrap64; omega
      have lX := ksF_length (S := boxL) lk n
      have bX := ksF_lt boxL_bytes bk n
      have lp := ksF_p boxL k n
      have eY := Lib.hid (show (ksF boxL k (n + 1)).1 = nextL boxL (ksF boxL k n).1 (ksF boxL k n).2 from rfl)
      have eP := Lib.hid (show (ksF boxL k (n + 1)).2 = dblN (ksF boxL k n).2 from rfl)
      go_upto_region 7 with fail
      rename_i aK
      refine wp_region_S (S := fun w' => w'.rangeAt g (16 * n) (cl (ksF boxL k n).1)) (by kernel_rfl) ?_
      replace C1 : CI wr.drew _ _ _ := C1.of_block rfl
      replace B1 := below_drew B1
      have hS := C1.key lk n (by omega) (by omega)
      generalize World.drew wr = V2 at *
      generalize (ksF boxL k n).2 = pw at *
      refine wpAnyS_takeL 0 rfl (by kernel_rfl) (by kernel_rfl) (by kernel_rfl) (fun _ _ _ h => h) (yieldsIf_move rfl _ rfl (Value.pointer (some ⟨g, 0, none⟩)) rfl) hS ?_
      simp only [Act.put, List.setIfInBounds_toArray, List.set_cons_zero, List.set_cons_succ]
      refine wpAnyS_takeL 1 rfl (by kernel_rfl) (by kernel_rfl) (by kernel_rfl) (fun _ _ _ h => h) (yieldsIf_move rfl _ rfl (Value.int .i64 (n : Int)) rfl) hS ?_
      simp only [Act.put, List.setIfInBounds_toArray, List.set_cons_zero, List.set_cons_succ]
      refine wpAnyS_takeL 2 (v := (Value.int .i64 ((n : Int) + 1))) rfl (by kernel_rfl) (by kernel_rfl) (by kernel_rfl) (fun _ _ _ h => h) (Or.inl ⟨by rfl, ?_⟩) hS ?_
      · intro w' hw'
        go_simp
      simp only [Act.put, List.setIfInBounds_toArray, List.set_cons_zero, List.set_cons_succ]
      refine wpAnyS_takeL 3 rfl (by kernel_rfl) (by kernel_rfl) (by kernel_rfl) (fun _ _ _ h => h) (yieldsIf_move rfl _ rfl (Value.pointer (some ⟨g, 0, none⟩)) rfl) hS ?_
      simp only [Act.put, List.setIfInBounds_toArray, List.set_cons_zero, List.set_cons_succ]
      refine wpAnyS_takeL 4 rfl (by kernel_rfl) (by kernel_rfl) (by kernel_rfl) (fun _ _ _ h => h) (yieldsIf_move rfl _ rfl (Value.pointer (some ⟨g, 0, none⟩)) rfl) hS ?_
      simp only [Act.put, List.setIfInBounds_toArray, List.set_cons_zero, List.set_cons_succ]
      refine wpAnyS_takeL 5 rfl (by kernel_rfl) (by kernel_rfl) (by kernel_rfl) (fun _ _ _ h => h) (yieldsIf_move rfl _ rfl (Value.int .i64 (n : Int)) rfl) hS ?_
      simp only [Act.put, List.setIfInBounds_toArray, List.set_cons_zero, List.set_cons_succ]
      refine wpAnyS_takeL 6 (v := (Value.pointer (some ⟨g, 0, none⟩))) rfl (by kernel_rfl) (by kernel_rfl) (by kernel_rfl) (fun _ _ _ h => h) (Or.inl ⟨by rfl, ?_⟩) hS ?_
      · intro w' hw'
        go_simp
      simp only [Act.put, List.setIfInBounds_toArray, List.set_cons_zero, List.set_cons_succ]
      refine wpAnyS_takeL 7 (v := (Value.pointer (some ⟨g, 0, none⟩))) rfl (by kernel_rfl) (by kernel_rfl) (by kernel_rfl) (fun _ _ _ h => h) (Or.inl ⟨by rfl, ?_⟩) hS ?_
      · intro w' hw'
        go_simp
      simp only [Act.put, List.setIfInBounds_toArray, List.set_cons_zero, List.set_cons_succ]
      refine wpAnyS_takeL 8 (v := (Value.pointer (some ⟨g, 16 * n, none⟩))) rfl (by kernel_rfl) (by kernel_rfl) (by kernel_rfl) (fun _ _ _ h => h) (Or.inl ⟨by rfl, ?_⟩) hS ?_
      · intro w' hw'
        go_simp
      simp only [Act.put, List.setIfInBounds_toArray, List.set_cons_zero, List.set_cons_succ]
      refine wpAnyS_takeL 9 rfl (by kernel_rfl) (by kernel_rfl) (by kernel_rfl) (fun _ _ _ h => h) ((show YieldsIf _ _ _ _ (Value.agg (Iv .u8 (NI (ksF boxL k n).1))) _ from yieldsIf_load_mid rfl 27 _ rfl g (16 * n) rfl (cl (ksF boxL k n).1) _ (fun _ h => h) Tryd.underlying27 rfl (info_mid _ lX))) hS ?_
      simp only [Act.put, List.setIfInBounds_toArray, List.set_cons_zero, List.set_cons_succ]
      refine wpAnyS_takeL 10 rfl (by kernel_rfl) (by kernel_rfl) (by kernel_rfl) (fun _ _ _ h => h) (yieldsIf_move rfl _ rfl (Value.int .u8 ((pw : Nat) : Int)) rfl) hS ?_
      simp only [Act.put, List.setIfInBounds_toArray, List.set_cons_zero, List.set_cons_succ]
      refine wpAnyS_takeL 12 (v := (Value.pointer (some ⟨g, 0, none⟩))) rfl (by kernel_rfl) (by kernel_rfl) (by kernel_rfl) (fun _ _ _ h => h) (Or.inl ⟨by rfl, ?_⟩) hS ?_
      · intro w' hw'
        go_simp
      simp only [Act.put, List.setIfInBounds_toArray, List.set_cons_zero, List.set_cons_succ]
      refine wpAnyS_takeL 13 (v := (Value.pointer (some ⟨g, 0, none⟩))) rfl (by kernel_rfl) (by kernel_rfl) (by kernel_rfl) (fun _ _ _ h => h) (Or.inl ⟨by rfl, ?_⟩) hS ?_
      · intro w' hw'
        go_simp
      simp only [Act.put, List.setIfInBounds_toArray, List.set_cons_zero, List.set_cons_succ]
      have N := Lib.hid (next_any g (KM boxL k (n + 1)) boxL (ksF boxL k n).1 pw (KM_length _ _ _) boxL_length boxL_bytes lX bX lp V2 C1)
      rw [← eY.out] at N
      refine sstep 11 rfl rfl (by kernel_rfl) ?_
      unfold Oper.wp execOp
      go_simp
      refine N.out.mono ?_
      rintro _ w9 ⟨rfl, b9⟩
      have hS9 : w9.rangeAt g (16 * n) (cl (ksF boxL k n).1) := (C1.below b9).key lk n (by omega) (by omega)
      replace C1 := C1.below b9
      replace B1 := B1.trans (b9.mono B1.size)
      clear hS b9 N
      refine ⟨hS9, ?_⟩
      have hS := hS9
      clear hS9
      refine wpAnyS_takeL 14 (v := (Value.pointer (some ⟨g, 16 * (n + 1), none⟩))) rfl (by kernel_rfl) (by kernel_rfl) (by kernel_rfl) (fun _ _ _ h => h) (Or.inl ⟨by rfl, ?_⟩) hS ?_
      · intro w' hw'
        go_simp
      simp only [Act.put, List.setIfInBounds_toArray, List.set_cons_zero, List.set_cons_succ]
      have lY := ksF_length (S := boxL) lk (n + 1)
      refine sstep 15 rfl rfl (by kernel_rfl) ?_
      refine wp_store_mid 27 _ _ rfl g (16 * (n + 1)) (Iv .u8 (NI (ksF boxL k (n + 1)).1)) rfl rfl (by rw [Iv_size, NI_length, lY]; exact C1.there (KM_length _ _ _) _ (by omega)) (info_bk _ lY) (Iv_one _ _) ?_
      rw [iv_cl]
      refine ⟨range_apart hS (by rw [cl_length, lX]) (by omega), ?_⟩
      refine wpAnyS_done (by kernel_rfl) ?_ _
      refine aK _ _ ?_
      clear aK
      have C2 : CI (w9.setCells g (16 * (n + 1)) (cl (ksF boxL k (n + 1)).1)) g (KM boxL k (n + 1 + 1)) boxL := C1.put lk (by omega)
      have B2 := CI.below_setCells hgl B1 (16 * (n + 1)) (cl (ksF boxL k (n + 1)).1)
      clear C1 B1 hS lY
      generalize World.setCells w9 g _ _ = U at *
      have D := Lib.hid (double_any pw lp)
      rw [← eP.out] at D
      go_wp2_with fail
      refine (D.out _).mono ?_
      rintro _ w8 ⟨rfl, b8⟩
      replace C2 := C2.below b8
      replace B2 := B2.trans (b8.mono B2.size)
      clear b8 D
      go_wp2
      exact ⟨⟨n + 1, by omega, by congr 1, rfl, C2, B2⟩, by simp only [intOf]; omega⟩
end Go.Proofs.YtpihgljdbpnehaaDoor
namespace Go.Proofs.YtpihgljdbpnehaaDoor
open Go.RowKit
theorem mixed_any (b : List Nat) (lb : b.length = 16) (bb : ∀ x ∈ b, x < 256) (w : World) :
    Calls Tryd.prog 82 #[.agg (Iv .u8 (NI b))] w fun e w' => e = .returned (.agg (Iv .u8 (NI (mixedL b)))) ∧ Below w.heap.size w w' := by
  have h := mixed_f (fun i => b.getD i 0) (fun i => getD_lt bb i) w
  rw [LB_of b lb] at h
  exact h
/-- What stands while a block is encrypted: the Cipher, the block, the answer's place. -/
structure EM (w0 : World) (gc : Nat) (k st : List Nat) (w : World) : Prop where
  c : CI w gc (KM boxL k 11) boxL
  b : Blk w w0.heap.size 27 (Iv .u8 (NI st))
  r : Blk w (w0.heap.size + 1) 27 (Iv .u8 (NI (LB fun _ => 0)))
  bel : Below w0.heap.size w0 w
  far : gc < w0.heap.size
theorem EM.drew {w0 w : World} {gc : Nat} {k st : List Nat} (h : EM w0 gc k st w) : EM w0 gc k st w.drew := ⟨h.c.of_block rfl, h.b.drew, h.r.drew, below_drew h.bel, h.far⟩
theorem EM.below {w0 w w1 : World} {gc : Nat} {k st : List Nat} (h : EM w0 gc k st w) (b : Below w.heap.size w w1) : EM w0 gc k st w1 := ⟨h.c.below b, Blk.below' h.b b, Blk.below' h.r b, h.bel.trans (b.mono h.bel.size), h.far⟩
theorem EM.put {w0 w : World} {gc : Nat} {k st : List Nat} (h : EM w0 gc k st w) (l : List Nat) : EM w0 gc k l (w.setRow w0.heap.size (Iv .u8 (NI l))) :=
  have := h.far
  ⟨Blk.rowFar h.c (by omega) _, h.b.row _, h.r.rowFar (by omega) _, below_setRow h.bel (Nat.le_refl _) _, h.far⟩
/-- The same, with the key that is at hand. -/
structure EK (w0 : World) (gc gk : Nat) (k st kk : List Nat) (w : World) : Prop where
  m : EM w0 gc k st w
  k : Blk w gk 27 (Iv .u8 (NI kk))
theorem EK.drew {w0 w : World} {gc gk : Nat} {k st kk : List Nat} (h : EK w0 gc gk k st kk w) : EK w0 gc gk k st kk w.drew := ⟨h.m.drew, h.k.drew⟩
theorem EK.below {w0 w w1 : World} {gc gk : Nat} {k st kk : List Nat} (h : EK w0 gc gk k st kk w) (b : Below w.heap.size w w1) : EK w0 gc gk k st kk w1 := ⟨h.m.below b, Blk.below' h.k b⟩
theorem size_b {a b : List Nat} (ha : a.length = 16) (hb : b.length = 16) : (Iv .u8 (NI a)).size = (Iv .u8 (NI b)).size := by rw [Iv_size, Iv_size, NI_length, NI_length, ha, hb]
set_option maxHeartbeats 8000000 in
set_option maxRecDepth 100000 in
theorem ciph_any (gc : Nat) (k b : List Nat) (lk : k.length = 16) (bk : ∀ x ∈ k, x < 256) (lb : b.length = 16) (bb : ∀ x ∈ b, x < 256) (w : World) (hC : CI w gc (KM boxL k 11) boxL) :
    Calls Tryd.prog 73 #[.pointer (some ⟨gc, 0, none⟩), .agg (Iv .u8 (NI b))] w fun e w' => e = .returned (.agg (Iv .u8 (NI (encL boxL k b)))) ∧ Below w.heap.size w w' := by
  rw [← enc_is boxL_bytes lk]
  have l0 : (ksF boxL k 0).1.length = 16 := lk
  have lz : (LB fun _ => 0).length = 16 := LB_length _
  have lR := KM_length boxL k 11
  go_enter Tryd.func73, Tryd.ntmps73
  go_upto_region 3 with fail
  rename_i aK
  generalize hW : World.alloc (World.alloc w _) _ = W
  have gcl := hC.lt
  have B0 : Below w.heap.size w W := hW ▸ ((Below.refl w.heap.size w).alloc (Nat.le_refl _) _).alloc (by simp) _
  have K0 : Blk W w.heap.size 27 (Iv .u8 (NI b)) := hW ▸ (Blk.new w _ _).alloc _
  have K1 : Blk W (w.heap.size + 1) 27 (Iv .u8 (NI (LB fun _ => 0))) := hW ▸ Blk.new' (by simp) _ (Iv .u8 (NI (LB fun _ => 0)))
  have hM : EM w gc k b W := ⟨hC.below B0, K0, K1, B0, gcl⟩
  clear hW B0 hC K0 K1
  refine wp_region_Z (S := EM w gc k b) 7 (by kernel_rfl) ?_
  replace hM := hM.drew
  generalize W.drew = V at hM ⊢
  have hS := hM
  refine wpAnyZ_takeL 0 rfl (by kernel_rfl) (by kernel_rfl) (by kernel_rfl) (by kernel_rfl) (by kernel_rfl) (fun _ _ _ h => h) ((show YieldsIf _ _ _ _ (Value.agg (Iv .u8 (NI b))) _ from yieldsIf_row_wanted rfl 27 _ rfl (w.heap.size) rfl 27 _ _ (fun _ h => h.b) Tryd.underlying27 rfl (info_bk _ lb))) hS ?_
  simp only [Act.put, List.setIfInBounds_toArray, List.set_cons_zero, List.set_cons_succ]
  refine wpAnyZ_takeL 1 rfl (by kernel_rfl) (by kernel_rfl) (by kernel_rfl) (by kernel_rfl) (by kernel_rfl) (fun _ _ _ h => h) (yieldsIf_move rfl _ rfl (Value.pointer (some ⟨gc, 0, none⟩)) rfl) hS ?_
  simp only [Act.put, List.setIfInBounds_toArray, List.set_cons_zero, List.set_cons_succ]
  refine wpAnyZ_takeL 2 (v := (Value.pointer (some ⟨gc, 0, none⟩))) rfl (by kernel_rfl) (by kernel_rfl) (by kernel_rfl) (by kernel_rfl) (by kernel_rfl) (fun _ _ _ h => h) (Or.inl ⟨by rfl, ?_⟩) hS ?_
  · intro w' hw'
    go_simp
  simp only [Act.put, List.setIfInBounds_toArray, List.set_cons_zero, List.set_cons_succ]
  refine wpAnyZ_takeL 3 (v := (Value.pointer (some ⟨gc, 0, none⟩))) rfl (by kernel_rfl) (by kernel_rfl) (by kernel_rfl) (by kernel_rfl) (by kernel_rfl) (fun _ _ _ h => h) (Or.inl ⟨by rfl, ?_⟩) hS ?_
  · intro w' hw'
    go_simp
  simp only [Act.put, List.setIfInBounds_toArray, List.set_cons_zero, List.set_cons_succ]
  refine wpAnyZ_takeL 4 (v := (Value.pointer (some ⟨gc, 0, none⟩))) rfl (by kernel_rfl) (by kernel_rfl) (by kernel_rfl) (by kernel_rfl) (by kernel_rfl) (fun _ _ _ h => h) (Or.inl ⟨by rfl, ?_⟩) hS ?_
  · intro w' hw'
    go_simp
  simp only [Act.put, List.setIfInBounds_toArray, List.set_cons_zero, List.set_cons_succ]
  refine wpAnyZ_takeL 5 rfl (by kernel_rfl) (by kernel_rfl) (by kernel_rfl) (by kernel_rfl) (by kernel_rfl) (fun _ _ _ h => h) ((show YieldsIf _ _ _ _ (Value.agg (Iv .u8 (NI (ksF boxL k 0).1))) _ from yieldsIf_load_mid rfl 27 _ rfl gc (16 * 0) rfl (cl (ksF boxL k 0).1) _ (fun _ h => h.c.key lk 0 (by omega) (by omega)) Tryd.underlying27 rfl (info_mid _ l0))) hS ?_
  simp only [Act.put, List.setIfInBounds_toArray, List.set_cons_zero, List.set_cons_succ]
  refine zstep 6 rfl rfl (by kernel_rfl) ?_
  unfold Oper.wp execOp
  go_simp
  refine (joined_any b (ksF boxL k 0).1 lb l0 bb bk _).mono ?_
  rintro _ w9 ⟨rfl, b9⟩
  replace hM := hM.below b9
  clear hS b9
  refine ⟨hM, ?_⟩
  have hS := hM
  have lX : (xorB b (ksF boxL k 0).1).length = 16 := LB_length _
  refine zstep 7 rfl rfl (by kernel_rfl) ?_
  refine wp_store_row 27 _ _ rfl (w.heap.size) (Iv .u8 (NI (xorB b (ksF boxL k 0).1))) rfl rfl 27 _ hM.b (info_bk _ lX) (size_b lb lX) (Iv_one _ _) ?_
  refine ⟨fun e => Bool.noConfusion ((e.symm.trans (show _ = true from rfl) : false = true)), ?_⟩
  refine wpAnyZ_done (by kernel_rfl) ?_ _
  refine aK _ _ ?_
  clear aK hS
  have hM2 : EM w gc k (stF boxL k b 0) (w9.setRow w.heap.size (Iv .u8 (NI (xorB b (ksF boxL k 0).1)))) := hM.put _
  clear hM
  generalize World.setRow w9 _ _ = U at *
  clear lX l0 lb
  go_upto_region 5 with fail
  go_loopw [22] (fun i wr => ∃ n : Nat, n ≤ 9 ∧ i = .int .i64 (n : Int) ∧ EM w gc k (stF boxL k b n) wr) (fun i _ => (9 - intOf i).toNat)
  case atStart => exact ⟨0, by omega, rfl, hM2⟩
  case round =>
    clear hM2
    obtain ⟨n, hn, rfl, hM⟩ := hrel
    have lst := stF_length boxL k b n
    have bst := stF_lt boxL_bytes bk bb n
    by_cases h9 : n = 9
    · subst h9
      go_upto_region 9 with fail
      rename_i aK
      refine wp_region_Z (S := EM w gc k (stF boxL k b 9)) 9 (by kernel_rfl) ?_
      replace hM := hM.drew
      generalize wr.drew = V at hM ⊢
      have hS := hM
      have lK := ksF_length (S := boxL) lk 10
      have bK := ksF_lt boxL_bytes bk 10
      have lM : (movedL boxL (stF boxL k b 9)).length = 16 := LB_length _
      have bM := movedL_lt (b := stF boxL k b 9) boxL_bytes
      obtain ⟨st, hst⟩ : ∃ st, st = stF boxL k b 9 := ⟨_, rfl⟩
      rw [← hst] at hM hS lst bst lM bM ⊢
      have HST := Lib.hid hst
      clear hst
      refine wpAnyZ_takeL 0 rfl (by kernel_rfl) (by kernel_rfl) (by kernel_rfl) (by kernel_rfl) (by kernel_rfl) (fun _ _ _ h => h) (yieldsIf_move rfl _ rfl (Value.pointer (some ⟨gc, 0, none⟩)) rfl) hS ?_
      simp only [Act.put, List.setIfInBounds_toArray, List.set_cons_zero, List.set_cons_succ]
      refine wpAnyZ_takeL 1 rfl (by kernel_rfl) (by kernel_rfl) (by kernel_rfl) (by kernel_rfl) (by kernel_rfl) (fun _ _ _ h => h) ((show YieldsIf _ _ _ _ (Value.agg (Iv .u8 (NI st))) _ from yieldsIf_row_wanted rfl 27 _ rfl (w.heap.size) rfl 27 _ _ (fun _ h => h.b) Tryd.underlying27 rfl (info_bk _ lst))) hS ?_
      simp only [Act.put, List.setIfInBounds_toArray, List.set_cons_zero, List.set_cons_succ]
      refine wpAnyZ_takeL 3 rfl (by kernel_rfl) (by kernel_rfl) (by kernel_rfl) (by kernel_rfl) (by kernel_rfl) (fun _ _ _ h => h) (yieldsIf_move rfl _ rfl (Value.pointer (some ⟨gc, 0, none⟩)) rfl) hS ?_
      simp only [Act.put, List.setIfInBounds_toArray, List.set_cons_zero, List.set_cons_succ]
      refine wpAnyZ_takeL 4 (v := (Value.pointer (some ⟨gc, 0, none⟩))) rfl (by kernel_rfl) (by kernel_rfl) (by kernel_rfl) (by kernel_rfl) (by kernel_rfl) (fun _ _ _ h => h) (Or.inl ⟨by rfl, ?_⟩) hS ?_
      · intro w' hw'
        go_simp
      simp only [Act.put, List.setIfInBounds_toArray, List.set_cons_zero, List.set_cons_succ]
      refine wpAnyZ_takeL 5 (v := (Value.pointer (some ⟨gc, 0, none⟩))) rfl (by kernel_rfl) (by kernel_rfl) (by kernel_rfl) (by kernel_rfl) (by kernel_rfl) (fun _ _ _ h => h) (Or.inl ⟨by rfl, ?_⟩) hS ?_
      · intro w' hw'
        go_simp
      simp only [Act.put, List.setIfInBounds_toArray, List.set_cons_zero, List.set_cons_succ]
      refine wpAnyZ_takeL 6 (v := (Value.pointer (some ⟨gc, 16 * 10, none⟩))) rfl (by kernel_rfl) (by kernel_rfl) (by kernel_rfl) (by kernel_rfl) (by kernel_rfl) (fun _ _ _ h => h) (Or.inl ⟨by rfl, ?_⟩) hS ?_
      · intro w' hw'
        go_simp
      simp only [Act.put, List.setIfInBounds_toArray, List.set_cons_zero, List.set_cons_succ]
      refine wpAnyZ_takeL 7 rfl (by kernel_rfl) (by kernel_rfl) (by kernel_rfl) (by kernel_rfl) (by kernel_rfl) (fun _ _ _ h => h) ((show YieldsIf _ _ _ _ (Value.agg (Iv .u8 (NI (ksF boxL k 10).1))) _ from yieldsIf_load_mid rfl 27 _ rfl gc (16 * 10) rfl (cl (ksF boxL k 10).1) _ (fun _ h => h.c.key lk 10 (by omega) (by omega)) Tryd.underlying27 rfl (info_mid _ lK))) hS ?_
      simp only [Act.put, List.setIfInBounds_toArray, List.set_cons_zero, List.set_cons_succ]
      refine zstep 2 rfl rfl (by kernel_rfl) ?_
      unfold Oper.wp execOp
      go_simp
      refine (moved_any gc _ boxL st lR boxL_length lst bst _ hM.c).mono ?_
      rintro _ w9 ⟨rfl, b9⟩
      replace hM := hM.below b9
      clear hS b9
      refine ⟨hM, ?_⟩
      have hS := hM
      refine zstep 8 rfl rfl (by kernel_rfl) ?_
      unfold Oper.wp execOp
      go_simp
      refine (joined_any (movedL boxL st) (ksF boxL k 10).1 lM lK bM bK _).mono ?_
      rintro _ w9 ⟨rfl, b9⟩
      replace hM := hM.below b9
      clear hS b9
      refine ⟨hM, ?_⟩
      have hS := hM
      have lX : (xorB (movedL boxL st) (ksF boxL k 10).1).length = 16 := LB_length _
      have HX := Lib.hid (show xorB (movedL boxL st) (ksF boxL k 10).1 = xorB (movedL boxL st) (ksF boxL k 10).1 from rfl)
      refine zstep 9 rfl rfl (by kernel_rfl) ?_
      refine wp_store_row 27 _ _ rfl (w.heap.size + 1) (Iv .u8 (NI (xorB (movedL boxL st) (ksF boxL k 10).1))) rfl rfl 27 _ hM.r (info_bk _ lX) (size_b lz lX) (Iv_one _ _) ?_
      refine ⟨fun e => Bool.noConfusion ((e.symm.trans (show _ = true from rfl) : false = true)), ?_⟩
      refine wpAnyZ_done (by kernel_rfl) ?_ _
      refine aK _ _ ?_
      clear aK hS
      have RR := Blk.row hM.r (Iv .u8 (NI (xorB (movedL boxL st) (ksF boxL k 10).1)))
      have BB := below_setRow hM.bel (g := w.heap.size + 1) (by omega) (Iv .u8 (NI (xorB (movedL boxL st) (ksF boxL k 10).1)))
      clear hM
      go_wp2
      exact bodyPost_ret (results_cell_row rfl _ _ _ 27 _ (0, 0) _ rfl RR Tryd.underlying27 rfl (info_bk _ lX)) rfl ⟨by rw [HST.out], BB⟩
    · have i1 : (n : Int) < 9 := by omega
      have i0 : (0 : Int) ≤ (n : Int) := by omega
      go_upto_region 6 with fail
      rename_i aK
      have lK := ksF_length (S := boxL) lk (n + 1)
      have bK := ksF_lt boxL_bytes bk (n + 1)
      have i2 : (n : Int) < 11 := by omega
      refine wp_region_seq ?_
      refine wpSeq_yield (S := fun w' => w' = wr) (v := (.pointer (some ⟨gc, 16 * (n + 1), none⟩))) (Or.inl ⟨rfl, fun w' hw' => ?_⟩) rfl ?_
      · have e16 : 16 + 16 * n = 16 * (n + 1) := by omega
        simp only [execOp]
        go_simp
      refine wpSeq_yield (S := fun w' => w' = wr) (show YieldsIf _ _ _ _ (Value.agg (Iv .u8 (NI (ksF boxL k (n + 1)).1))) _ from yieldsIf_load_mid rfl 27 _ rfl gc (16 * (n + 1)) rfl (cl (ksF boxL k (n + 1)).1) _ (fun w' h => h ▸ hM.c.key lk (n + 1) (by omega) (by omega)) Tryd.underlying27 rfl (info_mid _ lK)) rfl ?_
      refine wpSeq_allocQ 27 (Iv .u8 (NI (LB fun _ => 0))) rfl (fun W => by go_simp; rfl) ?_
      intro gk W1 R1 b1 m1
      refine wpSeq_store_row rfl 27 _ _ rfl gk (Iv .u8 (NI (ksF boxL k (n + 1)).1)) rfl rfl 27 _ R1 (info_bk _ lK) (size_b lz lK) (Iv_one _ _) ?_
      refine wpSeq_nil ?_
      refine aK _ _ ?_
      clear aK
      have lr := hM.r.lt
      have lc := hM.far
      replace hM := hM.below b1
      have hK : EK w gc gk k (stF boxL k b n) (ksF boxL k (n + 1)).1 (W1.setRow gk (Iv .u8 (NI (ksF boxL k (n + 1)).1))) :=
        ⟨⟨Blk.rowFar hM.c (by omega) _, hM.b.rowFar (by omega) _, hM.r.rowFar (by omega) _, below_setRow hM.bel (by omega) _, hM.far⟩, R1.row _⟩
      have gkw : w.heap.size + 1 < gk := by omega
      clear R1 b1 m1 hM lr lc
      generalize World.setRow W1 gk _ = U at *
      go_upto_region 7 with fail
      rename_i aK K9
      have eS := Lib.hid (stF_s boxL k b n)
      have lM : (movedL boxL (stF boxL k b n)).length = 16 := LB_length _
      have bM := movedL_lt (b := stF boxL k b n) boxL_bytes
      have lX : (mixedL (movedL boxL (stF boxL k b n))).length = 16 := LB_length _
      have bX := mixedL_lt bM
      have lY : (xorB (mixedL (movedL boxL (stF boxL k b n))) (ksF boxL k (n + 1)).1).length = 16 := LB_length _
      refine wp_region_Z (S := EK w gc gk k (stF boxL k b n) (ksF boxL k (n + 1)).1) 6 (by kernel_rfl) ?_
      replace hM := hK.drew
      clear hK
      generalize U.drew = V at hM ⊢
      have hS := hM
      refine wpAnyZ_takeL 0 rfl (by kernel_rfl) (by kernel_rfl) (by kernel_rfl) (by kernel_rfl) (by kernel_rfl) (fun _ _ _ h => h) (yieldsIf_move rfl _ rfl (Value.pointer (some ⟨gc, 0, none⟩)) rfl) hS ?_
      simp only [Act.put, List.setIfInBounds_toArray, List.set_cons_zero, List.set_cons_succ]
      refine wpAnyZ_takeL 1 rfl (by kernel_rfl) (by kernel_rfl) (by kernel_rfl) (by kernel_rfl) (by kernel_rfl) (fun _ _ _ h => h) ((show YieldsIf _ _ _ _ (Value.agg (Iv .u8 (NI (stF boxL k b n)))) _ from yieldsIf_row_wanted rfl 27 _ rfl (w.heap.size) rfl 27 _ _ (fun _ h => h.m.b) Tryd.underlying27 rfl (info_bk _ lst))) hS ?_
      simp only [Act.put, List.setIfInBounds_toArray, List.set_cons_zero, List.set_cons_succ]
      refine wpAnyZ_takeL 4 rfl (by kernel_rfl) (by kernel_rfl) (by kernel_rfl) (by kernel_rfl) (by kernel_rfl) (fun _ _ _ h => h) ((show YieldsIf _ _ _ _ (Value.agg (Iv .u8 (NI (ksF boxL k (n + 1)).1))) _ from yieldsIf_row_wanted rfl 27 _ rfl (gk) rfl 27 _ _ (fun _ h => h.k) Tryd.underlying27 rfl (info_bk _ lK))) hS ?_
      simp only [Act.put, List.setIfInBounds_toArray, List.set_cons_zero, List.set_cons_succ]
      refine zstep 2 rfl rfl (by kernel_rfl) ?_
      unfold Oper.wp execOp
      go_simp
      refine (moved_any gc _ boxL _ lR boxL_length lst bst _ hM.m.c).mono ?_
      rintro _ w9 ⟨rfl, b9⟩
      replace hM := hM.below b9
      clear hS b9
      refine ⟨hM, ?_⟩
      have hS := hM
      refine zstep 3 rfl rfl (by kernel_rfl) ?_
      unfold Oper.wp execOp
      go_simp
      refine (mixed_any _ lM bM _).mono ?_
      rintro _ w9 ⟨rfl, b9⟩
      replace hM := hM.below b9
      clear hS b9
      refine ⟨hM, ?_⟩
      have hS := hM
      refine zstep 5 rfl rfl (by kernel_rfl) ?_
      unfold Oper.wp execOp
      go_simp
      refine (joined_any _ _ lX lK bX bK _).mono ?_
      rintro _ w9 ⟨rfl, b9⟩
      replace hM := hM.below b9
      clear hS b9
      refine ⟨hM, ?_⟩
      have hS := hM
      refine zstep 6 rfl rfl (by kernel_rfl) ?_
      refine wp_store_row 27 _ _ rfl (w.heap.size) (Iv .u8 (NI (xorB (mixedL (movedL boxL (stF boxL k b n))) (ksF boxL k (n + 1)).1))) rfl rfl 27 _ hM.m.b (info_bk _ lY) (size_b lst lY) (Iv_one _ _) ?_
      refine ⟨fun e => Bool.noConfusion ((e.symm.trans (show _ = true from rfl) : false = true)), ?_⟩
      refine wpAnyZ_done (by kernel_rfl) ?_ _
      refine aK _ _ ?_
      clear aK hS
      have hM2 := hM.m.put (xorB (mixedL (movedL boxL (stF boxL k b n))) (ksF boxL k (n + 1)).1)
      rw [← eS.out] at hM2 ⊢
      clear hM
      generalize World.setRow w9 _ _ = V2 at *
      go_wp2
      exact ⟨⟨n + 1, by omega, by congr 1, hM2⟩, by simp only [intOf]; omega⟩
end Go.Proofs.YtpihgljdbpnehaaDoor
