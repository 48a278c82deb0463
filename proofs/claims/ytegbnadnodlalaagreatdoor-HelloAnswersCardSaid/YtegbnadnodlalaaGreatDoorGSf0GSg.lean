/- The contract of scalar.MulAdd. The contracts of scalar's small and Reduce. -/
import Derived.Test.YtegbnadnodlalaaGreatDoorGSe0GSl
import Derived.Deep.Cut
namespace Go.Proofs.YtegbnadnodlalaaGreatDoor.Sc
open Go.RowKit
/-- Two steps of 32 bits are one of 64. -/
theorem two_steps (x word L : Nat) : ((x % L * 4294967296 + word / 4294967296) % L * 4294967296 + word % 4294967296) % L = (x * 18446744073709551616 + word) % L := by
 have h1 : (x % L * 4294967296 + word / 4294967296) % L = (x * 4294967296 + word / 4294967296) % L := by
  rw [Nat.add_mod, Nat.mod_mul_mod, ← Nat.add_mod]
 have h2 : (x * 4294967296 + word / 4294967296) * 4294967296 + word % 4294967296 = x * 18446744073709551616 + word := by omega
 rw [h1, Nat.add_mod, Nat.mod_mul_mod, ← Nat.add_mod, h2]
theorem word_down (P k : Nat) (hk : k < 8) : P / pw (8 - (k + 1)) = P / pw (8 - k) * 18446744073709551616 + wordAt P (7 - k) := by
 rw [show 8 - k = (7 - k) + 1 by omega, show 8 - (k + 1) = 7 - k by omega, pw_succ, ← Nat.div_div_eq_div_mul, wordAt_pw]
 omega
/-- The memory of MulAdd: the eight words in block g. -/
structure MaW (P g : Nat) (w wr : World) (n : Nat) : Prop where
 res : Blk wr (w.heap.size + 1 + 1 + 1) 23 (Iv .u8 (List.replicate 32 0))
 num : Blk wr (w.heap.size + 1 + 1 + 1 + 1) 114 (Nm_cells n)
 sum : Blk wr g 115 (W8 (wordAt P))
 k : Below w.heap.size w wr
theorem MaW.below {P g : Nat} {w wr w1 : World} {n : Nat} (h : MaW P g w wr n) (hb : Below wr.heap.size wr w1) : MaW P g w w1 n := ⟨h.res.below' hb, h.num.below' hb, h.sum.below' hb, h.k.trans (hb.mono h.k.size)⟩
theorem MaW.row {P g : Nat} {w wr : World} {n : Nat} (h : MaW P g w wr n) (m : Nat) : MaW P g w (wr.setRow (w.heap.size + 1 + 1 + 1 + 1) (Nm_cells m)) m :=
 ⟨h.res.rowFar (by omega) _, h.num.row _, h.sum.rowFar (blk_ne h.sum h.num (by decide)) _, below_setRow h.k (by omega) _⟩
set_option maxHeartbeats 4000000 in
set_option maxRecDepth 100000 in
theorem muladd_any (l0 l1 l2 : List Int) (f0 f1 f2 : Nat → Nat) (hl0 : Bytes32 l0 f0) (hl1 : Bytes32 l1 f1) (hl2 : Bytes32 l2 f2) (w : World) :
  Calls Tryz.prog 48 #[Key l0, Key l1, Key l2] w fun e w' => e = .returned (Key (keyOf ((leTo f0 32 * leTo f1 32 + leTo f2 32) % LL))) ∧ Below w.heap.size w w' := by
 obtain ⟨N0, hN0⟩ : ∃ n, n = leTo f0 32 := ⟨_, rfl⟩
 have lN0 : N0 < pw 4 := hN0 ▸ bytes32_lt hl0
 obtain ⟨N1, hN1⟩ : ∃ n, n = leTo f1 32 := ⟨_, rfl⟩
 have lN1 : N1 < pw 4 := hN1 ▸ bytes32_lt hl1
 obtain ⟨N2, hN2⟩ : ∃ n, n = leTo f2 32 := ⟨_, rfl⟩
 have lN2 : N2 < pw 4 := hN2 ▸ bytes32_lt hl2
 obtain ⟨P, hP⟩ : ∃ n, n = N0 * N1 + N2 := ⟨_, rfl⟩
 rw [← hN0, ← hN1, ← hN2, ← hP]
 have HN0 := Lib.hid hN0; have HN1 := Lib.hid hN1; have HN2 := Lib.hid hN2; have HP := Lib.hid hP
 have lP : P < pw 8 := by
  have h1 : N0 * N1 ≤ (pw 4 - 1) * (pw 4 - 1) := Nat.mul_le_mul (by omega) (by omega)
  rw [hP, show (8 : Nat) = 4 + 4 from rfl, pw_add]
  have : (pw 4 - 1) * (pw 4 - 1) + pw 4 - 1 < pw 4 * pw 4 := by rw [pw_four]; decide
  omega
 clear hN0 hN1 hN2 hP
 obtain ⟨R, hR⟩ : ∃ n, n = P % LL := ⟨_, rfl⟩
 rw [← hR]
 have HR := Lib.hid hR
 clear hR
 unfold Key
 go_enter Tryz.func48, Tryz.ntmps48
 go_upto_region 2 with fail
 generalize hW : World.alloc (World.alloc (World.alloc (World.alloc (World.alloc w _) _) _) _) _ = w1
 have hS : Facts [.blk (w.heap.size) 23 (Iv .u8 l0), .blk (w.heap.size + 1) 23 (Iv .u8 l1), .blk (w.heap.size + 1 + 1) 23 (Iv .u8 l2), .blk (w.heap.size + 1 + 1 + 1) 23 (Iv .u8 (List.replicate 32 0)), .blk (w.heap.size + 1 + 1 + 1 + 1) 114 (Nm_cells 0)] w1 := by
  subst hW
  refine Facts.cons ?_ (Facts.cons ?_ (Facts.cons ?_ (Facts.cons ?_ (Facts.cons ?_ Facts.nil))))
  · exact ((((Blk.new _ _ _).alloc _).alloc _).alloc _).alloc _
  · exact (((Blk.new' (by simp) _ _).alloc _).alloc _).alloc _
  · exact ((Blk.new' (by simp) _ _).alloc _).alloc _
  · exact (Blk.new' (by simp) _ _).alloc _
  ·
   show Blk _ _ _ (Nm_cells 0)
   rw [Nm_zero]
   exact Blk.new' (by simp) _ _
 have hB : Below w.heap.size w w1 := by
  subst hW
  exact (((((Below.refl _ _).alloc (Nat.le_refl _) _).alloc (by simp) _).alloc (by simp; omega) _).alloc (by simp; omega) _).alloc (by simp; omega) _
 clear hW
 replace hS := hS.drew
 replace hB := below_drew hB
 refine wp_region_Z (S := Facts [.blk (w.heap.size) 23 (Iv .u8 l0), .blk (w.heap.size + 1) 23 (Iv .u8 l1), .blk (w.heap.size + 1 + 1) 23 (Iv .u8 l2), .blk (w.heap.size + 1 + 1 + 1) 23 (Iv .u8 (List.replicate 32 0)), .blk (w.heap.size + 1 + 1 + 1 + 1) 114 (Nm_cells 0)]) 8 (by kernel_rfl) ?_
 refine wpAnyZ_takeL 0 rfl (by kernel_rfl) (by kernel_rfl) (by kernel_rfl) (by kernel_rfl) (by kernel_rfl) (fun _ _ _ h => h) (show YieldsIf _ _ _ _ (Key l0) _ from yieldsIf_load rfl 23 _ rfl (w.heap.size) rfl 23 _ _ (.head _) Tryz.underlying23 rfl (info_key _ hl0.len)) hS ?_
 simp only [Act.put, List.setIfInBounds_toArray, List.set_cons_zero, List.set_cons_succ]
 refine wpAnyZ_takeL 2 rfl (by kernel_rfl) (by kernel_rfl) (by kernel_rfl) (by kernel_rfl) (by kernel_rfl) (fun _ _ _ h => h) (show YieldsIf _ _ _ _ (Key l1) _ from yieldsIf_load rfl 23 _ rfl (w.heap.size + 1) rfl 23 _ _ (.tail _ (.head _)) Tryz.underlying23 rfl (info_key _ hl1.len)) hS ?_
 simp only [Act.put, List.setIfInBounds_toArray, List.set_cons_zero, List.set_cons_succ]
 refine wpAnyZ_takeL 4 rfl (by kernel_rfl) (by kernel_rfl) (by kernel_rfl) (by kernel_rfl) (by kernel_rfl) (fun _ _ _ h => h) (show YieldsIf _ _ _ _ (Key l2) _ from yieldsIf_load rfl 23 _ rfl (w.heap.size + 1 + 1) rfl 23 _ _ (.tail _ (.tail _ (.head _))) Tryz.underlying23 rfl (info_key _ hl2.len)) hS ?_
 simp only [Act.put, List.setIfInBounds_toArray, List.set_cons_zero, List.set_cons_succ]
 refine wpAnyZ_jobsL [(⟨1, 12⟩, .is (Nm N0)), (⟨3, 14⟩, .is (Nm N1)), (⟨5, 16⟩, .is (Nm N2)), (⟨6, 17⟩, .is (.agg (W8 (wordAt P)))), (⟨7, 8⟩, .rel (fun v w' => ∃ g, v = .pointer (some ⟨g, 0, none⟩) ∧ Blk w' g 115 (W8 fun _ => 0)))] [] 1 _ _ _ (by kernel_rfl) (fun _ _ _ _ _ h => h) ?_ (fun _ _ _ _ _ h => h) (fun _ _ h hb => h.below hb) hS ?_ ?_ ?_
 · exact fun _ _ h => by cases h
 ·
  intro j hj
  simp only [List.map_cons, List.map_nil, List.mem_cons, List.not_mem_nil, or_false] at hj
  rcases hj with rfl | rfl | rfl | rfl | rfl
  · exact fun _ _ _ h _ => h
  · exact fun _ _ _ h _ => h
  · exact fun _ _ _ h _ => h
  · exact fun _ _ _ h _ => h
  ·
   intro v w1 w2 h hb
   obtain ⟨g, e, H⟩ : ∃ g, v = .pointer (some ⟨g, 0, none⟩) ∧ Blk w1 g 115 (W8 fun _ => 0) := h
   exact ⟨g, e, H.below' hb⟩
 ·
  intro j hj
  simp only [List.map_cons, List.map_nil, List.mem_cons, List.not_mem_nil, or_false] at hj
  rcases hj with rfl | rfl | rfl | rfl | rfl
  ·
   refine job_frame [] (by kernel_rfl) ?_
   show JobAt _ _ _ _ _ _ _
   intro W K hS' hK
   unfold wpOp
   go_simp
   left
   refine (words_v l0 f0 hl0 N0 HN0.out _).mono ?_
   rintro e v ⟨rfl, b⟩
   exact hK _ _ rfl b (fun g hg => ((block_agg _) g hg).elim)
  ·
   refine job_frame [] (by kernel_rfl) ?_
   show JobAt _ _ _ _ _ _ _
   intro W K hS' hK
   unfold wpOp
   go_simp
   left
   refine (words_v l1 f1 hl1 N1 HN1.out _).mono ?_
   rintro e v ⟨rfl, b⟩
   exact hK _ _ rfl b (fun g hg => ((block_agg _) g hg).elim)
  ·
   refine job_frame [] (by kernel_rfl) ?_
   show JobAt _ _ _ _ _ _ _
   intro W K hS' hK
   unfold wpOp
   go_simp
   left
   refine (words_v l2 f2 hl2 N2 HN2.out _).mono ?_
   rintro e v ⟨rfl, b⟩
   exact hK _ _ rfl b (fun g hg => ((block_agg _) g hg).elim)
  ·
   refine job_frame [⟨1, 12⟩, ⟨3, 14⟩, ⟨5, 16⟩] (by kernel_rfl) ?_
   show JobAt _ _ _ _ (Act.put (Act.put (Act.put _ (some 16) (Nm N2)) (some 14) (Nm N1)) (some 12) (Nm N0)) _ _
   simp only [Act.put, List.setIfInBounds_toArray, List.set_cons_zero, List.set_cons_succ]
   intro W K hS' hK
   unfold wpOp
   go_simp
   left
   refine (product_v N0 N1 N2 P lN0 lN1 lN2 HP.out _).mono ?_
   rintro e v ⟨rfl, b⟩
   exact hK _ _ rfl b (fun g hg => ((block_agg _) g hg).elim)
  ·
   refine job_frame [] (by kernel_rfl) ?_
   show JobAt _ _ _ _ _ _ _
   exact job_alloc 115 (W8 fun _ => 0) _ _ rfl rfl rfl (fun W => by go_simp; rfl)
 ·
  intro f W hS2 hB1 hR hF hA
  have e1 : f 1 = (Nm N0) := hR ⟨1, 12⟩ (by simp)
  have e3 : f 3 = (Nm N1) := hR ⟨3, 14⟩ (by simp)
  have e5 : f 5 = (Nm N2) := hR ⟨5, 16⟩ (by simp)
  have e6 : f 6 = (.agg (W8 (wordAt P))) := hR ⟨6, 17⟩ (by simp)
  obtain ⟨g7, e7, A7⟩ : ∃ g, f 7 = .pointer (some ⟨g, 0, none⟩) ∧ Blk W g 115 (W8 fun _ => 0) := hR ⟨7, 8⟩ (by simp)
  have n7 : _ ≤ g7 := (hF ⟨7, 8⟩ (by simp) g7 (by show blockOf (f 7) = _; rw [e7]; rfl)).1
  clear hA hF hR
  simp only [setAll, putAll, List.map_cons, List.map_nil, List.foldr_cons, List.foldr_nil, Act.put, List.setIfInBounds_toArray, List.set_cons_zero, List.set_cons_succ, e1, e3, e5, e6, e7]
  clear e1 e3 e5 e6 e7
  have hBs := hB1
  replace hB1 := below_setRow hB1 n7 (W8 (wordAt P))
  refine wpAnyZ_store_row 8 rfl (by kernel_rfl) rfl _ _ _ rfl g7 (W8 (wordAt P)) rfl rfl _ _ A7 (info_w8 _) (by rw [W8_size, W8_size]) (Iv_one _ _) (hS.below hB1) ?_
  try simp only [Act.put, List.setIfInBounds_toArray, List.set_cons_zero, List.set_cons_succ]
  replace A7 := A7.row (W8 (wordAt P))
  refine wpAnyZ_done (by kernel_rfl) ?_ _
  have F0 : MaW P g7 w (World.setRow W g7 (W8 (wordAt P))) (P / pw (8 - 0) % LL) := by
   have h3 := hS.below hB1
   rw [show P / pw (8 - 0) = 0 from Nat.div_eq_of_lt lP, Nat.zero_mod]
   exact ⟨h3.blkAt _ _ _ (.tail _ (.tail _ (.tail _ (.head _)))), h3.blkAt _ _ _ (.tail _ (.tail _ (.tail _ (.tail _ (.head _))))), A7, hB.trans (hB1.mono hB.size)⟩
  clear hS hS2 hB1 hBs A7 n7 hB
  generalize World.setRow W g7 (W8 (wordAt P)) = V at *
  clear W
  go_wp2_with fail
  go_loopw [18] (fun i wr => ∃ k : Nat, k ≤ 8 ∧ i = .int .i64 k ∧ MaW P g7 w wr (P / pw (8 - k) % LL)) (fun i _ => 8 - (intOf i).toNat)
  case atStart => exact ⟨0, by omega, rfl, F0⟩
  case round =>
   obtain ⟨k, hk, rfl, F⟩ := hrel
   clear F0
   by_cases hlt : k < 8
   ·
    have hnext : P / pw (8 - (k + 1)) % LL = ((P / pw (8 - k) % LL * 4294967296 + wordAt P (7 - k) / 4294967296) % LL * 4294967296 + wordAt P (7 - k) % 4294967296) % LL := by
     rw [word_down P k hlt, two_steps]
    have c1 : wr.cell? ⟨g7, 7 - k, none⟩ = some (.int .u64 ((wordAt P (7 - k) : Nat) : Int)) := by rw [F.sum.cell, W8_at _ _ (by omega)]
    have lw := wordAt_lt P (7 - k)
    have ln : P / pw (8 - k) % LL < LL := Nat.mod_lt _ LL_pos
    obtain ⟨wd, hwd⟩ : ∃ x, x = wordAt P (7 - k) := ⟨_, rfl⟩
    obtain ⟨n, hn⟩ : ∃ x, x = P / pw (8 - k) % LL := ⟨_, rfl⟩
    obtain ⟨n1, hn1⟩ : ∃ x, x = (n * 4294967296 + wd / 4294967296) % LL := ⟨_, rfl⟩
    obtain ⟨n2, hn2⟩ : ∃ x, x = (n1 * 4294967296 + wd % 4294967296) % LL := ⟨_, rfl⟩
    rw [← hwd] at c1 lw hnext
    rw [← hn] at ln hnext F
    rw [← hn1, ← hn2] at hnext
    have ln1 : n1 < LL := hn1 ▸ Nat.mod_lt _ LL_pos
    have cF1 : ∀ W, Calls Tryz.prog 71 #[.agg (Nm_cells n), .int .u32 ((wd : Int) / 4294967296)] W fun e w' => e = .returned (.agg (Nm_cells n1)) ∧ Below W.heap.size W w' := fun W => by
     have := followed_any n (wd / 4294967296) W ln (by omega)
     rw [← hn1] at this
     exact this
    have cF2 : ∀ W, Calls Tryz.prog 71 #[.agg (Nm_cells n1), .int .u32 ((wd : Int) % 4294967296)] W fun e w' => e = .returned (.agg (Nm_cells n2)) ∧ Below W.heap.size W w' := fun W => by
     have := followed_any n1 (wd % 4294967296) W ln1 (by omega)
     rw [← hn2] at this
     exact this
    have CF1 := Lib.hid cF1; have CF2 := Lib.hid cF2; have HX := Lib.hid hnext
    clear cF1 cF2 hnext hn hn1 hn2 hwd ln ln1
    have i1 : IntKind.i64.wrap (7 - (k : Int)) = 7 - (k : Int) := by rw [IntKind.wrap_i64]; omega
    have i2 : (7 - (k : Int)).toNat = 7 - k := by omega
    have i3 : (0 : Int) ≤ 7 - (k : Int) := by omega
    have i4 : (7 : Int) - (k : Int) < 8 := by omega
    have i5 : IntKind.u32.wrap ((wd : Int) / 4294967296) = (wd : Int) / 4294967296 := by rw [IntKind.wrap_u32]; omega
    have i6 : IntKind.u32.wrap (wd : Int) = (wd : Int) % 4294967296 := by rw [IntKind.wrap_u32]
    have Bn := F.num
    go_upto_region 7 with fail
    clear i1 i2 i3 i4 c1
    go_wp2_with (refine wpList_load_row rfl 114 _ rfl (w.heap.size + 1 + 1 + 1 + 1) rfl 114 _ (0, 0) _ Bn Tryz.underlying114 rfl (info_nm _) ?_)
    refine (CF1.out _).mono ?_
    rintro e v1 ⟨rfl, b1⟩
    have F1 := F.below b1
    clear b1 F Bn
    go_wp2_with fail
    refine (CF2.out _).mono ?_
    rintro e v2 ⟨rfl, b2⟩
    have F2 := F1.below b2
    clear b2 F1
    have Bn := F2.num
    go_wp2_with (refine wpList_store_row rfl 114 _ _ rfl (w.heap.size + 1 + 1 + 1 + 1) (Nm_cells n2) rfl rfl 114 _ Bn (info_nm _) (by rw [Nm_size, Nm_size]) (Nm_one _) ?_)
    exact ⟨⟨k + 1, by omega, by go_num, HX.out ▸ F2.row n2⟩, by simp [intOf]; omega⟩
   ·
    obtain rfl : k = 8 := by omega
    rw [Nat.sub_self, pw_zero, Nat.div_one] at F
    rw [← HR.out] at F
    have Bn := F.num
    have cB := fun W => sbytes_any R W
    unfold Nm Key at cB
    have CB := Lib.hid cB
    clear cB
    go_wp2_with (refine wpList_load_row rfl 114 _ rfl (w.heap.size + 1 + 1 + 1 + 1) rfl 114 _ (0, 0) _ Bn Tryz.underlying114 rfl (info_nm _) ?_)
    refine (CB.out _).mono ?_
    rintro e v1 ⟨rfl, b1⟩
    have F1 := F.below b1
    clear b1 F Bn
    have Br := F1.res
    go_wp2_with (refine wpList_store_row rfl 23 _ _ rfl (w.heap.size + 1 + 1 + 1) (Iv .u8 (keyOf R)) rfl rfl 23 _ Br (info_key _ (keyOf_length _)) (by rw [Iv_size, Iv_size, keyOf_length]; rfl) (Iv_one _ _) ?_)
    exact bodyPost_ret (results_cell_row rfl _ _ _ 23 _ (0, 0) _ rfl (Br.row _) Tryz.underlying23 rfl (info_key _ (keyOf_length _))) rfl ⟨rfl, below_setRow F1.k (by omega) _⟩
end Go.Proofs.YtegbnadnodlalaaGreatDoor.Sc
namespace Go.Proofs.YtegbnadnodlalaaGreatDoor.Sc
open Go.RowKit
/-- n bytes in block gb, from cell o on. -/
structure By (w : World) (gb o n : Nat) (f : Nat → Nat) : Prop where
 cell : ∀ i, i < n → w.cell? ⟨gb, o + i, none⟩ = some (.int .u8 ((f i : Nat) : Int))
 lt : ∀ i, f i < 256
 blk : gb < w.heap.size
theorem By.below {w w1 : World} {gb o n : Nat} {f : Nat → Nat} (h : By w gb o n f) (hb : Below w.heap.size w w1) : By w1 gb o n f :=
 ⟨fun i hi => (hb.cell (p := ⟨gb, o + i, none⟩) h.blk).trans (h.cell i hi), h.lt, Nat.lt_of_lt_of_le h.blk hb.size⟩
theorem By.drew {w : World} {gb o n : Nat} {f : Nat → Nat} (h : By w gb o n f) : By w.drew gb o n f := ⟨h.cell, h.lt, h.blk⟩
theorem By.part {w : World} {gb o n : Nat} {f : Nat → Nat} (h : By w gb o n f) (a m : Nat) (hm : a + m ≤ n) : By w gb (o + a) m (fun i => f (a + i)) :=
 ⟨fun i hi => by rw [Nat.add_assoc]; exact h.cell (a + i) (by omega), fun i => h.lt (a + i), h.blk⟩
theorem leTo_split (f : Nat → Nat) (a : Nat) : ∀ b, leTo f (a + b) = leTo f a + 256 ^ a * leTo (fun i => f (a + i)) b
 | 0 => by simp [leTo]
 | b + 1 => by
  show leTo f (a + b) + f (a + b) * 256 ^ (a + b) = leTo f a + 256 ^ a * (leTo (fun i => f (a + i)) b + f (a + b) * 256 ^ b)
  rw [leTo_split f a b, Nat.mul_add, Nat.pow_add, Nat.add_assoc, Nat.mul_left_comm (256 ^ a)]
theorem or_small (f : Nat → Nat) (hf : ∀ i, f i < 256) (k : Nat) (hk : k < 4) : bits .or .u32 ((leTo f k : Nat) : Int) (IntKind.u32.wrap (((f k : Nat) : Int) * 2 ^ (k * 8))) = ((leTo f (k + 1) : Nat) : Int) := by
 have h1 := leTo_lt f hf k
 have h2 := hf k
 have e : leTo f (k + 1) = leTo f k + f k * 256 ^ k := rfl
 rw [e]
 generalize leTo f k = v at *
 generalize f k = b at *
 have hk' : k = 0 ∨ k = 1 ∨ k = 2 ∨ k = 3 := by omega
 rcases hk' with rfl | rfl | rfl | rfl <;> simp only [Nat.reducePow, Nat.reduceMul, Int.reducePow] at * <;> rw [IntKind.wrap_u32, or_comm32]
 · rw [or32 0 _ _ (by omega) (by omega) (by omega) (by omega) (by omega) (by decide)]; omega
 · rw [or32 8 _ _ (by omega) (by omega) (by omega) (by omega) (by omega) (by decide)]; omega
 · rw [or32 16 _ _ (by omega) (by omega) (by omega) (by omega) (by omega) (by decide)]; omega
 · rw [or32 24 _ _ (by omega) (by omega) (by omega) (by omega) (by omega) (by decide)]; omega
set_option maxHeartbeats 1000000 in
theorem small_any (gb o m c : Nat) (f : Nat → Nat) (w : World) (h : By w gb o m f) (hm : m ≤ 4) :
  Calls Tryz.prog 88 #[.slice (some ⟨gb, o, none⟩) m c] w fun e w' => e = .returned (.int .u32 ((leTo f m : Nat) : Int)) ∧ w = w' := by
 go_enter Tryz.func88, Tryz.ntmps88
 go_wp2
 go_loop [3, 7] (fun n i => ∃ k : Nat, k ≤ m ∧ i = .int .i64 k ∧ n = .int .u32 ((leTo f k : Nat) : Int)) (fun _ i => 4 - (intOf i).toNat)
 case atStart => exact ⟨0, by omega, rfl, rfl⟩
 case round =>
  obtain ⟨k, hk, rfl, rfl⟩ := hrel
  by_cases hlt : k < m
  ·
   have c1 := h.cell k hlt
   have bk := h.lt k
   have ho := or_small f h.lt k (by omega)
   have i1 : (0 : Int) ≤ (k : Int) := by omega
   have i2 : (k : Int) < (m : Int) := by omega
   have i3 : IntKind.i64.wrap ((k : Int) * 8) = (k : Int) * 8 := by rw [IntKind.wrap_i64]; omega
   have i4 : ((k : Int) * 8).toNat = k * 8 := by omega
   have i5 : min (k * 8) 32 = k * 8 := by omega
   have i6 : (0 : Int) ≤ (k : Int) * 8 := by omega
   have i7 : IntKind.u32.wrap ((f k : Nat) : Int) = ((f k : Nat) : Int) := by rw [IntKind.wrap_u32]; omega
   generalize leTo f k = v at *
   generalize hv2 : leTo f (k + 1) = v2 at *
   have H2 := Lib.hid hv2
   rw [IntKind.wrap_u32] at ho
   have HO := Lib.hid ho
   clear hv2 ho
   go_wp2
   exact ⟨⟨k + 1, by omega, by go_num, by rw [H2.out]; exact congrArg _ HO.out⟩, by simp [intOf]; omega⟩
  ·
   obtain rfl : k = m := by omega
   go_wp2
   go_ret
   exact ⟨rfl, rfl⟩
theorem set_self_true (l : Array Bool) (z : Nat) : (l.setIfInBounds z true).getD z true = true := by
 rcases Nat.lt_or_ge z l.size with h | h
 · exact getD_set_self h true
 · simp [Array.getElem?_eq_none h]
/-- A whole row stored at the region's last operation. -/
theorem wpAnyZ_store_last {P : Program} {md : Region.Mode} {ops : Array Oper} {Q : Exit → Act → World → Prop} {S : World → Prop} {fuel : Nat} {listed : Array Bool} {a : Act} {w : World} (z : Nat) {oi : Oper} (hi : ops.toList[z]? = some oi) (hr : Region.ready md ops listed = [z]) (hgd : oi.guard = none)
  (ty : TypeId) (x y : Operand) (ho : oi.op = .store ty x y) (g : Nat) (cells : Array Value) (hx : a.eval x = .pointer (some ⟨g, 0, none⟩)) (hy : a.eval y = .agg cells)
  (t : TypeId) (old : Array Value) (hg : Blk w g t old) (hinf : (P.info? ty).map (·.size) = some cells.size) (hold : old.size = cells.size) (h1 : cells.all (·.oneCell') = true)
  (h : wpAnyZ P md ops Q S z fuel (listed.setIfInBounds z true) (a.put oi.dst undef) (w.setRow g cells)) : wpAnyZ P md ops Q S z (fuel + 1) listed a w := by
 refine wpAnyZ_one hr ?_
 unfold wpOp
 rw [← Array.getElem?_toList, hi]
 have hw : Region.wanted oi (yielded ops a.tmps) = true := by simp [Region.wanted, hgd]
 simp only [hw, if_true]
 left
 exact wp_store_row ty x y ho g cells hx hy t old hg hinf hold h1 ⟨fun hf => (by rw [set_self_true] at hf; cases hf), h⟩
/-- The value of the bytes from m on. -/
def hiTo (f : Nat → Nat) (n m : Nat) : Nat := leTo (fun i => f (m + i)) (n - m)
theorem hiTo_all (f : Nat → Nat) (n : Nat) : hiTo f n 0 = leTo f n := by
 unfold hiTo
 simp
theorem hiTo_none (f : Nat → Nat) (n : Nat) : hiTo f n n = 0 := by
 unfold hiTo
 rw [Nat.sub_self]
 rfl
theorem hiTo_step (f : Nat → Nat) (n a m : Nat) (ha : a ≤ m) (hm : m ≤ n) : hiTo f n a = leTo (fun i => f (a + i)) (m - a) + 256 ^ (m - a) * hiTo f n m := by
 unfold hiTo
 rw [show n - a = (m - a) + (n - m) by omega, leTo_split]
 congr 3
 funext i
 congr 1
 omega
/-- The memory of Reduce. -/
structure ReW (gb o n : Nat) (f : Nat → Nat) (w wr : World) (v : Nat) : Prop where
 by_ : By wr gb o n f
 res : Blk wr w.heap.size 23 (Iv .u8 (List.replicate 32 0))
 num : Blk wr (w.heap.size + 1) 114 (Nm_cells v)
 k : Below w.heap.size w wr
 lo : gb < w.heap.size
theorem ReW.below {gb o n : Nat} {f : Nat → Nat} {w wr w1 : World} {v : Nat} (h : ReW gb o n f w wr v) (hb : Below wr.heap.size wr w1) : ReW gb o n f w w1 v := ⟨h.by_.below hb, h.res.below' hb, h.num.below' hb, h.k.trans (hb.mono h.k.size), h.lo⟩
theorem ReW.drew {gb o n : Nat} {f : Nat → Nat} {w wr : World} {v : Nat} (h : ReW gb o n f w wr v) : ReW gb o n f w wr.drew v := ⟨h.by_.drew, h.res, h.num, below_drew h.k, h.lo⟩
theorem ReW.row {gb o n : Nat} {f : Nat → Nat} {w wr : World} {v : Nat} (h : ReW gb o n f w wr v) (m : Nat) : ReW gb o n f w (wr.setRow (w.heap.size + 1) (Nm_cells m)) m := by
 have hlo := h.lo
 refine ⟨⟨fun i hi => ?_, h.by_.lt, by rw [setRow_size]; exact h.by_.blk⟩, h.res.rowFar (by omega) _, h.num.row _, below_setRow h.k (by omega) _, h.lo⟩
 rw [← h.by_.cell i hi]
 simp only [World.cell?]
 rw [setRow_other wr (w.heap.size + 1) gb _ (by omega)]
def lenOfV : Value → Nat
 | .slice _ n _ => n
 | _ => 0
set_option maxHeartbeats 2000000 in
set_option maxRecDepth 100000 in
theorem reduce_any (gb o n c : Nat) (f : Nat → Nat) (w : World) (h : By w gb o n f) (hn : n < 4294967296) (hc : n ≤ c) :
  Calls Tryz.prog 68 #[.slice (some ⟨gb, o, none⟩) n c] w fun e w' => e = .returned (Key (keyOf (leTo f n % LL))) ∧ Below w.heap.size w w' := by
 obtain ⟨R, hR⟩ : ∃ R, R = leTo f n % LL := ⟨_, rfl⟩
 rw [← hR]
 have HR := Lib.hid hR
 clear hR
 unfold Key
 go_enter Tryz.func68, Tryz.ntmps68
 go_wp2_with fail
 generalize hW : World.alloc (World.alloc w _) _ = W
 have F0 : ReW gb o n f w W (hiTo f n n % LL) := by
  subst hW
  rw [hiTo_none, Nat.zero_mod]
  refine ⟨h.below (((Below.refl _ _).alloc (Nat.le_refl _) _).alloc (by simp) _), (Blk.new _ _ _).alloc _, ?_, ((Below.refl _ _).alloc (Nat.le_refl _) _).alloc (by simp) _, h.blk⟩
  show Blk _ _ _ (Nm_cells 0)
  rw [Nm_zero]
  exact Blk.new' (by simp) _ _
 clear hW
 go_loopw [0] (fun b wr => ∃ m : Nat, m ≤ n ∧ (m = n ∨ m % 4 = 0) ∧ b = .slice (some ⟨gb, o, none⟩) m c ∧ ReW gb o n f w wr (hiTo f n m % LL)) (fun b _ => lenOfV b)
 case atStart => exact ⟨n, Nat.le_refl _, Or.inl rfl, rfl, F0⟩
 case round =>
  obtain ⟨m, hm, hm4, rfl, F⟩ := hrel
  clear F0
  by_cases hlt : 0 < m
  ·
   obtain ⟨a, ha⟩ : ∃ a, a = (m - 1) / 4 * 4 := ⟨_, rfl⟩
   have ham : a < m ∧ m - a ≤ 4 ∧ a % 4 = 0 := by omega
   have i1 : (((m - 1 : Nat)) : Int) / 4 * 4 = (a : Int) := by omega
   have i2 : IntKind.i64.wrap ((m : Int) - 1) = (m : Int) - 1 := by rw [IntKind.wrap_i64]; omega
   have i3 : (0 : Int) ≤ (m : Int) - 1 := by omega
   have i4 : IntKind.i64.wrap (a : Int) = (a : Int) := by rw [IntKind.wrap_i64]; omega
   have i5 : (0 : Int) < (m : Int) := by omega
   go_upto_region 4 with fail
   have E1 : Hid (((m : Int) - 1) / 4 * 4 = (a : Int)) := Lib.hid (by omega)
   have E2 : Hid ((((m - 1 : Nat)) : Int) / 4 * 4 = (a : Int)) := Lib.hid (by omega)
   clear i1 i2 i3 i4 i5
   have j1 : (0 : Int) ≤ (a : Int) := by omega
   have j2 : (a : Int) ≤ (m : Int) := by omega
   have j3 : (m : Int) ≤ (c : Int) := by omega
   have j4 : ¬ (c = a) := by omega
   have hstep := hiTo_step f n a m (by omega) hm
   have lsm := leTo_lt (fun i => f (a + i)) (fun i => h.lt (a + i)) (m - a)
   have hsm : ∀ W, By W gb o n f → Calls Tryz.prog 88 #[.slice (some ⟨gb, o + a, none⟩) (m - a) (c - a)] W fun e w' => e = .returned (.int .u32 ((leTo (fun i => f (a + i)) (m - a) : Nat) : Int)) ∧ W = w' := fun W hW => small_any gb (o + a) (m - a) (c - a) (fun i => f (a + i)) W (hW.part a (m - a) (by omega)) ham.2.1
   have hval : (hiTo f n m % LL * 4294967296 + leTo (fun i => f (a + i)) (m - a)) % LL = hiTo f n a % LL := by
    rw [hstep]
    rcases hm4 with h4 | h4
    ·
     subst h4
     rw [hiTo_none]
     simp
    ·
     rw [show m - a = 4 by omega, Nat.add_mod, Nat.mod_mul_mod, ← Nat.add_mod]
     congr 1
     rw [show (256 : Nat) ^ 4 = 4294967296 from rfl, Nat.add_comm, Nat.mul_comm]
   have lsm2 : leTo (fun i => f (a + i)) (m - a) < 4294967296 := Nat.lt_of_lt_of_le lsm (by
    have : (256 : Nat) ^ (m - a) ≤ 256 ^ 4 := Nat.pow_le_pow_right (by decide) ham.2.1
    exact this)
   obtain ⟨sm, hsm0⟩ : ∃ x, x = leTo (fun i => f (a + i)) (m - a) := ⟨_, rfl⟩
   obtain ⟨v0, hv0⟩ : ∃ x, x = hiTo f n m % LL := ⟨_, rfl⟩
   obtain ⟨v1, hv1⟩ : ∃ x, x = hiTo f n a % LL := ⟨_, rfl⟩
   have lv0 : v0 < LL := hv0 ▸ Nat.mod_lt _ LL_pos
   rw [← hsm0] at hval lsm2
   simp only [← hsm0] at hsm
   rw [← hv0] at F hval
   rw [← hv1] at hval
   have cF : ∀ W, Calls Tryz.prog 71 #[.agg (Nm_cells v0), .int .u32 ((sm : Nat) : Int)] W fun e w' => e = .returned (.agg (Nm_cells v1)) ∧ Below W.heap.size W w' := fun W => by
    have := followed_any v0 sm W lv0 lsm2
    rw [hval] at this
    exact this
   have CS := Lib.hid hsm
   have CF := Lib.hid cF
   have HV := Lib.hid hv1
   have HA := Lib.hid ha
   clear hsm cF hv1 hval hstep lsm lsm2 hsm0 hv0 lv0 ha
   have G := F.drew
   clear F
   refine wp_region_Z (S := fun w' => ReW gb o n f w w' v0) 6 (by kernel_rfl) ?_
   refine wpAnyZ_takeL 0 rfl (by kernel_rfl) (by kernel_rfl) (by kernel_rfl) (by kernel_rfl) (by kernel_rfl) (fun _ _ _ h => h) (show YieldsIf _ _ _ _ (.agg (Nm_cells v0)) _ from yieldsIf_row_wanted rfl 114 _ rfl (w.heap.size + 1) rfl 114 _ _ (fun w' h => h.num) Tryz.underlying114 rfl (info_nm _)) G ?_
   simp only [Act.put, List.setIfInBounds_toArray, List.set_cons_zero, List.set_cons_succ]
   refine wpAnyZ_takeL 1 rfl (by kernel_rfl) (by kernel_rfl) (by kernel_rfl) (by kernel_rfl) (by kernel_rfl) (fun _ _ _ h => h) (yieldsIf_move rfl _ rfl _ rfl) G ?_
   simp only [Act.put, List.setIfInBounds_toArray, List.set_cons_zero, List.set_cons_succ]
   refine wpAnyZ_takeL 2 rfl (by kernel_rfl) (by kernel_rfl) (by kernel_rfl) (by kernel_rfl) (by kernel_rfl) (fun _ _ _ h => h) (yieldsIf_move rfl _ rfl _ rfl) G ?_
   simp only [Act.put, List.setIfInBounds_toArray, List.set_cons_zero, List.set_cons_succ]
   refine wpAnyZ_takeL 3 (v := .slice (some ⟨gb, o + a, none⟩) (m - a) (c - a)) rfl (by kernel_rfl) (by kernel_rfl) (by kernel_rfl) (by kernel_rfl) (by kernel_rfl) (fun _ _ _ h => h) (Or.inl ⟨by rfl, ?_⟩) G ?_
   ·
    intro w' hw'
    go_simp
    simp only [E1.out, E2.out]
    go_simp
   simp only [Act.put, List.setIfInBounds_toArray, List.set_cons_zero, List.set_cons_succ]
   refine wpAnyZ_one (i := 4) (by kernel_rfl) ?_
   unfold wpOp
   go_simp
   left
   refine (CS.out _ G.by_).mono ?_
   rintro e w1 ⟨rfl, rfl⟩
   refine ⟨G, ?_⟩
   refine wpAnyZ_one (i := 5) (by kernel_rfl) ?_
   unfold wpOp
   go_simp
   left
   refine (CF.out _).mono ?_
   rintro e w1 ⟨rfl, b1⟩
   have G1 := G.below b1
   clear b1 G
   refine ⟨G1, ?_⟩
   have Bn := G1.num
   refine wpAnyZ_store_last 6 rfl (by kernel_rfl) rfl _ _ _ rfl (w.heap.size + 1) (Nm_cells v1) rfl rfl _ _ Bn (info_nm _) (by rw [Nm_size, Nm_size]) (Nm_one _) ?_
   refine wpAnyZ_done (by kernel_rfl) ?_ _
   have G2 := G1.row v1
   clear G1 Bn
   generalize World.setRow w1 _ _ = W2 at *
   go_wp2
   exact ⟨⟨a, by omega, Or.inr ham.2.2, by rw [HA.out], HV.out ▸ G2⟩, show (m - 1) / 4 * 4 < m by omega⟩
  ·
   obtain rfl : m = 0 := by omega
   rw [hiTo_all] at F
   rw [← HR.out] at F
   have Bn := F.num
   have cB := fun W => sbytes_any R W
   unfold Nm Key at cB
   have CB := Lib.hid cB
   clear cB
   go_wp2_with (refine wpList_load_row rfl 114 _ rfl (w.heap.size + 1) rfl 114 _ (0, 0) _ Bn Tryz.underlying114 rfl (info_nm _) ?_)
   refine (CB.out _).mono ?_
   rintro e v1 ⟨rfl, b1⟩
   have F1 := F.below b1
   clear b1 F Bn
   have Br := F1.res
   go_wp2_with (refine wpList_store_row rfl 23 _ _ rfl (w.heap.size) (Iv .u8 (keyOf R)) rfl rfl 23 _ Br (info_key _ (keyOf_length _)) (by rw [Iv_size, Iv_size, keyOf_length]; rfl) (Iv_one _ _) ?_)
   exact bodyPost_ret (results_cell_row rfl _ _ _ 23 _ (0, 0) _ rfl (Br.row _) Tryz.underlying23 rfl (info_key _ (keyOf_length _))) rfl ⟨rfl, below_setRow F1.k (by omega) _⟩
end Go.Proofs.YtegbnadnodlalaaGreatDoor.Sc
