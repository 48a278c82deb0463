/- The walk of the reference's Fold. -/
import Derived.Test.YtjaomgildhiddaaDoorRi
import Derived.Deep.LoopGhost
namespace Go.Proofs.YtjaomgildhiddaaDoor
open Go.RowKit

/-- A call hands back a long number, new or not, of at most 17 parts, whose value is V modulo the prime, and leaves what was there as it was. -/
def RetF (w : World) (V : Nat) (e : Ending) (w' : World) : Prop := ∃ g n c f, e = .returned (SlV g n c) ∧ Sl w' g n f ∧ lv f n = V % pp ∧ n ≤ 17 ∧ Below w.heap.size w w'

/-- The memory of Fold's round behind k parts: W the world in which the round's two lists were made. -/
structure FolW (ga n : Nat) (f : Nat → Nat) (h : Nat) (w wr : World) (k : Nat) : Prop where
  a : Sl wr ga n f
  lo : Blk wr h 30 (Iv .u32 (fill 16 (fun i => ((f i : Nat) : Int)) k))
  hi : Blk wr (h + 1) 30 (Iv .u32 ((List.range n).map fun j => ((hk f k j : Nat) : Int)))
  k : Below w.heap.size w wr
  la : ga < h
  lw : w.heap.size ≤ h
theorem FolW.drew {ga n : Nat} {f : Nat → Nat} {h : Nat} {w wr : World} {k : Nat} (F : FolW ga n f h w wr k) : FolW ga n f h w wr.drew k := ⟨F.a.drew, F.lo, F.hi, below_drew F.k, F.la, F.lw⟩
theorem FolW.low {ga n : Nat} {f : Nat → Nat} {h : Nat} {w wr : World} {k : Nat} (F : FolW ga n f h w wr k) (hlt : k < 15) : FolW ga n f h w (wr.setCell ⟨h, k, none⟩ (.int .u32 ((f k : Nat) : Int))) (k + 1) := by
  have h1 := F.la; have h2 := F.lw
  refine ⟨F.a.far (by simp; omega) _, ?_, ?_, F.k.setCell (by simp; omega) _, F.la, F.lw⟩
  · have := F.lo.set k (.int .u32 ((f k : Nat) : Int))
    rw [Iv_set, fill_set 16 (fun i => ((f i : Nat) : Int)) k] at this
    exact this
  · rw [hk_low f k hlt]
    exact F.hi.far (by simp) _
/-- Behind the low part's store at k = 15, and at k above: only the high part is yet to be written. -/
structure FolX (ga n : Nat) (f : Nat → Nat) (h : Nat) (w wr : World) (k : Nat) (o : Nat → Nat) : Prop where
  a : Sl wr ga n f
  lo : Blk wr h 30 (Iv .u32 (fill 16 (fun i => ((f i : Nat) : Int)) (k + 1)))
  hi : Blk wr (h + 1) 30 (Iv .u32 ((List.range n).map fun j => ((o j : Nat) : Int)))
  k : Below w.heap.size w wr
  la : ga < h
  lw : w.heap.size ≤ h
theorem FolX.drew {ga n : Nat} {f : Nat → Nat} {h : Nat} {w wr : World} {k : Nat} {o : Nat → Nat} (F : FolX ga n f h w wr k o) : FolX ga n f h w wr.drew k o := ⟨F.a.drew, F.lo, F.hi, below_drew F.k, F.la, F.lw⟩
theorem FolW.low15 {ga n : Nat} {f : Nat → Nat} {h : Nat} {w wr : World} (F : FolW ga n f h w wr 15) : FolX ga n f h w (wr.setCell ⟨h, 15, none⟩ (.int .u32 ((f 15 : Nat) : Int))) 15 (hk f 15) := by
  have h1 := F.la; have h2 := F.lw
  refine ⟨F.a.far (by simp; omega) _, ?_, F.hi.far (by simp) _, F.k.setCell (by simp; omega) _, F.la, F.lw⟩
  have := F.lo.set 15 (.int .u32 ((f 15 : Nat) : Int))
  rw [Iv_set, fill_set 16 (fun i => ((f i : Nat) : Int)) 15] at this
  exact this
theorem FolW.over {ga n : Nat} {f : Nat → Nat} {h : Nat} {w wr : World} {k : Nat} (F : FolW ga n f h w wr k) (hge : 16 ≤ k) : FolX ga n f h w wr k (hk f k) :=
  ⟨F.a, by rw [fill_over 16 _ k hge]; exact F.lo, F.hi, F.k, F.la, F.lw⟩
theorem FolX.put {ga n : Nat} {f : Nat → Nat} {h : Nat} {w wr : World} {k : Nat} {o : Nat → Nat} (F : FolX ga n f h w wr k o) (p x : Nat) : FolX ga n f h w (wr.setCell ⟨h + 1, p, none⟩ (.int .u32 ((x : Nat) : Int))) k (put o p x) := by
  have h1 := F.la; have h2 := F.lw
  refine ⟨F.a.far (by simp; omega) _, F.lo.far (by simp) _, ?_, F.k.setCell (by simp; omega) _, F.la, F.lw⟩
  have := F.hi.set p (.int .u32 ((x : Nat) : Int))
  rw [Iv_set, put_set] at this
  exact this
theorem FolX.done {ga n : Nat} {f : Nat → Nat} {h : Nat} {w wr : World} {k : Nat} {o : Nat → Nat} (F : FolX ga n f h w wr k o) (ho : o = hk f (k + 1)) : FolW ga n f h w wr (k + 1) :=
  ⟨F.a, F.lo, ho ▸ F.hi, F.k, F.la, F.lw⟩
theorem or_zero32 (y : Nat) (hy : y < 65536) : bits .or .u32 0 ((y : Nat) : Int) = ((y : Nat) : Int) := by
  rw [or32 16 0 _ (by decide) (by decide) (by decide) (by omega) (by omega) (by decide), Int.zero_add]
theorem or_bit32 (b e : Nat) (hb : b < 2) (he : e % 2 = 0) (he2 : e < 65536) : bits .or .u32 ((b : Nat) : Int) ((e : Nat) : Int) = ((b + e : Nat) : Int) := by
  rw [or_comm32, or32 1 _ _ (by omega) (by omega) (by omega) (by omega) (by omega) (by decide)]
  omega

theorem fill_all (f : Nat → Nat) (n : Nat) (hh : ∀ i, n ≤ i → f i = 0) : fill 16 (fun i => ((f i : Nat) : Int)) n = (List.range 16).map fun i => ((f i : Nat) : Int) := by
  unfold fill
  apply List.map_congr_left
  intro i _
  by_cases h : i < n
  · rw [if_pos h]
  · rw [if_neg h, hh i (by omega)]
    rfl
theorem low_set (f : Nat → Nat) (hf : ∀ i, f i < 65536) (n : Nat) (hh : ∀ i, n ≤ i → f i = 0) :
    ((List.range 16).map fun i => ((f i : Nat) : Int)).set 15 (((f 15 : Nat) : Int) % 32768) = (List.range 16).map fun i => ((dAt (lv f n % 57896044618658097711785492504343953926634992332820282019728792003956564819968) i : Nat) : Int) := by
  apply List.ext_getElem (by simp)
  intro j h1 h2
  have hj : j < 16 := by simpa using h2
  simp only [List.getElem_set, List.getElem_map, List.getElem_range]
  rw [lo_part _ _ hj]
  have e : ∀ i, dAt (lv f n) i = f i := fun i => lv_part_any f hf n hh i
  rw [e, e]
  by_cases h : 15 = j
  · rw [if_pos h, if_pos h.symm]
    omega
  · rw [if_neg h, if_neg (fun x => h x.symm)]
/-- No part from m on. -/
structure ZeroUp (f : Nat → Nat) (m : Nat) : Prop where
  z : ∀ j, m ≤ j → f j = 0
theorem ZeroUp.down {f : Nat → Nat} {m : Nat} (h : ZeroUp f (m + 1)) (h0 : f m = 0) : ZeroUp f m := ⟨fun j hj => by
  by_cases e : j = m
  · rw [e, h0]
  · exact h.z j (by omega)⟩
/-- Both lists of Fold's round, done. -/
structure FolY (n : Nat) (lo hi : Nat → Nat) (h : Nat) (w wr : World) : Prop where
  lo : Sl wr h 16 lo
  hi : Sl wr (h + 1) n hi
  k : Below w.heap.size w wr
  lw : w.heap.size ≤ h
theorem FolW.fin {ga n : Nat} {f : Nat → Nat} {h : Nat} {w wr : World} (F : FolW ga n f h w wr n) : FolY n (dAt (lv f n % 57896044618658097711785492504343953926634992332820282019728792003956564819968)) (dAt (lv f n / 57896044618658097711785492504343953926634992332820282019728792003956564819968)) h w (wr.setCell ⟨h, 15, none⟩ (.int .u32 (((f 15 : Nat) : Int) % 32768))) := by
  have h1 := F.la; have h2 := F.lw
  have hf := F.a.lt; have hh := F.a.high
  refine ⟨Sl.of_blk (t := 30) ?_ (dAt_lt _) (fun i hi => ?_), Sl.of_blk (t := 30) ?_ (dAt_lt _) (fun i hi => ?_), F.k.setCell (by simp; omega) _, F.lw⟩
  · have := F.lo.set 15 (.int .u32 (((f 15 : Nat) : Int) % 32768))
    rw [Iv_set, fill_all f n hh, low_set f hf n hh] at this
    exact this
  · unfold dAt
    rw [Nat.div_eq_of_lt]
    exact Nat.lt_of_lt_of_le (Nat.mod_lt _ (by decide)) (Nat.le_trans (by decide) (Nat.pow_le_pow_right (by decide) hi))
  · have := F.hi.far (p := ⟨h, 15, none⟩) (by simp) (.int .u32 (((f 15 : Nat) : Int) % 32768))
    rw [hk_done f hf n hh] at this
    exact this
  · rw [← hk_done f hf n hh]
    unfold hk
    rw [if_neg (by omega), if_neg (by omega)]
theorem and15 (x : Int) (h0 : 0 ≤ x) (h1 : x < 4294967296) : bits .and .u32 x 32767 = x % 32768 := by
  obtain ⟨n, rfl⟩ := Int.eq_ofNat_of_zero_le h0
  have h := u32_and_nat n 32767 (by omega) (by omega)
  have e : n &&& 32767 = n % 32768 := Nat.and_two_pow_sub_one_eq_mod n 15
  rw [e] at h
  exact h

theorem fold_zero (v H k : Nat) (hH : H = v / 57896044618658097711785492504343953926634992332820282019728792003956564819968) (hv : v < 65536 ^ k) (hz : ZeroUp (dAt H) 0) : v < 57896044618658097711785492504343953926634992332820282019728792003956564819968 := by
  have h1 := d_num H k
  have h2 : ∀ n, lv (dAt H) n = 0 := by
    intro n
    induction n with
    | zero => rfl
    | succ n ih => simp only [lv]; rw [ih, hz.z n (by omega), Nat.zero_mul]
  rw [h2 k, Nat.mod_eq_of_lt (by rw [hH]; exact Nat.lt_of_le_of_lt (Nat.div_le_self _ _) hv)] at h1
  rw [← h1] at hH
  exact Nat.lt_of_not_le fun h => by
    have := Nat.div_pos h (by decide)
    omega

theorem fold_top (v H k j : Nat) (hH : H = v / 57896044618658097711785492504343953926634992332820282019728792003956564819968) (hv : v < 65536 ^ k) (hj : k ≤ j + 15) : dAt H j = 0 := by
  unfold dAt
  rw [hH, big_div, Nat.div_eq_of_lt (Nat.lt_of_lt_of_le hv (Nat.pow_le_pow_right (by decide) hj)), Nat.zero_div]

set_option maxHeartbeats 4000000 in
set_option maxRecDepth 100000 in
theorem fold_any (ga na ca : Nat) (fa : Nat → Nat) (w : World) (ha : Sl w ga na fa) (hna : na ≤ 1000) :
    Calls Tryd.prog 58 #[SlV ga na ca] w (RetF w (lv fa na)) := by
  have hmk16 : ∀ (g : Nat → Int) w, (Instr.makeSlice 26 (.int .i64 16) (.int .i64 16)).run Tryd.prog w = .ok (.slice (some ⟨w.heap.size, 0, none⟩) 16 16) (w.alloc (.cells (Iv .u32 (fill 16 g 0)) 30)) := fun g w => make32 16 (by decide) g w
  have HMK := Lib.hid hmk16
  clear hmk16
  obtain ⟨V, hV⟩ : ∃ V, V = lv fa na := ⟨_, rfl⟩
  rw [← hV]
  unfold SlV
  go_enter Tryd.func58, Tryd.ntmps58
  go_wp2
  go_loopg [0] V (fun v a wr => ∃ g n c f, a = SlV g n c ∧ Sl wr g n f ∧ lv f n = v ∧ v % pp = V % pp ∧ n ≤ 1000 ∧ Below w.heap.size w wr)
  case atStart => exact ⟨ga, na, ca, fa, rfl, ha, hV.symm, rfl, hna, Below.refl _ _⟩
  case round =>
    obtain ⟨g, n, c, f, rfl, hA, hv, hmod, hn, hB⟩ := hrel
    have hkV : Hid (gk % pp = V % pp) := Lib.hid hmod
    have hvV : Hid (lv f n = gk) := Lib.hid hv
    clear hv hmod hV ha
    unfold SlV
    by_cases hin : 17 < n
    · obtain ⟨wo, hwo⟩ : ∃ wo : World, wo = wr := ⟨_, rfl⟩
      rw [← hwo] at hA hB ⊢
      clear hwo
      have hmk := make32 n (by omega) (fun _ => 0)
      have hmk16 := HMK.out (fun i => ((f i : Nat) : Int))
      go_wp2
      generalize hW : World.alloc (World.alloc wo _) _ = W
      have G0 : FolW g n f wo.heap.size w W 0 := by
        subst hW
        have e : fill n (fun _ => 0) 0 = (List.range n).map fun j => ((hk f 0 j : Nat) : Int) := by simp [fill, hk]
        refine ⟨hA.below (((Below.refl _ _).alloc (Nat.le_refl _) _).alloc (by simp) _), (Blk.new _ _ _).alloc _, ?_, (hB.alloc hB.size _).alloc (by simp; have := hB.size; omega) _, hA.blk, hB.size⟩
        rw [e]
        exact Blk.new' (by simp) _ _
      clear hW hmk hmk16 hA hB
      generalize wo.heap.size = h at *
      go_loopw [5] (fun i wr => ∃ k : Nat, k ≤ n ∧ i = .int .i64 k ∧ FolW g n f h w wr k) (fun i _ => n - (intOf i).toNat)
      case atStart => exact ⟨0, by omega, rfl, G0⟩
      case round =>
        obtain ⟨k, hkn, rfl, F⟩ := hrel
        clear G0
        by_cases hlt : k < n
        · by_cases h15 : k < 15
          · have c0 := F.a.cell k hlt
            have c1 : wr.cell? ⟨h, k, none⟩ = some (.int .u32 0) := by
              rw [F.lo.cell, Iv_get _ _ _ (by rw [fill_length]; omega), fill_getD _ _ _ _ (by omega), if_neg (by omega)]
            have f1 := F.lo.frozen k
            go_wp2
            exact ⟨⟨k + 1, by omega, by go_num, F.low h15⟩, by simp [intOf]; omega⟩
          by_cases h16 : k = 15
          · subst h16
            have c0 := F.a.cell 15 hlt
            have c1 : wr.cell? ⟨h, 15, none⟩ = some (.int .u32 0) := by
              rw [F.lo.cell, Iv_get _ _ _ (by rw [fill_length]; omega), fill_getD _ _ _ _ (by omega), if_neg (by omega)]
            have f1 := F.lo.frozen 15
            go_wp2
            have X := F.low15
            clear F c0 c1 f1
            generalize World.setCell wr _ _ = V0 at X ⊢
            refine wp_region_still_tail 15 (by kernel_rfl) (by kernel_rfl) ?_
            simp only [List.take_succ_cons, List.take_zero, List.drop_succ_cons, List.drop_zero]
            change wpStill _ _ (World.drew V0) (fun a' => wpList _ _ _ _ a' (World.drew V0)) _ _
            have Y := X.drew
            clear X
            generalize World.drew V0 = V at Y ⊢
            have lf := Y.a.lt (15)
            have c0 : V.cell? ⟨g, 15, none⟩ = some (.int .u32 ((f 15 : Nat) : Int)) := Y.a.cell 15 (by omega)
            have c1 : V.cell? ⟨h + 1, 0, none⟩ = some (.int .u32 0) := by
              rw [Y.hi.cell, Iv_get _ _ _ (by simp; omega)]
              have : hk f 15 (0) = 0 := by have := hk_at f 15 (Nat.le_refl _); exact this
              simp [this, show 0 < n by omega]
            have f1 := Y.hi.frozen (0)
            obtain ⟨b, hb⟩ : ∃ b, b = f 15 / 32768 := ⟨_, rfl⟩
            have j1 : ((f 15 : Nat) : Int) / 32768 = ((b : Nat) : Int) := by omega
            have j2 : bits .or .u32 0 ((b : Nat) : Int) = ((b : Nat) : Int) := or_zero32 b (by omega)
            have i2 : (0 : Int) < (n : Int) := by omega
            have i6 : (15 : Int) < (n : Int) := by omega
            have i7 : IntKind.i64.wrap 0 = 0 := rfl
            have i0 : 0 < n := by omega
            have Z := Y.put (0) b
            have HB := Lib.hid hb
            have HZ := Lib.hid Z
            clear hb Z Y
            repeat still_step
            refine wpStill_nil ?_
            clear j1 j2 
            go_wp2
            have Z := HZ.out
            clear HZ c0 c1 f1
            exact ⟨⟨16, by omega, rfl, Z.done (by rw [HB.out]; exact hk_15 f)⟩, by simp [intOf]; omega⟩
          · have X := F.over (by omega)
            clear F
            obtain ⟨V0, hV0⟩ : ∃ V0 : World, V0 = wr := ⟨_, rfl⟩
            rw [← hV0] at X ⊢
            clear hV0
            go_wp2
            refine wp_region_still_tail 15 (by kernel_rfl) (by kernel_rfl) ?_
            simp only [List.take_succ_cons, List.take_zero, List.drop_succ_cons, List.drop_zero]
            change wpStill _ _ (World.drew V0) (fun a' => wpList _ _ _ _ a' (World.drew V0)) _ _
            have Y := X.drew
            clear X
            generalize World.drew V0 = V at Y ⊢
            have lf := Y.a.lt (k)
            have c0 : V.cell? ⟨g, k, none⟩ = some (.int .u32 ((f k : Nat) : Int)) := Y.a.cell k (by omega)
            have c1 : V.cell? ⟨h + 1, k - 15, none⟩ = some (.int .u32 0) := by
              rw [Y.hi.cell, Iv_get _ _ _ (by simp; omega)]
              have : hk f k (k - 15) = 0 := hk_at f k (by omega)
              simp [this, show k - 15 < n by omega]
            have f1 := Y.hi.frozen (k - 15)
            obtain ⟨b, hb⟩ : ∃ b, b = f k / 32768 := ⟨_, rfl⟩
            have j1 : ((f k : Nat) : Int) / 32768 = ((b : Nat) : Int) := by omega
            have j2 : bits .or .u32 0 ((b : Nat) : Int) = ((b : Nat) : Int) := or_zero32 b (by omega)
            have i1 : (0 : Int) ≤ (k : Int) - 15 := by omega
            have i2 : (k : Int) - 15 < (n : Int) := by omega
            have i3 : ((k : Int) - 15).toNat = k - 15 := by omega
            have i4 : IntKind.i64.wrap ((k : Int) - 15) = (k : Int) - 15 := by rw [IntKind.wrap_i64]; omega
            have i5 : (0 : Int) ≤ (k : Int) := by omega
            have i6 : (k : Int) < (n : Int) := by omega
            have Z := Y.put (k - 15) b
            have HB := Lib.hid hb
            have HZ := Lib.hid Z
            clear hb Z Y
            repeat still_step
            refine wpStill_nil ?_
            clear j1 j2 i1 i3 i4
            go_wp2
            have Z := HZ.out
            clear HZ c0 c1 f1
            refine wp_region_still_tail 16 (by kernel_rfl) (by kernel_rfl) ?_
            simp only [List.take_succ_cons, List.take_zero, List.drop_succ_cons, List.drop_zero]
            generalize World.setCell V _ _ = V1 at Z ⊢
            change wpStill _ _ (World.drew V1) (fun a' => wpList _ _ _ _ a' (World.drew V1)) _ _
            have Y := Z.drew
            clear Z V
            generalize World.drew V1 = V at Y ⊢
            have c0 : V.cell? ⟨g, k, none⟩ = some (.int .u32 ((f k : Nat) : Int)) := Y.a.cell k (by omega)
            obtain ⟨d, hd⟩ : ∃ d, d = f (k - 1) / 32768 := ⟨_, rfl⟩
            have lf1 := Y.a.lt (k - 1)
            have c1 : V.cell? ⟨h + 1, k - 16, none⟩ = some (.int .u32 ((d : Nat) : Int)) := by
              rw [Y.hi.cell, Iv_get _ _ _ (by simp; omega), hd]
              have := hk_at16 f k (by omega)
              rw [← HB.out] at this
              simp [this, show k - 16 < n by omega]
            have f1 := Y.hi.frozen (k - 16)
            obtain ⟨e, he⟩ : ∃ e, e = f k * 2 % 65536 := ⟨_, rfl⟩
            obtain ⟨s, hs⟩ : ∃ s, s = d + e := ⟨_, rfl⟩
            have j1 : IntKind.u32.wrap (((f k : Nat) : Int) * 2) = ((f k : Nat) : Int) * 2 := by rw [IntKind.wrap_u32]; omega
            have j2 : bits .and .u32 (((f k : Nat) : Int) * 2) 65535 = ((e : Nat) : Int) := by rw [and16 _ (by omega) (by omega)]; omega
            have j3 : bits .or .u32 ((d : Nat) : Int) ((e : Nat) : Int) = ((s : Nat) : Int) := by rw [or_bit32 d e (by omega) (by omega) (by omega), hs]
            have i1 : (0 : Int) ≤ (k : Int) - 16 := by omega
            have i2 : (k : Int) - 16 < (n : Int) := by omega
            have i3 : ((k : Int) - 16).toNat = k - 16 := by omega
            have i4 : IntKind.i64.wrap ((k : Int) - 16) = (k : Int) - 16 := by rw [IntKind.wrap_i64]; omega
            have Z := Y.put (k - 16) s
            rw [HB.out, hs, hd, he] at Z
            have X2 := Z.done (hk_high f k (by omega))
            rw [← he, ← hd, ← hs] at X2
            have HX := Lib.hid X2
            clear Z X2 Y hd he hs HB
            repeat still_step
            refine wpStill_nil ?_
            clear j1 j2 j3 i1 i2 i3 i4
            go_wp2
            exact ⟨⟨k + 1, by omega, by go_num, HX.out⟩, by simp [intOf]; omega⟩
        · obtain rfl : k = n := by omega
          have Y0 := F.fin
          have c0 : wr.cell? ⟨h, 15, none⟩ = some (.int .u32 ((f 15 : Nat) : Int)) := by
            rw [F.lo.cell, fill_all f k F.a.high]
            simp [Iv]
          have f1 := F.lo.frozen 15
          have l15 := F.a.lt 15
          rw [hvV.out] at Y0
          have e15 : bits .and .u32 ((f 15 : Nat) : Int) 32767 = ((f 15 : Nat) : Int) % 32768 := and15 _ (by omega) (by omega)
          have hfl := F.a.lt
          clear F
          go_wp2
          generalize World.setCell wr _ _ = V0 at Y0 ⊢
          have hv65 : gk < 65536 ^ k := by rw [← hvV.out]; exact lv_lt f hfl k
          clear c0 f1 e15 l15
          obtain ⟨H, hH⟩ : ∃ H, H = gk / 57896044618658097711785492504343953926634992332820282019728792003956564819968 := ⟨_, rfl⟩
          obtain ⟨L, hL⟩ : ∃ L, L = gk % 57896044618658097711785492504343953926634992332820282019728792003956564819968 := ⟨_, rfl⟩
          rw [← hH, ← hL] at Y0
          have HH := Lib.hid hH; have HL := Lib.hid hL
          have HV65 := Lib.hid hv65
          clear hH hL hv65
          go_loop [6] (fun i => ∃ m : Nat, m ≤ k ∧ i = .int .i64 m ∧ ZeroUp (dAt H) m) (fun i => (intOf i).toNat)
          case atStart => exact ⟨k, Nat.le_refl _, rfl, ⟨Y0.hi.high⟩⟩
          case round =>
            obtain ⟨m, hm, rfl, hZ⟩ := hrel
            cases m with
            | zero =>
              have hz := fold_zero gk H k HH.out HV65.out hZ
              have hLv : L = gk := by rw [HL.out]; exact Nat.mod_eq_of_lt hz
              have hLs : lv (dAt L) 16 = L := by rw [d_num]; exact Nat.mod_eq_of_lt (by rw [hLv]; exact Nat.lt_of_lt_of_le hz (by decide))
              have HLv := Lib.hid hLv; have HLs := Lib.hid hLs; have Hz := Lib.hid hz
              clear hLv hLs hz hZ
              go_wp2_with fail
              refine (p_any _).mono ?_
              rintro e w1 ⟨gp, cp, rfl, SP, hgp, bp⟩
              have lo1 := Y0.lo.below bp
              have B1 := Y0.k.trans (bp.mono Y0.k.size)
              unfold SlV
              go_wp2_with fail
              refine (less_any h 16 16 gp 16 cp (dAt L) pF _ lo1 SP (by decide) (by decide)).mono ?_
              rintro e w' ⟨rfl, rfl⟩
              rw [HLs.out, pF_num]
              by_cases hlp : L < pp
              · have hd : decide (L < pp) = true := by simpa using hlp
                rw [hd]
                clear hd
                go_wp2
                go_ret
                exact ⟨h, 16, 16, dAt L, rfl, lo1, by rw [HLs.out, ← hkV.out, ← HLv.out, Nat.mod_eq_of_lt hlp], by omega, B1⟩
              · have hd : decide (L < pp) = false := by simpa using hlp
                rw [hd]
                clear hd SP bp
                go_wp2_with fail
                refine (p_any _).mono ?_
                rintro e w2 ⟨gp2, cp2, rfl, SP, _, bp⟩
                have lo2 := lo1.below bp
                have B2 := B1.trans (bp.mono B1.size)
                clear bp
                unfold SlV
                go_wp2_with fail
                refine (minus_any h 16 16 gp2 16 cp2 (dAt L) pF _ lo2 SP (by decide)).mono ?_
                rintro e w3 ⟨g3, c3, rfl, S3, _, b3⟩
                have B3 := B2.trans (b3.mono B2.size)
                have hs := sub_val (dAt L) pF 16 16 (dAt_lt L) pF_lt pF_high (by decide) (by rw [HLs.out, pF_num]; omega)
                rw [HLs.out, pF_num] at hs
                have hlt2 := Hz.out
                rw [← HLv.out] at hlt2
                have hfin : L - pp = V % pp := by
                  rw [← hkV.out, ← HLv.out, pp_eq]
                  rw [pp_eq] at hlp
                  omega
                have HF := Lib.hid (hs.trans hfin)
                clear hs hlt2 hfin b3
                unfold SlV
                go_wp2
                go_ret
                exact ⟨g3, 16, c3, _, rfl, S3, HF.out, by omega, B3⟩
            | succ j =>
              by_cases h0 : dAt H j = 0
              · have hZ2 := hZ.down h0
                have c0 : V0.cell? ⟨h + 1, j, none⟩ = some (.int .u32 0) := by
                  rw [Y0.hi.cell j (by omega), h0]
                  rfl
                clear h0
                go_wp2
                exact ⟨⟨j, by omega, rfl, hZ2⟩, by simp [intOf]⟩
              · have c0 : V0.cell? ⟨h + 1, j, none⟩ = some (.int .u32 ((dAt H j : Nat) : Int)) := Y0.hi.cell j (by omega)
                have hne : ((((dAt H j : Nat) : Int)) == 0) = false := by rw [beq_eq_false_iff_ne]; omega
                have hj1 : j + 15 < k := by
                  have hh := HH.out
                  rcases Nat.lt_or_ge (j + 15) k with hx | hx
                  · exact hx
                  · exact absurd (fold_top gk H k j hh HV65.out hx) h0
                have hpos : 0 < H := Nat.pos_of_ne_zero fun hz => h0 (by rw [hz]; unfold dAt; rw [Nat.zero_div])
                have hhi : Sl V0 (h + 1) (j + 1) (dAt H) := ⟨fun i hi => Y0.hi.cell i (by omega), Y0.hi.lt, fun i hi => hZ.z i hi, Y0.hi.blk⟩
                have hHs : lv (dAt H) (j + 1) = H := by
                  have := lv_high (dAt H) (j + 1) hhi.high k (by omega)
                  rw [← this, d_num]
                  exact Nat.mod_eq_of_lt (by rw [HH.out]; exact Nat.lt_of_le_of_lt (Nat.div_le_self _ _) HV65.out)
                have hLs : lv (dAt L) 16 = L := by rw [d_num]; exact Nat.mod_eq_of_lt (by rw [HL.out]; exact Nat.lt_of_lt_of_le (Nat.mod_lt _ (by decide)) (by decide))
                have HHs := Lib.hid hHs; have HLs := Lib.hid hLs
                clear h0 hHs hLs
                have i1 : (0 : Int) ≤ (j : Int) + 1 := by omega
                have i2 : (j : Int) + 1 ≤ (k : Int) := by omega
                have i3 : ((j : Int) + 1).toNat = j + 1 := by omega
                go_wp2
                have lo0 := Y0.lo.drew
                have hi0 := hhi.drew
                have B0 := below_drew Y0.k
                clear Y0 hhi c0
                refine wp_region_noPanic ?_
                refine wp_region_Z (S := fun _ => True) 7 (by kernel_rfl) ?_
                refine wpAnyZ_takeL 0 (v := ?_) rfl (by kernel_rfl) (by kernel_rfl) (by kernel_rfl) (by kernel_rfl) (by kernel_rfl) (fun _ _ _ h => h) (Or.inl ⟨by rfl, ?_⟩) trivial ?_
                rotate_left
                · intro w' _
                  go_simp
                  try (with_reducible rfl)
                simp only [Act.put, List.setIfInBounds_toArray, List.set_cons_zero, List.set_cons_succ]
                refine wpAnyZ_takeL 1 (v := ?_) rfl (by kernel_rfl) (by kernel_rfl) (by kernel_rfl) (by kernel_rfl) (by kernel_rfl) (fun _ _ _ h => h) (Or.inl ⟨by rfl, ?_⟩) trivial ?_
                rotate_left
                · intro w' _
                  go_simp
                  try (with_reducible rfl)
                simp only [Act.put, List.setIfInBounds_toArray, List.set_cons_zero, List.set_cons_succ]
                refine wpAnyZ_takeL 2 (v := ?_) rfl (by kernel_rfl) (by kernel_rfl) (by kernel_rfl) (by kernel_rfl) (by kernel_rfl) (fun _ _ _ h => h) (Or.inl ⟨by rfl, ?_⟩) trivial ?_
                rotate_left
                · intro w' _
                  go_simp
                  try (with_reducible rfl)
                simp only [Act.put, List.setIfInBounds_toArray, List.set_cons_zero, List.set_cons_succ]
                refine wpAnyZ_takeL 3 (v := ?_) rfl (by kernel_rfl) (by kernel_rfl) (by kernel_rfl) (by kernel_rfl) (by kernel_rfl) (fun _ _ _ h => h) (Or.inl ⟨by rfl, ?_⟩) trivial ?_
                rotate_left
                · intro w' _
                  go_simp
                  try (with_reducible rfl)
                simp only [Act.put, List.setIfInBounds_toArray, List.set_cons_zero, List.set_cons_succ]
                refine wpAnyZ_one (i := 4) (by kernel_rfl) ?_
                unfold wpOp
                go_simp
                left
                refine (num_any 19 _ (by decide)).mono ?_
                rintro e w1 ⟨gn, cn, rfl, SN, _, b1⟩
                have lo1 := lo0.below b1
                have hi1 := hi0.below b1
                have B1 := B0.trans (b1.mono B0.size)
                clear b1 lo0 hi0 B0
                unfold SlV
                refine wpAnyZ_one (i := 5) (by kernel_rfl) ?_
                unfold wpOp
                go_simp
                left
                refine (times_any (h + 1) (j + 1) k gn 2 cn (dAt H) (numF 19) _ hi1 SN (by omega) (by decide)).mono ?_
                rintro e w2 ⟨ft, hft, gt, ct, rfl, ST, _, b2⟩
                have lo2 := lo1.below b2
                have B2 := B1.trans (b2.mono B1.size)
                clear b2 lo1 hi1 SN B1
                rw [HHs.out, numF_num 19 (by decide)] at hft
                have HFT := Lib.hid hft
                clear hft
                unfold SlV
                refine wpAnyZ_one (i := 6) (by kernel_rfl) ?_
                unfold wpOp
                go_simp
                left
                refine (sum_any h 16 16 gt (j + 1 + 2) ct (dAt L) ft _ lo2 ST (by decide) (by omega)).mono ?_
                rintro e w3 ⟨gs, cs, rfl, SS, _, b3⟩
                have B3 := B2.trans (b3.mono B2.size)
                have hsv := sum_val (dAt L) ft 16 (j + 1 + 2) (dAt_lt L) ST.lt lo2.high ST.high
                rw [HLs.out, HFT.out] at hsv
                have hlen : maxN 16 (j + 1 + 2) + 1 ≤ 1000 := by unfold maxN; split <;> omega
                have HSV := Lib.hid hsv
                clear b3 lo2 ST B2 hsv
                unfold SlV
                refine wpAnyZ_one (fuel := 0) (i := 7) (by kernel_rfl) ?_
                unfold wpOp
                go_simp
                left
                refine wpAnyZ_done (by kernel_rfl) (NoPanic.normal ?_) _
                go_wp2
                have hmd := fold_num gk
                rw [← HL.out, ← HH.out, Nat.mul_comm 19 H] at hmd
                have hdec : L + H * 19 < gk := by
                  have h1 := HL.out; have h2 := HH.out
                  omega
                go_roundg (L + H * 19)
                case rel => exact ⟨gs, _, cs, _, rfl, SS, HSV.out, hmd.trans hkV.out, hlen, B3⟩
                case measure => exact hdec
    · have hnle : n ≤ 17 := by omega
      go_wp2_with fail
      refine (p_any _).mono ?_
      rintro e w1 ⟨gp, cp, rfl, SP, _, bp⟩
      have hA1 := hA.below bp
      have B1 := hB.trans (bp.mono hB.size)
      clear bp hA hB
      unfold SlV
      go_wp2_with fail
      refine (num_any 1 _ (by decide)).mono ?_
      rintro e w2 ⟨gn, cn, rfl, SN, _, bp⟩
      have hA2 := hA1.below bp
      have SP2 := SP.below bp
      have B2 := B1.trans (bp.mono B1.size)
      clear bp hA1 SP B1
      unfold SlV
      go_wp2_with fail
      refine (minus_any gp 16 cp gn 2 cn pF (numF 1) _ SP2 SN (by decide)).mono ?_
      rintro e wo ⟨gm, cm, rfl, SM, _, bp⟩
      have hA := hA2.below bp
      have hB := B2.trans (bp.mono B2.size)
      have hs := sub_val pF (numF 1) 16 2 pF_lt SN.lt SN.high (by decide) (by rw [pF_num, numF_num 1 (by decide), pp_eq]; decide)
      rw [pF_num, numF_num 1 (by decide)] at hs
      have HS := Lib.hid hs
      clear bp hA2 SP2 SN B2 hs
      unfold SlV
      go_wp2_with fail
      refine (less_any gm 16 cm g n c _ f _ SM hA (by decide) (by omega)).mono ?_
      rintro e w' ⟨rfl, rfl⟩
      rw [HS.out, hvV.out]
      by_cases hgt : pp - 1 < gk
      · have hd : decide (pp - 1 < gk) = true := by simpa using hgt
        rw [hd]
        have hmk := make32 n (by omega) (fun _ => 0)
        have hmk16 := HMK.out (fun i => ((f i : Nat) : Int))
        clear hd hgt SM
        go_wp2
        generalize hW : World.alloc (World.alloc wo _) _ = W
        have G0 : FolW g n f wo.heap.size w W 0 := by
          subst hW
          have e : fill n (fun _ => 0) 0 = (List.range n).map fun j => ((hk f 0 j : Nat) : Int) := by simp [fill, hk]
          refine ⟨hA.below (((Below.refl _ _).alloc (Nat.le_refl _) _).alloc (by simp) _), (Blk.new _ _ _).alloc _, ?_, (hB.alloc hB.size _).alloc (by simp; have := hB.size; omega) _, hA.blk, hB.size⟩
          rw [e]
          exact Blk.new' (by simp) _ _
        clear hW hmk hmk16 hA hB
        generalize wo.heap.size = h at *
        go_loopw [5] (fun i wr => ∃ k : Nat, k ≤ n ∧ i = .int .i64 k ∧ FolW g n f h w wr k) (fun i _ => n - (intOf i).toNat)
        case atStart => exact ⟨0, by omega, rfl, G0⟩
        case round =>
          obtain ⟨k, hkn, rfl, F⟩ := hrel
          clear G0
          by_cases hlt : k < n
          · by_cases h15 : k < 15
            · have c0 := F.a.cell k hlt
              have c1 : wr.cell? ⟨h, k, none⟩ = some (.int .u32 0) := by
                rw [F.lo.cell, Iv_get _ _ _ (by rw [fill_length]; omega), fill_getD _ _ _ _ (by omega), if_neg (by omega)]
              have f1 := F.lo.frozen k
              go_wp2
              exact ⟨⟨k + 1, by omega, by go_num, F.low h15⟩, by simp [intOf]; omega⟩
            by_cases h16 : k = 15
            · subst h16
              have c0 := F.a.cell 15 hlt
              have c1 : wr.cell? ⟨h, 15, none⟩ = some (.int .u32 0) := by
                rw [F.lo.cell, Iv_get _ _ _ (by rw [fill_length]; omega), fill_getD _ _ _ _ (by omega), if_neg (by omega)]
              have f1 := F.lo.frozen 15
              go_wp2
              have X := F.low15
              clear F c0 c1 f1
              generalize World.setCell wr _ _ = V0 at X ⊢
              refine wp_region_still_tail 15 (by kernel_rfl) (by kernel_rfl) ?_
              simp only [List.take_succ_cons, List.take_zero, List.drop_succ_cons, List.drop_zero]
              change wpStill _ _ (World.drew V0) (fun a' => wpList _ _ _ _ a' (World.drew V0)) _ _
              have Y := X.drew
              clear X
              generalize World.drew V0 = V at Y ⊢
              have lf := Y.a.lt (15)
              have c0 : V.cell? ⟨g, 15, none⟩ = some (.int .u32 ((f 15 : Nat) : Int)) := Y.a.cell 15 (by omega)
              have c1 : V.cell? ⟨h + 1, 0, none⟩ = some (.int .u32 0) := by
                rw [Y.hi.cell, Iv_get _ _ _ (by simp; omega)]
                have : hk f 15 (0) = 0 := by have := hk_at f 15 (Nat.le_refl _); exact this
                simp [this, show 0 < n by omega]
              have f1 := Y.hi.frozen (0)
              obtain ⟨b, hb⟩ : ∃ b, b = f 15 / 32768 := ⟨_, rfl⟩
              have j1 : ((f 15 : Nat) : Int) / 32768 = ((b : Nat) : Int) := by omega
              have j2 : bits .or .u32 0 ((b : Nat) : Int) = ((b : Nat) : Int) := or_zero32 b (by omega)
              have i2 : (0 : Int) < (n : Int) := by omega
              have i6 : (15 : Int) < (n : Int) := by omega
              have i7 : IntKind.i64.wrap 0 = 0 := rfl
              have i0 : 0 < n := by omega
              have Z := Y.put (0) b
              have HB := Lib.hid hb
              have HZ := Lib.hid Z
              clear hb Z Y
              repeat still_step
              refine wpStill_nil ?_
              clear j1 j2 
              go_wp2
              have Z := HZ.out
              clear HZ c0 c1 f1
              exact ⟨⟨16, by omega, rfl, Z.done (by rw [HB.out]; exact hk_15 f)⟩, by simp [intOf]; omega⟩
            · have X := F.over (by omega)
              clear F
              obtain ⟨V0, hV0⟩ : ∃ V0 : World, V0 = wr := ⟨_, rfl⟩
              rw [← hV0] at X ⊢
              clear hV0
              go_wp2
              refine wp_region_still_tail 15 (by kernel_rfl) (by kernel_rfl) ?_
              simp only [List.take_succ_cons, List.take_zero, List.drop_succ_cons, List.drop_zero]
              change wpStill _ _ (World.drew V0) (fun a' => wpList _ _ _ _ a' (World.drew V0)) _ _
              have Y := X.drew
              clear X
              generalize World.drew V0 = V at Y ⊢
              have lf := Y.a.lt (k)
              have c0 : V.cell? ⟨g, k, none⟩ = some (.int .u32 ((f k : Nat) : Int)) := Y.a.cell k (by omega)
              have c1 : V.cell? ⟨h + 1, k - 15, none⟩ = some (.int .u32 0) := by
                rw [Y.hi.cell, Iv_get _ _ _ (by simp; omega)]
                have : hk f k (k - 15) = 0 := hk_at f k (by omega)
                simp [this, show k - 15 < n by omega]
              have f1 := Y.hi.frozen (k - 15)
              obtain ⟨b, hb⟩ : ∃ b, b = f k / 32768 := ⟨_, rfl⟩
              have j1 : ((f k : Nat) : Int) / 32768 = ((b : Nat) : Int) := by omega
              have j2 : bits .or .u32 0 ((b : Nat) : Int) = ((b : Nat) : Int) := or_zero32 b (by omega)
              have i1 : (0 : Int) ≤ (k : Int) - 15 := by omega
              have i2 : (k : Int) - 15 < (n : Int) := by omega
              have i3 : ((k : Int) - 15).toNat = k - 15 := by omega
              have i4 : IntKind.i64.wrap ((k : Int) - 15) = (k : Int) - 15 := by rw [IntKind.wrap_i64]; omega
              have i5 : (0 : Int) ≤ (k : Int) := by omega
              have i6 : (k : Int) < (n : Int) := by omega
              have Z := Y.put (k - 15) b
              have HB := Lib.hid hb
              have HZ := Lib.hid Z
              clear hb Z Y
              repeat still_step
              refine wpStill_nil ?_
              clear j1 j2 i1 i3 i4
              go_wp2
              have Z := HZ.out
              clear HZ c0 c1 f1
              refine wp_region_still_tail 16 (by kernel_rfl) (by kernel_rfl) ?_
              simp only [List.take_succ_cons, List.take_zero, List.drop_succ_cons, List.drop_zero]
              generalize World.setCell V _ _ = V1 at Z ⊢
              change wpStill _ _ (World.drew V1) (fun a' => wpList _ _ _ _ a' (World.drew V1)) _ _
              have Y := Z.drew
              clear Z V
              generalize World.drew V1 = V at Y ⊢
              have c0 : V.cell? ⟨g, k, none⟩ = some (.int .u32 ((f k : Nat) : Int)) := Y.a.cell k (by omega)
              obtain ⟨d, hd⟩ : ∃ d, d = f (k - 1) / 32768 := ⟨_, rfl⟩
              have lf1 := Y.a.lt (k - 1)
              have c1 : V.cell? ⟨h + 1, k - 16, none⟩ = some (.int .u32 ((d : Nat) : Int)) := by
                rw [Y.hi.cell, Iv_get _ _ _ (by simp; omega), hd]
                have := hk_at16 f k (by omega)
                rw [← HB.out] at this
                simp [this, show k - 16 < n by omega]
              have f1 := Y.hi.frozen (k - 16)
              obtain ⟨e, he⟩ : ∃ e, e = f k * 2 % 65536 := ⟨_, rfl⟩
              obtain ⟨s, hs⟩ : ∃ s, s = d + e := ⟨_, rfl⟩
              have j1 : IntKind.u32.wrap (((f k : Nat) : Int) * 2) = ((f k : Nat) : Int) * 2 := by rw [IntKind.wrap_u32]; omega
              have j2 : bits .and .u32 (((f k : Nat) : Int) * 2) 65535 = ((e : Nat) : Int) := by rw [and16 _ (by omega) (by omega)]; omega
              have j3 : bits .or .u32 ((d : Nat) : Int) ((e : Nat) : Int) = ((s : Nat) : Int) := by rw [or_bit32 d e (by omega) (by omega) (by omega), hs]
              have i1 : (0 : Int) ≤ (k : Int) - 16 := by omega
              have i2 : (k : Int) - 16 < (n : Int) := by omega
              have i3 : ((k : Int) - 16).toNat = k - 16 := by omega
              have i4 : IntKind.i64.wrap ((k : Int) - 16) = (k : Int) - 16 := by rw [IntKind.wrap_i64]; omega
              have Z := Y.put (k - 16) s
              rw [HB.out, hs, hd, he] at Z
              have X2 := Z.done (hk_high f k (by omega))
              rw [← he, ← hd, ← hs] at X2
              have HX := Lib.hid X2
              clear Z X2 Y hd he hs HB
              repeat still_step
              refine wpStill_nil ?_
              clear j1 j2 j3 i1 i2 i3 i4
              go_wp2
              exact ⟨⟨k + 1, by omega, by go_num, HX.out⟩, by simp [intOf]; omega⟩
          · obtain rfl : k = n := by omega
            have Y0 := F.fin
            have c0 : wr.cell? ⟨h, 15, none⟩ = some (.int .u32 ((f 15 : Nat) : Int)) := by
              rw [F.lo.cell, fill_all f k F.a.high]
              simp [Iv]
            have f1 := F.lo.frozen 15
            have l15 := F.a.lt 15
            rw [hvV.out] at Y0
            have e15 : bits .and .u32 ((f 15 : Nat) : Int) 32767 = ((f 15 : Nat) : Int) % 32768 := and15 _ (by omega) (by omega)
            have hfl := F.a.lt
            clear F
            go_wp2
            generalize World.setCell wr _ _ = V0 at Y0 ⊢
            have hv65 : gk < 65536 ^ k := by rw [← hvV.out]; exact lv_lt f hfl k
            clear c0 f1 e15 l15
            obtain ⟨H, hH⟩ : ∃ H, H = gk / 57896044618658097711785492504343953926634992332820282019728792003956564819968 := ⟨_, rfl⟩
            obtain ⟨L, hL⟩ : ∃ L, L = gk % 57896044618658097711785492504343953926634992332820282019728792003956564819968 := ⟨_, rfl⟩
            rw [← hH, ← hL] at Y0
            have HH := Lib.hid hH; have HL := Lib.hid hL
            have HV65 := Lib.hid hv65
            clear hH hL hv65
            go_loop [6] (fun i => ∃ m : Nat, m ≤ k ∧ i = .int .i64 m ∧ ZeroUp (dAt H) m) (fun i => (intOf i).toNat)
            case atStart => exact ⟨k, Nat.le_refl _, rfl, ⟨Y0.hi.high⟩⟩
            case round =>
              obtain ⟨m, hm, rfl, hZ⟩ := hrel
              cases m with
              | zero =>
                have hz := fold_zero gk H k HH.out HV65.out hZ
                have hLv : L = gk := by rw [HL.out]; exact Nat.mod_eq_of_lt hz
                have hLs : lv (dAt L) 16 = L := by rw [d_num]; exact Nat.mod_eq_of_lt (by rw [hLv]; exact Nat.lt_of_lt_of_le hz (by decide))
                have HLv := Lib.hid hLv; have HLs := Lib.hid hLs; have Hz := Lib.hid hz
                clear hLv hLs hz hZ
                go_wp2_with fail
                refine (p_any _).mono ?_
                rintro e w1 ⟨gp, cp, rfl, SP, hgp, bp⟩
                have lo1 := Y0.lo.below bp
                have B1 := Y0.k.trans (bp.mono Y0.k.size)
                unfold SlV
                go_wp2_with fail
                refine (less_any h 16 16 gp 16 cp (dAt L) pF _ lo1 SP (by decide) (by decide)).mono ?_
                rintro e w' ⟨rfl, rfl⟩
                rw [HLs.out, pF_num]
                by_cases hlp : L < pp
                · have hd : decide (L < pp) = true := by simpa using hlp
                  rw [hd]
                  clear hd
                  go_wp2
                  go_ret
                  exact ⟨h, 16, 16, dAt L, rfl, lo1, by rw [HLs.out, ← hkV.out, ← HLv.out, Nat.mod_eq_of_lt hlp], by omega, B1⟩
                · have hd : decide (L < pp) = false := by simpa using hlp
                  rw [hd]
                  clear hd SP bp
                  go_wp2_with fail
                  refine (p_any _).mono ?_
                  rintro e w2 ⟨gp2, cp2, rfl, SP, _, bp⟩
                  have lo2 := lo1.below bp
                  have B2 := B1.trans (bp.mono B1.size)
                  clear bp
                  unfold SlV
                  go_wp2_with fail
                  refine (minus_any h 16 16 gp2 16 cp2 (dAt L) pF _ lo2 SP (by decide)).mono ?_
                  rintro e w3 ⟨g3, c3, rfl, S3, _, b3⟩
                  have B3 := B2.trans (b3.mono B2.size)
                  have hs := sub_val (dAt L) pF 16 16 (dAt_lt L) pF_lt pF_high (by decide) (by rw [HLs.out, pF_num]; omega)
                  rw [HLs.out, pF_num] at hs
                  have hlt2 := Hz.out
                  rw [← HLv.out] at hlt2
                  have hfin : L - pp = V % pp := by
                    rw [← hkV.out, ← HLv.out, pp_eq]
                    rw [pp_eq] at hlp
                    omega
                  have HF := Lib.hid (hs.trans hfin)
                  clear hs hlt2 hfin b3
                  unfold SlV
                  go_wp2
                  go_ret
                  exact ⟨g3, 16, c3, _, rfl, S3, HF.out, by omega, B3⟩
              | succ j =>
                by_cases h0 : dAt H j = 0
                · have hZ2 := hZ.down h0
                  have c0 : V0.cell? ⟨h + 1, j, none⟩ = some (.int .u32 0) := by
                    rw [Y0.hi.cell j (by omega), h0]
                    rfl
                  clear h0
                  go_wp2
                  exact ⟨⟨j, by omega, rfl, hZ2⟩, by simp [intOf]⟩
                · have c0 : V0.cell? ⟨h + 1, j, none⟩ = some (.int .u32 ((dAt H j : Nat) : Int)) := Y0.hi.cell j (by omega)
                  have hne : ((((dAt H j : Nat) : Int)) == 0) = false := by rw [beq_eq_false_iff_ne]; omega
                  have hj1 : j + 15 < k := by
                    have hh := HH.out
                    rcases Nat.lt_or_ge (j + 15) k with hx | hx
                    · exact hx
                    · exact absurd (fold_top gk H k j hh HV65.out hx) h0
                  have hpos : 0 < H := Nat.pos_of_ne_zero fun hz => h0 (by rw [hz]; unfold dAt; rw [Nat.zero_div])
                  have hhi : Sl V0 (h + 1) (j + 1) (dAt H) := ⟨fun i hi => Y0.hi.cell i (by omega), Y0.hi.lt, fun i hi => hZ.z i hi, Y0.hi.blk⟩
                  have hHs : lv (dAt H) (j + 1) = H := by
                    have := lv_high (dAt H) (j + 1) hhi.high k (by omega)
                    rw [← this, d_num]
                    exact Nat.mod_eq_of_lt (by rw [HH.out]; exact Nat.lt_of_le_of_lt (Nat.div_le_self _ _) HV65.out)
                  have hLs : lv (dAt L) 16 = L := by rw [d_num]; exact Nat.mod_eq_of_lt (by rw [HL.out]; exact Nat.lt_of_lt_of_le (Nat.mod_lt _ (by decide)) (by decide))
                  have HHs := Lib.hid hHs; have HLs := Lib.hid hLs
                  clear h0 hHs hLs
                  have i1 : (0 : Int) ≤ (j : Int) + 1 := by omega
                  have i2 : (j : Int) + 1 ≤ (k : Int) := by omega
                  have i3 : ((j : Int) + 1).toNat = j + 1 := by omega
                  go_wp2
                  have lo0 := Y0.lo.drew
                  have hi0 := hhi.drew
                  have B0 := below_drew Y0.k
                  clear Y0 hhi c0
                  refine wp_region_noPanic ?_
                  refine wp_region_Z (S := fun _ => True) 7 (by kernel_rfl) ?_
                  refine wpAnyZ_takeL 0 (v := ?_) rfl (by kernel_rfl) (by kernel_rfl) (by kernel_rfl) (by kernel_rfl) (by kernel_rfl) (fun _ _ _ h => h) (Or.inl ⟨by rfl, ?_⟩) trivial ?_
                  rotate_left
                  · intro w' _
                    go_simp
                    try (with_reducible rfl)
                  simp only [Act.put, List.setIfInBounds_toArray, List.set_cons_zero, List.set_cons_succ]
                  refine wpAnyZ_takeL 1 (v := ?_) rfl (by kernel_rfl) (by kernel_rfl) (by kernel_rfl) (by kernel_rfl) (by kernel_rfl) (fun _ _ _ h => h) (Or.inl ⟨by rfl, ?_⟩) trivial ?_
                  rotate_left
                  · intro w' _
                    go_simp
                    try (with_reducible rfl)
                  simp only [Act.put, List.setIfInBounds_toArray, List.set_cons_zero, List.set_cons_succ]
                  refine wpAnyZ_takeL 2 (v := ?_) rfl (by kernel_rfl) (by kernel_rfl) (by kernel_rfl) (by kernel_rfl) (by kernel_rfl) (fun _ _ _ h => h) (Or.inl ⟨by rfl, ?_⟩) trivial ?_
                  rotate_left
                  · intro w' _
                    go_simp
                    try (with_reducible rfl)
                  simp only [Act.put, List.setIfInBounds_toArray, List.set_cons_zero, List.set_cons_succ]
                  refine wpAnyZ_takeL 3 (v := ?_) rfl (by kernel_rfl) (by kernel_rfl) (by kernel_rfl) (by kernel_rfl) (by kernel_rfl) (fun _ _ _ h => h) (Or.inl ⟨by rfl, ?_⟩) trivial ?_
                  rotate_left
                  · intro w' _
                    go_simp
                    try (with_reducible rfl)
                  simp only [Act.put, List.setIfInBounds_toArray, List.set_cons_zero, List.set_cons_succ]
                  refine wpAnyZ_one (i := 4) (by kernel_rfl) ?_
                  unfold wpOp
                  go_simp
                  left
                  refine (num_any 19 _ (by decide)).mono ?_
                  rintro e w1 ⟨gn, cn, rfl, SN, _, b1⟩
                  have lo1 := lo0.below b1
                  have hi1 := hi0.below b1
                  have B1 := B0.trans (b1.mono B0.size)
                  clear b1 lo0 hi0 B0
                  unfold SlV
                  refine wpAnyZ_one (i := 5) (by kernel_rfl) ?_
                  unfold wpOp
                  go_simp
                  left
                  refine (times_any (h + 1) (j + 1) k gn 2 cn (dAt H) (numF 19) _ hi1 SN (by omega) (by decide)).mono ?_
                  rintro e w2 ⟨ft, hft, gt, ct, rfl, ST, _, b2⟩
                  have lo2 := lo1.below b2
                  have B2 := B1.trans (b2.mono B1.size)
                  clear b2 lo1 hi1 SN B1
                  rw [HHs.out, numF_num 19 (by decide)] at hft
                  have HFT := Lib.hid hft
                  clear hft
                  unfold SlV
                  refine wpAnyZ_one (i := 6) (by kernel_rfl) ?_
                  unfold wpOp
                  go_simp
                  left
                  refine (sum_any h 16 16 gt (j + 1 + 2) ct (dAt L) ft _ lo2 ST (by decide) (by omega)).mono ?_
                  rintro e w3 ⟨gs, cs, rfl, SS, _, b3⟩
                  have B3 := B2.trans (b3.mono B2.size)
                  have hsv := sum_val (dAt L) ft 16 (j + 1 + 2) (dAt_lt L) ST.lt lo2.high ST.high
                  rw [HLs.out, HFT.out] at hsv
                  have hlen : maxN 16 (j + 1 + 2) + 1 ≤ 1000 := by unfold maxN; split <;> omega
                  have HSV := Lib.hid hsv
                  clear b3 lo2 ST B2 hsv
                  unfold SlV
                  refine wpAnyZ_one (fuel := 0) (i := 7) (by kernel_rfl) ?_
                  unfold wpOp
                  go_simp
                  left
                  refine wpAnyZ_done (by kernel_rfl) (NoPanic.normal ?_) _
                  go_wp2
                  have hmd := fold_num gk
                  rw [← HL.out, ← HH.out, Nat.mul_comm 19 H] at hmd
                  have hdec : L + H * 19 < gk := by
                    have h1 := HL.out; have h2 := HH.out
                    omega
                  go_roundg (L + H * 19)
                  case rel => exact ⟨gs, _, cs, _, rfl, SS, HSV.out, hmd.trans hkV.out, hlen, B3⟩
                  case measure => exact hdec
      · have hd : decide (pp - 1 < gk) = false := by simpa using hgt
        rw [hd]
        have hfin : lv f n = V % pp := by
          rw [hvV.out, ← hkV.out]
          exact (Nat.mod_eq_of_lt (by have := pp_pos; omega)).symm
        have HF := Lib.hid hfin
        clear hd hgt SM hfin
        go_wp2
        go_ret
        exact ⟨g, n, c, f, rfl, hA, HF.out, hnle, hB⟩

end Go.Proofs.YtjaomgildhiddaaDoor
