/- sha2: what is done with each block: the function that Sum256 hands over. sha2: the bytes behind the last whole block. -/
import Derived.Test.YtdmhngkedgkndaaDoorMHd
import Derived.Laws.AppendOwn
import Derived.Deep.OwnRows
namespace Go.Proofs.YtdmhngkedgkndaaDoor
open Go.RowKit
theorem grown_of_below {w w' : World} {row : Option Nat} (h : Below w.heap.size w w') : w.grownBy w' row := ⟨h.os, h.tape, h.output, h.size, fun k hk _ => h.block k hk⟩
theorem grown_row {w : World} (g : Nat) (cs : Array Value) : w.grownBy (w.setRow g cs) (some g) := ⟨rfl, rfl, rfl, by simp, fun k _ hk => setRow_other w g k cs (fun e => hk (by rw [e]))⟩
theorem grown_trans {a b c : World} {row : Option Nat} (h : a.grownBy b row) (k : b.grownBy c row) : a.grownBy c row :=
  ⟨k.os.trans h.os, k.tape.trans h.tape, k.output.trans h.output, Nat.le_trans h.size k.size, fun i hi hne => (k.block i (Nat.lt_of_lt_of_le hi h.size) hne).trans (h.block i hi hne)⟩
set_option maxHeartbeats 2000000 in
set_option maxRecDepth 100000 in
theorem each_any (cu hh b : Nat → Nat) (gb o c gw : Nat) (w : World) (hb : By w gb o 64 b) (ht : Tab w cu) (hw : Blk w gw 71 (Iv .u32 (W8 hh))) (hl : ∀ i, i < 8 → hh i < 4294967296) :
    Calls Tryd.prog 37 #[.slice (some ⟨gb, o, none⟩) 64 c, .pointer (some ⟨gw, 0, none⟩)] w fun e w' => (∃ v, e = .returned v) ∧ w.grownBy w' (some gw) ∧ Blk w' gw 71 (Iv .u32 (W8 (comp cu hh b))) := by
  have cR : Hid (∀ W, By W gb o 64 b → Tab W cu → Calls Tryd.prog 38 #[.agg (Iv .u32 (W8 hh)), .slice (some ⟨gb, o, none⟩) 64 c] W fun e w' => e = .returned (V8 (comp cu hh b)) ∧ Below W.heap.size W w') := Lib.hid fun W h t => rounds256_any cu hh b gb o c W h t hl
  go_enter Tryd.func37, Tryd.ntmps37
  go_wp2_with (first | (refine wpList_load_row rfl 71 _ rfl gw rfl 71 _ (0, 0) _ hw Tryd.underlying71 rfl (info_W8 _) ?_))
  refine (cR.out _ hb ht).mono ?_
  rintro e w1 ⟨rfl, b1⟩
  have hw1 := hw.below' b1
  have g1 : w.grownBy w1 (some gw) := grown_of_below b1
  clear b1 cR
  unfold V8
  go_wp2_with (first | (refine wpList_store_row rfl 71 _ _ rfl gw (Iv .u32 (W8 (comp cu hh b))) rfl rfl 71 _ hw1 (info_W8 _) (by rw [Iv_size, Iv_size, W8_length, W8_length]) (Iv_one _ _) ?_))
  refine bodyPost_end (results_none rfl _ _ _) rfl ?_
  exact ⟨⟨_, rfl⟩, grown_trans g1 (grown_row gw _), hw1.row _⟩
end Go.Proofs.YtdmhngkedgkndaaDoor
namespace Go.Proofs.YtdmhngkedgkndaaDoor
open Go.RowKit
/-- A length's byte i, counted from the last. -/
def lenAt (long i : Nat) : Nat := long * 8 % 18446744073709551616 / 2 ^ (i * 8) % 256
/-- How many bytes the ending has. -/
def roomOf (long : Nat) : Nat := if 64 - long % 64 < 9 then 128 - long % 64 else 64 - long % 64
/-- The ending's bytes, when k bytes of the length stand. -/
def endK (long k i : Nat) : Nat := if i = 0 then 128 else if roomOf long - 1 - i < k ∧ i < roomOf long then lenAt long (roomOf long - 1 - i) else 0
theorem roomOf_lo (long : Nat) : 9 ≤ roomOf long := by unfold roomOf; split <;> omega
theorem roomOf_hi (long : Nat) : roomOf long ≤ 72 := by unfold roomOf; split <;> omega
theorem roomOf_mod (long : Nat) : (long + roomOf long) % 64 = 0 := by unfold roomOf; split <;> omega
def BL (n : Nat) (f : Nat → Nat) : List Int := (List.range n).map fun i => ((f i : Nat) : Int)
theorem BL_set (n : Nat) (f g : Nat → Nat) (k : Nat) (ho : ∀ i, i ≠ k → g i = f i) : (BL n f).set k ((g k : Nat) : Int) = BL n g := by
  unfold BL
  apply List.ext_getElem (by simp)
  intro i h1 h2
  simp only [List.getElem_set, List.getElem_map, List.getElem_range]
  by_cases hj : k = i
  · rw [if_pos hj, hj]
  · rw [if_neg hj, ho i (fun e => hj e.symm)]
theorem BL_get (n : Nat) (f : Nat → Nat) (i : Nat) (h : i < n) : (Iv .u8 (BL n f))[i]? = some (.int .u8 ((f i : Nat) : Int)) := by
  rw [Iv_get _ _ _ (by simp [BL]; exact h)]
  simp [BL, h]
theorem lenAt_lt (long i : Nat) : lenAt long i < 256 := Nat.mod_lt _ (by decide)
theorem endK_lt (long k i : Nat) : endK long k i < 256 := by
  unfold endK
  split
  · decide
  · split
    · exact lenAt_lt _ _
    · decide
theorem make8 (n : Nat) (hn : n ≤ 4294967296) (w : World) : (Instr.makeSlice 22 (.int .i64 n) (.int .i64 n)).run Tryd.prog w = .ok (.slice (some ⟨w.heap.size, 0, none⟩) n n) (w.alloc (.cells (Iv .u8 (BL n fun _ => 0)) 5)) := by
  have h := run_make_row' (P := Tryd.prog) 22 5 (.int .u8 0) 1 Tryd.underlying22 (by kernel_rfl) rfl .i64 .i64 n (by omega) (by omega) w
  have e : madeCells #[Value.int .u8 0] n = Iv .u8 (BL n fun _ => 0) := by
    apply Array.ext
    · simp [size_madeCells, Iv, BL]
    · intro i h1 h2
      simp [madeCells, Nat.mod_one, Iv, BL]
  rw [h, e]
/-- The memory of the ending when k bytes of its length stand. -/
structure EnW (long : Nat) (w wr : World) (k : Nat) : Prop where
  out : Blk wr w.heap.size 5 (Iv .u8 (BL (roomOf long) (endK long k)))
  far : Below w.heap.size w wr
theorem EnW.drew {long : Nat} {w wr : World} {k : Nat} (h : EnW long w wr k) : EnW long w wr.drew k := ⟨h.out, below_drew h.far⟩
theorem endK_other (long k i : Nat) (h : i ≠ roomOf long - 1 - k) (_hk : k < 8) : endK long (k + 1) i = endK long k i := by
  have := roomOf_lo long
  unfold endK
  by_cases h0 : i = 0
  · rw [if_pos h0, if_pos h0]
  · rw [if_neg h0, if_neg h0]
    by_cases h1 : roomOf long - 1 - i < k ∧ i < roomOf long
    · rw [if_pos h1, if_pos (by omega)]
    · rw [if_neg h1, if_neg (by omega)]
theorem endK_here (long k : Nat) (hk : k < 8) : endK long (k + 1) (roomOf long - 1 - k) = lenAt long k := by
  have := roomOf_lo long
  unfold endK
  rw [if_neg (by omega), if_pos (by omega), show roomOf long - 1 - (roomOf long - 1 - k) = k by omega]
theorem EnW.set {long : Nat} {w wr : World} {k : Nat} (h : EnW long w wr k) (hk : k < 8) : EnW long w (wr.setCell ⟨w.heap.size, roomOf long - 1 - k, none⟩ (.int .u8 ((lenAt long k : Nat) : Int))) (k + 1) := by
  refine ⟨?_, h.far.setCell (by simp) _⟩
  rw [← endK_here long k hk]
  have := h.out.set (roomOf long - 1 - k) (.int .u8 ((endK long (k + 1) (roomOf long - 1 - k) : Nat) : Int))
  rw [Iv_set, BL_set _ _ _ _ fun i hi => endK_other long k i hi hk] at this
  exact this
set_option maxHeartbeats 2000000 in
set_option maxRecDepth 100000 in
theorem ending_any (long : Nat) (w : World) (hl : long < 4611686018427387904) :
    Calls Tryd.prog 45 #[.int .i64 64, .int .i64 long] w fun e w' => e = .returned (.slice (some ⟨w.heap.size, 0, none⟩) (roomOf long) (roomOf long)) ∧ Blk w' w.heap.size 5 (Iv .u8 (BL (roomOf long) (endK long 8))) ∧ Below w.heap.size w w' := by
  obtain ⟨R, hR⟩ : ∃ R, R = roomOf long := ⟨_, rfl⟩
  have r1 := roomOf_lo long
  have r2 := roomOf_hi long
  rw [← hR] at r1 r2
  have hmk := make8 R (by omega)
  go_enter Tryd.func45, Tryd.ntmps45
  by_cases hc : (64 : Int) - (long : Int) % 64 < 9
  · have e : (64 : Int) - (long : Int) % 64 + 64 = (R : Int) := by
      rw [hR]; unfold roomOf; rw [if_pos (by omega)]; omega
    have H := Lib.hid hR
    clear hR
    go_upto_region 5 with fail
    clear hmk
    have B0 := Blk.new w 5 (Iv .u8 (BL R fun x => 0))
    have F0 : Below w.heap.size w (w.alloc (.cells (Iv .u8 (BL R fun x => 0)) 5)) := (Below.refl _ _).alloc (Nat.le_refl _) _
    generalize World.alloc w _ = V at B0 F0 ⊢
    have c0 : V.cell? ⟨w.heap.size, 0, none⟩ = some (.int .u8 ((0 : Nat) : Int)) := by rw [B0.cell, BL_get _ _ _ (by omega)]
    have f0 := B0.frozen 0
    have i0 : (0 : Int) < (R : Int) := by omega
    go_wp2
    have E0 : EnW long w (World.setCell V ⟨w.heap.size, 0, none⟩ (.int .u8 128)) 0 := by
      refine ⟨?_, F0.setCell (by simp) _⟩
      have := B0.set 0 (.int .u8 ((endK long 0 0 : Nat) : Int))
      rw [Iv_set, BL_set _ _ (endK long 0) 0 (fun i hi => by unfold endK; rw [if_neg hi, if_neg (by omega)]), H.out] at this
      exact this
    generalize World.setCell _ _ _ = W at E0 ⊢
    clear f0 c0 B0 F0 i0
    go_loopw [7, 25] (fun _ i wr => ∃ k : Nat, k ≤ 8 ∧ i = .int .i64 k ∧ EnW long w wr k) (fun _ i _ => 8 - (intOf i).toNat)
    case atStart => exact ⟨0, by omega, rfl, E0⟩
    case round =>
      obtain ⟨k, hk, rfl, F⟩ := hrel
      clear E0
      by_cases hlt : k < 8
      · go_upto_region 9 with fail
        have G := F
        clear F
        generalize wr = V at G ⊢
        have f0 := G.out.frozen (R - 1 - k)
        have c0 : V.cell? ⟨w.heap.size, R - 1 - k, none⟩ = some (.int .u8 ((endK long k (R - 1 - k) : Nat) : Int)) := by rw [G.out.cell, BL_get _ _ _ (by rw [← H.out]; omega)]
        have i1 : (0 : Int) ≤ (R : Int) - 1 - (k : Int) := by omega
        have i2 : (R : Int) - 1 - (k : Int) < (R : Int) := by omega
        have i3 : ((R : Int) - 1 - (k : Int)).toNat = R - 1 - k := by omega
        have i4 : IntKind.i64.wrap ((R : Int) - 1) = (R : Int) - 1 := by rw [IntKind.wrap_i64]; omega
        have i5 : IntKind.i64.wrap ((R : Int) - 1 - (k : Int)) = (R : Int) - 1 - (k : Int) := by rw [IntKind.wrap_i64]; omega
        have i6 : IntKind.i64.wrap ((k : Int) * 8) = (k : Int) * 8 := by rw [IntKind.wrap_i64]; omega
        have i7 : (0 : Int) ≤ (k : Int) * 8 := by omega
        have j1 : IntKind.u64.wrap (long : Int) = (long : Int) := by rw [IntKind.wrap_u64]; omega
        have j2 : IntKind.u64.wrap ((long : Int) * 8) = ((long * 8 % 18446744073709551616 : Nat) : Int) := by rw [IntKind.wrap_u64]; omega
        obtain ⟨L, hL⟩ : ∃ L, L = long * 8 % 18446744073709551616 := ⟨_, rfl⟩
        rw [← hL] at j2
        have hb : ((lenAt long k : Nat) : Int) = (L : Int) / 2 ^ (k * 8) % 256 := by
          unfold lenAt
          rw [← hL]
          push_cast
          rfl
        have S := G.set hlt
        rw [hb, ← H.out] at S
        have HS := Lib.hid S
        clear hL hb S G
        go_wp2
        exact ⟨⟨k + 1, by omega, by go_num, HS.out⟩, by simp [intOf]; omega⟩
      · obtain rfl : k = 8 := by omega
        rw [show ((8 : Nat) : Int) = 8 from rfl]
        go_wp2
        go_ret
        rw [← H.out]
        exact ⟨rfl, H.out ▸ F.out, F.far⟩
  · have e : (64 : Int) - (long : Int) % 64 = (R : Int) := by
      rw [hR]; unfold roomOf; rw [if_neg (by omega)]; omega
    have H := Lib.hid hR
    clear hR
    go_upto_region 5 with fail
    clear hmk
    have B0 := Blk.new w 5 (Iv .u8 (BL R fun x => 0))
    have F0 : Below w.heap.size w (w.alloc (.cells (Iv .u8 (BL R fun x => 0)) 5)) := (Below.refl _ _).alloc (Nat.le_refl _) _
    generalize World.alloc w _ = V at B0 F0 ⊢
    have c0 : V.cell? ⟨w.heap.size, 0, none⟩ = some (.int .u8 ((0 : Nat) : Int)) := by rw [B0.cell, BL_get _ _ _ (by omega)]
    have f0 := B0.frozen 0
    have i0 : (0 : Int) < (R : Int) := by omega
    go_wp2
    have E0 : EnW long w (World.setCell V ⟨w.heap.size, 0, none⟩ (.int .u8 128)) 0 := by
      refine ⟨?_, F0.setCell (by simp) _⟩
      have := B0.set 0 (.int .u8 ((endK long 0 0 : Nat) : Int))
      rw [Iv_set, BL_set _ _ (endK long 0) 0 (fun i hi => by unfold endK; rw [if_neg hi, if_neg (by omega)]), H.out] at this
      exact this
    generalize World.setCell _ _ _ = W at E0 ⊢
    clear f0 c0 B0 F0 i0
    go_loopw [7, 25] (fun _ i wr => ∃ k : Nat, k ≤ 8 ∧ i = .int .i64 k ∧ EnW long w wr k) (fun _ i _ => 8 - (intOf i).toNat)
    case atStart => exact ⟨0, by omega, rfl, E0⟩
    case round =>
      obtain ⟨k, hk, rfl, F⟩ := hrel
      clear E0
      by_cases hlt : k < 8
      · go_upto_region 9 with fail
        have G := F
        clear F
        generalize wr = V at G ⊢
        have f0 := G.out.frozen (R - 1 - k)
        have c0 : V.cell? ⟨w.heap.size, R - 1 - k, none⟩ = some (.int .u8 ((endK long k (R - 1 - k) : Nat) : Int)) := by rw [G.out.cell, BL_get _ _ _ (by rw [← H.out]; omega)]
        have i1 : (0 : Int) ≤ (R : Int) - 1 - (k : Int) := by omega
        have i2 : (R : Int) - 1 - (k : Int) < (R : Int) := by omega
        have i3 : ((R : Int) - 1 - (k : Int)).toNat = R - 1 - k := by omega
        have i4 : IntKind.i64.wrap ((R : Int) - 1) = (R : Int) - 1 := by rw [IntKind.wrap_i64]; omega
        have i5 : IntKind.i64.wrap ((R : Int) - 1 - (k : Int)) = (R : Int) - 1 - (k : Int) := by rw [IntKind.wrap_i64]; omega
        have i6 : IntKind.i64.wrap ((k : Int) * 8) = (k : Int) * 8 := by rw [IntKind.wrap_i64]; omega
        have i7 : (0 : Int) ≤ (k : Int) * 8 := by omega
        have j1 : IntKind.u64.wrap (long : Int) = (long : Int) := by rw [IntKind.wrap_u64]; omega
        have j2 : IntKind.u64.wrap ((long : Int) * 8) = ((long * 8 % 18446744073709551616 : Nat) : Int) := by rw [IntKind.wrap_u64]; omega
        obtain ⟨L, hL⟩ : ∃ L, L = long * 8 % 18446744073709551616 := ⟨_, rfl⟩
        rw [← hL] at j2
        have hb : ((lenAt long k : Nat) : Int) = (L : Int) / 2 ^ (k * 8) % 256 := by
          unfold lenAt
          rw [← hL]
          push_cast
          rfl
        have S := G.set hlt
        rw [hb, ← H.out] at S
        have HS := Lib.hid S
        clear hL hb S G
        go_wp2
        exact ⟨⟨k + 1, by omega, by go_num, HS.out⟩, by simp [intOf]; omega⟩
      · obtain rfl : k = 8 := by omega
        rw [show ((8 : Nat) : Int) = 8 from rfl]
        go_wp2
        go_ret
        rw [← H.out]
        exact ⟨rfl, H.out ▸ F.out, F.far⟩
end Go.Proofs.YtdmhngkedgkndaaDoor
