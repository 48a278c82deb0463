/- The law FieldOften, proved: a small number times another one is as many of it; a power of a sum of powers is the product. No condition. -/
import Derived.Test.YtknmmjnkafmoaaaFm
import Derived.Test.YtknmmjnkafmoaaaLe
import Derived.Deep.RegionHeld3
namespace Go.Proofs.Ytknmmjnkafmoaaa
open Go.RowKit

/-- The key of a number of one byte, of two. -/
def keyF (a b i : Nat) : Nat := if i = 0 then a else if i = 1 then b else 0
theorem keyF_bytes (a b : Nat) (ha : a < 256) (hb : b < 256) : Bytes32 ((List.range 32).map fun i => ((keyF a b i : Nat) : Int)) (keyF a b) :=
  ⟨by simp, fun i h => by simp [h], fun i => by unfold keyF; split <;> (try split) <;> omega⟩
theorem keyF_num (a b : Nat) : leTo (keyF a b) 32 = a + b * 256 := by simp [leTo, keyF]
theorem keyF_lit (a b : Nat) : Key ((List.range 32).map fun i => ((keyF a b i : Nat) : Int)) = .agg #[.int .u8 a, .int .u8 b, .int .u8 0, .int .u8 0, .int .u8 0, .int .u8 0, .int .u8 0, .int .u8 0, .int .u8 0, .int .u8 0, .int .u8 0, .int .u8 0, .int .u8 0, .int .u8 0, .int .u8 0, .int .u8 0, .int .u8 0, .int .u8 0, .int .u8 0, .int .u8 0, .int .u8 0, .int .u8 0, .int .u8 0, .int .u8 0, .int .u8 0, .int .u8 0, .int .u8 0, .int .u8 0, .int .u8 0, .int .u8 0, .int .u8 0, .int .u8 0] := by
  simp [Key, Iv, keyF, List.range, List.range.loop]
theorem mpow_add (a n m : Nat) : mpow a n * mpow a m % pp = mpow a (n + m) := by
  unfold mpow
  rw [← Nat.mul_mod, ← Nat.pow_add]

/-- The memory of the law behind k sums. -/
structure OftW (X : Nat) (g s : Nat) (w wr : World) (S : Nat) : Prop where
  x : Blk wr g 29 (El_cells X)
  t : Blk wr s 29 (El_cells S)
  b : Below w.heap.size w wr
  d : g < s
  e : w.heap.size ≤ g
theorem OftW.below {X g s : Nat} {w wr w1 : World} {S : Nat} (h : OftW X g s w wr S) (hb : Below wr.heap.size wr w1) : OftW X g s w w1 S :=
  ⟨h.x.below hb h.x.lt, h.t.below hb h.t.lt, h.b.trans (hb.mono h.b.size), h.d, h.e⟩
theorem OftW.row {X g s : Nat} {w wr : World} {S : Nat} (h : OftW X g s w wr S) (T : Nat) : OftW X g s w (wr.setRow s (El_cells T)) T := by
  have := h.d; have := h.e
  exact ⟨h.x.rowFar (by omega) _, h.t.row _, below_setRow h.b (by omega) _, h.d, h.e⟩

theorem OftW.drew {X g s : Nat} {w wr : World} {S : Nat} (h : OftW X g s w wr S) : OftW X g s w wr.drew S := ⟨h.x, h.t, below_drew h.b, h.d, h.e⟩
theorem OftW.five {X g s : Nat} {w wr : World} {S : Nat} (h : OftW X g s w wr S) {x0 x1 x2 x3 x4 s0 s1 s2 s3 s4 : Int} (ex : El_cells X = #[.int .u64 x0, .int .u64 x1, .int .u64 x2, .int .u64 x3, .int .u64 x4])
    (es : El_cells S = #[.int .u64 s0, .int .u64 s1, .int .u64 s2, .int .u64 s3, .int .u64 s4]) : Five wr g x0 x1 x2 x3 x4 ∧ Five wr s s0 s1 s2 s3 s4 :=
  ⟨(ex ▸ h.x).five, (es ▸ h.t).five⟩

set_option maxHeartbeats 4000000 in
set_option maxRecDepth 100000 in
theorem often_any (l : List Int) (f : Nat → Nat) (hl : Bytes32 l f) (n m : Nat) (hn : n < 256) (hm : m < 256) (w : World) :
    Calls Try.prog 11 #[Key l, .int .u8 n, .int .u8 m] w fun e w' => e = .returned (.bool true) ∧ Below w.heap.size w w' := by
  obtain ⟨X, hX⟩ : ∃ X, X = leTo f 32 % 57896044618658097711785492504343953926634992332820282019728792003956564819968 % pp := ⟨_, rfl⟩
  have hXlt : X < pp := hX ▸ Nat.mod_lt _ pp_pos
  have cOf := fun W => of_any l f hl W
  rw [← hX] at cOf
  clear hX
  have COf := Lib.hid cOf
  clear cOf
  unfold Key
  go_enter Try.func11, Try.ntmps11
  go_wp2_with fail
  refine (awake_any _).mono ?_
  rintro e w1 ⟨rfl, b1⟩
  have HK : Blk w1 w.heap.size 23 (Iv .u8 l) := Blk.below (Blk.new w _ _) b1 (by simp)
  have HB1 : Below w.heap.size w w1 := ((Below.refl w.heap.size w).alloc (Nat.le_refl _) _).trans (b1.mono (by simp))
  clear b1
  go_wp2_with (refine wpList_load_row rfl 23 _ rfl w.heap.size rfl 23 _ (0, 0) _ HK Try.underlying23 rfl (info_key _ hl.len) ?_)
  refine (COf.out _).mono ?_
  rintro e w2 ⟨rfl, b2⟩
  have HB2 := HB1.trans (b2.mono HB1.size)
  clear b2 HK HB1
  unfold El
  go_wp2_with (refine wpList_store_row rfl 29 _ _ rfl w2.heap.size (El_cells X) rfl rfl 29 _ (Blk.new w2 _ _) (info_El _) rfl (El_one _) ?_)
  generalize hW : World.alloc (World.setRow (World.alloc w2 _) w2.heap.size (El_cells X)) _ = W
  have F0 : OftW X w2.heap.size (w2.heap.size + 1) w W (0 * X % pp) := by
    subst hW
    refine ⟨((Blk.new w2 _ _).row _).alloc _, ?_, (below_setRow (HB2.alloc HB2.size _) HB2.size _).alloc (by simp; have := HB2.size; omega) _, by omega, HB2.size⟩
    rw [Nat.zero_mul, Nat.zero_mod]
    exact Blk.new' (by simp) _ _
  clear hW HB2
  generalize w2.heap.size + 1 = s at *
  generalize w2.heap.size = g at *
  go_loopw [16] (fun i wr => ∃ k : Nat, k ≤ n % 40 ∧ i = .int .u8 k ∧ OftW X g s w wr (k * X % pp)) (fun i _ => 40 - (intOf i).toNat)
  case atStart => exact ⟨0, by omega, rfl, F0⟩
  case round =>
    obtain ⟨k, hk, rfl, F⟩ := hrel
    clear F0
    by_cases hlt : k < n % 40
    · have hS : k * X % pp < pp := Nat.mod_lt _ pp_pos
      have hT : (k * X % pp + X) % pp = (k + 1) * X % pp := by rw [Nat.mod_add_mod, Nat.succ_mul]
      obtain ⟨S, hSe⟩ : ∃ S, S = k * X % pp := ⟨_, rfl⟩
      obtain ⟨T, hTe⟩ : ∃ T, T = (k + 1) * X % pp := ⟨_, rfl⟩
      rw [← hSe] at F hS hT
      rw [← hTe] at hT
      have cA := fun W => add_any S X W hS hXlt
      rw [hT] at cA
      have HT := Lib.hid hTe
      have CA := Lib.hid cA
      clear hSe hTe cA hT
      have HX := F.x
      have HS := F.t
      go_wp2_with (first | (refine wpList_load_row rfl 29 _ rfl s rfl 29 _ (0, 0) _ HS Try.underlying29 rfl (info_El _) ?_) | (refine wpList_load_row rfl 29 _ rfl g rfl 29 _ (0, 0) _ HX Try.underlying29 rfl (info_El _) ?_))
      refine (CA.out _).mono ?_
      rintro e w3 ⟨rfl, b3⟩
      have F3 := F.below b3
      clear b3 F HX HS
      have HS3 := F3.t
      unfold El
      go_wp2_with (refine wpList_store_row rfl 29 _ _ rfl s (El_cells T) rfl rfl 29 _ HS3 (info_El _) rfl (El_one _) ?_)
      exact ⟨⟨k + 1, by omega, by go_num, HT.out ▸ F3.row T⟩, by simp [intOf]; omega⟩
    · obtain rfl : k = n % 40 := by omega
      go_wp2
      obtain ⟨S, hSe⟩ : ∃ S, S = n % 40 * X % pp := ⟨_, rfl⟩
      have hSlt : S < pp := hSe ▸ Nat.mod_lt _ pp_pos
      have cS := fun W => small_any (n % 40) W (by omega)
      have cM := fun W => mul_any (n % 40) X W (by rw [pp_eq]; omega) hXlt
      have cQ := fun W => same_any S S W
      have cP := fun W => power_any X _ (keyF n 0) (keyF_bytes n 0 hn (by decide)) W hXlt
      have cR := fun W => power_any X _ (keyF m 0) (keyF_bytes m 0 hm (by decide)) W hXlt
      have cT := fun W => mul_any (mpow X n) (mpow X m) W (mpow_lt _ _) (mpow_lt _ _)
      have cU := fun W => power_any X _ (keyF ((n + m) % 256) ((n + m) / 256)) (keyF_bytes _ _ (by omega) (by omega)) W hXlt
      have cV := fun W => same_any (mpow X (n + m)) (mpow X (n + m)) W
      rw [← hSe] at F cM
      rw [keyF_num, Nat.zero_mul, Nat.add_zero, keyF_lit] at cP cR
      rw [keyF_num, show (n + m) % 256 + (n + m) / 256 * 256 = n + m by omega, keyF_lit] at cU
      rw [mpow_add] at cT
      simp only [decide_true] at cQ cV
      obtain ⟨x0, x1, x2, x3, x4, ex⟩ : ∃ x0 x1 x2 x3 x4 : Int, El_cells X = #[.int .u64 x0, .int .u64 x1, .int .u64 x2, .int .u64 x3, .int .u64 x4] := ⟨_, _, _, _, _, rfl⟩
      obtain ⟨s0, s1, s2, s3, s4, es⟩ : ∃ x0 x1 x2 x3 x4 : Int, El_cells S = #[.int .u64 x0, .int .u64 x1, .int .u64 x2, .int .u64 x3, .int .u64 x4] := ⟨_, _, _, _, _, rfl⟩
      unfold El at cS cM cQ cP cR cT cU cV
      rw [ex, es] at cM
      rw [es] at cQ
      rw [ex] at cP cR cU
      generalize El_cells (n % 40) = dn at cS cM
      generalize El_cells (mpow X n) = en at cP cT
      generalize El_cells (mpow X m) = em at cR cT
      generalize El_cells (mpow X (n + m)) = enm at cT cU cV
      have e1 : ((n % 40 : Nat) : Int) = (n : Int) % 40 := by omega
      have i1 : ((n : Int)).tmod 40 = (n : Int) % 40 := Int.tmod_eq_emod_of_nonneg (by omega)
      have i2 : IntKind.u8.wrap ((n : Int) % 40) = (n : Int) % 40 := by rw [IntKind.wrap_u8]; omega
      have i3 : IntKind.u32.wrap ((n : Int) % 40) = (n : Int) % 40 := by rw [IntKind.wrap_u32]; omega
      have i4 : IntKind.u8.wrap ((n : Int) + (m : Int)) = (((n + m) % 256 : Nat) : Int) := by rw [IntKind.wrap_u8]; omega
      have i5 : IntKind.u8.wrap (((n : Int) + (m : Int)) / 256) = (((n + m) / 256 : Nat) : Int) := by rw [IntKind.wrap_u8]; omega
      rw [e1] at cS
      obtain ⟨lo, hlo⟩ : ∃ lo, lo = (n + m) % 256 := ⟨_, rfl⟩
      obtain ⟨hi, hhi⟩ : ∃ hi, hi = (n + m) / 256 := ⟨_, rfl⟩
      rw [← hlo] at cU i4
      rw [← hhi] at cU i5
      obtain ⟨kn, hkn⟩ : ∃ kn, kn = #[Value.int .u8 ((n : Nat) : Int), .int .u8 ((0 : Nat) : Int), .int .u8 0, .int .u8 0, .int .u8 0, .int .u8 0, .int .u8 0, .int .u8 0, .int .u8 0, .int .u8 0, .int .u8 0, .int .u8 0, .int .u8 0, .int .u8 0, .int .u8 0, .int .u8 0, .int .u8 0, .int .u8 0, .int .u8 0, .int .u8 0, .int .u8 0, .int .u8 0, .int .u8 0, .int .u8 0, .int .u8 0, .int .u8 0, .int .u8 0, .int .u8 0, .int .u8 0, .int .u8 0, .int .u8 0, .int .u8 0] := ⟨_, rfl⟩
      rw [← hkn] at cP
      have hkn' : #[Value.int .u8 ((n : Nat) : Int), .int .u8 0, .int .u8 0, .int .u8 0, .int .u8 0, .int .u8 0, .int .u8 0, .int .u8 0, .int .u8 0, .int .u8 0, .int .u8 0, .int .u8 0, .int .u8 0, .int .u8 0, .int .u8 0, .int .u8 0, .int .u8 0, .int .u8 0, .int .u8 0, .int .u8 0, .int .u8 0, .int .u8 0, .int .u8 0, .int .u8 0, .int .u8 0, .int .u8 0, .int .u8 0, .int .u8 0, .int .u8 0, .int .u8 0, .int .u8 0, .int .u8 0] = kn := hkn.symm
      have KN := Lib.hid hkn'
      clear hkn hkn'
      obtain ⟨km, hkm⟩ : ∃ km, km = #[Value.int .u8 ((m : Nat) : Int), .int .u8 ((0 : Nat) : Int), .int .u8 0, .int .u8 0, .int .u8 0, .int .u8 0, .int .u8 0, .int .u8 0, .int .u8 0, .int .u8 0, .int .u8 0, .int .u8 0, .int .u8 0, .int .u8 0, .int .u8 0, .int .u8 0, .int .u8 0, .int .u8 0, .int .u8 0, .int .u8 0, .int .u8 0, .int .u8 0, .int .u8 0, .int .u8 0, .int .u8 0, .int .u8 0, .int .u8 0, .int .u8 0, .int .u8 0, .int .u8 0, .int .u8 0, .int .u8 0] := ⟨_, rfl⟩
      rw [← hkm] at cR
      have hkm' : #[Value.int .u8 ((m : Nat) : Int), .int .u8 0, .int .u8 0, .int .u8 0, .int .u8 0, .int .u8 0, .int .u8 0, .int .u8 0, .int .u8 0, .int .u8 0, .int .u8 0, .int .u8 0, .int .u8 0, .int .u8 0, .int .u8 0, .int .u8 0, .int .u8 0, .int .u8 0, .int .u8 0, .int .u8 0, .int .u8 0, .int .u8 0, .int .u8 0, .int .u8 0, .int .u8 0, .int .u8 0, .int .u8 0, .int .u8 0, .int .u8 0, .int .u8 0, .int .u8 0, .int .u8 0] = km := hkm.symm
      have KM := Lib.hid hkm'
      clear hkm hkm'
      obtain ⟨ku, hku⟩ : ∃ ku, ku = #[Value.int .u8 ((lo : Nat) : Int), .int .u8 ((hi : Nat) : Int), .int .u8 0, .int .u8 0, .int .u8 0, .int .u8 0, .int .u8 0, .int .u8 0, .int .u8 0, .int .u8 0, .int .u8 0, .int .u8 0, .int .u8 0, .int .u8 0, .int .u8 0, .int .u8 0, .int .u8 0, .int .u8 0, .int .u8 0, .int .u8 0, .int .u8 0, .int .u8 0, .int .u8 0, .int .u8 0, .int .u8 0, .int .u8 0, .int .u8 0, .int .u8 0, .int .u8 0, .int .u8 0, .int .u8 0, .int .u8 0] := ⟨_, rfl⟩
      rw [← hku] at cU
      have hku' : #[Value.int .u8 ((lo : Nat) : Int), .int .u8 ((hi : Nat) : Int), .int .u8 0, .int .u8 0, .int .u8 0, .int .u8 0, .int .u8 0, .int .u8 0, .int .u8 0, .int .u8 0, .int .u8 0, .int .u8 0, .int .u8 0, .int .u8 0, .int .u8 0, .int .u8 0, .int .u8 0, .int .u8 0, .int .u8 0, .int .u8 0, .int .u8 0, .int .u8 0, .int .u8 0, .int .u8 0, .int .u8 0, .int .u8 0, .int .u8 0, .int .u8 0, .int .u8 0, .int .u8 0, .int .u8 0, .int .u8 0] = ku := hku.symm
      have KU := Lib.hid hku'
      clear hku hku'
      have CS := Lib.hid cS; have CM := Lib.hid cM; have CQ := Lib.hid cQ; have CP := Lib.hid cP; have CR := Lib.hid cR; have CT := Lib.hid cT; have CU := Lib.hid cU; have CV := Lib.hid cV
      clear cS cM cQ cP cR cT cU cV e1 hlo hhi hSe
      have F0 := F.drew
      have hS0 := F0.five ex es
      clear F
      refine wp_region_Z (S := fun w' => Five w' g x0 x1 x2 x3 x4 ∧ Five w' s s0 s1 s2 s3 s4) 28 (by kernel_rfl) ?_
      refine wpAnyZ_takeL 0 (v := ?_) rfl (by kernel_rfl) (by kernel_rfl) (by kernel_rfl) (by kernel_rfl) (by kernel_rfl) (fun _ _ _ h => h) (Or.inl ⟨by rfl, ?_⟩) hS0 ?_
      rotate_left
      · intro w' hw'
        obtain ⟨⟨s1, s2, s3, s4, s5⟩, s6, s7, s8, s9, s10⟩ := hw'
        go_simp
        try (with_reducible rfl)
      simp only [Act.put, List.setIfInBounds_toArray, List.set_cons_zero, List.set_cons_succ]
      refine wpAnyZ_takeL 1 (v := ?_) rfl (by kernel_rfl) (by kernel_rfl) (by kernel_rfl) (by kernel_rfl) (by kernel_rfl) (fun _ _ _ h => h) (Or.inl ⟨by rfl, ?_⟩) hS0 ?_
      rotate_left
      · intro w' hw'
        obtain ⟨⟨s1, s2, s3, s4, s5⟩, s6, s7, s8, s9, s10⟩ := hw'
        go_simp
        try (with_reducible rfl)
      simp only [Act.put, List.setIfInBounds_toArray, List.set_cons_zero, List.set_cons_succ]
      refine wpAnyZ_takeL 2 (v := ?_) rfl (by kernel_rfl) (by kernel_rfl) (by kernel_rfl) (by kernel_rfl) (by kernel_rfl) (fun _ _ _ h => h) (Or.inl ⟨by rfl, ?_⟩) hS0 ?_
      rotate_left
      · intro w' hw'
        obtain ⟨⟨s1, s2, s3, s4, s5⟩, s6, s7, s8, s9, s10⟩ := hw'
        go_simp
        try (with_reducible rfl)
      simp only [Act.put, List.setIfInBounds_toArray, List.set_cons_zero, List.set_cons_succ]
      refine wpAnyZ_takeL 3 (v := ?_) rfl (by kernel_rfl) (by kernel_rfl) (by kernel_rfl) (by kernel_rfl) (by kernel_rfl) (fun _ _ _ h => h) (Or.inl ⟨by rfl, ?_⟩) hS0 ?_
      rotate_left
      · intro w' hw'
        obtain ⟨⟨s1, s2, s3, s4, s5⟩, s6, s7, s8, s9, s10⟩ := hw'
        go_simp
        try (with_reducible rfl)
      simp only [Act.put, List.setIfInBounds_toArray, List.set_cons_zero, List.set_cons_succ]
      refine wpAnyZ_takeL 5 (v := ?_) rfl (by kernel_rfl) (by kernel_rfl) (by kernel_rfl) (by kernel_rfl) (by kernel_rfl) (fun _ _ _ h => h) (Or.inl ⟨by rfl, ?_⟩) hS0 ?_
      rotate_left
      · intro w' hw'
        obtain ⟨⟨s1, s2, s3, s4, s5⟩, s6, s7, s8, s9, s10⟩ := hw'
        go_simp
        try (with_reducible rfl)
      simp only [Act.put, List.setIfInBounds_toArray, List.set_cons_zero, List.set_cons_succ]
      refine wpAnyZ_one (i := 4) (by kernel_rfl) ?_
      unfold wpOp
      go_simp
      left
      refine (CS.out _).mono ?_
      rintro e v1 ⟨rfl, b1⟩
      have F1 := F0.below b1
      clear b1
      have hS1 := F1.five ex es
      refine ⟨hS1, ?_⟩
      refine wpAnyZ_one (i := 6) (by kernel_rfl) ?_
      unfold wpOp
      go_simp
      left
      refine (CM.out _).mono ?_
      rintro e v2 ⟨rfl, b2⟩
      have F2 := F1.below b2
      clear b2
      have hS2 := F2.five ex es
      refine ⟨hS2, ?_⟩
      refine wpAnyZ_one (i := 7) (by kernel_rfl) ?_
      unfold wpOp
      go_simp
      left
      refine (CQ.out _).mono ?_
      rintro e v3 ⟨rfl, b3⟩
      have F3 := F2.below b3
      clear b3
      have hS3 := F3.five ex es
      refine ⟨hS3, ?_⟩
      refine wpAnyZ_takeL 8 (v := ?_) rfl (by kernel_rfl) (by kernel_rfl) (by kernel_rfl) (by kernel_rfl) (by kernel_rfl) (fun _ _ _ h => h) (Or.inl ⟨by rfl, ?_⟩) hS3 ?_
      rotate_left
      · intro w' hw'
        obtain ⟨⟨s1, s2, s3, s4, s5⟩, s6, s7, s8, s9, s10⟩ := hw'
        go_simp
        try (with_reducible rfl)
      simp only [Act.put, List.setIfInBounds_toArray, List.set_cons_zero, List.set_cons_succ]
      refine wpAnyZ_takeL 9 (v := ?_) rfl (by kernel_rfl) (by kernel_rfl) (by kernel_rfl) (by kernel_rfl) (by kernel_rfl) (fun _ _ _ h => h) (Or.inl ⟨by rfl, ?_⟩) hS3 ?_
      rotate_left
      · intro w' hw'
        obtain ⟨⟨s1, s2, s3, s4, s5⟩, s6, s7, s8, s9, s10⟩ := hw'
        go_simp
        try (with_reducible rfl)
      simp only [Act.put, List.setIfInBounds_toArray, List.set_cons_zero, List.set_cons_succ]
      refine wpAnyZ_takeL 10 (v := ?_) rfl (by kernel_rfl) (by kernel_rfl) (by kernel_rfl) (by kernel_rfl) (by kernel_rfl) (fun _ _ _ h => h) (Or.inl ⟨by rfl, ?_⟩) hS3 ?_
      rotate_left
      · intro w' hw'
        obtain ⟨⟨s1, s2, s3, s4, s5⟩, s6, s7, s8, s9, s10⟩ := hw'
        go_simp
        try (with_reducible rfl)
      simp only [Act.put, List.setIfInBounds_toArray, List.set_cons_zero, List.set_cons_succ]
      refine wpAnyZ_takeL 11 (v := ?_) rfl (by kernel_rfl) (by kernel_rfl) (by kernel_rfl) (by kernel_rfl) (by kernel_rfl) (fun _ _ _ h => h) (Or.inl ⟨by rfl, ?_⟩) hS3 ?_
      rotate_left
      · intro w' hw'
        obtain ⟨⟨s1, s2, s3, s4, s5⟩, s6, s7, s8, s9, s10⟩ := hw'
        go_simp
        rw [KN.out]
        try (with_reducible rfl)
      simp only [Act.put, List.setIfInBounds_toArray, List.set_cons_zero, List.set_cons_succ]
      refine wpAnyZ_takeL 13 (v := ?_) rfl (by kernel_rfl) (by kernel_rfl) (by kernel_rfl) (by kernel_rfl) (by kernel_rfl) (fun _ _ _ h => h) (Or.inl ⟨by rfl, ?_⟩) hS3 ?_
      rotate_left
      · intro w' hw'
        obtain ⟨⟨s1, s2, s3, s4, s5⟩, s6, s7, s8, s9, s10⟩ := hw'
        go_simp
        try (with_reducible rfl)
      simp only [Act.put, List.setIfInBounds_toArray, List.set_cons_zero, List.set_cons_succ]
      refine wpAnyZ_takeL 14 (v := ?_) rfl (by kernel_rfl) (by kernel_rfl) (by kernel_rfl) (by kernel_rfl) (by kernel_rfl) (fun _ _ _ h => h) (Or.inl ⟨by rfl, ?_⟩) hS3 ?_
      rotate_left
      · intro w' hw'
        obtain ⟨⟨s1, s2, s3, s4, s5⟩, s6, s7, s8, s9, s10⟩ := hw'
        go_simp
        try (with_reducible rfl)
      simp only [Act.put, List.setIfInBounds_toArray, List.set_cons_zero, List.set_cons_succ]
      refine wpAnyZ_takeL 15 (v := ?_) rfl (by kernel_rfl) (by kernel_rfl) (by kernel_rfl) (by kernel_rfl) (by kernel_rfl) (fun _ _ _ h => h) (Or.inl ⟨by rfl, ?_⟩) hS3 ?_
      rotate_left
      · intro w' hw'
        obtain ⟨⟨s1, s2, s3, s4, s5⟩, s6, s7, s8, s9, s10⟩ := hw'
        go_simp
        rw [KM.out]
        try (with_reducible rfl)
      simp only [Act.put, List.setIfInBounds_toArray, List.set_cons_zero, List.set_cons_succ]
      refine wpAnyZ_takeL 18 (v := ?_) rfl (by kernel_rfl) (by kernel_rfl) (by kernel_rfl) (by kernel_rfl) (by kernel_rfl) (fun _ _ _ h => h) (Or.inl ⟨by rfl, ?_⟩) hS3 ?_
      rotate_left
      · intro w' hw'
        obtain ⟨⟨s1, s2, s3, s4, s5⟩, s6, s7, s8, s9, s10⟩ := hw'
        go_simp
        try (with_reducible rfl)
      simp only [Act.put, List.setIfInBounds_toArray, List.set_cons_zero, List.set_cons_succ]
      refine wpAnyZ_takeL 19 (v := ?_) rfl (by kernel_rfl) (by kernel_rfl) (by kernel_rfl) (by kernel_rfl) (by kernel_rfl) (fun _ _ _ h => h) (Or.inl ⟨by rfl, ?_⟩) hS3 ?_
      rotate_left
      · intro w' hw'
        obtain ⟨⟨s1, s2, s3, s4, s5⟩, s6, s7, s8, s9, s10⟩ := hw'
        go_simp
        try (with_reducible rfl)
      simp only [Act.put, List.setIfInBounds_toArray, List.set_cons_zero, List.set_cons_succ]
      refine wpAnyZ_takeL 20 (v := ?_) rfl (by kernel_rfl) (by kernel_rfl) (by kernel_rfl) (by kernel_rfl) (by kernel_rfl) (fun _ _ _ h => h) (Or.inl ⟨by rfl, ?_⟩) hS3 ?_
      rotate_left
      · intro w' hw'
        obtain ⟨⟨s1, s2, s3, s4, s5⟩, s6, s7, s8, s9, s10⟩ := hw'
        go_simp
        try (with_reducible rfl)
      simp only [Act.put, List.setIfInBounds_toArray, List.set_cons_zero, List.set_cons_succ]
      refine wpAnyZ_takeL 21 (v := ?_) rfl (by kernel_rfl) (by kernel_rfl) (by kernel_rfl) (by kernel_rfl) (by kernel_rfl) (fun _ _ _ h => h) (Or.inl ⟨by rfl, ?_⟩) hS3 ?_
      rotate_left
      · intro w' hw'
        obtain ⟨⟨s1, s2, s3, s4, s5⟩, s6, s7, s8, s9, s10⟩ := hw'
        go_simp
        try (with_reducible rfl)
      simp only [Act.put, List.setIfInBounds_toArray, List.set_cons_zero, List.set_cons_succ]
      refine wpAnyZ_takeL 22 (v := ?_) rfl (by kernel_rfl) (by kernel_rfl) (by kernel_rfl) (by kernel_rfl) (by kernel_rfl) (fun _ _ _ h => h) (Or.inl ⟨by rfl, ?_⟩) hS3 ?_
      rotate_left
      · intro w' hw'
        obtain ⟨⟨s1, s2, s3, s4, s5⟩, s6, s7, s8, s9, s10⟩ := hw'
        go_simp
        try (with_reducible rfl)
      simp only [Act.put, List.setIfInBounds_toArray, List.set_cons_zero, List.set_cons_succ]
      refine wpAnyZ_takeL 23 (v := ?_) rfl (by kernel_rfl) (by kernel_rfl) (by kernel_rfl) (by kernel_rfl) (by kernel_rfl) (fun _ _ _ h => h) (Or.inl ⟨by rfl, ?_⟩) hS3 ?_
      rotate_left
      · intro w' hw'
        obtain ⟨⟨s1, s2, s3, s4, s5⟩, s6, s7, s8, s9, s10⟩ := hw'
        go_simp
        try (with_reducible rfl)
      simp only [Act.put, List.setIfInBounds_toArray, List.set_cons_zero, List.set_cons_succ]
      refine wpAnyZ_takeL 24 (v := ?_) rfl (by kernel_rfl) (by kernel_rfl) (by kernel_rfl) (by kernel_rfl) (by kernel_rfl) (fun _ _ _ h => h) (Or.inl ⟨by rfl, ?_⟩) hS3 ?_
      rotate_left
      · intro w' hw'
        obtain ⟨⟨s1, s2, s3, s4, s5⟩, s6, s7, s8, s9, s10⟩ := hw'
        go_simp
        rw [KU.out]
        try (with_reducible rfl)
      simp only [Act.put, List.setIfInBounds_toArray, List.set_cons_zero, List.set_cons_succ]
      refine wpAnyZ_one (i := 12) (by kernel_rfl) ?_
      unfold wpOp
      go_simp
      left
      refine (CP.out _).mono ?_
      rintro e v4 ⟨rfl, b4⟩
      have F4 := F3.below b4
      clear b4
      have hS4 := F4.five ex es
      refine ⟨hS4, ?_⟩
      refine wpAnyZ_one (i := 16) (by kernel_rfl) ?_
      unfold wpOp
      go_simp
      left
      refine (CR.out _).mono ?_
      rintro e v5 ⟨rfl, b5⟩
      have F5 := F4.below b5
      clear b5
      have hS5 := F5.five ex es
      refine ⟨hS5, ?_⟩
      refine wpAnyZ_one (i := 17) (by kernel_rfl) ?_
      unfold wpOp
      go_simp
      left
      refine (CT.out _).mono ?_
      rintro e v6 ⟨rfl, b6⟩
      have F6 := F5.below b6
      clear b6
      have hS6 := F6.five ex es
      refine ⟨hS6, ?_⟩
      refine wpAnyZ_one (i := 25) (by kernel_rfl) ?_
      unfold wpOp
      go_simp
      left
      refine (CU.out _).mono ?_
      rintro e v7 ⟨rfl, b7⟩
      have F7 := F6.below b7
      clear b7
      have hS7 := F7.five ex es
      refine ⟨hS7, ?_⟩
      refine wpAnyZ_one (i := 26) (by kernel_rfl) ?_
      unfold wpOp
      go_simp
      left
      refine (CV.out _).mono ?_
      rintro e v8 ⟨rfl, b8⟩
      have F8 := F7.below b8
      clear b8
      have hS8 := F8.five ex es
      refine ⟨hS8, ?_⟩
      refine wpAnyZ_takeL 27 (v := ?_) rfl (by kernel_rfl) (by kernel_rfl) (by kernel_rfl) (by kernel_rfl) (by kernel_rfl) (fun _ _ _ h => h) (Or.inl ⟨by rfl, ?_⟩) hS8 ?_
      rotate_left
      · intro w' hw'
        obtain ⟨⟨s1, s2, s3, s4, s5⟩, s6, s7, s8, s9, s10⟩ := hw'
        go_simp
        try (with_reducible rfl)
      simp only [Act.put, List.setIfInBounds_toArray, List.set_cons_zero, List.set_cons_succ]
      refine wpAnyZ_one (i := 28) (by kernel_rfl) ?_
      unfold wpOp
      go_simp
      left
      refine wpAnyZ_done (by kernel_rfl) ?_ _
      go_wp2
      go_ret
      exact ⟨rfl, F8.b⟩
end Go.Proofs.Ytknmmjnkafmoaaa
