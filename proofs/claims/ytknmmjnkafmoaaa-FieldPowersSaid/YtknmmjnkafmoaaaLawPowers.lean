/- The law FieldPowers: any number to any power; 1 over it. -/
import Derived.Test.YtknmmjnkafmoaaaRm
import Derived.Test.YtknmmjnkafmoaaaLf
import Derived.Test.YtknmmjnkafmoaaaLh
namespace Go.Proofs.Ytknmmjnkafmoaaa
open Go.RowKit

/-- A number that the reference answers, by value. -/
def RetL (w : World) (V : Nat) (e : Ending) (w' : World) : Prop := ∃ g n c f, e = .returned (SlV g n c) ∧ Sl w' g n f ∧ lv f n = V ∧ n ≤ 17 ∧ Below w.heap.size w w'
theorem retL_of {f : FuncId} {args : Array Value} {w : World} {U V : Nat} (h : Calls Try.prog f args w (RetF w U)) (hv : U % pp = V) : Calls Try.prog f args w (RetL w V) :=
  h.mono fun _ _ ⟨g, n, c, f, h1, h2, h3, h4, h5⟩ => ⟨g, n, c, f, h1, h2, h3.trans hv, h4, h5⟩
theorem eqg_api_Key : Try.prog.eqGuardType Try.prog.depth 23 = false := by kernel_rfl
theorem two_less : pp - 2 = 57896044618658097711785492504343953926634992332820282019728792003956564819947 := by rw [pp_eq]
/-- A long number stands when a row of numbers of 64 bits is written: it can't lie in that row, but if it is empty. -/
theorem Sl.rowAway {w : World} {g n k : Nat} {f : Nat → Nat} {t : TypeId} {N : Nat} (h : Sl w g n f) (hx : Blk w k t (El_cells N)) (cs : Array Value) : Sl (w.setRow k cs) g n f := by
  rcases Decidable.em (g = k) with e | e
  · subst e
    refine ⟨fun i hi => ?_, h.lt, h.high, by rw [setRow_size]; exact h.blk⟩
    have h1 := h.cell 0 (by omega)
    rw [hx.cell] at h1
    simp [El_cells] at h1
  · refine ⟨fun i hi => ?_, h.lt, h.high, by rw [setRow_size]; exact h.blk⟩
    rw [← h.cell i hi]
    simp only [World.cell?]
    rw [setRow_other w k g cs e]

/-- The memory of the law: the two keys, and a number. -/
structure PwrS (l m : List Int) (X : Nat) (g h q : Nat) (w : World) : Prop where
  k : Blk w g 23 (Iv .u8 l)
  e : Blk w h 23 (Iv .u8 m)
  x : Blk w q 29 (El_cells X)
theorem PwrS.below {l m : List Int} {X : Nat} {g h k : Nat} {w w1 : World} (H : PwrS l m X g h k w) (hb : Below w.heap.size w w1) : PwrS l m X g h k w1 := ⟨H.k.below hb H.k.lt, H.e.below hb H.e.lt, H.x.below hb H.x.lt⟩

/-- The memory of the law: the two keys. -/
structure PwsS (l m : List Int) (g h : Nat) (w : World) : Prop where
  k : Blk w g 23 (Iv .u8 l)
  e : Blk w h 23 (Iv .u8 m)
theorem PwsS.below {l m : List Int} {g h : Nat} {w w1 : World} (H : PwsS l m g h w) (hb : Below w.heap.size w w1) : PwsS l m g h w1 := ⟨H.k.below hb H.k.lt, H.e.below hb H.e.lt⟩

set_option maxHeartbeats 4000000 in
set_option maxRecDepth 100000 in
theorem powers_any (l m : List Int) (f e : Nat → Nat) (hl : Bytes32 l f) (hm : Bytes32 m e) (w : World) :
    Calls Try.prog 6 #[Key l, Key m] w fun e w' => e = .returned (.bool true) ∧ Below w.heap.size w w' := by
  have cOf := fun W => of_any l f hl W
  have cPl := fun W => place_any l f hl W
  unfold RetF at cPl
  obtain ⟨X, hX⟩ : ∃ X, X = leTo f 32 % 57896044618658097711785492504343953926634992332820282019728792003956564819968 % pp := ⟨_, rfl⟩
  rw [← hX] at cOf
  simp only [← hX] at cPl
  have hXlt : X < pp := hX ▸ Nat.mod_lt _ pp_pos
  obtain ⟨E, hE⟩ : ∃ E, E = leTo e 32 := ⟨_, rfl⟩
  have hE16 : lv (dAt E) 16 = E := by
    rw [d_num]
    exact Nat.mod_eq_of_lt (Nat.lt_of_lt_of_le (hE ▸ leTo_lt _ hm.lt 32) (by decide))
  have cPw := fun W => power_any X m e hm W hXlt
  have cOe := fun W (h : Blk W (w.heap.size + 1) 23 (Iv .u8 m)) => rof_any (w.heap.size + 1) 23 m e hm W h
  rw [← hE] at cPw
  simp only [← hE] at cOe
  clear hE
  have cRp := fun ga na ca fa W (ha : Sl W ga na fa) (hv : lv fa na = X) (hn : na ≤ 17) ge ce (he : Sl W ge 16 (dAt E)) => retL_of (rpow_any ga na ca ge 16 ce fa (dAt E) W ha he hn (by decide)) (V := mpow X E) (by rw [hv, hE16, mpow])
  have cIn := fun W => invert_any X W hXlt
  have cOv := fun ga na ca fa W (ha : Sl W ga na fa) (hv : lv fa na = X) (hn : na ≤ 17) => retL_of (rover_any ga na ca fa W ha hn) (V := mpow X 57896044618658097711785492504343953926634992332820282019728792003956564819947) (by rw [hv, two_less, mpow])
  have hYlt := mpow_lt X E
  have hZlt := mpow_lt X 57896044618658097711785492504343953926634992332820282019728792003956564819947
  generalize mpow X E = Y at *
  generalize mpow X 57896044618658097711785492504343953926634992332820282019728792003956564819947 = Z at *
  have cB1 := fun W => bytes_any Y W hYlt
  have cB2 := fun W => bytes_any Z W hZlt
  have cK1 := fun g n c f W (h : Sl W g n f) (hv : lv f n = Y) => hv ▸ key_any g n c f W h
  have cK2 := fun g n c f W (h : Sl W g n f) (hv : lv f n = Z) => hv ▸ key_any g n c f W h
  have eY := eql_key_self Y
  have eZ := eql_key_self Z
  clear hE16 hYlt hZlt hX
  unfold Key at *
  unfold El at *
  generalize El_cells Y = ey at *
  generalize El_cells Z = ez at *
  generalize Iv .u8 (keyOf Y) = ky at *
  generalize Iv .u8 (keyOf Z) = kz at *
  have COf := Lib.hid cOf; have CPl := Lib.hid cPl; have CPw := Lib.hid cPw; have COe := Lib.hid cOe; have CRp := Lib.hid cRp; have CIn := Lib.hid cIn; have COv := Lib.hid cOv
  have CB1 := Lib.hid cB1; have CB2 := Lib.hid cB2; have CK1 := Lib.hid cK1; have CK2 := Lib.hid cK2; have EY := Lib.hid eY; have EZ := Lib.hid eZ
  clear cOf cPl cPw cOe cRp cIn cOv cB1 cB2 cK1 cK2 eY eZ
  go_enter Try.func6, Try.ntmps6
  go_wp2_with fail
  refine (awake_any _).mono ?_
  rintro e w1 ⟨rfl, b1⟩
  have hS1 : PwsS l m w.heap.size (w.heap.size + 1) w1 := by
    refine PwsS.below ⟨(Blk.new w _ _).alloc _, Blk.new' (by simp) _ _⟩ b1
  have hB1 : Below w.heap.size w w1 := (((Below.refl w.heap.size w).alloc (Nat.le_refl _) _).alloc (by simp) _).trans (b1.mono (by simp; omega))
  clear b1
  go_wp2_with fail
  have hS0 : PwsS l m w.heap.size (w.heap.size + 1) w1.drew := ⟨hS1.k, hS1.e⟩
  have hB0 : Below w.heap.size w w1.drew := below_drew hB1
  clear hS1 hB1
  refine wp_region_Z (S := PwsS l m w.heap.size (w.heap.size + 1)) 6 (by kernel_rfl) ?_
  refine wpAnyZ_takeL 0 (v := .agg (Iv .u8 l)) rfl (by kernel_rfl) (by kernel_rfl) (by kernel_rfl) (by kernel_rfl) (by kernel_rfl) (fun _ _ _ h => h) (yieldsIf_row_wanted rfl 23 _ rfl w.heap.size rfl 23 _ _ (fun w' h => h.1) Try.underlying23 rfl (info_key _ hl.len)) hS0 ?_
  simp only [Act.put, List.setIfInBounds_toArray, List.set_cons_zero, List.set_cons_succ]
  refine wpAnyZ_takeL 2 (v := .agg (Iv .u8 l)) rfl (by kernel_rfl) (by kernel_rfl) (by kernel_rfl) (by kernel_rfl) (by kernel_rfl) (fun _ _ _ h => h) (yieldsIf_row_wanted rfl 23 _ rfl w.heap.size rfl 23 _ _ (fun w' h => h.1) Try.underlying23 rfl (info_key _ hl.len)) hS0 ?_
  simp only [Act.put, List.setIfInBounds_toArray, List.set_cons_zero, List.set_cons_succ]
  refine wpAnyZ_jobs3 (fuel := 2) ⟨1, 10⟩ (fun v _ => v = .agg (El_cells X)) ⟨3, 12⟩ (fun v w' => ∃ g n c f, v = SlV g n c ∧ Sl w' g n f ∧ lv f n = X ∧ n ≤ 17)
    ⟨4, 5⟩ (fun v w' => ∃ g, v = .pointer (some ⟨g, 0, none⟩) ∧ Blk w' g 29 (El_cells 0)) (by kernel_rfl) (fun _ _ _ _ _ h => h) (fun _ _ h hb => h.below hb) hS0
    (fun _ _ _ h _ => h) ?_ (fun _ _ _ h hb => ?_) ?_ (fun _ _ _ h hb => ?_) (job_alloc _ _ _ _ rfl rfl rfl (fun W => ?_)) ?_
  · intro W K _ hK
    unfold wpOp
    go_simp
    left
    refine (COf.out _).mono ?_
    rintro e v1 ⟨rfl, b1⟩
    exact hK _ _ rfl b1 (fun _ h => by cases h)
  · obtain ⟨g, n, c, f, rfl, h1, h2⟩ := h
    exact ⟨g, n, c, f, rfl, h1.below (by assumption), h2⟩
  · intro W K _ hK
    unfold wpOp
    go_simp
    left
    refine (CPl.out _).mono ?_
    rintro e v1 ⟨g, n, c, f, rfl, h1, h2, h3, b1⟩
    exact hK _ _ ⟨g, n, c, f, rfl, h1, h2, h3⟩ b1 (fun _ h => by cases h)
  · obtain ⟨g, rfl, h1⟩ := h
    exact ⟨g, rfl, h1.below' hb⟩
  · go_simp
    rfl
  · intro v1 v2 v3 W hS1 hB1 r1 r2 r3 q1 q2 a3 q4 q5 q6
    clear q1 q2 q4 q5 q6
    subst r1
    obtain ⟨g, n, c, F, rfl, SL, hv, hn⟩ := r2
    obtain ⟨gx, rfl, HX⟩ := r3
    simp only [setAll, Act.put, List.foldr_cons, List.foldr_nil, List.setIfInBounds_toArray, List.set_cons_zero, List.set_cons_succ]
    have hB2 := hB0.trans (hB1.mono hB0.size)
    have hgx := (a3 gx rfl).1
    have hd := hB0.size
    have S1 : Sl (W.setRow gx (El_cells X)) g n F := SL.rowAway HX _
    have HX1 := HX.row (El_cells X)
    have HS1 : PwsS l m w.heap.size (w.heap.size + 1) (W.setRow gx (El_cells X)) := ⟨hS1.k.rowFar (by have := hS0.e.lt; omega) _, hS1.e.rowFar (by have := hS0.e.lt; omega) _⟩
    have hB3 := below_setRow hB2 (g := gx) (by omega) (El_cells X)
    refine wpAnyZ_store_row 5 rfl (by kernel_rfl) rfl _ _ _ rfl gx (El_cells X) rfl rfl _ _ HX (info_El _) rfl (El_one _) HS1 ?_
    clear hS1 hB1 HX SL hB0 hS0 hB2 hgx hd a3
    have HV := Lib.hid hv
    clear hv
    simp only [Act.put, List.set_cons_zero, List.set_cons_succ]
    generalize World.setRow W gx (El_cells X) = w2 at *
    clear W
    unfold SlV
    refine wpAnyZ_one (i := 6) (by kernel_rfl) ?_
    unfold wpOp
    go_simp
    left
    refine wpAnyZ_done (by kernel_rfl) ?_ _
    go_wp2_with fail
    have hS4 : PwrS l m X w.heap.size (w.heap.size + 1) gx w2.drew := ⟨HS1.k, HS1.e, HX1⟩
    have hB4 : Below w.heap.size w w2.drew := below_drew hB3
    have SL4 : Sl w2.drew g n F := S1.drew
    clear HS1 HX1 hB3 S1
    refine wp_region_Z (S := PwrS l m X w.heap.size (w.heap.size + 1) gx) 19 (by kernel_rfl) ?_
    refine wpAnyZ_takeL 0 (v := .agg (El_cells X)) rfl (by kernel_rfl) (by kernel_rfl) (by kernel_rfl) (by kernel_rfl) (by kernel_rfl) (fun _ _ _ h => h) (yieldsIf_row_wanted rfl 29 _ rfl (gx) rfl 29 _ _ (fun w' h => h.x) Try.underlying29 rfl (info_El _)) hS4 ?_
    simp only [Act.put, List.setIfInBounds_toArray, List.set_cons_zero, List.set_cons_succ]
    refine wpAnyZ_takeL 1 (v := .agg (Iv .u8 m)) rfl (by kernel_rfl) (by kernel_rfl) (by kernel_rfl) (by kernel_rfl) (by kernel_rfl) (fun _ _ _ h => h) (yieldsIf_row_wanted rfl 23 _ rfl (w.heap.size + 1) rfl 23 _ _ (fun w' h => h.e) Try.underlying23 rfl (info_key _ hm.len)) hS4 ?_
    simp only [Act.put, List.setIfInBounds_toArray, List.set_cons_zero, List.set_cons_succ]
    refine wpAnyZ_takeL 4 rfl (by kernel_rfl) (by kernel_rfl) (by kernel_rfl) (by kernel_rfl) (by kernel_rfl) (fun _ _ _ h => h) (yieldsIf_move rfl _ rfl _ rfl) hS4 ?_
    simp only [Act.put, List.setIfInBounds_toArray, List.set_cons_zero, List.set_cons_succ]
    refine wpAnyZ_takeL 5 (v := ?_) rfl (by kernel_rfl) (by kernel_rfl) (by kernel_rfl) (by kernel_rfl) (by kernel_rfl) (fun _ _ _ h => h) (Or.inl ⟨by rfl, ?_⟩) hS4 ?_
    rotate_left
    · intro w' hw'
      go_simp
      try (with_reducible rfl)
    simp only [Act.put, List.setIfInBounds_toArray, List.set_cons_zero, List.set_cons_succ]
    refine wpAnyZ_one (i := 2) (by kernel_rfl) ?_
    unfold wpOp
    go_simp
    left
    refine (CPw.out _).mono ?_
    rintro e v5 ⟨rfl, b5⟩
    have hB5 := hB4.trans (b5.mono hB4.size)
    have hS5 := hS4.below b5
    have SL5 := SL4.below b5
    clear SL4
    clear b5 hS4 hB4
    refine ⟨hS5, ?_⟩
    refine wpAnyZ_one (i := 3) (by kernel_rfl) ?_
    unfold wpOp
    go_simp
    left
    refine (CB1.out _).mono ?_
    rintro e v6 ⟨rfl, b6⟩
    have hB6 := hB5.trans (b6.mono hB5.size)
    have hS6 := hS5.below b6
    have SL6 := SL5.below b6
    clear SL5
    clear b6 hS5 hB5
    refine ⟨hS6, ?_⟩
    refine wpAnyZ_one (i := 6) (by kernel_rfl) ?_
    unfold wpOp
    go_simp
    left
    refine (COe.out _ hS6.e).mono ?_
    rintro e v7 ⟨gE, cE, rfl, SE, _, b7⟩
    have hB7 := hB6.trans (b7.mono hB6.size)
    have hS7 := hS6.below b7
    have SL7 := SL6.below b7
    clear SL6
    unfold SlV
    clear b7 hS6 hB6
    refine ⟨hS7, ?_⟩
    refine wpAnyZ_one (i := 7) (by kernel_rfl) ?_
    unfold wpOp
    go_simp
    left
    refine (CRp.out _ _ _ _ _ SL7 HV.out hn _ _ SE).mono ?_
    rintro e v8 ⟨gP, nP, cP, fP, rfl, SP, vp, hnP, b8⟩
    have hB8 := hB7.trans (b8.mono hB7.size)
    have hS8 := hS7.below b8
    have SL8 := SL7.below b8
    clear SL7
    have VP := Lib.hid vp
    clear vp SE
    unfold SlV
    clear b8 hS7 hB7
    refine ⟨hS8, ?_⟩
    refine wpAnyZ_one (i := 8) (by kernel_rfl) ?_
    unfold wpOp
    go_simp
    left
    refine (CK1.out _ _ _ _ _ SP VP.out).mono ?_
    rintro e v9 ⟨rfl, b9⟩
    have hB9 := hB8.trans (b9.mono hB8.size)
    have hS9 := hS8.below b9
    have SL9 := SL8.below b9
    clear SL8
    clear b9 hS8 hB8
    refine ⟨hS9, ?_⟩
    refine wpAnyZ_takeL 9 rfl (by kernel_rfl) (by kernel_rfl) (by kernel_rfl) (by kernel_rfl) (by kernel_rfl) (fun _ _ _ h => h) (yieldsIf_eql rfl 23 _ _ _ rfl _ _ rfl rfl eqg_api_Key true EY.out) hS9 ?_
    simp only [Act.put, List.setIfInBounds_toArray, List.set_cons_zero, List.set_cons_succ]
    refine wpAnyZ_takeL 10 rfl (by kernel_rfl) (by kernel_rfl) (by kernel_rfl) (by kernel_rfl) (by kernel_rfl) (fun _ _ _ h => h) (yieldsIf_move rfl _ rfl _ rfl) hS9 ?_
    simp only [Act.put, List.setIfInBounds_toArray, List.set_cons_zero, List.set_cons_succ]
    refine wpAnyZ_takeL 11 (v := .agg (El_cells X)) rfl (by kernel_rfl) (by kernel_rfl) (by kernel_rfl) (by kernel_rfl) (by kernel_rfl) (fun _ _ _ h => h) (yieldsIf_row_wanted rfl 29 _ rfl (gx) rfl 29 _ _ (fun w' h => h.x) Try.underlying29 rfl (info_El _)) hS9 ?_
    simp only [Act.put, List.setIfInBounds_toArray, List.set_cons_zero, List.set_cons_succ]
    refine wpAnyZ_takeL 14 rfl (by kernel_rfl) (by kernel_rfl) (by kernel_rfl) (by kernel_rfl) (by kernel_rfl) (fun _ _ _ h => h) (yieldsIf_move rfl _ rfl _ rfl) hS9 ?_
    simp only [Act.put, List.setIfInBounds_toArray, List.set_cons_zero, List.set_cons_succ]
    refine wpAnyZ_one (i := 12) (by kernel_rfl) ?_
    unfold wpOp
    go_simp
    left
    refine (CIn.out _).mono ?_
    rintro e v10 ⟨rfl, b10⟩
    have hB10 := hB9.trans (b10.mono hB9.size)
    have hS10 := hS9.below b10
    have SL10 := SL9.below b10
    clear SL9
    clear b10 hS9 hB9
    refine ⟨hS10, ?_⟩
    refine wpAnyZ_one (i := 13) (by kernel_rfl) ?_
    unfold wpOp
    go_simp
    left
    refine (CB2.out _).mono ?_
    rintro e v11 ⟨rfl, b11⟩
    have hB11 := hB10.trans (b11.mono hB10.size)
    have hS11 := hS10.below b11
    have SL11 := SL10.below b11
    clear SL10
    clear b11 hS10 hB10
    refine ⟨hS11, ?_⟩
    refine wpAnyZ_one (i := 15) (by kernel_rfl) ?_
    unfold wpOp
    go_simp
    left
    refine (COv.out _ _ _ _ _ SL11 HV.out hn).mono ?_
    rintro e v12 ⟨gO, nO, cO, fO, rfl, SO, vo, hnO, b12⟩
    have hB12 := hB11.trans (b12.mono hB11.size)
    have hS12 := hS11.below b12
    have SL12 := SL11.below b12
    clear SL11
    have VO := Lib.hid vo
    clear vo
    unfold SlV
    clear b12 hS11 hB11
    refine ⟨hS12, ?_⟩
    refine wpAnyZ_one (i := 16) (by kernel_rfl) ?_
    unfold wpOp
    go_simp
    left
    refine (CK2.out _ _ _ _ _ SO VO.out).mono ?_
    rintro e v13 ⟨rfl, b13⟩
    have hB13 := hB12.trans (b13.mono hB12.size)
    have hS13 := hS12.below b13
    have SL13 := SL12.below b13
    clear SL12
    clear b13 hS12 hB12
    refine ⟨hS13, ?_⟩
    refine wpAnyZ_takeL 17 rfl (by kernel_rfl) (by kernel_rfl) (by kernel_rfl) (by kernel_rfl) (by kernel_rfl) (fun _ _ _ h => h) (yieldsIf_eql rfl 23 _ _ _ rfl _ _ rfl rfl eqg_api_Key true EZ.out) hS13 ?_
    simp only [Act.put, List.setIfInBounds_toArray, List.set_cons_zero, List.set_cons_succ]
    refine wpAnyZ_takeL 18 rfl (by kernel_rfl) (by kernel_rfl) (by kernel_rfl) (by kernel_rfl) (by kernel_rfl) (fun _ _ _ h => h) (yieldsIf_pick rfl _ _ _ rfl true rfl _ rfl) hS13 ?_
    simp only [Act.put, List.setIfInBounds_toArray, List.set_cons_zero, List.set_cons_succ]
    refine wpAnyZ_one (i := 19) (by kernel_rfl) ?_
    unfold wpOp
    go_simp
    left
    refine wpAnyZ_done (by kernel_rfl) ?_ _
    go_wp2
    go_ret
    exact ⟨rfl, hB13⟩
end Go.Proofs.Ytknmmjnkafmoaaa
