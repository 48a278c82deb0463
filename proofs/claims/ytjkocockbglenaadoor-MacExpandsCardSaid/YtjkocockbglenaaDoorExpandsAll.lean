/- The reference's tables, out of the rows' own condition: the same roots. -/
import Derived.Test.YtjkocockbglenaaDoorTb
import Derived.Test.YtjkocockbglenaaDoorQa
import Derived.Test.YtjkocockbglenaaDoorEd
import Derived.Test.YtjkocockbglenaaDoorRows
import Derived.Test.YtjkocockbglenaaDoorTie
import Derived.Test.YtjkocockbglenaaDoorCards
import Derived.Test.YtjkocockbglenaaDoorLm
import Derived.SevenTiedAt
/- The law MacExpands. -/
/- MacExpands returns true at every secret, every purpose (a nil one too) and every number, and leaves what it was given as it was. Conditions: the tables of roots, of the program and of the reference, hold what the program's text lays in them (tied by the card). -/
namespace Go.Proofs.YtjkocockbglenaaDoor
open Go.RowKit Go.ChangeShapes Go.WideShapes Go.ChangeAt Go.WideMaps Go.WideElems

theorem th_data : (Rows.laid_skiff_skiffref03_thirds : DataW Unit) = Lib.tabData .u64 cuZ := rfl
theorem se_data : (Rows.laid_skiff_skiffref03_seconds : DataW Unit) = Lib.tabData .u64 sqZ := rfl
theorem gTh : Tryd.prog.globalNamed "skiff/skiffref03.thirds" = some 1 := by kernel_rfl
theorem gSe : Tryd.prog.globalNamed "skiff/skiffref03.seconds" = some 2 := by kernel_rfl
theorem tTh : (Tryd.prog.globals[1]?).map (·.type) = some 58 := by kernel_rfl
theorem tSe : (Tryd.prog.globals[2]?).map (·.type) = some 52 := by kernel_rfl
theorem ref_of_laid {W : World} {x y : String × DataW Unit} {rest : List (String × DataW Unit)} (h : laidMet Tryd.prog (x :: y :: ("skiff/skiffref03.thirds", Rows.laid_skiff_skiffref03_thirds) :: ("skiff/skiffref03.seconds", Rows.laid_skiff_skiffref03_seconds) :: rest) W) : Ref W cuT sqT := by
  have h1 := laidMet.tail (laidMet.tail h)
  have h2 := laidMet.tail h1
  rw [th_data] at h1
  rw [se_data] at h2
  have c := Lib.tabIs_of_head gTh tTh Tryd.underlying58 Tryd.underlying51 (by kernel_rfl) (by kernel_rfl) h1
  have s := Lib.tabIs_of_head gSe tSe Tryd.underlying52 Tryd.underlying51 (by kernel_rfl) (by kernel_rfl) h2
  have sc : ∀ i, i < 8 → W.cell? ⟨2, i, none⟩ = some (.int .u64 ((sqT i : Nat) : Int)) := fun i hi => by
    rw [sqT_int]
    exact s.cell gSe i (by rw [sqZ_length]; exact hi)
  have cc : ∀ i, i < 80 → W.cell? ⟨1, i, none⟩ = some (.int .u64 ((cuT i : Nat) : Int)) := fun i hi => by
    rw [cuT_int]
    exact c.cell gTh i (by rw [cuZ_length]; exact hi)
  exact ⟨cc, sc, fun i => by have := getD_all cuZ_all i; have := cuT_int i; omega, fun i => by have := getD_all sqZ_all i; have := sqT_int i; omega, World.block_lt_of_cell? _ _ (cc 0 (by decide)), World.block_lt_of_cell? _ _ (sc 0 (by decide))⟩
theorem door_met4 (os : Os) (args : Array Value) : laidMetH Tryd.prog Rows.macSumsRow.laid ((World.doorLaid Tryd.prog 29 os).forCall (fun _ _ => 0) ⟨#[], args, []⟩).memory :=
  laidMetH_of_parts3 (fuel := 8) (laidMet_of_run' 8 (by kernel_rfl) (by kernel_rfl)) (by kernel_rfl) (by kernel_rfl)
end Go.Proofs.YtjkocockbglenaaDoor
namespace Go.Proofs.YtjkocockbglenaaDoor
open Go.RowKit

/-- What stands throughout. -/
structure XsW (w : World) (iv bv : Value) (s info l : List Nat) (wr : World) : Prop where
  b : Below w.heap.size w wr
  key : Blk wr w.heap.size 25 (Iv .u8 (NI s))
  info : SB wr iv info
  out : SB wr bv l
  ref : Ref wr cuT sqT
theorem XsW.below {w : World} {iv bv : Value} {s info l : List Nat} {wr w2 : World} (h : XsW w iv bv s info l wr) (hb : Below wr.heap.size wr w2) : XsW w iv bv s info l w2 :=
  ⟨h.b.trans (hb.mono h.b.size), h.key.below' hb, h.info.below hb, h.out.below hb, h.ref.below hb⟩

set_option maxHeartbeats 4000000 in
set_option maxRecDepth 100000 in
theorem expands_any (w : World) (s info : List Nat) (v : Value) (n : Int) (T : Tab w cuT) (S : Sq w sqT) (R : Ref w cuT sqT) (ls : s.length = 32) (bs : Bytes s) (hv : SB w v info) (bi : Bytes info) :
    Calls Tryd.prog 4 #[.agg (Iv .u8 (NI s)), v, .int .i64 n] w fun e w' => e = .returned (.bool true) ∧ Below w.heap.size w w' := by
  have hv' := hv
  obtain ⟨pp, cp, rfl, _⟩ := hv'
  go_enter Tryd.func4, Tryd.ntmps4
  go_upto_region 1 with fail
  have b0 := (Below.refl w.heap.size w).alloc (Nat.le_refl _) (.cells (Iv .u8 (NI s)) 25)
  have R0 := Blk.new w 25 (Iv .u8 (NI s))
  generalize World.alloc w _ = W at b0 R0 ⊢
  replace hv := hv.below b0
  replace T := T.below b0
  replace S := S.below b0
  replace R := R.below b0
  have CA := Lib.hid (awake_any W T S)
  go_wp2_with fail
  refine CA.out.mono ?_
  rintro _ w1 ⟨rfl, b1⟩
  replace R0 := R0.below' b1
  replace hv := hv.below b1
  replace T := T.below b1
  replace S := S.below b1
  replace R := R.below b1
  have B1 := b0.trans (b1.mono b0.size)
  clear CA b0 b1
  go_upto_region 3 with fail
  by_cases h100 : (300 : Int) < (info.length : Int)
  · go_wp2
    go_ret
    exact ⟨rfl, B1⟩
  by_cases hn : n < 0 ∨ 8160 < n
  · have CE := Lib.hid (expand_out s w1 (.slice pp info.length cp) n hn)
    have hd : (decide (n < 0) || decide (8160 < n)) = true := by simpa using hn
    go_upto_region 5 with fail
    by_cases h0 : n < 0
    · go_wp2_with (refine wpList_load_row rfl 25 _ rfl w.heap.size rfl 25 _ (0, 0) _ R0 Tryd.underlying25 rfl (info_N32 _ ls) ?_)
      refine CE.out.mono ?_
      rintro _ w2 ⟨rfl, b2⟩
      have B2 := B1.trans (b2.mono B1.size)
      go_wp2
      go_ret
      exact ⟨rfl, B2⟩
    · have h1 : 8160 < n := hn.resolve_left h0
      go_wp2_with (refine wpList_load_row rfl 25 _ rfl w.heap.size rfl 25 _ (0, 0) _ R0 Tryd.underlying25 rfl (info_N32 _ ls) ?_)
      refine CE.out.mono ?_
      rintro _ w2 ⟨rfl, b2⟩
      have B2 := B1.trans (b2.mono B1.size)
      go_wp2
      go_ret
      exact ⟨rfl, B2⟩
  · obtain ⟨h0, h1⟩ : 0 ≤ n ∧ n ≤ 8160 := by omega
    obtain ⟨N, rfl⟩ : ∃ x : Nat, n = (x : Int) := ⟨n.toNat, by omega⟩
    clear hn
    obtain ⟨m, hm⟩ : ∃ m : Nat, m = N % 200 := ⟨_, rfl⟩
    have e1 : ((N : Int).tmod 200) = (m : Int) := by rw [Int.tmod_eq_emod_of_nonneg (by omega), hm]; omega
    have e2 : ((N : Int) % 200) = (m : Int) := by rw [hm]; omega
    have l2 : m < 200 := by rw [hm]; omega
    clear hm
    have g0 : ¬ ((N : Int) < 0) := by omega
    have g1 : ¬ (8160 < (N : Int)) := by omega
    have CE := Lib.hid (expand_any cuT sqT w1 s info _ m T S ls bs hv bi (by omega) (by omega))
    go_upto_region 9 with fail
    go_wp2_with (refine wpList_load_row rfl 25 _ rfl w.heap.size rfl 25 _ (0, 0) _ R0 Tryd.underlying25 rfl (info_N32 _ ls) ?_)
    refine CE.out.mono ?_
    rintro _ w2 ⟨p2, rfl, A2, b2, _⟩
    have F : XsW w (.slice pp info.length cp) (.slice p2 m m) s info (expandL cuT sqT s info m) w2 := ⟨B1.trans (b2.mono B1.size), R0.below' b2, hv.below b2, A2, R.below b2⟩
    clear CE R0 hv A2 b2 R T S B1 e1 e2 g0 g1
    go_upto_region 10 with fail
    rename_i aK
    have hS := F.below (below_drew (Below.refl w2.heap.size w2))
    clear F
    have li : info.length ≤ 1000 := by omega
    refine wp_region_S (S := XsW w (.slice pp info.length cp) (.slice p2 m m) s info (expandL cuT sqT s info m)) (by kernel_rfl) ?_
    generalize World.drew w2 = V0 at *
    refine wpAnyS_takeL 0 rfl (by kernel_rfl) (by kernel_rfl) (by kernel_rfl) (fun _ _ _ h => h) (yieldsIf_move rfl _ rfl _ rfl) hS ?_
    simp only [Act.put, List.setIfInBounds_toArray, List.set_cons_zero, List.set_cons_succ]
    refine wpAnyS_takeL 1 (v := (.bool true)) rfl (by kernel_rfl) (by kernel_rfl) (by kernel_rfl) (fun _ _ _ h => h) (Or.inl ⟨by rfl, ?_⟩) hS ?_
    · intro w' _
      go_simp
    simp only [Act.put, List.setIfInBounds_toArray, List.set_cons_zero, List.set_cons_succ]
    refine wpAnyS_takeL 2 rfl (by kernel_rfl) (by kernel_rfl) (by kernel_rfl) (fun _ _ _ h => h) (yieldsIf_move rfl _ rfl _ rfl) hS ?_
    simp only [Act.put, List.setIfInBounds_toArray, List.set_cons_zero, List.set_cons_succ]
    refine wpAnyS_takeL 3 rfl (by kernel_rfl) (by kernel_rfl) (by kernel_rfl) (fun _ _ _ h => h) (yieldsIf_move rfl _ rfl _ rfl) hS ?_
    simp only [Act.put, List.setIfInBounds_toArray, List.set_cons_zero, List.set_cons_succ]
    refine wpAnyS_takeL 4 rfl (by kernel_rfl) (by kernel_rfl) (by kernel_rfl) (fun _ _ _ h => h) (yieldsIf_conv rfl _ rfl (.slice p2 m m) rfl (expandL cuT sqT s info m) (fun _ h => h.out)) hS ?_
    simp only [Act.put, List.setIfInBounds_toArray, List.set_cons_zero, List.set_cons_succ]
    refine wpAnyS_takeL 5 rfl (by kernel_rfl) (by kernel_rfl) (by kernel_rfl) (fun _ _ _ h => h) (show YieldsIf _ _ _ _ (.agg (Iv .u8 (NI s))) _ from yieldsIf_row_wanted rfl 25 _ rfl w.heap.size rfl 25 _ _ (fun _ h => h.key) Tryd.underlying25 rfl (info_N32 _ ls)) hS ?_
    simp only [Act.put, List.setIfInBounds_toArray, List.set_cons_zero, List.set_cons_succ]
    refine wpAnyS_takeL 6 rfl (by kernel_rfl) (by kernel_rfl) (by kernel_rfl) (fun _ _ _ h => h) (yieldsIf_move rfl _ rfl _ rfl) hS ?_
    simp only [Act.put, List.setIfInBounds_toArray, List.set_cons_zero, List.set_cons_succ]
    refine wpAnyS_takeL 7 rfl (by kernel_rfl) (by kernel_rfl) (by kernel_rfl) (fun _ _ _ h => h) (yieldsIf_move rfl _ rfl _ rfl) hS ?_
    simp only [Act.put, List.setIfInBounds_toArray, List.set_cons_zero, List.set_cons_succ]
    refine wpAnyS_one (i := 8) (by kernel_rfl) ?_
    unfold wpOp
    go_simp
    left
    refine (rexp_any V0 cuT sqT s info bs bi ls li _ hS.info m (by omega) hS.ref).mono ?_
    rintro _ V1 ⟨vr, rfl, hr, b⟩
    replace hS := XsW.below hS b
    refine ⟨hS, ?_⟩
    clear b
    refine wpAnyS_one (i := 9) (by kernel_rfl) ((yieldsIf_conv (S := fun W' => SB W' vr (expandL cuT sqT s info m)) rfl _ rfl vr rfl (expandL cuT sqT s info m) (fun _ h => h)).wpOp rfl hr ⟨hS, ?_⟩)
    simp only [Act.put, List.setIfInBounds_toArray, List.set_cons_zero, List.set_cons_succ]
    refine wpAnyS_takeL 10 (v := (.bool true)) rfl (by kernel_rfl) (by kernel_rfl) (by kernel_rfl) (fun _ _ _ h => h) (Or.inl ⟨by rfl, ?_⟩) hS ?_
    · intro w' _
      go_simp
    simp only [Act.put, List.setIfInBounds_toArray, List.set_cons_zero, List.set_cons_succ]
    refine wpAnyS_takeL 11 rfl (by kernel_rfl) (by kernel_rfl) (by kernel_rfl) (fun _ _ _ h => h) (yieldsIf_pick rfl _ _ _ rfl true rfl _ rfl) hS ?_
    simp only [Act.put, List.setIfInBounds_toArray, List.set_cons_zero, List.set_cons_succ]
    refine wpAnyS_takeL 12 rfl (by kernel_rfl) (by kernel_rfl) (by kernel_rfl) (fun _ _ _ h => h) (show YieldsIf _ _ _ _ (.bool true) _ from yieldsIf_assign rfl _ rfl _ rfl) hS ?_
    simp only [Act.put, List.setIfInBounds_toArray, List.set_cons_zero, List.set_cons_succ]
    refine wpAnyS_done (by kernel_rfl) ?_ _
    have HB := hS.b
    clear hS hr
    refine aK _ _ ?_
    clear aK
    refine wp_ret ?_
    exact bodyPost_ret (results_tmp rfl _ _ _) rfl ⟨rfl, HB⟩
end Go.Proofs.YtjkocockbglenaaDoor
namespace Go.Proofs.YtjkocockbglenaaDoor
open Go.ChangeShapes Go.WideShapes Go.ChangeAt Go.RowKit

theorem own : ownKnob Tryd.prog.godebug = none := by kernel_rfl
theorem int_range {n : Int} (h : (Lit.int .i64 n).wf = true) : -9223372036854775808 ≤ n ∧ n ≤ 9223372036854775807 := by
  simp [Lit.wf, IntKind.min, IntKind.max, IntKind.signed, IntKind.bits] at h
  exact h
set_option maxHeartbeats 1000000 in
set_option maxRecDepth 100000 in
theorem expands_lifted (os : Os) (started : os.Started) (H : Type) (enc : TypeId × Value → H) :
    ReturnsInHanded {} Tryd.checked os 4 .any (fun w args => (Rows.macExpandsSpec.pre enc Tryd.prog Tryd.f4 [] false w args ∧ laidMetH Tryd.prog Rows.macExpandsRow.laid w) ∧ sizedMet enc Tryd.prog Tryd.f4 (OpenSpec.ofChange Rows.macExpandsSpec) false w args)
      (Rows.macExpandsSpec.post enc Tryd.prog Tryd.f4 false true false false) := by
  refine returnsInHanded_of_change_and (C := Tryd.checked) (X := fun w _ => laidMetH Tryd.prog Rows.macExpandsRow.laid w) (fun _ _ _ hh h => h.of_heap hh) own started (by kernel_rfl) Tryd.func4
    (ChangeSpec.witness_shaped (enc := enc) (C := Tryd.checked) (os := os) (X := fun w _ => laidMetH Tryd.prog Rows.macExpandsRow.laid w) false (World.doorLaid Tryd.prog 29 os) #[Key (List.replicate 32 0), .slice none 0 0, .int .i64 0] 8 rfl (World.shaped_of_RefB (by kernel_rfl) (by kernel_rfl)) (by kernel_rfl) (by kernel_rfl) (by kernel_rfl) (door_met4 os _)) ?_
  intro W base args ds gs before hval0 hW _ _ hL _
  have hval : ∀ (j : Nat) t v, Tryd.f4.params[j]? = some t → args[j]? = some v → Value.okWide Tryd.prog W .any base t v := hval0
  have hW' := hW
  obtain ⟨p, q, hA0, hV, rfl, _, _⟩ := hW
  have hA : DataW.TrodAll enc Tryd.prog W 0 (fun _ => true) true Tryd.f4.params.toList args.toList ds p := hA0
  rw [Tryd.params4] at hA hval
  obtain ⟨v0, v1, v2, d0, d1, d2, p0, p1, p2, rfl, rfl, rfl, h0, h1, h2⟩ := trodAll_three hA
  obtain ⟨rfl, rfl⟩ := trodVars_none hV
  obtain ⟨k0, f0, rfl, rfl, rfl, hl0, hwf0⟩ := open_key (hval 0 25 v0 rfl rfl) h0
  obtain ⟨pt1, c1, l1, rfl, Hb1, bl1, again1⟩ := open_bytes (hval 1 22 v1 rfl rfl) h1
  obtain ⟨m2, rfl, rfl, rfl, hm2⟩ := open_int Tryd.underlying3 (hval 2 3 v2 rfl rfl) h2
  obtain ⟨lo2, hi2⟩ := int_range hm2
  clear hA0 hval0
  rw [MakeChecks.laidMetH_plain _ _ _ (by kernel_rfl)] at hL
  obtain ⟨T, S⟩ := tab_of_laid hL
  have R := ref_of_laid hL
  obtain ⟨s0, hs0, ls0, bs0⟩ := key_list hl0 hwf0
  have walk := expands_any W s0 l1 _ m2 T S R ls0 bs0 Hb1 bl1
  rw [← hs0] at walk
  refine walk.mono fun e W' ⟨he, hb⟩ => ?_
  subst he
  exact ⟨_, rfl, post_below2 (pa := [] ++ (p1 ++ ([]))) (pv := []) hW' (fun _ _ _ => trodAll_mk1 (shut_bool Tryd.underlying4 _)) (fun sp hsp => trodAll_mk3 (shut_key k0 hl0.len hwf0) (again1 W' hb sp (fun x hx => hsp x (by simp [hx]))) (shut_int Tryd.underlying3 hm2)) (fun _ _ => rfl) (by simp) hb (ok_one (by kernel_rfl) rfl (okWide_bool_mk Tryd.underlying4 _))⟩

theorem expands_row : Rows.MacExpandsSaid :=
  OpenClaim.holds_of_wide 4 Tryd.f4 rfl rfl rfl rfl rfl rfl rfl ⟨rfl, rfl, rfl, rfl, rfl⟩ rfl rfl rfl rfl rfl (by kernel_rfl) Tryd.func4 (by kernel_rfl)
    (of_decide_eq_true (by kernel_rfl)) (by unfold Func.isWrapper; first | (rw [if_pos (by decide +kernel)]; kernel_rfl) | (rw [if_neg (by decide +kernel)]; exact ⟨rfl, rfl⟩))
    (fun os started H enc _ => expands_lifted os started H enc)

theorem macExpands_holds : Rows.MacExpandsCardSaid :=
  Claim7.holds_tied_plain_at .later [] [.data, .data, .data, .data] true Rows.macExpandsCard.stood.harness false
    expands_row (fun _ h => by cases h) (by kernel_rfl) (fun _ h => by cases h) macExpands_row_tie rfl ⟨rfl, rfl⟩ (by kernel_rfl) rfl
    (fun f fn hf hfn => by
      obtain rfl : f = 4 := Option.some.inj ((show Tryd.prog.funcNamed "skiff/skifflaw04.MacExpands" = some 4 by kernel_rfl).symm.trans hf) |>.symm
      obtain rfl : fn = Tryd.f4 := (Option.some.inj (Tryd.func4.symm.trans hfn)).symm
      exact ⟨by kernel_rfl, fun j t ht => by
        rw [Tryd.params4] at ht
        have hm : t ∈ [25, 22, 3] := by simpa using Array.mem_of_getElem? ht
        have hall : ([25, 22, 3].all fun u => !Tryd.prog.wantsStandIn u) = true := by kernel_rfl
        exact (show Tryd.prog.wantsStandIn t = false by simpa using List.all_eq_true.1 hall t hm)⟩)
    (by kernel_rfl)
#print axioms macExpands_holds
end Go.Proofs.YtjkocockbglenaaDoor
