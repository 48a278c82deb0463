/- SignMixed returns true at every two keys and every two lists of bytes (nil ones too), and leaves what it was given as it was. Conditions: the five variables that it reads (the two tables of sha2, the three of curve) hold what the program's text lays in them (tied by the card). -/
import Derived.Test.YtmceebdaaegkeaaDoorRows
import Derived.Test.YtmceebdaaegkeaaDoorBa
import Derived.LaidMore
import Derived.Lib.LaidTab
import Derived.ProofKit
import Derived.OpenShut
import Derived.Stop.Joined
import Derived.Stop.LaidErr
import Derived.Test.YtmceebdaaegkeaaDoorZg
import Derived.Test.YtmceebdaaegkeaaDoorSl
import Derived.ChangeSlices
import Derived.Test.YtmceebdaaegkeaaDoorPn
import Derived.Test.YtmceebdaaegkeaaDoorTie
import Derived.Test.YtmceebdaaegkeaaDoorCards
import Derived.Test.YtmceebdaaegkeaaDoorLawMixed
import Derived.SevenTiedAt
namespace Go.Proofs.YtmceebdaaegkeaaDoor.H5
open Go.RowKit Go.ChangeShapes Go.WideShapes Go.ChangeAt Go.WideMaps Go.WideElems

/-- The numbers of a table as a row lists it. -/
def intsOf : DataW Unit → List Int
  | .agg ds => ds.map fun | .lit (.int _ z) => z | _ => 0
  | _ => []
def sqZ : List Int := intsOf Rows.laid_skiff_sha2_squareRoots
def cuZ : List Int := intsOf Rows.laid_skiff_sha2_cubeRoots
def sqT (i : Nat) : Nat := (sqZ.getD i 0).toNat
def cuT (i : Nat) : Nat := (cuZ.getD i 0).toNat
theorem sqZ_length : sqZ.length = 8 := by kernel_rfl
theorem cuZ_length : cuZ.length = 80 := by kernel_rfl
theorem sqZ_data : (Rows.laid_skiff_sha2_squareRoots : DataW Unit) = Lib.tabData .u64 sqZ := rfl
theorem cuZ_data : (Rows.laid_skiff_sha2_cubeRoots : DataW Unit) = Lib.tabData .u64 cuZ := rfl
theorem sqZ_all : (sqZ.all fun z => decide (0 ≤ z ∧ z < 18446744073709551616)) = true := by kernel_rfl
theorem cuZ_all : (cuZ.all fun z => decide (0 ≤ z ∧ z < 18446744073709551616)) = true := by kernel_rfl
theorem getD_all {l : List Int} (h : (l.all fun z => decide (0 ≤ z ∧ z < 18446744073709551616)) = true) (i : Nat) : 0 ≤ l.getD i 0 ∧ l.getD i 0 < 18446744073709551616 := by
  by_cases hi : i < l.length
  · have := List.all_eq_true.1 h _ (List.getElem_mem hi)
    simp [hi] at this ⊢
    exact this
  · rw [List.getD_eq_getElem?_getD, List.getElem?_eq_none (by omega)]
    decide
theorem sqT_int (i : Nat) : ((sqT i : Nat) : Int) = sqZ.getD i 0 := by
  have := getD_all sqZ_all i
  unfold sqT
  omega
theorem cuT_int (i : Nat) : ((cuT i : Nat) : Int) = cuZ.getD i 0 := by
  have := getD_all cuZ_all i
  unfold cuT
  omega
theorem gSq : Tryd.prog.globalNamed "skiff/sha2.squareRoots" = some 2 := by kernel_rfl
theorem gCu : Tryd.prog.globalNamed "skiff/sha2.cubeRoots" = some 6 := by kernel_rfl
theorem tSq : (Tryd.prog.globals[2]?).map (·.type) = some 67 := by kernel_rfl
theorem tCu : (Tryd.prog.globals[6]?).map (·.type) = some 77 := by kernel_rfl
theorem tab_of_laid {W : World} {rest : List (String × DataW Unit)} (h : laidMet Tryd.prog (("skiff/sha2.squareRoots", Rows.laid_skiff_sha2_squareRoots) :: ("skiff/sha2.cubeRoots", Rows.laid_skiff_sha2_cubeRoots) :: rest) W) : Tab W cuT ∧ Sq W sqT := by
  have h2 := laidMet.tail h
  rw [sqZ_data] at h
  rw [cuZ_data] at h2
  have s := Lib.tabIs_of_head gSq tSq Tryd.underlying67 Tryd.underlying36 (by kernel_rfl) (by kernel_rfl) h
  have c := Lib.tabIs_of_head gCu tCu Tryd.underlying77 Tryd.underlying36 (by kernel_rfl) (by kernel_rfl) h2
  have sc : ∀ i, i < 8 → W.cell? ⟨2, i, none⟩ = some (.int .u64 ((sqT i : Nat) : Int)) := fun i hi => by
    rw [sqT_int]
    exact s.cell gSq i (by rw [sqZ_length]; exact hi)
  have cc : ∀ i, i < 80 → W.cell? ⟨6, i, none⟩ = some (.int .u64 ((cuT i : Nat) : Int)) := fun i hi => by
    rw [cuT_int]
    exact c.cell gCu i (by rw [cuZ_length]; exact hi)
  exact ⟨⟨cc, fun i => by have := getD_all cuZ_all i; have := cuT_int i; omega, World.block_lt_of_cell? _ _ (cc 0 (by decide))⟩, ⟨sc, fun i => by have := getD_all sqZ_all i; have := sqT_int i; omega, World.block_lt_of_cell? _ _ (sc 0 (by decide))⟩⟩

end Go.Proofs.YtmceebdaaegkeaaDoor.H5
/- Chapter 7's example, by the kernel: the public key of 32 noughts. -/
namespace Go.Proofs.YtmceebdaaegkeaaDoor
open Go.RowKit Ed
open H5 (sha cuT sqT)

theorem num_zero : numN cuT sqT 0 = 39325648866980652792715009169219496062012184734522019333892538943312776480336 := by decide +kernel
theorem mul_zero : (pmul 39325648866980652792715009169219496062012184734522019333892538943312776480336 pbase 256).y = fm (pmul 39325648866980652792715009169219496062012184734522019333892538943312776480336 pbase 256).z 18930617471878267742194159801949745215346600387277955685031939302387136031291 := by decide +kernel
theorem y_lt : 18930617471878267742194159801949745215346600387277955685031939302387136031291 < pp := by rw [pp_eq]; decide +kernel
theorem y_of_mul (k Y : Nat) (hk : k < p256) (hY : Y < pp) (h : (pmul k pbase 256).y = fm (pmul k pbase 256).z Y) : (times ok k bb).y.val = Y := by
  have hI := pmul_is256 k hk pbase_is
  have e1 := hI.y
  have h0 := hI.z0
  rw [h, F_fm] at e1
  have e2 := ok.cancel h0 (a := F Y) (b := (times ok k bb).y) (by
    have c : ∀ a b : Fin pp, a * b = b * a := fun a b => by grind
    rw [c, e1, c])
  rw [← e2]
  exact F_val hY
theorem byte_of (y o i : Nat) (hi : i < 4) : byteAt (y + o * 57896044618658097711785492504343953926634992332820282019728792003956564819968) i = byteAt y i := by
  unfold byteAt
  match i, hi with
  | 0, _ => omega
  | 1, _ => omega
  | 2, _ => omega
  | 3, _ => omega
theorem text_of (P : Pt dd) (Y : Nat) (h : P.y.val = Y) (i : Nat) (hi : i < 4) : byteAt (textN P) i = byteAt Y i := by
  unfold textN
  rw [h]
  exact byte_of _ _ i hi
theorem mul_at (k : Nat) (h : k = 39325648866980652792715009169219496062012184734522019333892538943312776480336) : (pmul k pbase 256).y = fm (pmul k pbase 256).z 18930617471878267742194159801949745215346600387277955685031939302387136031291 := by
  subst h
  exact mul_zero
theorem pub_zero (i : Nat) (hi : i < 4) : byteAt (pubN cuT sqT 0) i = byteAt 18930617471878267742194159801949745215346600387277955685031939302387136031291 i :=
  text_of _ _ (y_of_mul (numN cuT sqT 0) _ (numN_lt _ _ _) y_lt (mul_at _ num_zero)) i hi
theorem pub0 : byteAt (pubN cuT sqT 0) 0 = 59 := (pub_zero 0 (by decide)).trans (by decide +kernel)
theorem pub1 : byteAt (pubN cuT sqT 0) 1 = 106 := (pub_zero 1 (by decide)).trans (by decide +kernel)
theorem pub2 : byteAt (pubN cuT sqT 0) 2 = 39 := (pub_zero 2 (by decide)).trans (by decide +kernel)
theorem pub3 : byteAt (pubN cuT sqT 0) 3 = 188 := (pub_zero 3 (by decide)).trans (by decide +kernel)
end Go.Proofs.YtmceebdaaegkeaaDoor
/- How a slice of bytes reads as data, opened; the row's last step where an argument has spare room. -/
namespace Go.Proofs.YtmceebdaaegkeaaDoor
open Go.ChangeShapes Go.WideShapes Go.ChangeAt Go.RowKit
open H5 (NI NI_length Bytes BA SB)

section
variable {H : Type} {enc : TypeId × Value → H}
/-- The row's last step where the call leaves what was there as it was, and an argument may have spare room. -/
theorem post_below2 {P : Program} {f : Func} {s : ChangeSpec} {apart fresh handsOn again : Bool} {W W' : World} {args : Array Value} {v : Value} {ds gs : List (DataW H)} {before pa pv : List MemPlace}
    (hW : DataW.Whole enc P f.params.toList s.vars apart W args.toList ds gs before)
    (hres : ∀ (b : Nat) (sp : Nat → Bool) (hd : Bool), DataW.TrodAll enc P W' b sp hd f.resultTypes.toList (v.resultList f.resultTypes.size) (s.fn H (ds ++ gs)).results [])
    (hargs : ∀ sp : Nat → Bool, (∀ p ∈ before, sp p.block = true) → DataW.TrodAll enc P W' 0 sp true f.params.toList args.toList (s.fn H (ds ++ gs)).args pa)
    (hvars : ∀ sp : Nat → Bool, (∀ p ∈ before, sp p.block = true) → DataW.TrodVars enc P W' sp s.vars (s.fn H (ds ++ gs)).vars pv)
    (hps : before = pa ++ pv) (hb : Below W.heap.size W W')
    (hok : ∀ (j : Nat) (t : TypeId) (r : Value), f.resultTypes[j]? = some t → (v.resultList f.resultTypes.size)[j]? = some r → Value.okWide P W' .any 0 t r) :
    s.post enc P f apart fresh handsOn again W args v W' := by
  have hlt : ∀ p ∈ before, p.block < W.heap.size := fun p hp => hW.lt p hp
  have hold : ∀ p ∈ before, (fun b => decide (b < W.heap.size)) p.block = true := fun p hp => by simpa using hlt p hp
  refine ⟨ds, gs, before, [], pa, pv, hW, hres _ _ _, hargs _ hold, hvars _ hold, World.keptBut_mono (fun p hp => ⟨hp, ?_⟩) (hb.frame (· ∈ before)), fun _ => ?_⟩
  · rw [hps, List.mem_append] at hp
    exact Or.inr hp
  · obtain ⟨_, _, _, _, _, hz, hn⟩ := hW
    refine ⟨hok, _, _, ([] ++ pa) ++ pv, ⟨[] ++ pa, pv, trodAll_append (hargs _ (fun _ _ => rfl)) (hres _ _ _), hvars _ (fun _ _ => rfl), rfl, ?_, ?_⟩, ?_⟩
    · intro b off hp
      have hin : MemPlace.cell b off ∈ before := by rw [hps]; simpa using hp
      rw [hb.frozen (hlt _ hin)]
      exact hz b off hin
    · intro ha
      have := hn ha
      rw [hps] at this
      simpa using this
    · intro p hp _
      rw [hps]
      simpa using hp

set_option maxRecDepth 100000 in
set_option maxHeartbeats 1000000 in
theorem open_bytes {W : World} {r : Reach} {base : Nat} {v : Value} {d : DataW H} {ps : List MemPlace} (hval : Value.okWide Tryd.prog W r base 24 v) (hd : DataW.Trod enc Tryd.prog W 0 (fun _ => true) true 24 v d ps) :
    ∃ p c l, v = .slice p (List.length l) c ∧ SB W v l ∧ Bytes l ∧ ∀ W' : World, Below W.heap.size W W' → ∀ sp : Nat → Bool, (∀ x ∈ ps, sp x.block = true) → DataW.Trod enc Tryd.prog W' 0 sp true 24 v d ps := by
  obtain ⟨a1, len, cap, rfl⟩ := okWide_slice Tryd.underlying24 hval
  obtain ⟨fuel, hf⟩ := hd
  rcases open_ints Tryd.underlying24 Tryd.underlying5 cells_u8 hf with ⟨hcs, hx⟩ | ⟨a, len', cap', zs, hcs, hba, hl, hm, hz, hx, hcell, hwz⟩
  · simp [Value.cells] at hcs
    obtain ⟨rfl, rfl, rfl⟩ := hcs
    simp only [Prod.mk.injEq] at hx
    obtain ⟨rfl, rfl⟩ := hx
    exact ⟨none, 0, [], rfl, SB.nil _ _ _, Bytes.nil, fun W' _ sp _ => shut_slice_nil Tryd.underlying24⟩
  · simp [Value.cells] at hcs
    obtain ⟨rfl, rfl, rfl⟩ := hcs
    simp only [Prod.mk.injEq] at hx
    obtain ⟨rfl, rfl⟩ := hx
    simp only [if_true] at hz
    have hrange : ∀ i, i < zs.length → 0 ≤ zs.getD i 0 ∧ zs.getD i 0 ≤ 255 := fun i hi => by
      have : zs.getD i 0 = zs[i] := by simp [List.getD, hi]
      rw [this]
      exact wf_u8 (hwz _ (List.getElem_mem hi))
    obtain ⟨l, hL⟩ : ∃ l : List Nat, l = (List.range len).map fun i => (zs.getD i 0).toNat := ⟨_, rfl⟩
    have ll : l.length = len := by rw [hL]; simp
    have bl : Bytes l := fun x hx => by
      rw [hL] at hx
      obtain ⟨i, hi, rfl⟩ := List.mem_map.1 hx
      have := hrange i (by have := List.mem_range.1 hi; omega)
      omega
    refine ⟨some a, cap, l, by rw [ll], ⟨some a, cap, by rw [ll], by rw [ll]; exact hl, ?_⟩, bl, ?_⟩
    · by_cases h0 : len = 0
      · exact Or.inl (List.eq_nil_of_length_eq_zero (by omega))
      · right
        obtain ⟨b, off, spot⟩ := a
        have hspot : spot = none := by simpa [Addr.add] using World.cell?_spot (hcell 0 (by omega))
        subst hspot
        have hc : ∀ i, i < zs.length → W.cell? ⟨b, off + i, none⟩ = some (.int .u8 (zs.getD i 0)) := fun i hi => by
          have := hcell i hi
          rw [Addr.add_lit] at this
          exact this
        refine ⟨b, off, rfl, fun i hi => ?_, World.block_lt_of_cell? _ _ (hc 0 (by omega))⟩
        have hr := hrange i (by omega)
        rw [hc i (by omega)]
        congr 2
        have : l[i] = (zs.getD i 0).toNat := by simp only [hL, List.getElem_map, List.getElem_range]
        omega
    · intro W' hb sp hsp
      refine ⟨2, shut_ints 0 Tryd.underlying24 Tryd.underlying5 cells_u8 (Nat.zero_le _) hl hm ?_ ?_ hwz⟩
      · by_cases h0 : cap = 0
        · have : len = 0 := by omega
          rw [hz, h0, this]
          simp
        · have : sp a.block = true := hsp (.cell a.block (a.off + 0)) (by
            simp only [MemPlace.row, List.mem_map, List.mem_range]
            exact ⟨0, by omega, rfl⟩)
          rw [this, hz]
          simp
      · intro i hi
        rw [← hcell i hi]
        refine hb.cell ?_
        have := World.block_lt_of_cell? _ _ (hcell i hi)
        exact this
end
end Go.Proofs.YtmceebdaaegkeaaDoor
/- The package's three variables, out of the rows' own condition. -/
namespace Go.Proofs.YtmceebdaaegkeaaDoor
open Go.RowKit Go.ChangeShapes Go.WideShapes Go.ChangeAt Go.WideMaps Go.WideElems

theorem bx_data : (Rows.laid_skiff_curve_baseX : DataW Unit) = Lib.tabData .u8 (keyOf bxN) := by
  show DataW.agg _ = DataW.agg _
  congr 1
theorem by_data : (Rows.laid_skiff_curve_baseY : DataW Unit) = Lib.tabData .u8 (keyOf byN) := by
  show DataW.agg _ = DataW.agg _
  congr 1
theorem d_data : (Rows.laid_skiff_curve_dBytes : DataW Unit) = Lib.tabData .u8 (keyOf dN) := by
  show DataW.agg _ = DataW.agg _
  congr 1
theorem gBx : Tryd.prog.globalNamed "skiff/curve.baseX" = some 3 := by kernel_rfl
theorem gBy : Tryd.prog.globalNamed "skiff/curve.baseY" = some 4 := by kernel_rfl
theorem gDb : Tryd.prog.globalNamed "skiff/curve.dBytes" = some 5 := by kernel_rfl
theorem tBx : (Tryd.prog.globals[3]?).map (·.type) = some 23 := by kernel_rfl
theorem tBy : (Tryd.prog.globals[4]?).map (·.type) = some 23 := by kernel_rfl
theorem tDb : (Tryd.prog.globals[5]?).map (·.type) = some 23 := by kernel_rfl
theorem rng_of {W : World} {name : String} {N g : Nat} (s : Lib.TabIs Tryd.prog W name .u8 (keyOf N)) (hg : Tryd.prog.globalNamed name = some g) : Rng W g (Iv .u8 (keyOf N)) := by
  have sc : ∀ i, i < 32 → W.cell? ⟨g, i, none⟩ = some (.int .u8 ((keyOf N).getD i 0)) := fun i hi => s.cell hg i (by rw [keyOf_length]; exact hi)
  refine ⟨World.block_lt_of_cell? _ _ (sc 0 (by decide)), fun j v hv => ?_⟩
  have hj : j < 32 := by
    have := (List.getElem?_eq_some_iff.1 hv).1
    rw [Array.length_toList, Iv_size, keyOf_length] at this
    exact this
  rw [Nat.zero_add, sc j hj, ← hv, Array.getElem?_toList, Iv_get _ _ _ (by rw [keyOf_length]; exact hj)]
theorem xy_of_laid {W : World} {rest : List (String × DataW Unit)} (h : laidMet Tryd.prog (("skiff/curve.baseX", Rows.laid_skiff_curve_baseX) :: ("skiff/curve.baseY", Rows.laid_skiff_curve_baseY) :: rest) W) :
    Rng W 3 (Iv .u8 (keyOf bxN)) ∧ Rng W 4 (Iv .u8 (keyOf byN)) := by
  have h2 := laidMet.tail h
  rw [bx_data] at h
  rw [by_data] at h2
  exact ⟨rng_of (Lib.tabIs_of_head gBx tBx Tryd.underlying23 Tryd.underlying5 (by kernel_rfl) (by kernel_rfl) h) gBx,
    rng_of (Lib.tabIs_of_head gBy tBy Tryd.underlying23 Tryd.underlying5 (by kernel_rfl) (by kernel_rfl) h2) gBy⟩
theorem d_of_laid {W : World} {rest : List (String × DataW Unit)} (h : laidMet Tryd.prog (("skiff/curve.dBytes", Rows.laid_skiff_curve_dBytes) :: rest) W) : Rng W 5 (Iv .u8 (keyOf dN)) := by
  rw [d_data] at h
  exact rng_of (Lib.tabIs_of_head gDb tDb Tryd.underlying23 Tryd.underlying5 (by kernel_rfl) (by kernel_rfl) h) gDb
theorem door_metM (os : Os) (args : Array Value) : laidMetH Tryd.prog Rows.signMixedRow.laid ((World.doorLaid Tryd.prog 44 os).forCall (fun _ _ => 0) ⟨#[], args, []⟩).memory :=
  laidMetH_of_parts3 (fuel := 8) (laidMet_of_run' 8 (by kernel_rfl) (by kernel_rfl)) (by kernel_rfl) (by kernel_rfl)
end Go.Proofs.YtmceebdaaegkeaaDoor
namespace Go.Proofs.YtmceebdaaegkeaaDoor
open Go.ChangeShapes Go.WideShapes Go.ChangeAt Go.RowKit
open H5 (tab_of_laid cuT sqT SB)

theorem own : ownKnob Tryd.prog.godebug = none := by kernel_rfl
set_option maxHeartbeats 1000000 in
set_option maxRecDepth 100000 in
theorem mixed_lifted (os : Os) (started : os.Started) (H : Type) (enc : TypeId × Value → H) :
    ReturnsInHanded {} Tryd.checked os 4 .any (fun w args => (Rows.signMixedSpec.pre enc Tryd.prog Tryd.f4 [] false w args ∧ laidMetH Tryd.prog Rows.signMixedRow.laid w) ∧ sizedMet enc Tryd.prog Tryd.f4 (OpenSpec.ofChange Rows.signMixedSpec) false w args)
      (Rows.signMixedSpec.post enc Tryd.prog Tryd.f4 false true false false) := by
  refine returnsInHanded_of_change_and (C := Tryd.checked) (X := fun w _ => laidMetH Tryd.prog Rows.signMixedRow.laid w) (fun _ _ _ hh h => h.of_heap hh) own started (by kernel_rfl) Tryd.func4
    (ChangeSpec.witness_shaped (enc := enc) (C := Tryd.checked) (os := os) (X := fun w _ => laidMetH Tryd.prog Rows.signMixedRow.laid w) false (World.doorLaid Tryd.prog 44 os) #[Key (List.replicate 32 0), Key (List.replicate 32 0), .slice none 0 0, .slice none 0 0] 8 rfl (World.shaped_of_RefB (by kernel_rfl) (by kernel_rfl)) (by kernel_rfl) (by kernel_rfl) (by kernel_rfl) (door_metM os _)) ?_
  intro W base args ds gs before hval0 hW _ _ hL _
  have hval : ∀ (j : Nat) t v, Tryd.f4.params[j]? = some t → args[j]? = some v → Value.okWide Tryd.prog W .any base t v := hval0
  have hW' := hW
  obtain ⟨p, q, hA0, hV, rfl, _, _⟩ := hW
  have hA : DataW.TrodAll enc Tryd.prog W 0 (fun _ => true) true Tryd.f4.params.toList args.toList ds p := hA0
  rw [Tryd.params4] at hA hval
  obtain ⟨v0, v1, v2, v3, d0, d1, d2, d3, p0, p1, p2, p3, rfl, rfl, rfl, h0, h1, h2, h3⟩ := trodAll_four hA
  obtain ⟨rfl, rfl⟩ := trodVars_none hV
  obtain ⟨l0, f0, rfl, rfl, rfl, hl0, hwf0⟩ := open_key (hval 0 23 v0 rfl rfl) h0
  obtain ⟨l1, f1, rfl, rfl, rfl, hl1, hwf1⟩ := open_key (hval 1 23 v1 rfl rfl) h1
  obtain ⟨pt2, c2, l2, rfl, Hb2, bl2, again2⟩ := open_bytes (hval 2 24 v2 rfl rfl) h2
  obtain ⟨pt3, c3, l3, rfl, Hb3, bl3, again3⟩ := open_bytes (hval 3 24 v3 rfl rfl) h3
  clear hA0 hval0
  rw [MakeChecks.laidMetH_plain _ _ _ (by kernel_rfl)] at hL
  have GD := d_of_laid hL
  obtain ⟨GX, GY⟩ := xy_of_laid (laidMet.tail hL)
  obtain ⟨T, SQ⟩ := tab_of_laid (laidMet.tail (laidMet.tail (laidMet.tail hL)))
  have hk0 := key_of_bytes hl0
  have hk1 := key_of_bytes hl1
  have walk := mixed_any cuT sqT (leTo f0 32) (leTo f1 32) _ _ l2 l3 bl2 bl3 pub0 pub1 pub2 pub3 W T SQ Hb2 Hb3 GX GY GD
  rw [← hk0, ← hk1] at walk
  refine walk.mono fun e W' ⟨he, hb⟩ => ?_
  subst he
  exact ⟨_, rfl, post_below2 (pa := [] ++ ([] ++ (p2 ++ (p3)))) (pv := []) hW' (fun _ _ _ => trodAll_mk1 (shut_bool Tryd.underlying4 _)) (fun sp hsp => trodAll_mk4 (shut_key l0 hl0.len hwf0) (shut_key l1 hl1.len hwf1) (again2 W' hb sp (fun x hx => hsp x (by simp [hx]))) (again3 W' hb sp (fun x hx => hsp x (by simp [hx])))) (fun _ _ => rfl) (by simp) hb (ok_one (by kernel_rfl) rfl (okWide_bool_mk Tryd.underlying4 _))⟩

theorem mixed_row : Rows.SignMixedSaid :=
  OpenClaim.holds_of_wide 4 Tryd.f4 rfl rfl rfl rfl rfl rfl rfl ⟨rfl, rfl, rfl, rfl, rfl⟩ rfl rfl rfl rfl rfl (by kernel_rfl) Tryd.func4 (by kernel_rfl)
    (of_decide_eq_true (by kernel_rfl)) (by unfold Func.isWrapper; first | (rw [if_pos (by decide +kernel)]; kernel_rfl) | (rw [if_neg (by decide +kernel)]; exact ⟨rfl, rfl⟩))
    (fun os started H enc _ => mixed_lifted os started H enc)

theorem signMixed_holds : Rows.SignMixedCardSaid :=
  Claim7.holds_tied_plain_at .later [] [.data, .data, .data, .data, .data] true Rows.signMixedCard.stood.harness false
    mixed_row (fun _ h => by cases h) (by kernel_rfl) (fun _ h => by cases h) signMixed_row_tie rfl ⟨rfl, rfl⟩ (by kernel_rfl) rfl
    (fun f fn hf hfn => by
      obtain rfl : f = 4 := Option.some.inj ((show Tryd.prog.funcNamed "skiff/skifflaw07.SignMixed" = some 4 by kernel_rfl).symm.trans hf) |>.symm
      obtain rfl : fn = Tryd.f4 := (Option.some.inj (Tryd.func4.symm.trans hfn)).symm
      exact ⟨by kernel_rfl, fun j t ht => by
        rw [Tryd.params4] at ht
        have hm : t ∈ [23, 23, 24, 24] := by simpa using Array.mem_of_getElem? ht
        have hall : ([23, 23, 24, 24].all fun u => !Tryd.prog.wantsStandIn u) = true := by kernel_rfl
        exact (show Tryd.prog.wantsStandIn t = false by simpa using List.all_eq_true.1 hall t hm)⟩)
    (by kernel_rfl)
#print axioms signMixed_holds
end Go.Proofs.YtmceebdaaegkeaaDoor
