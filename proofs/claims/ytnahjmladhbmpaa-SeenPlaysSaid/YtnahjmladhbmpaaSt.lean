/- A map of the numbers that came; SeenOnce. -/
import Derived.Test.YtnahjmladhbmpaaSr
import Derived.Test.YtnahjmladhbmpaaSs
import Derived.Maps.OwnSet
import Derived.Maps.Views
namespace Go.Proofs.Ytnahjmladhbmpaa
open Go.RowKit Go.WideShapes
open Go.Maps (Keyed IsMap Tidy)

theorem plainElem_bool_inv {v : Value} {b : Bool} {ps : List MemPlace} (h : plainElem (H := Unit) Try.prog 4 v = some (.lit (.bool b), ps)) : v = .bool b := by
  unfold plainElem at h
  rw [Try.underlying4] at h
  cases v <;> simp at h
  rw [h.1]
theorem zero_bool (w : World) : (zeroValue 4).run Try.prog w = .ok (.bool false) w := by
  have h2 : (Try.prog.info? 4).map (fun i => i.zero) = some (some (.bool false)) := by kernel_rfl
  cases h : Try.prog.info? 4 with
  | none => rw [h] at h2; cases h2
  | some i =>
    rw [h] at h2
    simp only [Option.map_some, Option.some.injEq] at h2
    simp [zeroValue, typeInfo, h, h2]
theorem u64_keyed : Keyed Try.prog 24 := Maps.int_keyed Try.underlying24
theorem u64_key (x : Nat) (hx : x < 18446744073709551616) : keyOf Try.prog 24 (.int .u64 (x : Int)) = some (.int .u64 (x : Int)) :=
  Maps.keyOf_int_mk Try.underlying24 (by simp [Lit.wf, IntKind.min, IntKind.max, IntKind.signed, IntKind.bits]; omega)
/-- Block g is a map that has just the numbers K, each with true. -/
def MpK (w : World) (g n : Nat) (K : List Nat) : Prop := ∃ D : DataW Unit, w.ownsMap Try.prog 24 (plainElem (H := Unit) Try.prog 4) g n D ∧ IsMap D ∧ ∀ x : Nat, x < 18446744073709551616 → D.atKey (.int .u64 (x : Int)) (.lit (.bool false)) = .lit (.bool (decide (x ∈ K)))
theorem mp_new (w : World) : MpK (w.alloc (.map #[] 0)) w.heap.size 0 [] :=
  ⟨.map [], World.ownsMap_made w Try.prog 24 _, Maps.isMap_empty, fun x _ => by
    rw [show decide (x ∈ ([] : List Nat)) = false by simp]
    rfl⟩
theorem mp_look {w : World} {g n : Nat} {K : List Nat} (h : MpK w g n K) (x : Nat) (hx : x < 18446744073709551616) : (Instr.lookup 45 (.map (some g)) (.int .u64 (x : Int)) false).run Try.prog w = .ok (.bool (decide (x ∈ K))) w := by
  obtain ⟨D, h1, h2, h3⟩ := h
  obtain ⟨v, ps, hr, hv⟩ := h1.lookup (t := 45) (e := 4) u64_keyed Try.underlying45 (zero_bool w) (plainElem_bool Try.underlying4 false) (u64_key x hx)
  rw [h3 x hx] at hv
  rw [hr, plainElem_bool_inv hv]
theorem mp_put {w : World} {g n : Nat} {K : List Nat} (h : MpK w g n K) (hn : n < maxLen) (x : Nat) (hx : x < 18446744073709551616) : ∃ w', (Instr.mapUpdate 45 (.map (some g)) (.int .u64 (x : Int)) (.bool true)).run Try.prog w = .ok () w' ∧ MpK w' g (n + 1) (x :: K) ∧ w.grownBy w' (some g) := by
  obtain ⟨D, h1, h2, h3⟩ := h
  obtain ⟨w', hr, m1, m2⟩ := h1.update (t := 45) (e := 4) u64_keyed Try.underlying45 hn (u64_key x hx) (plainElem_bool Try.underlying4 true)
  refine ⟨w', hr, ⟨_, m1, h2.put _ _, fun y hy => ?_⟩, m2⟩
  by_cases e : y = x
  · subst e
    rw [Maps.atKey_put_same h2 (by first | trivial | exact ⟨_, _, rfl⟩ | simp [WideAt.IsKeyLit])]
    simp
  · rw [Maps.atKey_put_other (by simp; omega), h3 y hy]
    simp [e]
theorem MpK.kept {w w' : World} {g n : Nat} {K : List Nat} (h : MpK w g n K) {row : Option Nat} (hg : w.grownBy w' row) (hne : some g ≠ row) : MpK w' g n K := by
  obtain ⟨D, h1, h2⟩ := h
  exact ⟨D, h1.kept hg hne, h2⟩
theorem MpK.below {w w' : World} {g n : Nat} {K : List Nat} (h : MpK w g n K) (hb : Below w.heap.size w w') : MpK w' g n K :=
  h.kept (row := none) ⟨hb.os, hb.tape, hb.output, hb.size, fun i hi _ => hb.block i hi⟩ (by simp)
theorem MpK.lt {w : World} {g n : Nat} {K : List Nat} (h : MpK w g n K) : g < w.heap.size := by
  obtain ⟨D, h1, _⟩ := h
  exact h1.lt
theorem sa_top {l : List (Nat × Nat)} {fl : Nat} (h : Sn l fl) (k : Nat) (hk : k < l.length) : (l.getD k (0, 0)).1 ≤ (l.getD k (0, 0)).2 ∧ (l.getD k (0, 0)).2 ≤ 4611686018427387903 ∧ l.getD k (0, 0) ∈ l := by
  rw [getD_lt' _ _ _ hk]
  exact ⟨h.wf.lo_hi _ (List.getElem_mem _), h.top _ (List.getElem_mem _), List.getElem_mem _⟩
set_option maxHeartbeats 8000000 in
set_option maxRecDepth 100000 in
theorem once_law (acts : List (Nat × Bool)) (ha : ∀ x ∈ acts, x.1 < 18446744073709551616) (p : Option Addr) (c : Nat) (hm : acts.length ≤ maxLen) (W : World) (hA : SC W (.slice p acts.length c) acts) :
    Calls Try.prog 5 #[.slice p acts.length c] W fun e w' => e = .returned (.bool true) ∧ Below W.heap.size W w' := by
  have AW := awake_c W
  have HA := Lib.hid hA
  have HU := Lib.hid ha
  have HMX := Lib.hid hm
  clear hA ha hm
  have hmm := fun t W => run_makeMap (P := Try.prog) t W
  go_enter Try.func5, Try.ntmps5
  go_wp2_with fail
  refine AW.mono ?_
  rintro e w0 ⟨rfl, bw⟩
  clear AW
  go_upto_region 3 with fail
  rename_i aK
  refine wp_region_seq ?_
  refine wpSeq_alloc 29 zeroC rfl (fun W => by go_simp; rfl) ?_
  simp only [AP]
  refine wpSeq_nil ?_
  refine aK _ _ ?_
  clear aK
  have b0 := bw.alloc bw.size (.cells zeroC 29)
  have M0 := sm_new w0
  have hgB := Lib.hid bw.size
  generalize w0.alloc (.cells zeroC 29) = w1 at *
  generalize w0.heap.size = g at *
  clear bw
  generalize hnl : acts.length = nl at *
  have HNL := Lib.hid hnl
  clear hnl
  go_upto_region 5 with fail
  have P0 := mp_new w1
  have b1 := b0.alloc b0.size (.map #[] 0)
  have M1 := M0.below ((Below.refl w1.heap.size w1).alloc (Nat.le_refl _) (.map #[] 0)) M0.lt
  have hgm := Lib.hid (show g < w1.heap.size from M0.lt)
  have hgB2 := Lib.hid b0.size
  generalize w1.alloc (.map #[] 0) = w2 at *
  generalize w1.heap.size = gm at *
  clear M0 b0 hmm
  go_upto_region 6 with fail
  rename_i KT aT
  have TAIL : ∀ (i : Nat) (wr : World) (K : List Nat), i ≤ nl → Sn (plA acts i).1 (plA acts i).2 → SM wr g (plA acts i).1 (plA acts i).2 → MpK wr gm i K → Cm K (plA acts i).1 (plA acts i).2 → K.length ≤ 151 → Below W.heap.size W wr → ∀ {x1 x2 x5 x6 x7 x8 x9 x10 x11 x12 x13 x14 x15 x16 x17 x18 x19 x20 x21 x22 x23 x24 x25 x26 x27 x28 x29 x30 x31 x32 x33 x34 x35 x36 x37 x38 x39 x40 x41 x42 x43 x44 x45 x46 x47 x48 x49 x50 x51 x52 x53 x54 x55 x56 x57 x58 x59 x60 x61 x62 x63 : Value}, KT { tmps := #[.slice p nl c, x1, x2, .pointer (some ⟨g, 0, none⟩), .map (some gm), x5, x6, x7, x8, x9, x10, x11, x12, x13, x14, x15, x16, x17, x18, x19, x20, x21, x22, x23, x24, x25, x26, x27, x28, x29, x30, x31, x32, x33, x34, x35, x36, x37, x38, x39, x40, x41, x42, x43, x44, x45, x46, x47, x48, x49, x50, x51, x52, x53, x54, x55, x56, x57, x58, x59, x60, x61, x62, x63], defers := [] } wr := by
    intro i wr K hi hSn hM hP hC hKl hB
    intros
    refine aT _ _ ?_
    clear aT
    generalize plA acts i = lf at *
    obtain ⟨l, fl⟩ := lf
    dsimp only at hSn hM hC
    have CS := spans_c g fl l wr hM
    have hP6 := hP
    have HSN := Lib.hid hSn
    have HC := Lib.hid hC
    have HK := Lib.hid hKl
    clear hSn hC hKl
    go_wp2_with fail
    refine CS.mono ?_
    rintro e w6 ⟨v, rfl, OS, b6⟩
    clear CS
    have M6 := Lib.hid (hM.below b6 hM.lt)
    have P6 := Lib.hid (hP.below b6)
    have B6 := Lib.hid (hB.trans (b6.mono hB.size))
    have hg6 := Lib.hid (hM.below b6 hM.lt).lt
    obtain ⟨pv, cv, rfl⟩ := OS.shape
    have HS := Lib.hid OS.sa
    have hln := HSN.out.len
    clear OS b6 hM hP hP6 hB
    generalize hn2 : l.length = n2 at *
    have HN2 := Lib.hid hn2
    clear hn2
    go_upto_region 16 with fail
    go_loopw [36] (fun t wq => ∃ k : Nat, k ≤ n2 ∧ t = .int .i64 (k : Int) ∧ Below w6.heap.size w6 wq) (fun t _ => (n2 - intOf t).toNat)
    case atStart => exact ⟨0, Nat.zero_le _, rfl, Below.refl _ _⟩
    case round =>
      obtain ⟨k, hk, rfl, hX⟩ := hrel
      by_cases hkn : k = n2
      · have x1 : ¬ (k : Int) < (n2 : Int) := by omega
        clear hkn
        go_wp2
        go_ret
        exact ⟨rfl, B6.out.trans (hX.mono B6.out.size)⟩
      · have x1 : (k : Int) < (n2 : Int) := by omega
        have x0 : (0 : Int) ≤ (k : Int) := by omega
        have hkl : k < l.length := by rw [HN2.out]; omega
        obtain ⟨gs, o, rfl, hPA⟩ : ∃ g o, pv = some ⟨g, o, none⟩ ∧ PA w6 g o l := by
          rcases HS.out.at_ with h0 | h0
          · omega
          · exact h0
        have hPA2 := hPA.below hX
        have c1 := hPA2.lo k hkl
        have c2 := hPA2.hi k hkl
        obtain ⟨s1, s2, s3⟩ := sa_top HSN.out k hkl
        have s4 := HC.out.span HSN.out s3
        have s5 := HK.out
        have ME := Lib.hid (show ((n2 : Int) - ((k + 1 : Nat) : Int)).toNat < ((n2 : Int) - (k : Int)).toNat by omega)
        have hk1 := Lib.hid (show k + 1 ≤ n2 by omega)
        clear hPA hPA2 hkn hkl
        generalize l.getD k (0, 0) = q at *
        obtain ⟨lo, hi'⟩ := q
        dsimp only at c1 c2 s1 s2 s4
        have y1 : IntKind.u64.wrap ((hi' : Int) - (lo : Int)) = (hi' : Int) - (lo : Int) := wrap_u64' _ (by omega) (by omega)
        have y2 : ¬ (200 : Int) < (hi' : Int) - (lo : Int) := by omega
        have SB := Lib.hid (And.intro s1 (And.intro s2 s3))
        have b9 := (Below.refl wr.heap.size wr).alloc (Nat.le_refl _) (.cells #[.int .u64 (lo : Int), .int .u64 (hi' : Int)] 26)
        have K9 := Blk.new wr 26 #[.int .u64 (lo : Int), .int .u64 (hi' : Int)]
        have hX9 := hX.trans (b9.mono hX.size)
        clear s1 s2 s3 s4 s5
        go_upto_region 20 with fail
        generalize wr.alloc (.cells #[.int .u64 (lo : Int), .int .u64 (hi' : Int)] 26) = w9 at *
        generalize wr.heap.size = bx at *
        have d1 := K9.cell 1
        have d0 := K9.cell 0
        have e0 : (#[Value.int .u64 (lo : Int), .int .u64 (hi' : Int)] : Array Value)[0]? = some (.int .u64 (lo : Int)) := rfl
        have e1 : (#[Value.int .u64 (lo : Int), .int .u64 (hi' : Int)] : Array Value)[1]? = some (.int .u64 (hi' : Int)) := rfl
        rw [e0] at d0
        rw [e1] at d1
        have hlt9 := K9.lt
        clear e0 e1 K9 b9 c1 c2 hX y1 y2
        go_upto_region 21 with fail
        go_loopw [10] (fun t wq => ∃ j : Nat, lo + j ≤ hi' + 1 ∧ t = .int .u64 ((lo + j : Nat) : Int) ∧ Below w9.heap.size w9 wq) (fun t _ => ((hi' : Int) + 1 - intOf t).toNat)
        case atStart => exact ⟨0, by have := SB.out.1; omega, rfl, Below.refl _ _⟩
        case round =>
          obtain ⟨j, hj, rfl, hY⟩ := hrel
          have d2 := (hY.cell (p := ⟨bx, 1, none⟩) hlt9).trans d1
          have hsb := SB.out
          by_cases hjn : lo + j = hi' + 1
          · have x2 : ¬ ((lo + j : Nat) : Int) ≤ (hi' : Int) := by omega
            have R := Lib.hid (hX9.trans (hY.mono hX9.size))
            clear hjn hsb d0 d1 hX9 hY hj
            generalize lo + j = m at *
            go_wp2
            exact ⟨⟨k + 1, hk1.out, rfl, R.out⟩, ME.out⟩
          · have x2 : ((lo + j : Nat) : Int) ≤ (hi' : Int) := by omega
            have hmem : memS l (lo + j) := ⟨_, hsb.2.2, by show lo ≤ lo + j; omega, by show lo + j ≤ hi'; omega⟩
            have hin := HC.out.mem _ hmem
            have hhas : hasS l fl (lo + j) = true := (hasS_iff l fl _ HSN.out.wf).2 (Or.inr hmem)
            have Y6 := hX9.trans (hY.mono hX9.size)
            have P9 := P6.out.below Y6
            have L9 := mp_look P9 (lo + j) (by omega)
            rw [show decide (lo + j ∈ K) = true by simp [hin]] at L9
            have HH := has_c g (lo + j) fl l HSN.out.len wr (M6.out.below Y6 hg6.out)
            rw [hhas] at HH
            have y3 : IntKind.u64.wrap (((lo + j : Nat) : Int) + 1) = ((lo + (j + 1) : Nat) : Int) := by
              rw [wrap_u64' _ (by omega) (by omega)]
              omega
            have hj1 := Lib.hid (show lo + (j + 1) ≤ hi' + 1 by omega)
            have ME2 := Lib.hid (show ((hi' : Int) + 1 - ((lo + (j + 1) : Nat) : Int)).toNat < ((hi' : Int) + 1 - ((lo + j : Nat) : Int)).toNat by omega)
            clear hmem hin hhas P9 hjn hsb hj Y6
            generalize hm2 : lo + (j + 1) = m2 at *
            generalize hm1 : lo + j = m at *
            have HM2 := Lib.hid hm2
            clear hm1 hm2
            go_wp2_with fail
            refine HH.mono ?_
            rintro e wz ⟨rfl, bz⟩
            have Y7 := hY.trans (bz.mono hY.size)
            clear HH L9 hY d2
            go_wp2
            refine ⟨⟨j + 1, by rw [HM2.out]; exact hj1.out, ?_, Y7⟩, ME2.out⟩
            rw [HM2.out]
  clear aT
  have TAILh := Lib.hid TAIL
  clear TAIL
  go_loopw [16] (fun t wr => ∃ (i : Nat) (K : List Nat), i ≤ nl ∧ i ≤ 151 ∧ t = .int .i64 (i : Int) ∧ SM wr g (plA acts i).1 (plA acts i).2 ∧ MpK wr gm i K ∧ Cm K (plA acts i).1 (plA acts i).2 ∧ K.length ≤ i ∧ Below W.heap.size W wr) (fun t _ => (nl - intOf t).toNat)
  case atStart => exact ⟨0, [], Nat.zero_le _, Nat.zero_le _, rfl, M1, P0, Cm.nil, Nat.le_refl _, b1⟩
  case round =>
    obtain ⟨i, K, hi, hi2, rfl, hM, hP, hC, hKl, hB⟩ := hrel
    clear M1 P0 b1
    have hSn := plA_sn acts i
    have T0 := Lib.hid (And.intro hi (And.intro hSn (And.intro hC (show K.length ≤ 151 by omega))))
    have hmx := HMX.out
    simp only [maxLen] at hmx
    by_cases hin : i = nl
    · have x1 : ¬ (i : Int) < (nl : Int) := by omega
      clear hin hC hSn hKl
      go_wp2
      exact TAILh.out i _ K T0.out.1 T0.out.2.1 hM hP T0.out.2.2.1 T0.out.2.2.2 hB
    · have x1 : (i : Int) < (nl : Int) := by omega
      have x0 : (0 : Int) ≤ (i : Int) := by omega
      have hil : i < acts.length := by rw [HNL.out]; omega
      obtain ⟨ga, o, rfl, hAA⟩ := HA.out.at_ (by omega)
      have hA2 := hAA.below hB
      have c1 := hA2.n i hil
      have c2 := hA2.raw i hil
      have hu := HU.out (acts.getD i (0, false)) (by rw [show acts.getD i (0, false) = acts[i] by simp [hil]]; exact List.getElem_mem _)
      have ME := Lib.hid (show ((nl : Int) - ((i + 1 : Nat) : Int)).toNat < ((nl : Int) - (i : Int)).toNat by omega)
      have hi1 := Lib.hid (show i + 1 ≤ nl by omega)
      have E2 := Lib.hid (show plA acts (i + 1) = putS (plA acts i).1 (plA acts i).2 (numA i (acts.getD i (0, false)).1 (acts.getD i (0, false)).2) from rfl)
      have hlt := hM.lt
      have hltm := hP.lt
      clear hAA hA2 hin hil
      generalize acts.getD i (0, false) = a at *
      obtain ⟨an, ar⟩ := a
      dsimp only at c1 c2 hu E2
      have b9 := (Below.refl wr.heap.size wr).alloc (Nat.le_refl _) (.cells #[.int .u64 (an : Int), .bool ar] 35)
      by_cases h150 : i ≤ 150
      · have x2 : ¬ (150 : Int) < (i : Int) := by omega
        have CN := fun w => num_c i an ar (by omega) hu w
        have hnlt := numA_lt i an ar hu (by omega)
        have H150 := Lib.hid (show i + 1 ≤ 151 by omega)
        have HKL := Lib.hid (show K.length + 1 ≤ i + 1 by omega)
        clear hu h150 hi2 hKl
        go_wp2_with fail
        refine (CN _).mono ?_
        rintro e w6 ⟨rfl, b6⟩
        clear CN
        have b7 := b9.trans (b6.mono b9.size)
        have M7 := hM.below b7 hlt
        have P7 := hP.below b7
        have B7 := hB.trans (b7.mono hB.size)
        have PC := put_c g (numA i an ar) _ _ hSn w6 M7
        generalize numA i an ar = nn at *
        go_wp2_with fail
        refine PC.mono ?_
        rintro e w8 ⟨rfl, M8, G8⟩
        have B8 := below_grown' B7 G8 (fun k hk => by simp only [Option.some.injEq] at hk; have := hgB.out; omega) B7.size
        have P8 := P7.kept G8 (fun e => by simp only [Option.some.injEq] at e; have := hgm.out; omega)
        clear PC M7 P7 B7 b7 b9 b6 hM hP hB c1 c2 G8
        cases ho : okS (plA acts i).1 (plA acts i).2 nn
        · have hp := putS_no ho
          rw [hp] at M8 E2
          have R := Lib.hid (show SM w8 g (plA acts (i + 1)).1 (plA acts (i + 1)).2 ∧ MpK w8 gm (i + 1) K ∧ Cm K (plA acts (i + 1)).1 (plA acts (i + 1)).2 by
            rw [E2.out]
            exact ⟨M8, by
              obtain ⟨D, d1, d2⟩ := P8
              exact ⟨D, d1.mono (Nat.le_succ i), d2⟩, hC⟩)
          clear hp ho M8 P8 hC hSn
          go_wp2
          exact ⟨⟨i + 1, K, hi1.out, H150.out, rfl, R.out.1, R.out.2.1, R.out.2.2, Nat.le_of_succ_le HKL.out, B8⟩, ME.out⟩
        · have hfr := hC.fresh ho
          have L8 := mp_look P8 nn hnlt
          rw [show decide (nn ∈ K) = false by simp [hfr]] at L8
          obtain ⟨w9, r9, P9, G9⟩ := mp_put P8 (by have := H150.out; simp only [maxLen]; omega) nn hnlt
          have hC9 := hC.put hSn ho
          rw [← E2.out] at M8 hC9
          have M9 := M8.of_block (G9.block g M8.lt (fun e => by simp only [Option.some.injEq] at e; have := hgm.out; omega))
          have B9 := below_grown' B8 G9 (fun k hk => by simp only [Option.some.injEq] at hk; have := hgB2.out; omega) B8.size
          have R := Lib.hid (And.intro M9 (And.intro P9 (And.intro hC9 B9)))
          clear hfr M8 P8 hC hSn M9 P9 hC9 B9 B8 G9 ho
          go_wp2
          exact ⟨⟨i + 1, nn :: K, hi1.out, H150.out, rfl, R.out.1, R.out.2.1, R.out.2.2.1, HKL.out, R.out.2.2.2⟩, ME.out⟩
      · have x2 : (150 : Int) < (i : Int) := by omega
        have R := Lib.hid (And.intro (hM.below b9 hlt) (And.intro (hP.below b9) (hB.trans (b9.mono hB.size))))
        clear h150 hM hP hB hC hSn hKl hu b9 hi2
        go_wp2
        exact TAILh.out i _ K T0.out.1 T0.out.2.1 R.out.1 R.out.2.1 T0.out.2.2.1 T0.out.2.2.2 R.out.2.2
end Go.Proofs.Ytnahjmladhbmpaa
