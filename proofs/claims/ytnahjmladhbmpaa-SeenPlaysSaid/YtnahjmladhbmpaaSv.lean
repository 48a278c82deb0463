/- SeenPlays: numbers in any order, held against the document's answer (printed by gen17/sv.py). -/
import Derived.Test.YtnahjmladhbmpaaSt
import Derived.Test.YtnahjmladhbmpaaSl
namespace Go.Proofs.Ytnahjmladhbmpaa
open Go.RowKit

/-- The document's Seen in block h. -/
structure RS (w : World) (h B : Nat) (l : List (Nat × Nat)) (fl : Nat) (L : List Nat) (v : Value) : Prop where
  blk : Blk w h 33 #[v, .int .u64 (fl : Int)]
  sub : SUB B w v L
  rl : Rl l L
theorem RS.below {w w' : World} {h B : Nat} {l : List (Nat × Nat)} {fl : Nat} {L : List Nat} {v : Value} (r : RS w h B l fl L v) (b : Below w.heap.size w w') : RS w' h B l fl L v := ⟨r.blk.below b r.blk.lt, r.sub.below b, r.rl⟩
theorem RS.grown {w w' : World} {h B g : Nat} {l : List (Nat × Nat)} {fl : Nat} {L : List Nat} {v : Value} (r : RS w h B l fl L v) (b : w.grownBy w' (some g)) (hg : g < h) (hB : h < B) : RS w' h B l fl L v :=
  ⟨(b.block h r.blk.lt (fun e => by simp only [Option.some.injEq] at e; omega)).trans r.blk, r.sub.grown b (by omega), r.rl⟩
theorem RS.top {w : World} {h B : Nat} {l : List (Nat × Nat)} {fl : Nat} {L : List Nat} {v : Value} (r : RS w h B l fl L v) (hs : Sn l fl) : ∀ x ∈ L, x ≤ 4611686018427387903 := fun x hx => memS_le hs.top ((r.rl.mem x).1 hx)
set_option maxHeartbeats 8000000 in
set_option maxRecDepth 100000 in
theorem plays_law (acts : List (Nat × Bool)) (ha : ∀ x ∈ acts, x.1 < 18446744073709551616) (p : Option Addr) (c : Nat) (hm : acts.length ≤ maxLen) (W : World) (hA : SC W (.slice p acts.length c) acts) :
    Calls Try.prog 3 #[.slice p acts.length c] W fun e w' => e = .returned (.bool true) ∧ Below W.heap.size W w' := by
  have AW := awake_c W
  have HA := Lib.hid hA
  have HU := Lib.hid ha
  have HMX := Lib.hid hm
  clear hA ha hm
  go_enter Try.func3, Try.ntmps3
  go_wp2_with fail
  refine AW.mono ?_
  rintro e w0 ⟨rfl, bw⟩
  clear AW
  go_upto_region 3 with fail
  rename_i aK
  refine wp_region_seq ?_
  refine wpSeq_alloc 29 zeroC rfl (fun W => by go_simp; rfl) ?_
  simp only [AP]
  refine wpSeq_nil ?_
  refine aK _ _ ?_
  clear aK
  have b0 := bw.alloc bw.size (.cells zeroC 29)
  have M0 := sm_new w0
  have hgB := Lib.hid bw.size
  generalize w0.alloc (.cells zeroC 29) = w1 at *
  generalize w0.heap.size = g at *
  clear bw
  generalize hnl : acts.length = nl at *
  have HNL := Lib.hid hnl
  clear hnl
  go_upto_region 4 with fail
  have b1 := b0.alloc b0.size (.cells #[.slice none 0 0, .int .u64 0] 33)
  have M1 := M0.below ((Below.refl w1.heap.size w1).alloc (Nat.le_refl _) (.cells #[.slice none 0 0, .int .u64 0] 33)) M0.lt
  have K1 := Blk.new w1 33 #[.slice none 0 0, .int .u64 0]
  have hgh := Lib.hid (show g < w1.heap.size from M0.lt)
  have hhB := Lib.hid b0.size
  have hhs := Lib.hid (size_alloc1 w1 (.cells #[.slice none 0 0, .int .u64 0] 33))
  go_upto_region 6 with fail
  generalize w1.alloc (.cells #[.slice none 0 0, .int .u64 0] 33) = w2 at *
  generalize w1.heap.size = h at *
  have R1 : RS w2 h (h + 1) [] 0 [] (.slice none 0 0) := ⟨K1, SUB.nil _ _ _ _, Rl.nil⟩
  clear M0 b0 K1
  have HW2 := Lib.hid (show h + 1 ≤ w2.heap.size from Nat.le_of_eq hhs.out.symm)
  go_loopw [15] (fun t wr => ∃ (i : Nat) (v : Value) (L : List Nat), i ≤ nl ∧ i ≤ 151 ∧ t = .int .i64 (i : Int) ∧ SM wr g (plA acts i).1 (plA acts i).2 ∧ RS wr h (h + 1) (plA acts i).1 (plA acts i).2 L v ∧ L.length ≤ i ∧ Below W.heap.size W wr ∧ h + 1 ≤ wr.heap.size) (fun t _ => (nl - intOf t).toNat)
  case atStart => exact ⟨0, _, [], Nat.zero_le _, Nat.zero_le _, rfl, M1, R1, Nat.le_refl _, b1, HW2.out⟩
  case round =>
    obtain ⟨i, v, L, hi, hi2, rfl, hM, hR, hLl, hB, hW⟩ := hrel
    clear M1 R1 b1
    have hSn := plA_sn acts i
    have hmx := HMX.out
    simp only [maxLen] at hmx
    by_cases hin : i = nl
    · have x1 : ¬ (i : Int) < (nl : Int) := by omega
      clear hin hSn hR hM hLl hW
      go_wp2
      go_ret
      exact ⟨rfl, hB⟩
    · have x1 : (i : Int) < (nl : Int) := by omega
      have x0 : (0 : Int) ≤ (i : Int) := by omega
      have hil : i < acts.length := by rw [HNL.out]; omega
      obtain ⟨ga, o, rfl, hAA⟩ := HA.out.at_ (by omega)
      have hA2 := hAA.below hB
      have c1 := hA2.n i hil
      have c2 := hA2.raw i hil
      have hu := HU.out (acts.getD i (0, false)) (by rw [show acts.getD i (0, false) = acts[i] by simp [hil]]; exact List.getElem_mem _)
      have ME := Lib.hid (show ((nl : Int) - ((i + 1 : Nat) : Int)).toNat < ((nl : Int) - (i : Int)).toNat by omega)
      have hi1 := Lib.hid (show i + 1 ≤ nl by omega)
      have E2 := Lib.hid (show plA acts (i + 1) = putS (plA acts i).1 (plA acts i).2 (numA i (acts.getD i (0, false)).1 (acts.getD i (0, false)).2) from rfl)
      have hlt := hM.lt
      clear hAA hA2 hin hil
      generalize acts.getD i (0, false) = a at *
      obtain ⟨an, ar⟩ := a
      dsimp only at c1 c2 hu E2
      have b9 := (Below.refl wr.heap.size wr).alloc (Nat.le_refl _) (.cells #[.int .u64 (an : Int), .bool ar] 35)
      by_cases h150 : i ≤ 150
      · have x2 : ¬ (150 : Int) < (i : Int) := by omega
        have CN := fun w => num_c i an ar (by omega) hu w
        have hnlt := Lib.hid (numA_lt i an ar hu (by omega))
        have H150 := Lib.hid (show i + 1 ≤ 151 by omega)
        have HKL := Lib.hid (show L.length + 1 ≤ i + 1 by omega)
        clear hu h150 hi2 hLl
        go_wp2_with fail
        refine (CN _).mono ?_
        rintro e w6 ⟨rfl, b6⟩
        clear CN
        have b7 := b9.trans (b6.mono b9.size)
        have M7 := hM.below b7 hlt
        have R7 := hR.below b7
        have B7 := hB.trans (b7.mono hB.size)
        have W7 := Nat.le_trans hW b7.size
        have PC := put_c g (numA i an ar) _ _ hSn w6 M7
        generalize numA i an ar = nn at *
        clear b7 b9 b6 hM hR hB c1 c2 hW
        go_wp2_with fail
        refine PC.mono ?_
        rintro e w8 ⟨rfl, M8, G8⟩
        have B8 := below_grown' B7 G8 (fun k hk => by simp only [Option.some.injEq] at hk; have := hgB.out; omega) B7.size
        have R8 := R7.grown G8 hgh.out (Nat.lt_succ_self h)
        have W8 := Nat.le_trans W7 G8.size
        clear PC M7 B7 W7 R7
        have QC := rput_c h nn (plA acts i).2 (h + 1) v L (plA acts i).1 R8.rl hSn (by have := HKL.out; have := H150.out; omega) w8 R8.blk R8.sub (Nat.lt_succ_self h) W8
        have hsn2 := putS_sn (n := nn) hSn
        rw [← E2.out] at M8 QC hsn2
        generalize okS (plA acts i).1 (plA acts i).2 nn = ok at *
        generalize hst : plA acts (i + 1) = st at *
        have STE0 := Lib.hid hst
        clear hst
        obtain ⟨l, fl⟩ := st
        have STE := STE0
        dsimp only at M8 QC hsn2 E2
        clear R8 G8 hSn
        go_wp2_with fail
        refine QC.mono ?_
        rintro e w9 ⟨rfl, v', L', K9, S9, RL9, hl9, G9⟩
        have R9 : RS w9 h (h + 1) l fl L' v' := ⟨K9, S9, RL9⟩
        have M9 := M8.of_block (G9.block g M8.lt (fun e => by simp only [Option.some.injEq] at e; have := hgh.out; omega))
        have B9 := below_grown' B8 G9 (fun k hk => by simp only [Option.some.injEq] at hk; have := hhB.out; omega) B8.size
        have W9 := Nat.le_trans W8 G9.size
        have HL9 := Lib.hid (show L'.length ≤ i + 1 ∧ L'.length ≤ 1000 from ⟨by have := HKL.out; omega, by have := HKL.out; have := H150.out; omega⟩)
        clear QC M8 B8 W8 K9 S9 RL9 hl9 G9
        have hH := hsn2.len
        have TOP := R9.top hsn2
        have CH := fun w (m : SM w g l fl) => has_c g nn fl l hH w m
        have CR := fun w (r : RS w h (h + 1) l fl L' v') => rhas_c h nn fl (h + 1) v' L' HL9.out.2 w r.blk r.sub
        have CH2 := fun w (m : SM w g l fl) => has_c g ((nn + 1) % 18446744073709551616) fl l hH w m
        have CR2 := fun w (r : RS w h (h + 1) l fl L' v') => rhas_c h ((nn + 1) % 18446744073709551616) fl (h + 1) v' L' HL9.out.2 w r.blk r.sub
        have CS := fun w (m : SM w g l fl) => spans_c g fl l w m
        have CP := fun w (r : RS w h (h + 1) l fl L' v') => rspans_c h fl (h + 1) v' L' HL9.out.2 TOP w r.blk r.sub
        have CN := fun w (m : SM w g l fl) => next_c g fl l hsn2 w m
        simp only [← R9.rl.has hsn2.wf] at CR CR2
        simp only [R9.rl.spans hsn2.wf] at CP
        have wn := wrap_any nn
        generalize (nn + 1) % 18446744073709551616 = n2 at *
        generalize hasS l fl nn = hb1 at *
        generalize hasS l fl n2 = hb2 at *
        clear TOP
        go_wp2_with fail
        refine (CH _ M9).mono ?_
        rintro e v1 ⟨rfl, d1⟩
        replace M9 := M9.below d1 M9.lt
        replace R9 := R9.below d1
        replace B9 := B9.trans (d1.mono B9.size)
        replace W9 := Nat.le_trans W9 d1.size
        clear CH
        clear d1
        go_wp2_with fail
        refine (CR _ R9).mono ?_
        rintro e v2 ⟨rfl, d2⟩
        replace M9 := M9.below d2 M9.lt
        replace R9 := R9.below d2
        replace B9 := B9.trans (d2.mono B9.size)
        replace W9 := Nat.le_trans W9 d2.size
        clear CR
        clear d2
        go_wp2_with fail
        refine (CH2 _ M9).mono ?_
        rintro e v3 ⟨rfl, d3⟩
        replace M9 := M9.below d3 M9.lt
        replace R9 := R9.below d3
        replace B9 := B9.trans (d3.mono B9.size)
        replace W9 := Nat.le_trans W9 d3.size
        clear CH2
        clear d3
        go_wp2_with fail
        refine (CR2 _ R9).mono ?_
        rintro e v4 ⟨rfl, d4⟩
        replace M9 := M9.below d4 M9.lt
        replace R9 := R9.below d4
        replace B9 := B9.trans (d4.mono B9.size)
        replace W9 := Nat.le_trans W9 d4.size
        clear CR2
        clear d4
        go_wp2_with fail
        refine (CS _ M9).mono ?_
        rintro e v5 ⟨u1, rfl, OS1, d5⟩
        replace M9 := M9.below d5 M9.lt
        replace R9 := R9.below d5
        replace B9 := B9.trans (d5.mono B9.size)
        replace W9 := Nat.le_trans W9 d5.size
        obtain ⟨p1, c1', rfl⟩ := OS1.shape
        have S1 := OS1.sa
        clear CS OS1 d5
        go_wp2_with fail
        refine (CP _ R9).mono ?_
        rintro e v6 ⟨u2, rfl, OS2, d6⟩
        replace M9 := M9.below d6 M9.lt
        replace R9 := R9.below d6
        replace B9 := B9.trans (d6.mono B9.size)
        replace W9 := Nat.le_trans W9 d6.size
        replace S1 := S1.below d6
        obtain ⟨p2, c2', rfl⟩ := OS2.shape
        have S2 := OS2.sa
        have CQ := samesp_c l p1 p2 l.length l.length c1' c2' (by omega) v6 S1 S2
        clear CP OS2 d6 S1 S2
        go_wp2_with fail
        refine CQ.mono ?_
        rintro e v7 ⟨rfl, d7⟩
        replace M9 := M9.below d7 M9.lt
        replace R9 := R9.below d7
        replace B9 := B9.trans (d7.mono B9.size)
        replace W9 := Nat.le_trans W9 d7.size
        have CNh := Lib.hid CN
        clear CQ d7 CN
        obtain ⟨pL, cL, rfl, hcL⟩ := R9.sub.shape
        have k0 := R9.blk.cell 0
        have ek : (#[.slice pL L'.length cL, Value.int .u64 (fl : Int)] : Array Value)[0]? = some (.slice pL L'.length cL) := rfl
        rw [ek] at k0
        obtain ⟨nx1, nx2⟩ := R9.rl.next hsn2.wf
        have HLT := Lib.hid (And.intro R9.blk.lt M9.lt)
        by_cases hl0 : 0 < l.length
        · obtain ⟨hL0, hz⟩ := nx2 hl0
          obtain ⟨gb, ob, rfl, hgb, hu9⟩ := R9.sub.at_ hL0
          have k1 := hu9.get (L'.length - 1) (by omega)
          rw [hz] at k1
          have hz2 := hsn2.top (l.getD 0 (0, 0)) (by rw [getD_lt' _ _ _ hl0]; exact List.getElem_mem _)
          have e7 : nextS l = (l.getD 0 (0, 0)).2 + 1 := if_pos hl0
          have dd := below_drew (Below.refl v7.heap.size v7)
          have CN9 := CNh.out _ (M9.below dd M9.lt)
          rw [e7] at CN9
          have RF := Lib.hid (And.intro (M9.below dd M9.lt) (And.intro (R9.below dd) (And.intro (below_drew B9) (show h + 1 ≤ v7.drew.heap.size from W9))))
          have HLT2 := Lib.hid (M9.below dd M9.lt).lt
          have y1 : (0 : Int) < (L'.length : Int) := by omega
          have y2 : IntKind.i64.wrap ((L'.length : Int) - 1) = (L'.length : Int) - 1 := by have := HL9.out; simp [IntKind.wrap, IntKind.bits, IntKind.signed]; omega
          have y3 : ((L'.length : Int) - 1).toNat = L'.length - 1 := by omega
          have y4 : ¬ (L'.length : Int) < 1 := by omega
          have y5 : (L'.length : Int) - 1 < (L'.length : Int) := by omega
          have y6 : (0 : Int) ≤ (L'.length : Int) - 1 := by omega
          have y7 : (1 : Int) ≤ (L'.length : Int) := by omega
          have y8 : ¬ (L'.length : Int) ≤ (L'.length : Int) - 1 := by omega
          clear hz ek nx1 nx2 e7 hL0 hu9 hl0 M9 R9 B9 hgb dd
          generalize (l.getD 0 (0, 0)).2 = z at *
          have y9 : IntKind.u64.wrap ((z : Int) + 1) = (z : Int) + 1 := wrap_u64' _ (by omega) (by omega)
          have CNz := Lib.hid CN9
          clear CN9 hz2
          go_upto_region 14 with fail
          have hS14 : (fun w' : World => w'.cell? ⟨h, 0, none⟩ = some (.slice (some ⟨gb, ob, none⟩) L'.length cL) ∧ w'.cell? ⟨gb, ob + (L'.length - 1), none⟩ = some (.int .u64 (z : Int))) v7.drew := ⟨k0, k1⟩
          refine wp_region_S (S := fun w' => w'.cell? ⟨h, 0, none⟩ = some (.slice (some ⟨gb, ob, none⟩) L'.length cL) ∧ w'.cell? ⟨gb, ob + (L'.length - 1), none⟩ = some (.int .u64 (z : Int))) (by kernel_rfl) ?_
          refine wpAnyS_takeL 0 (v := .pointer (some ⟨h, 0, none⟩)) rfl (by kernel_rfl) (by kernel_rfl) (by kernel_rfl) (fun _ _ _ H => H) (yieldsIf_move rfl _ rfl (.pointer (some ⟨h, 0, none⟩)) rfl) hS14 ?_
          simp only [AP]
          refine wpAnyS_takeL 1 (v := .pointer (some ⟨h, 0, none⟩)) rfl (by kernel_rfl) (by kernel_rfl) (by kernel_rfl) (fun _ _ _ H => H) (Or.inl ⟨by rfl, fun w' hw' => by go_simp⟩) hS14 ?_
          simp only [AP]
          refine wpAnyS_takeL 2 (v := .pointer (some ⟨h, 0, none⟩)) rfl (by kernel_rfl) (by kernel_rfl) (by kernel_rfl) (fun _ _ _ H => H) (Or.inl ⟨by rfl, fun w' hw' => by go_simp⟩) hS14 ?_
          simp only [AP]
          refine wpAnyS_takeL 3 (v := .slice (some ⟨gb, ob, none⟩) L'.length cL) rfl (by kernel_rfl) (by kernel_rfl) (by kernel_rfl) (fun _ _ _ H => H) (Or.inl ⟨by rfl, fun w' hw' => by (go_simp)⟩) hS14 ?_
          simp only [AP]
          refine wpAnyS_takeL 4 (v := .pointer (some ⟨h, 0, none⟩)) rfl (by kernel_rfl) (by kernel_rfl) (by kernel_rfl) (fun _ _ _ H => H) (yieldsIf_move rfl _ rfl (.pointer (some ⟨h, 0, none⟩)) rfl) hS14 ?_
          simp only [AP]
          refine wpAnyS_takeL 5 (v := .pointer (some ⟨h, 0, none⟩)) rfl (by kernel_rfl) (by kernel_rfl) (by kernel_rfl) (fun _ _ _ H => H) (Or.inl ⟨by rfl, fun w' hw' => by go_simp⟩) hS14 ?_
          simp only [AP]
          refine wpAnyS_takeL 6 (v := .pointer (some ⟨h, 0, none⟩)) rfl (by kernel_rfl) (by kernel_rfl) (by kernel_rfl) (fun _ _ _ H => H) (Or.inl ⟨by rfl, fun w' hw' => by go_simp⟩) hS14 ?_
          simp only [AP]
          refine wpAnyS_takeL 7 (v := .slice (some ⟨gb, ob, none⟩) L'.length cL) rfl (by kernel_rfl) (by kernel_rfl) (by kernel_rfl) (fun _ _ _ H => H) (Or.inl ⟨by rfl, fun w' hw' => by (go_simp)⟩) hS14 ?_
          simp only [AP]
          refine wpAnyS_takeL 8 (v := .int .i64 (L'.length : Int)) rfl (by kernel_rfl) (by kernel_rfl) (by kernel_rfl) (fun _ _ _ H => H) (Or.inl ⟨by rfl, fun w' hw' => by go_simp⟩) hS14 ?_
          simp only [AP]
          refine wpAnyS_takeL 9 (v := .int .i64 ((L'.length : Int) - 1)) rfl (by kernel_rfl) (by kernel_rfl) (by kernel_rfl) (fun _ _ _ H => H) (Or.inl ⟨by rfl, fun w' hw' => by (go_simp)⟩) hS14 ?_
          simp only [AP]
          refine wpAnyS_takeL 10 (v := .pointer (some ⟨gb, ob + (L'.length - 1), none⟩)) rfl (by kernel_rfl) (by kernel_rfl) (by kernel_rfl) (fun _ _ _ H => H) (Or.inl ⟨by rfl, fun w' hw' => by (go_simp)⟩) hS14 ?_
          simp only [AP]
          refine wpAnyS_takeL 11 (v := .int .u64 (z : Int)) rfl (by kernel_rfl) (by kernel_rfl) (by kernel_rfl) (fun _ _ _ H => H) (Or.inl ⟨by rfl, fun w' hw' => by (go_simp)⟩) hS14 ?_
          simp only [AP]
          refine wpAnyS_takeL 12 (v := .int .u64 ((z : Int) + 1)) rfl (by kernel_rfl) (by kernel_rfl) (by kernel_rfl) (fun _ _ _ H => H) (Or.inl ⟨by rfl, fun w' hw' => by (go_simp)⟩) hS14 ?_
          simp only [AP]
          refine wpAnyS_takeL 13 (v := .int .u64 ((z : Int) + 1)) rfl (by kernel_rfl) (by kernel_rfl) (by kernel_rfl) (fun _ _ _ H => H) (yieldsIf_assign rfl _ rfl (.int .u64 ((z : Int) + 1)) rfl) hS14 ?_
          simp only [AP]
          refine wpAnyS_done (by kernel_rfl) ?_ _
          refine (by assumption : ∀ (a : Act) (w : World), _ → _) _ _ ?_
          clear k0 k1
          generalize v7.drew = vd at *
          go_wp2_with fail
          refine CNz.out.mono ?_
          rintro e v8 ⟨rfl, d8⟩
          clear CNz
          have R8 := Lib.hid (And.intro (RF.out.1.below d8 HLT2.out) (And.intro (RF.out.2.1.below d8) (And.intro (RF.out.2.2.1.trans (d8.mono RF.out.2.2.1.size)) (Nat.le_trans RF.out.2.2.2 d8.size))))
          clear d8
          go_wp2
          refine ⟨⟨i + 1, .slice (some ⟨gb, ob, none⟩) L'.length cL, L', hi1.out, H150.out, rfl, ?_, ?_, HL9.out.1, R8.out.2.2.1, R8.out.2.2.2⟩, ME.out⟩
          · rw [STE.out]; exact R8.out.1
          · rw [STE.out]; exact R8.out.2.1
        · have hl1 : l = [] := List.eq_nil_of_length_eq_zero (by omega)
          have hL1 := nx1.2 hl1
          have hLn : L'.length = 0 := by rw [hL1]; rfl
          have e7 : nextS l = 0 := if_neg hl0
          have CN9 := CNh.out _ M9
          rw [e7] at CN9
          have RF := Lib.hid (And.intro M9 (And.intro R9 B9))
          rw [hLn] at k0
          clear nx1 nx2 e7 hl0 hl1 hL1 ek M9 R9 B9
          have HLn := Lib.hid hLn
          clear hLn
          go_wp2_with fail
          refine CN9.mono ?_
          rintro e v8 ⟨rfl, d8⟩
          clear CN9 k0
          have R8 := Lib.hid (And.intro (RF.out.1.below d8 HLT.out.2) (And.intro (RF.out.2.1.below d8) (And.intro (RF.out.2.2.trans (d8.mono RF.out.2.2.size)) (Nat.le_trans W9 d8.size))))
          clear d8
          go_wp2
          refine ⟨⟨i + 1, .slice pL L'.length cL, L', hi1.out, H150.out, rfl, ?_, ?_, HL9.out.1, R8.out.2.2.1, R8.out.2.2.2⟩, ME.out⟩
          · rw [STE.out]; exact R8.out.1
          · rw [STE.out]; exact R8.out.2.1
      · have x2 : (150 : Int) < (i : Int) := by omega
        have R := Lib.hid (hB.trans (b9.mono hB.size))
        clear h150 hM hB hR hSn hLl hu b9 hi2 hW
        go_wp2
        go_ret
        exact ⟨rfl, R.out⟩
end Go.Proofs.Ytnahjmladhbmpaa
