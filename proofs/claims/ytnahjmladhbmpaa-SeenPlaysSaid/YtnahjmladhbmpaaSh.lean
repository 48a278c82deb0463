/- The program's Put (printed by gen17/sh.py). -/
import Derived.Test.YtnahjmladhbmpaaSg
namespace Go.Proofs.Ytnahjmladhbmpaa
open Go.RowKit

def abS (l : List (Nat × Nat)) (n k : Nat) : Bool := decide (0 < k) && decide ((l.getD (k - 1) (0, 0)).1 = n + 1)
def beS (l : List (Nat × Nat)) (n k : Nat) : Bool := decide (k < l.length) && decide ((l.getD k (0, 0)).2 + 1 = n)
/-- What Put leaves, by the place and the neighbours. -/
def resS (l : List (Nat × Nat)) (fl n k : Nat) (A B : Bool) : List (Nat × Nat) × Nat :=
  if A && B then ((l.set (k - 1) ((l.getD k (0, 0)).1, (l.getD (k - 1) (0, 0)).2)).eraseIdx k, fl)
  else if A then (l.set (k - 1) (n, (l.getD (k - 1) (0, 0)).2), fl)
  else if B then (l.set k ((l.getD k (0, 0)).1, n), fl)
  else ((l.insertIdx k (n, n)).take 32, if l.length = 32 then (((l.insertIdx k (n, n)).take 32).getD 31 (0, 0)).1 else fl)
theorem putS_res {l : List (Nat × Nat)} {fl n : Nat} (h : Sn l fl) (ho : okS l fl n = true) : putS l fl n = resS l fl n (placeS l n) (abS l n (placeS l n)) (beS l n (placeS l n)) := by
  have hw := putW_ins l n h.wf
  have hl := h.len
  have hk := placeS_le l n
  unfold putS
  rw [if_pos ho]
  unfold putT
  rw [← hw]
  unfold putW resS
  show _ = if (abS l n (placeS l n) && beS l n (placeS l n)) = true then _ else _
  have ea : (decide (0 < placeS l n) && decide ((l.getD (placeS l n - 1) (0, 0)).1 = n + 1)) = abS l n (placeS l n) := rfl
  have eb : (decide (placeS l n < l.length) && decide ((l.getD (placeS l n) (0, 0)).2 + 1 = n)) = beS l n (placeS l n) := rfl
  simp only [ea, eb]
  have hb : beS l n (placeS l n) = true → placeS l n < l.length := fun h => by
    unfold beS at h
    simp only [Bool.and_eq_true, decide_eq_true_iff] at h
    exact h.1
  generalize placeS l n = k at *
  cases hA : abS l n k <;> cases hB : beS l n k <;> simp only [Bool.and_true, Bool.and_false, Bool.false_eq_true, if_true, if_false]
  · by_cases h32 : l.length = 32
    · rw [if_pos h32, if_pos (by rw [List.length_insertIdx, if_pos hk]; omega)]
      rw [show ((l.insertIdx k (n, n)).take 32).getD 31 (0, 0) = (l.insertIdx k (n, n)).getD 31 (0, 0) by
        rw [List.getD_eq_getElem?_getD, List.getElem?_take_of_lt (by decide), ← List.getD_eq_getElem?_getD]]
    · rw [if_neg h32, if_neg (by rw [List.length_insertIdx, if_pos hk]; omega), List.take_of_length_le (by rw [List.length_insertIdx, if_pos hk]; omega)]
  · rw [if_neg (by rw [List.length_set]; omega)]
  · rw [if_neg (by rw [List.length_set]; omega)]
  · rw [if_neg (by rw [List.length_eraseIdx, List.length_set]; split <;> omega)]
set_option maxHeartbeats 8000000 in
set_option maxRecDepth 100000 in
theorem put_c (g n fl : Nat) (l : List (Nat × Nat)) (hS : Sn l fl) (W : World) (h : SM W g l fl) :
    Calls Try.prog 10 #[.pointer (some ⟨g, 0, none⟩), .int .u64 (n : Int)] W fun e w' => e = .returned (.bool (okS l fl n)) ∧ SM w' g (putS l fl n).1 (putS l fl n).2 ∧ W.grownBy w' (some g) := by
  have hg := h.lt
  have hl := h.len
  have G0 : W.grownBy W (some g) := ⟨rfl, rfl, rfl, Nat.le_refl _, fun _ _ _ => rfl⟩
  have CH := has_c g n fl l hl W h
  by_cases hm : n ≤ 4611686018427387903
  · have m1 : ¬ (n : Int) > 4611686018427387903 := by omega
    by_cases hh : hasS l fl n = true
    · rw [hh] at CH
      have ho : okS l fl n = false := by unfold okS; rw [hh]; simp
      have hp : putS l fl n = (l, fl) := by unfold putS; rw [ho]; rfl
      rw [ho, hp]
      clear ho hp
      go_enter Try.func10, Try.ntmps10
      go_wp2_with fail
      refine CH.mono ?_
      rintro e w1 ⟨rfl, hB⟩
      clear CH
      go_wp2
      go_ret
      exact ⟨rfl, h.below hB hg, gb_of hB (Nat.le_refl _) g⟩
    · rw [Bool.not_eq_true] at hh
      rw [hh] at CH
      have ho : okS l fl n = true := by unfold okS; rw [hh]; simp [hm]
      have hp := putS_res hS ho
      have hkl := placeS_le l n
      have CP := fun w1 (hB : Below W.heap.size W w1) => place_c g n fl l hl w1 (h.below hB hg)
      rw [ho, hp]
      clear hp
      have HAv : abS l n (placeS l n) = (decide (0 < placeS l n) && decide ((l.getD (placeS l n - 1) (0, 0)).1 = n + 1)) := rfl
      have HBv : beS l n (placeS l n) = (decide (placeS l n < l.length) && decide ((l.getD (placeS l n) (0, 0)).2 + 1 = n)) := rfl
      generalize placeS l n = k at *
      generalize abS l n k = A at *
      generalize beS l n k = B at *
      have HAh := Lib.hid HAv
      have HBh := Lib.hid HBv
      clear HAv HBv
      have HO := Lib.hid ho
      clear ho
      have wn : IntKind.u64.wrap ((n : Int) + 1) = (n : Int) + 1 := by simp [IntKind.wrap, IntKind.bits, IntKind.signed]; omega
      go_enter Try.func10, Try.ntmps10
      go_wp2_with fail
      refine CH.mono ?_
      rintro e w1 ⟨rfl, hB⟩
      clear CH
      go_wp2_with fail
      refine (CP w1 hB).mono ?_
      rintro e w2 ⟨rfl, hB2⟩
      replace hB := hB.trans (hB2.mono hB.size)
      clear hB2 CP w1
      have HM := h.below hB hg
      have G2 := gb_of hB (Nat.le_refl _) g
      clear h hB G0
      go_upto_region 4 with fail
      rename_i KA aA
      have AK : ∀ {x2 x3 x7 x8 x9 x10 x11 x12 x13 x14 x15 x16 x17 x18 x19 x20 x21 x22 x23 x24 x25 x26 x27 x28 x29 x30 x31 x32 x33 x34 x35 x36 x37 x38 x39 x40 x41 x42 x43 x44 x45 x46 x47 x48 x49 x50 x51 x52 x53 x54 x55 x56 x57 x58 x59 x60 x61 x62 x63 x64 x65 x66 x67 x68 x69 x70 x71 x72 x73 x74 x75 x76 x77 x78 x79 x80 x81 x82 x83 x84 x85 x86 x87 x88 x89 x90 x91 x92 x93 x94 x95 x96 x97 x98 x99 x100 x101 x102 x103 x104 x105 x106 x107 x108 x109 x110 x111 x112 x113 x114 : Value}, KA { tmps := #[.pointer (some ⟨g, 0, none⟩), .int .u64 (n : Int), x2, x3, .bool false, .int .i64 (k : Int), .bool A, x7, x8, x9, x10, x11, x12, x13, x14, x15, x16, x17, x18, x19, x20, x21, x22, x23, x24, x25, x26, x27, x28, x29, x30, x31, x32, x33, x34, x35, x36, x37, x38, x39, x40, x41, x42, x43, x44, x45, x46, x47, x48, x49, x50, x51, x52, x53, x54, x55, x56, x57, x58, x59, x60, x61, x62, x63, x64, x65, x66, x67, x68, x69, x70, x71, x72, x73, x74, x75, x76, x77, x78, x79, x80, x81, x82, x83, x84, x85, x86, x87, x88, x89, x90, x91, x92, x93, x94, x95, x96, x97, x98, x99, x100, x101, x102, x103, x104, x105, x106, x107, x108, x109, x110, x111, x112, x113, x114], defers := [] } w2 := by
        intros
        refine aA _ _ ?_
        clear aA
        go_upto_region 5 with fail
        rename_i KB aB
        have BK : ∀ {x2 x3 x8 x9 x10 x11 x12 x13 x14 x15 x16 x17 x18 x19 x20 x21 x22 x23 x24 x25 x26 x27 x28 x29 x30 x31 x32 x33 x34 x35 x36 x37 x38 x39 x40 x41 x42 x43 x44 x45 x46 x47 x48 x49 x50 x51 x52 x53 x54 x55 x56 x57 x58 x59 x60 x61 x62 x63 x64 x65 x66 x67 x68 x69 x70 x71 x72 x73 x74 x75 x76 x77 x78 x79 x80 x81 x82 x83 x84 x85 x86 x87 x88 x89 x90 x91 x92 x93 x94 x95 x96 x97 x98 x99 x100 x101 x102 x103 x104 x105 x106 x107 x108 x109 x110 x111 x112 x113 x114 : Value}, KB { tmps := #[.pointer (some ⟨g, 0, none⟩), .int .u64 (n : Int), x2, x3, .bool false, .int .i64 (k : Int), .bool A, .bool B, x8, x9, x10, x11, x12, x13, x14, x15, x16, x17, x18, x19, x20, x21, x22, x23, x24, x25, x26, x27, x28, x29, x30, x31, x32, x33, x34, x35, x36, x37, x38, x39, x40, x41, x42, x43, x44, x45, x46, x47, x48, x49, x50, x51, x52, x53, x54, x55, x56, x57, x58, x59, x60, x61, x62, x63, x64, x65, x66, x67, x68, x69, x70, x71, x72, x73, x74, x75, x76, x77, x78, x79, x80, x81, x82, x83, x84, x85, x86, x87, x88, x89, x90, x91, x92, x93, x94, x95, x96, x97, x98, x99, x100, x101, x102, x103, x104, x105, x106, x107, x108, x109, x110, x111, x112, x113, x114], defers := [] } w2 := by
          intros
          refine aB _ _ ?_
          clear aB
          obtain ⟨rest, hr, K⟩ := HM
          have hkM : k ≤ (l ++ rest).length := by rw [List.length_append]; omega
          cases A <;> cases B
          · have ho1 : resS l fl n k false false = ((l.insertIdx k (n, n)).take 32, if l.length = 32 then (((l.insertIdx k (n, n)).take 32).getD 31 (0, 0)).1 else fl) := rfl
            have HR := Lib.hid ho1
            clear ho1
            by_cases hk2 : k < 32
            · have CI := insert_low g k fl n n _ l _ (Lib.hid rfl) (Lib.hid rfl) hkl hk2 w2 ⟨rest, hr, K⟩
              clear hr K hkM
              go_wp2_with fail
              refine CI.mono ?_
              rintro e w3 ⟨⟨u, rfl⟩, hM3, hG3⟩
              clear CI
              go_wp2
              go_ret
              rw [HR.out]
              exact ⟨rfl, hM3, G2.trans hG3⟩
            · have hk3 : k = 32 := by omega
              have hl3 : l.length = 32 := by omega
              have CI := insert_full g fl n n l (Lib.hid hl3) w2 ⟨rest, hr, K⟩
              have HK := Lib.hid hk3
              have HL := Lib.hid hl3
              clear hr K hkM hl3 hk2
              subst hk3
              go_wp2_with fail
              refine CI.mono ?_
              rintro e w3 ⟨⟨u, rfl⟩, hM3, hG3⟩
              clear CI
              go_wp2
              go_ret
              have e1 : (l.insertIdx 32 (n, n)).take 32 = l := by
                have e2 : l.insertIdx 32 (n, n) = l ++ [(n, n)] := by
                  have := List.insertIdx_length_self (l := l) (x := (n, n))
                  rw [HL.out] at this
                  exact this
                rw [e2, List.take_append_of_le_length (by rw [HL.out]; exact Nat.le_refl _), List.take_of_length_le (by rw [HL.out]; exact Nat.le_refl _)]
              rw [HR.out, e1, if_pos HL.out]
              exact ⟨rfl, hM3, G2.trans hG3⟩
          · have hb := HBh.out.symm
            simp only [Bool.and_eq_true, decide_eq_true_iff] at hb
            obtain ⟨hb0, hb1⟩ := hb
            have hkl2 : k < (l ++ rest).length := by rw [List.length_append]; omega
            have x1 : (k : Int) < 32 := by omega
            have x0 : (0 : Int) ≤ (k : Int) := by omega
            have c1 := row_hi K k hkl2
            have c2 := K.frozen (k * 2 + 1)
            have K2 := K.set (k * 2 + 1) (.int .u64 (n : Int))
            rw [seen_hi _ _ _ k n hkl2, List.set_append_left _ _ hb0, getD_left _ _ _ hb0] at K2
            have G3 := gb_cell G2 (k * 2 + 1) (.int .u64 (n : Int))
            have HR := Lib.hid (show resS l fl n k false true = (l.set k ((l.getD k (0, 0)).1, n), fl) from rfl)
            have R := Lib.hid (And.intro K2 G3)
            have HRR := Lib.hid hr
            clear K2 G3 K hr hb1 hkM
            go_wp2
            go_ret
            rw [HR.out]
            refine ⟨rfl, ⟨rest, by rw [List.length_append, List.length_set, ← List.length_append]; exact HRR.out, ?_⟩, R.out.2⟩
            rw [List.length_set]
            exact R.out.1
          · have hb := HAh.out.symm
            simp only [Bool.and_eq_true, decide_eq_true_iff] at hb
            obtain ⟨hb0, hb1⟩ := hb
            have hkl3 : k - 1 < l.length := by omega
            have hkl2 : k - 1 < (l ++ rest).length := by rw [List.length_append]; omega
            have x5 : ((k : Int) - 1).toNat = k - 1 := by omega
            have x1 : (k : Int) - 1 < 32 := by omega
            have x0 : (0 : Int) ≤ (k : Int) - 1 := by omega
            have wk : IntKind.i64.wrap ((k : Int) - 1) = (k : Int) - 1 := by simp [IntKind.wrap, IntKind.bits, IntKind.signed]; omega
            have c1 := row_lo K (k - 1) hkl2
            have c2 := K.frozen ((k - 1) * 2)
            have K2 := K.set ((k - 1) * 2) (.int .u64 (n : Int))
            rw [seen_lo _ _ _ (k - 1) n hkl2, List.set_append_left _ _ hkl3, getD_left _ _ _ hkl3] at K2
            have G3 := gb_cell G2 ((k - 1) * 2) (.int .u64 (n : Int))
            have HR := Lib.hid (show resS l fl n k true false = (l.set (k - 1) (n, (l.getD (k - 1) (0, 0)).2), fl) from rfl)
            have R := Lib.hid (And.intro K2 G3)
            have HRR := Lib.hid hr
            clear K2 G3 K hr hb1 hkM
            go_wp2
            go_ret
            rw [HR.out]
            refine ⟨rfl, ⟨rest, by rw [List.length_append, List.length_set, ← List.length_append]; exact HRR.out, ?_⟩, R.out.2⟩
            rw [List.length_set]
            exact R.out.1
          · have hb := HBh.out.symm
            simp only [Bool.and_eq_true, decide_eq_true_iff] at hb
            obtain ⟨hb0, _⟩ := hb
            have ha := HAh.out.symm
            simp only [Bool.and_eq_true, decide_eq_true_iff] at ha
            obtain ⟨ha0, _⟩ := ha
            have hkl3 : k - 1 < l.length := by omega
            have hkl2 : k - 1 < (l ++ rest).length := by rw [List.length_append]; omega
            have hkl4 : k < (l ++ rest).length := by rw [List.length_append]; omega
            have x5 : ((k : Int) - 1).toNat = k - 1 := by omega
            have x1 : (k : Int) - 1 < 32 := by omega
            have x0 : (0 : Int) ≤ (k : Int) - 1 := by omega
            have x6 : (k : Int) < 32 := by omega
            have x8 : ¬ (k : Int) < 1 := by omega
            have x7 : (0 : Int) ≤ (k : Int) := by omega
            have wk : IntKind.i64.wrap ((k : Int) - 1) = (k : Int) - 1 := by simp [IntKind.wrap, IntKind.bits, IntKind.signed]; omega
            have wk1 : IntKind.i64.wrap ((k : Int) + 1) = (k : Int) + 1 := by simp [IntKind.wrap, IntKind.bits, IntKind.signed]; omega
            have ez : ((l ++ rest).getD k (0, 0)).1 = (l.getD k (0, 0)).1 := by rw [getD_left _ _ _ hb0]
            have c0 := row_lo K.drew k hkl4
            rw [ez] at c0
            have HR := Lib.hid (show resS l fl n k true true = ((l.set (k - 1) ((l.getD k (0, 0)).1, (l.getD (k - 1) (0, 0)).2)).eraseIdx k, fl) from rfl)
            generalize (l.getD k (0, 0)).1 = z at *
            have c1 := row_lo K.drew (k - 1) hkl2
            have c2 := K.drew.frozen ((k - 1) * 2)
            have K2 := K.drew.set ((k - 1) * 2) (.int .u64 (z : Int))
            rw [seen_lo _ _ _ (k - 1) z hkl2, List.set_append_left _ _ hkl3, getD_left _ _ _ hkl3] at K2
            have G3 := gb_cell (gb_drew G2) ((k - 1) * 2) (.int .u64 (z : Int))
            have hl2 : (l.set (k - 1) (z, (l.getD (k - 1) (0, 0)).2)).length = l.length := List.length_set ..
            generalize l.set (k - 1) (z, (l.getD (k - 1) (0, 0)).2) = l2 at *
            have hr2 : (l2 ++ rest).length = 32 := by rw [List.length_append, hl2, ← List.length_append]; exact hr
            have hS2 : (fun w' : World => w'.cell? ⟨g, k * 2, none⟩ = some (.int .u64 (z : Int))) w2.drew := c0
            have hS3 : (fun w' : World => w'.cell? ⟨g, k * 2, none⟩ = some (.int .u64 (z : Int))) (w2.drew.setCell ⟨g, (k - 1) * 2, none⟩ (.int .u64 (z : Int))) := by
              show _ = _
              rw [World.cell?_setCell_other _ _ _ _ (by simp only [ne_eq, Addr.mk.injEq, true_and, and_true]; omega)]
              exact c0
            have R := Lib.hid (And.intro K2 G3)
            clear K2 G3 K G2 hkM hkl2 hkl4
            go_upto_region 7 with fail
            go_upto_region 8 with fail
            go_upto_region 8 with fail
            rename_i aK
            refine wp_region_S (S := fun w' => w'.cell? ⟨g, k * 2, none⟩ = some (.int .u64 (z : Int))) (by kernel_rfl) ?_
            refine wpAnyS_takeL 0 (v := .pointer (some ⟨g, 0, none⟩)) rfl (by kernel_rfl) (by kernel_rfl) (by kernel_rfl) (fun _ _ _ H => H) (yieldsIf_move rfl _ rfl (.pointer (some ⟨g, 0, none⟩)) rfl) hS2 ?_
            simp only [AP]
            refine wpAnyS_takeL 1 (v := .int .i64 (k : Int)) rfl (by kernel_rfl) (by kernel_rfl) (by kernel_rfl) (fun _ _ _ H => H) (yieldsIf_move rfl _ rfl (.int .i64 (k : Int)) rfl) hS2 ?_
            simp only [AP]
            refine wpAnyS_takeL 2 (v := .int .i64 ((k : Int) - 1)) rfl (by kernel_rfl) (by kernel_rfl) (by kernel_rfl) (fun _ _ _ H => H) (Or.inl ⟨by rfl, fun w' hw' => by (go_simp)⟩) hS2 ?_
            simp only [AP]
            refine wpAnyS_takeL 3 (v := .pointer (some ⟨g, 0, none⟩)) rfl (by kernel_rfl) (by kernel_rfl) (by kernel_rfl) (fun _ _ _ H => H) (yieldsIf_move rfl _ rfl (.pointer (some ⟨g, 0, none⟩)) rfl) hS2 ?_
            simp only [AP]
            refine wpAnyS_takeL 4 (v := .int .i64 (k : Int)) rfl (by kernel_rfl) (by kernel_rfl) (by kernel_rfl) (fun _ _ _ H => H) (yieldsIf_move rfl _ rfl (.int .i64 (k : Int)) rfl) hS2 ?_
            simp only [AP]
            refine wpAnyS_takeL 5 (v := .pointer (some ⟨g, 0, none⟩)) rfl (by kernel_rfl) (by kernel_rfl) (by kernel_rfl) (fun _ _ _ H => H) (Or.inl ⟨by rfl, fun w' hw' => by go_simp⟩) hS2 ?_
            simp only [AP]
            refine wpAnyS_takeL 6 (v := .pointer (some ⟨g, 0, none⟩)) rfl (by kernel_rfl) (by kernel_rfl) (by kernel_rfl) (fun _ _ _ H => H) (Or.inl ⟨by rfl, fun w' hw' => by go_simp⟩) hS2 ?_
            simp only [AP]
            refine wpAnyS_takeL 7 (v := .pointer (some ⟨g, k * 2, none⟩)) rfl (by kernel_rfl) (by kernel_rfl) (by kernel_rfl) (fun _ _ _ H => H) (Or.inl ⟨by rfl, fun w' hw' => by (go_simp)⟩) hS2 ?_
            simp only [AP]
            refine wpAnyS_takeL 8 (v := .pointer (some ⟨g, k * 2, none⟩)) rfl (by kernel_rfl) (by kernel_rfl) (by kernel_rfl) (fun _ _ _ H => H) (Or.inl ⟨by rfl, fun w' hw' => by go_simp⟩) hS2 ?_
            simp only [AP]
            refine wpAnyS_takeL 9 (v := .int .u64 (z : Int)) rfl (by kernel_rfl) (by kernel_rfl) (by kernel_rfl) (fun _ _ _ H => H) (Or.inl ⟨by rfl, fun w' hw' => by (go_simp)⟩) hS2 ?_
            simp only [AP]
            refine wpAnyS_takeL 10 (v := .pointer (some ⟨g, 0, none⟩)) rfl (by kernel_rfl) (by kernel_rfl) (by kernel_rfl) (fun _ _ _ H => H) (Or.inl ⟨by rfl, fun w' hw' => by go_simp⟩) hS2 ?_
            simp only [AP]
            refine wpAnyS_takeL 11 (v := .pointer (some ⟨g, 0, none⟩)) rfl (by kernel_rfl) (by kernel_rfl) (by kernel_rfl) (fun _ _ _ H => H) (Or.inl ⟨by rfl, fun w' hw' => by go_simp⟩) hS2 ?_
            simp only [AP]
            refine wpAnyS_takeL 12 (v := .pointer (some ⟨g, (k - 1) * 2, none⟩)) rfl (by kernel_rfl) (by kernel_rfl) (by kernel_rfl) (fun _ _ _ H => H) (Or.inl ⟨by rfl, fun w' hw' => by (go_simp)⟩) hS2 ?_
            simp only [AP]
            refine wpAnyS_takeL 13 (v := .pointer (some ⟨g, (k - 1) * 2, none⟩)) rfl (by kernel_rfl) (by kernel_rfl) (by kernel_rfl) (fun _ _ _ H => H) (Or.inl ⟨by rfl, fun w' hw' => by go_simp⟩) hS2 ?_
            simp only [AP]
            generalize w2.drew = wd at *
            refine gstep 14 rfl rfl (by kernel_rfl) ?_
            unfold Oper.wp execOp
            go_simp
            refine ⟨by kernel_rfl, ?_⟩
            show Exit.then _ _ _ _ _
            refine (by assumption : ∀ (a : Act) (w : World), _ → _) _ _ ?_
            clear hS2 hS3 c0 c1 c2
            generalize wd.setCell ⟨g, (k - 1) * 2, none⟩ (.int .u64 (z : Int)) = w3 at *
            have hlen := Lib.hid hl2
            have c3 := row_n R.out.1.drew hr2
            have hS4 : (fun w' : World => w'.cell? ⟨g, 64, none⟩ = some (.int .i64 (l.length : Int))) w3.drew := c3
            have CD := Lib.hid (delete_c g k fl l2 rest (by omega) w3.drew hr2 (by rw [hl2]; exact R.out.1.drew))
            have m0 : (l.length : Int) ≤ 32 := by omega
            have hkl5 : k < l.length := hb0
            have HRR := Lib.hid hr
            clear hl2 hr2 hr
            go_upto_region 9 with fail
            rename_i aK
            refine wp_region_Z (S := fun w' => w'.cell? ⟨g, 64, none⟩ = some (.int .i64 (l.length : Int))) 16 (by kernel_rfl) ?_
            refine wpAnyZ_takeL 0 (v := .pointer (some ⟨g, 0, none⟩)) rfl (by kernel_rfl) (by kernel_rfl) (by kernel_rfl) (by kernel_rfl) (by kernel_rfl) (fun _ _ _ H => H) (yieldsIf_move rfl _ rfl (.pointer (some ⟨g, 0, none⟩)) rfl) hS4 ?_
            simp only [AP]
            refine wpAnyZ_takeL 1 (v := .pointer (some ⟨g, 0, none⟩)) rfl (by kernel_rfl) (by kernel_rfl) (by kernel_rfl) (by kernel_rfl) (by kernel_rfl) (fun _ _ _ H => H) (yieldsIf_move rfl _ rfl (.pointer (some ⟨g, 0, none⟩)) rfl) hS4 ?_
            simp only [AP]
            refine wpAnyZ_takeL 2 (v := .pointer (some ⟨g, 0, none⟩)) rfl (by kernel_rfl) (by kernel_rfl) (by kernel_rfl) (by kernel_rfl) (by kernel_rfl) (fun _ _ _ H => H) (Or.inl ⟨by rfl, fun w' hw' => by go_simp⟩) hS4 ?_
            simp only [AP]
            refine wpAnyZ_takeL 3 (v := .pointer (some ⟨g, 0, none⟩)) rfl (by kernel_rfl) (by kernel_rfl) (by kernel_rfl) (by kernel_rfl) (by kernel_rfl) (fun _ _ _ H => H) (Or.inl ⟨by rfl, fun w' hw' => by go_simp⟩) hS4 ?_
            simp only [AP]
            refine wpAnyZ_takeL 4 (v := .pointer (some ⟨g, 0, none⟩)) rfl (by kernel_rfl) (by kernel_rfl) (by kernel_rfl) (by kernel_rfl) (by kernel_rfl) (fun _ _ _ H => H) (yieldsIf_move rfl _ rfl (.pointer (some ⟨g, 0, none⟩)) rfl) hS4 ?_
            simp only [AP]
            refine wpAnyZ_takeL 5 (v := .pointer (some ⟨g, 0, none⟩)) rfl (by kernel_rfl) (by kernel_rfl) (by kernel_rfl) (by kernel_rfl) (by kernel_rfl) (fun _ _ _ H => H) (Or.inl ⟨by rfl, fun w' hw' => by go_simp⟩) hS4 ?_
            simp only [AP]
            refine wpAnyZ_takeL 6 (v := .pointer (some ⟨g, 64, none⟩)) rfl (by kernel_rfl) (by kernel_rfl) (by kernel_rfl) (by kernel_rfl) (by kernel_rfl) (fun _ _ _ H => H) (Or.inl ⟨by rfl, fun w' hw' => by (go_simp)⟩) hS4 ?_
            simp only [AP]
            refine wpAnyZ_takeL 7 (v := .int .i64 (l.length : Int)) rfl (by kernel_rfl) (by kernel_rfl) (by kernel_rfl) (by kernel_rfl) (by kernel_rfl) (fun _ _ _ H => H) (Or.inl ⟨by rfl, fun w' hw' => by (go_simp)⟩) hS4 ?_
            simp only [AP]
            refine wpAnyZ_takeL 8 (v := .slice (some ⟨g, 0, none⟩) l.length 32) rfl (by kernel_rfl) (by kernel_rfl) (by kernel_rfl) (by kernel_rfl) (by kernel_rfl) (fun _ _ _ H => H) (Or.inl ⟨by rfl, fun w' hw' => by (go_simp)⟩) hS4 ?_
            simp only [AP]
            refine wpAnyZ_takeL 9 (v := .int .i64 (k : Int)) rfl (by kernel_rfl) (by kernel_rfl) (by kernel_rfl) (by kernel_rfl) (by kernel_rfl) (fun _ _ _ H => H) (yieldsIf_move rfl _ rfl (.int .i64 (k : Int)) rfl) hS4 ?_
            simp only [AP]
            refine wpAnyZ_takeL 10 (v := .int .i64 (k : Int)) rfl (by kernel_rfl) (by kernel_rfl) (by kernel_rfl) (by kernel_rfl) (by kernel_rfl) (fun _ _ _ H => H) (yieldsIf_move rfl _ rfl (.int .i64 (k : Int)) rfl) hS4 ?_
            simp only [AP]
            refine wpAnyZ_takeL 11 (v := .int .i64 ((k : Int) + 1)) rfl (by kernel_rfl) (by kernel_rfl) (by kernel_rfl) (by kernel_rfl) (by kernel_rfl) (fun _ _ _ H => H) (Or.inl ⟨by rfl, fun w' hw' => by (go_simp)⟩) hS4 ?_
            simp only [AP]
            refine hzstep 12 rfl (by kernel_rfl) rfl ?_
            unfold Oper.wp execOp
            go_simp
            have CD2 := CD.out
            rw [hlen.out] at CD2
            refine CD2.mono ?_
            rintro e w4 ⟨rfl, K4, G4⟩
            clear CD2 CD
            have he : (l2.eraseIdx k).length = l.length - 1 := by rw [List.length_eraseIdx, hlen.out, if_pos hkl5]
            have hM5 : (l2.eraseIdx k ++ (0, 0) :: rest).length = 32 := by
              have h1 := HRR.out
              rw [List.length_append] at h1 ⊢
              rw [he, List.length_cons]
              omega
            have c4 := row_n K4 hM5
            have f4 := K4.frozen 64
            have K5 := K4.set 64 (.int .i64 ((l.length - 1 : Nat) : Int))
            rw [seen_n _ _ _ _ hM5] at K5
            have G5 := gb_cell ((gb_drew R.out.2).trans G4) 64 (.int .i64 ((l.length - 1 : Nat) : Int))
            have R5 := Lib.hid (And.intro K5 G5)
            have HE := Lib.hid he
            have HM5 := Lib.hid hM5
            clear K5 G5 he hM5 K4 G4 R
            generalize hn1 : l.length - 1 = n1 at *
            have HN := Lib.hid hn1
            clear hn1
            refine ⟨c4, ?_⟩
            have hS5 : (fun w' : World => w'.cell? ⟨g, 64, none⟩ = some (.int .i64 (l.length : Int))) w4 := c4
            refine wpAnyZ_takeL 13 (v := .int .i64 (n1 : Int)) rfl (by kernel_rfl) (by kernel_rfl) (by kernel_rfl) (by kernel_rfl) (by kernel_rfl) (fun _ _ _ H => H) (Or.inl ⟨by rfl, fun w' hw' => by go_simp⟩) hS5 ?_
            simp only [AP]
            refine hzstep 14 rfl (by kernel_rfl) rfl ?_
            unfold Oper.wp execOp
            go_simp
            refine hzstep 15 rfl (by kernel_rfl) rfl ?_
            unfold Oper.wp execOp
            go_simp
            refine hzstep 16 rfl (by kernel_rfl) rfl ?_
            unfold Oper.wp execOp
            go_simp
            clear hS4 hS5 c3 c4 f4
            generalize w4.setCell ⟨g, 64, none⟩ (.int .i64 (n1 : Int)) = w5 at *
            refine wpAnyZ_done (by kernel_rfl) ?_ _
            refine (by assumption : ∀ (a : Act) (w : World), _ → _) _ _ ?_
            go_wp2
            go_ret
            rw [HR.out]
            refine ⟨rfl, ⟨(0, 0) :: rest, HM5.out, ?_⟩, R5.out.2⟩
            rw [HE.out]
            exact R5.out.1
        clear aB
        have hn := HM.num
        by_cases h2 : k < l.length
        · have x1 : (k : Int) < (l.length : Int) := by omega
          have x3 : (0 : Int) ≤ (k : Int) := by omega
          have x4 : (k : Int) < 32 := by omega
          have hh2 := HM.hi k h2
          have ht := hS.top (l.getD k (0, 0)) (by rw [getD_lt' _ _ _ h2]; exact List.getElem_mem _)
          have eB : B = ((((l.getD k (0, 0)).2 : Nat) : Int) + 1 == (n : Int)) := by
            rw [HBh.out, Bool.eq_iff_iff]
            simp only [h2, decide_true, Bool.true_and, decide_eq_true_iff, beq_iff_eq]
            omega
          rw [eB] at BK
          generalize (l.getD k (0, 0)).2 = z at *
          have wz : IntKind.u64.wrap ((z : Int) + 1) = (z : Int) + 1 := by simp [IntKind.wrap, IntKind.bits, IntKind.signed]; omega
          clear eB
          go_wp2
          exact BK
        · have x1 : ¬ (k : Int) < (l.length : Int) := by omega
          have eB : B = false := by rw [HBh.out]; simp [h2]
          rw [eB] at BK
          clear eB
          go_wp2
          exact BK
      clear aA
      have hn := HM.num
      rcases Nat.eq_zero_or_pos k with hk0 | hk0
      · have eA : A = false := by rw [HAh.out]; simp [hk0]
        rw [eA] at AK
        clear eA
        have x1 : ¬ (0 : Int) < (k : Int) := by omega
        clear hk0
        go_wp2
        exact AK
      · have hj : k - 1 < l.length := by omega
        have x1 : (0 : Int) < (k : Int) := by omega
        have x3 : (0 : Int) ≤ (k : Int) - 1 := by omega
        have x4 : (k : Int) - 1 < 32 := by omega
        have x5 : ((k : Int) - 1).toNat = k - 1 := by omega
        have wk : IntKind.i64.wrap ((k : Int) - 1) = (k : Int) - 1 := by simp [IntKind.wrap, IntKind.bits, IntKind.signed]; omega
        have hh2 := HM.lo (k - 1) hj
        have eA : A = ((((l.getD (k - 1) (0, 0)).1 : Nat) : Int) == (n : Int) + 1) := by
          rw [HAh.out, Bool.eq_iff_iff]
          simp only [hk0, decide_true, Bool.true_and, decide_eq_true_iff, beq_iff_eq]
          omega
        rw [eA] at AK
        generalize (l.getD (k - 1) (0, 0)).1 = z at *
        clear eA
        go_wp2
        exact AK
  · have m1 : (n : Int) > 4611686018427387903 := by omega
    have ho : okS l fl n = false := by unfold okS; simp [hm]
    have hp : putS l fl n = (l, fl) := by unfold putS; rw [ho]; rfl
    rw [ho, hp]
    clear ho hp CH
    go_enter Try.func10, Try.ntmps10
    go_wp2
    go_ret
    exact ⟨rfl, h, G0⟩
set_option maxHeartbeats 8000000 in
set_option maxRecDepth 100000 in
theorem put_nil (n : Nat) (W : World) : Calls Try.prog 10 #[.pointer none, .int .u64 (n : Int)] W fun e w' => e = .returned (.bool false) ∧ Below W.heap.size W w' := by
  go_enter Try.func10, Try.ntmps10
  go_wp2
  go_ret
  exact ⟨rfl, Below.refl _ _⟩
end Go.Proofs.Ytnahjmladhbmpaa
