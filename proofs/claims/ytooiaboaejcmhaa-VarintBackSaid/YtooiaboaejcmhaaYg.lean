/- The law VarintBack, by contract of Put and the Readers (printed by genyg.py). -/
import Derived.Test.YtooiaboaejcmhaaYe
import Derived.Test.YtooiaboaejcmhaaLo
namespace Go.Proofs.Ytooiaboaejcmhaa
open Go.RowKit

variable {R : Nat → World → Option Addr → List Nat → Nat → Prop}
def modW (l : List Nat) : List Nat := l.map fun n => n % 4611686018427387904
theorem modW_length (l : List Nat) : (modW l).length = l.length := List.length_map _
theorem modW_lt (l : List Nat) : ∀ n ∈ modW l, n < 4611686018427387904 := fun n h => by
  obtain ⟨m, _, rfl⟩ := List.mem_map.1 h
  exact Nat.mod_lt _ (by decide)
theorem modW_take (l : List Nat) (i : Nat) (h : i < l.length) : (modW l).take (i + 1) = (modW l).take i ++ [l[i] % 4611686018427387904] := by
  rw [List.take_add_one, List.getElem?_eq_getElem (by rw [modW_length]; exact h)]
  simp [modW]
theorem drop_get (m : List Nat) (i : Nat) (h : i < m.length) : m.drop i = m[i] :: m.drop (i + 1) := (List.getElem_cons_drop h).symm
def topsT : List Nat := [64, 16384, 16384, 1073741824, 1073741824, 1073741824, 1073741824]
def cntT (n : Nat) : Nat → Nat
  | 0 => 0
  | j + 1 => cntT n j + if topsT.getD j 0 ≤ n then 1 else 0
theorem cntT_all (n : Nat) : 1 + cntT n 7 = 2 ^ vtop n := by
  show 1 + (0 + (if 64 ≤ n then 1 else 0) + (if 16384 ≤ n then 1 else 0) + (if 16384 ≤ n then 1 else 0) + (if 1073741824 ≤ n then 1 else 0) + (if 1073741824 ≤ n then 1 else 0) + (if 1073741824 ≤ n then 1 else 0) + (if 1073741824 ≤ n then 1 else 0)) = _
  unfold vtop
  by_cases h0 : n < 64
  · rw [if_pos h0, if_neg (by omega), if_neg (by omega), if_neg (by omega)]
  · by_cases h1 : n < 16384
    · rw [if_neg h0, if_pos h1, if_pos (by omega), if_neg (by omega), if_neg (by omega)]
    · by_cases h2 : n < 1073741824
      · rw [if_neg h0, if_neg h1, if_pos h2, if_pos (by omega), if_pos (by omega), if_neg (by omega)]
      · rw [if_neg h0, if_neg h1, if_neg h2, if_pos (by omega), if_pos (by omega), if_pos (by omega)]
theorem cntT_le (n : Nat) : ∀ j, cntT n j ≤ j
  | 0 => Nat.le_refl _
  | j + 1 => by
    have := cntT_le n j
    show cntT n j + (if topsT.getD j 0 ≤ n then 1 else 0) ≤ _
    by_cases h : topsT.getD j 0 ≤ n
    · rw [if_pos h]; omega
    · rw [if_neg h]; omega
theorem vsize_take (m : List Nat) (i : Nat) (h : i < m.length) : vsize (m.take (i + 1)) = vsize (m.take i) + 2 ^ vtop m[i] := by
  rw [List.take_add_one, List.getElem?_eq_getElem h]
  show ((m.take i ++ [m[i]]).map fun n => 2 ^ vtop n).sum = _
  rw [List.map_append, List.sum_append]
  simp only [vsize, List.map_cons, List.map_nil, List.sum_cons, List.sum_nil, Nat.add_zero]
theorem vsize_le : ∀ m : List Nat, vsize m ≤ 8 * m.length
  | [] => Nat.le_refl _
  | n :: m => by
    have := vsize_le m
    have h8 : 2 ^ vtop n ≤ 2 ^ 3 := Nat.pow_le_pow_right (by decide) (vtop_le n)
    simp only [vsize, List.map_cons, List.sum_cons, List.length_cons] at this ⊢
    omega
theorem topsT_cell (W : World) (j : Nat) (hj : j < 7) : (W.alloc (.cells #[.int .u64 64, .int .u64 16384, .int .u64 16384, .int .u64 1073741824, .int .u64 1073741824, .int .u64 1073741824, .int .u64 1073741824] 31)).cell? ⟨W.heap.size, j, none⟩ = some (.int .u64 ((topsT.getD j 0 : Nat) : Int)) := by
  have K := Blk.new W 31 #[.int .u64 64, .int .u64 16384, .int .u64 16384, .int .u64 1073741824, .int .u64 1073741824, .int .u64 1073741824, .int .u64 1073741824]
  have e := Blk.cell K j
  rw [e]
  have : j = 0 ∨ j = 1 ∨ j = 2 ∨ j = 3 ∨ j = 4 ∨ j = 5 ∨ j = 6 := by omega
  rcases this with rfl | rfl | rfl | rfl | rfl | rfl | rfl <;> rfl
section
variable {P : Program} {md : Region.Mode} {ops : Array Oper} {Q : Exit → Act → World → Prop} {S : World → Prop}
theorem gstep (i : Nat) {oi : Oper} {fuel : Nat} {listed : Array Bool} {a : Act} {w : World} (hi : ops.toList[i]? = some oi) (hwd : Region.wanted oi (yielded ops a.tmps) = true) (hr : Region.ready md ops listed = [i])
    (h : oi.wp P a w (fun a' w' => S w' ∧ wpAnyS P md ops Q S fuel (listed.setIfInBounds i true) a' w') Q) : wpAnyS P md ops Q S (fuel + 1) listed a w := by
  refine wpAnyS_one hr ?_
  unfold wpOp
  rw [← Array.getElem?_toList, hi]
  simp only [hwd, if_true]
  left
  exact h
end
set_option maxHeartbeats 8000000 in
set_option maxRecDepth 100000 in
theorem back_c (PC : PutC) (RC : ReaderC R) (l : List Nat) (pl : Option Addr) (nl cl cut : Nat) (hcut : cut < 256) (w : World) (hl : SU w (.slice pl nl cl) l) :
    Calls Try.prog 4 #[.slice pl nl cl, .int .u8 (cut : Int)] w fun e w' => e = .returned (.bool true) ∧ Below w.heap.size w w' := by
  have AW := Lib.hid (vawake_c PC RC)
  have EL := Lib.hid hl.len.1
  go_enter Try.func4, Try.ntmps4
  go_wp2_with fail
  refine (AW.out _).mono ?_
  rintro _ w1 ⟨rfl, b1⟩
  clear AW
  by_cases h3 : 100 < nl
  · have h4 : (100 : Int) < (nl : Int) := by omega
    go_wp2
    go_ret
    exact ⟨rfl, b1⟩
  have h4 : ¬ (100 : Int) < (nl : Int) := by omega
  have C1 := Lib.hid (fun p c W h => PC [] (modW l) (some (vputs (modW l))) none p 0 nl 0 c (fun _ h => by cases h) (fun x hx => by have := modW_lt l x hx; omega) (by decide) (by omega) (by rw [putO_some (modW_lt l)]; rfl) W (SB.nil _ _ _) h)
  replace RC := Lib.hid RC
  have HL := Lib.hid hl
  have B1 := Lib.hid b1
  clear PC hl
  go_upto_region 7 with fail
  clear h4
  go_loopw [5, 23] (fun v t wr => ∃ i : Nat, i ≤ nl ∧ t = .int .i64 (i : Int) ∧ OwU w.heap.size wr v ((modW l).take i) ∧ Below w.heap.size w wr) (fun _ t _ => (nl - intOf t).toNat)
  case atStart => exact ⟨0, by omega, rfl, OwU.nil _ _, b1⟩
  case round =>
    obtain ⟨i, hi, rfl, hO, hB⟩ := hrel
    by_cases hin : i = nl
    · have e : (modW l).take i = modW l := List.take_of_length_le (by rw [modW_length, hin, EL.out]; exact Nat.le_refl _)
      rw [e] at hO
      clear e
      subst i
      clear hi b1 B1 HL
      have LM := Lib.hid (modW_length l)
      obtain ⟨p5, c5, hv⟩ := hO.shape
      rw [modW_length, ← EL.out] at hv
      subst hv
      have n100 : nl ≤ 100 := by omega
      have ML := Lib.hid (modW_lt l)
      rw [← EL.out] at LM
      clear EL
      generalize modW l = m at *
      go_upto_region 11 with fail
      rename_i aK
      refine wp_region_seq ?_
      refine wpSeq_yield (S := fun _ => True) (yieldsIf_move rfl _ rfl (.slice p5 nl c5) rfl) trivial ?_
      simp only [Act.put, List.setIfInBounds_toArray, List.set_cons_zero, List.set_cons_succ]
      refine wpSeq_wp rfl ?_
      unfold Oper.wp execOp
      go_simp
      refine (C1.out _ _ _ hO.su).mono ?_
      rintro _ w2 ⟨v2, rfl, O2, b2⟩
      replace O2 : OwL _ w2 v2 (vputs m) := O2
      replace hO := hO.below b2
      replace hB := hB.trans (b2.mono hB.size)
      obtain ⟨p2, c2, hv⟩ := O2.shape
      obtain ⟨nb, hnb⟩ : ∃ nb, nb = (vputs m).length := ⟨_, rfl⟩
      rw [← hnb] at hv
      subst hv
      have HNB := Lib.hid hnb
      clear hnb
      go_simp
      refine wpSeq_yield (S := fun _ => True) (yieldsIf_move rfl _ rfl (.tuple #[.slice p2 nb c2, .int .i64 0]) rfl) trivial ?_
      simp only [Act.put, List.setIfInBounds_toArray, List.set_cons_zero, List.set_cons_succ]
      refine wpSeq_yield (S := fun _ => True) (v := .slice p2 nb c2) (Or.inl ⟨by rfl, fun w' hw' => by go_simp⟩) trivial ?_
      simp only [Act.put, List.setIfInBounds_toArray, List.set_cons_zero, List.set_cons_succ]
      refine wpSeq_yield (S := fun _ => True) (v := .int .i64 0) (Or.inl ⟨by rfl, fun w' hw' => by go_simp⟩) trivial ?_
      simp only [Act.put, List.setIfInBounds_toArray, List.set_cons_zero, List.set_cons_succ]
      refine wpSeq_yield (S := fun _ => True) (yieldsIf_assign rfl _ rfl (.slice p2 nb c2) rfl) trivial ?_
      simp only [Act.put, List.setIfInBounds_toArray, List.set_cons_zero, List.set_cons_succ]
      refine wpSeq_yield (S := fun _ => True) (yieldsIf_assign rfl _ rfl (.int .i64 0) rfl) trivial ?_
      simp only [Act.put, List.setIfInBounds_toArray, List.set_cons_zero, List.set_cons_succ]
      refine wpSeq_nil ?_
      refine aK _ _ ?_
      clear aK b2 C1
      have hnb8 : nb ≤ 800 := by rw [HNB.out, vputs_length]; have := vsize_le m; have := LM.out; omega
      have s2 := O2.sb
      clear O2
      have CN := Lib.hid (RC.out.new (vputs m) p2 nb c2 (vputs_bytes _ ML.out) (by omega) _ s2)
      go_wp2_with fail
      refine CN.out.mono ?_
      rintro _ w3 ⟨q, rfl, HR, b3⟩
      clear CN
      go_upto_region 15 with fail
      have hO2 := hO
      have hSz := hB.size
      clear hO
      go_loopw [11, 42] (fun v t wr => ∃ i : Nat, i ≤ nl ∧ t = .int .i64 (i : Int) ∧ v = .int .i64 ((vsize (m.take i) : Nat) : Int) ∧ R w2.heap.size wr q (vputs (m.drop i)) 0 ∧ Below w2.heap.size w2 wr) (fun _ t _ => (nl - intOf t).toNat)
      case atStart => exact ⟨0, by omega, rfl, rfl, HR, b3⟩
      case round =>
        clear HR b3
        obtain ⟨i, hi, rfl, rfl, HR, b3⟩ := hrel
        by_cases hin : i = nl
        · subst i
          have e1 : m.drop nl = [] := List.drop_eq_nil_of_le (by rw [LM.out]; exact Nat.le_refl _)
          have e2 : m.take nl = m := List.take_of_length_le (by rw [LM.out]; exact Nat.le_refl _)
          rw [e1] at HR
          rw [e2, ← vputs_length, ← HNB.out]
          replace HR : R w2.heap.size wr q [] 0 := HR
          have F := RC.out.fin w2.heap.size q [] 0
          rw [if_neg (fun h => h.1 rfl)] at F
          replace F := Lib.hid F
          clear e1 e2 hi
          go_upto_region 27 with fail
          rename_i aK
          refine wp_region_seq ?_
          refine wpSeq_yield (S := fun _ => True) (yieldsIf_move rfl _ rfl (.int .i64 0) rfl) trivial ?_
          simp only [Act.put, List.setIfInBounds_toArray, List.set_cons_zero, List.set_cons_succ]
          refine wpSeq_yield (S := fun _ => True) (v := .bool false) (Or.inl ⟨by rfl, fun w' hw' => by go_simp⟩) trivial ?_
          simp only [Act.put, List.setIfInBounds_toArray, List.set_cons_zero, List.set_cons_succ]
          refine wpSeq_yield (S := fun _ => True) (yieldsIf_move rfl _ rfl (.bool false) rfl) trivial ?_
          simp only [Act.put, List.setIfInBounds_toArray, List.set_cons_zero, List.set_cons_succ]
          refine wpSeq_yield (S := fun _ => True) (yieldsIf_move rfl _ rfl (.pointer q) rfl) trivial ?_
          simp only [Act.put, List.setIfInBounds_toArray, List.set_cons_zero, List.set_cons_succ]
          refine wpSeq_wp rfl ?_
          unfold Oper.wp execOp
          go_simp
          refine (F.out _ HR b3.size).mono ?_
          rintro _ w4 ⟨rfl, _, b4⟩
          replace b3 := b3.trans b4
          clear b4 F HR
          go_simp
          refine wpSeq_yield (S := fun _ => True) (v := .bool false) (Or.inl ⟨by rfl, fun w' hw' => by go_simp⟩) trivial ?_
          simp only [Act.put, List.setIfInBounds_toArray, List.set_cons_zero, List.set_cons_succ]
          refine wpSeq_yield (S := fun _ => True) (yieldsIf_pick rfl _ _ _ rfl false rfl (.bool false) rfl) trivial ?_
          simp only [Act.put, List.setIfInBounds_toArray, List.set_cons_zero, List.set_cons_succ]
          refine wpSeq_yield (S := fun _ => True) (yieldsIf_move rfl _ rfl (.bool false) rfl) trivial ?_
          simp only [Act.put, List.setIfInBounds_toArray, List.set_cons_zero, List.set_cons_succ]
          refine wpSeq_yield (S := fun _ => True) (yieldsIf_move rfl _ rfl (.int .i64 (nb : Int)) rfl) trivial ?_
          simp only [Act.put, List.setIfInBounds_toArray, List.set_cons_zero, List.set_cons_succ]
          refine wpSeq_yield (S := fun _ => True) (yieldsIf_move rfl _ rfl (.slice p2 nb c2) rfl) trivial ?_
          simp only [Act.put, List.setIfInBounds_toArray, List.set_cons_zero, List.set_cons_succ]
          refine wpSeq_yield (S := fun _ => True) (v := .int .i64 (nb : Int)) (Or.inl ⟨by rfl, fun w' hw' => by go_simp⟩) trivial ?_
          simp only [Act.put, List.setIfInBounds_toArray, List.set_cons_zero, List.set_cons_succ]
          refine wpSeq_yield (S := fun _ => True) (v := .bool false) (Or.inl ⟨by rfl, fun w' hw' => by go_simp⟩) trivial ?_
          simp only [Act.put, List.setIfInBounds_toArray, List.set_cons_zero, List.set_cons_succ]
          refine wpSeq_yield (S := fun _ => True) (yieldsIf_pick rfl _ _ _ rfl false rfl (.bool false) rfl) trivial ?_
          simp only [Act.put, List.setIfInBounds_toArray, List.set_cons_zero, List.set_cons_succ]
          refine wpSeq_nil ?_
          refine aK _ _ ?_
          clear aK
          by_cases z : nb = 0
          · have z1 : (nb : Int) = 0 := by omega
            clear HNB
            go_wp2
            go_ret
            exact ⟨rfl, hB.trans (b3.mono hSz)⟩
          have z1 : ¬ (nb : Int) = 0 := by omega
          replace s2 := s2.below b3
          replace hB := hB.trans (b3.mono hSz)
          clear b3 hSz hO2
          have d1 : IntKind.i64.wrap ((nb : Int) - 1) = ((nb - 1 : Nat) : Int) := by rw [IntKind.wrap_i64]; omega
          have nbc : nb ≤ c2 := by have := s2.len; omega
          obtain ⟨L, hL⟩ : ∃ L, (vputs m).take (nb - 1) = L := ⟨_, rfl⟩
          have A3 : (afterS m L 0).2 = 3 := by
            rw [← hL]
            cases m with
            | nil => exact absurd HNB.out z
            | cons n ns => rw [HNB.out]; exact afterS_short ns n ML.out
          have sL := s2.head (nb - 1) (by omega)
          rw [hL] at sL
          have LB : ∀ x ∈ L, x < 256 := fun x hx => vputs_bytes m ML.out x (List.mem_of_mem_take (hL ▸ hx))
          clear hL
          replace A3 := Lib.hid A3
          have C2 := Lib.hid (RC.out.new L p2 (nb - 1) c2 LB (by omega))
          clear LB
          have VB := Lib.hid (vputs_bytes m ML.out)
          go_upto_region 31 with fail
          rename_i aK
          refine wp_region_seq ?_
          refine wpSeq_yield (S := fun _ => True) (yieldsIf_move rfl _ rfl (.slice p2 nb c2) rfl) trivial ?_
          simp only [Act.put, List.setIfInBounds_toArray, List.set_cons_zero, List.set_cons_succ]
          refine wpSeq_yield (S := fun _ => True) (yieldsIf_move rfl _ rfl (.slice p2 nb c2) rfl) trivial ?_
          simp only [Act.put, List.setIfInBounds_toArray, List.set_cons_zero, List.set_cons_succ]
          refine wpSeq_yield (S := fun _ => True) (v := .int .i64 (nb : Int)) (Or.inl ⟨by rfl, fun w' hw' => by go_simp⟩) trivial ?_
          simp only [Act.put, List.setIfInBounds_toArray, List.set_cons_zero, List.set_cons_succ]
          refine wpSeq_yield (S := fun _ => True) (v := .int .i64 ((nb - 1 : Nat) : Int)) (Or.inl ⟨by rfl, fun w' hw' => by go_simp⟩) trivial ?_
          simp only [Act.put, List.setIfInBounds_toArray, List.set_cons_zero, List.set_cons_succ]
          refine wpSeq_yield (S := fun _ => True) (yieldsIf_head rfl _ _ rfl p2 nb c2 (nb - 1) rfl rfl (by omega)) trivial ?_
          simp only [Act.put, List.setIfInBounds_toArray, List.set_cons_zero, List.set_cons_succ]
          refine wpSeq_wp rfl ?_
          unfold Oper.wp execOp
          go_simp
          refine (C2.out _ sL).mono ?_
          rintro _ w5 ⟨q2, rfl, HR, b5⟩
          go_simp
          refine wpSeq_yield (S := fun _ => True) (yieldsIf_assign rfl _ rfl (.pointer q2) rfl) trivial ?_
          simp only [Act.put, List.setIfInBounds_toArray, List.set_cons_zero, List.set_cons_succ]
          refine wpSeq_nil ?_
          refine aK _ _ ?_
          clear aK C2 sL d1
          have hSz := hB.size
          go_upto_region 33 with fail
          go_loopw [89] (fun t wr => ∃ i : Nat, i ≤ nl ∧ t = .int .i64 (i : Int) ∧ (∃ l' c', R w4.heap.size wr q2 l' c' ∧ (afterS (m.drop i) l' c').2 = 3) ∧ Below w4.heap.size w4 wr) (fun t _ => (nl - intOf t).toNat)
          case atStart => exact ⟨0, by omega, rfl, ⟨L, 0, HR, A3.out⟩, b5⟩
          case round =>
            clear HR b5 A3
            obtain ⟨i, hi, rfl, ⟨l', c', HR, AF⟩, b5⟩ := hrel
            by_cases hin : i = nl
            · subst i
              have e1 : m.drop nl = [] := List.drop_eq_nil_of_le (by rw [LM.out]; exact Nat.le_refl _)
              rw [e1] at AF
              replace AF : c' = 3 := AF
              subst AF
              clear e1 hi
              obtain ⟨k, hk⟩ : ∃ k, cut % nb = k := ⟨_, rfl⟩
              have kn : k < nb := by rw [← hk]; exact Nat.mod_lt _ (by omega)
              have tm : ((cut : Nat) : Int).tmod (nb : Int) = (k : Int) := by rw [← hk]; exact (Int.ofNat_tmod cut nb).symm
              have wk : IntKind.i64.wrap (k : Int) = (k : Int) := by rw [IntKind.wrap_i64]; omega
              have wc : IntKind.i64.wrap ((cut : Nat) : Int) = (cut : Int) := by rw [IntKind.wrap_i64]; omega
              replace hB := hB.trans (b5.mono hSz)
              have CL := Lib.hid (RC.out.new ((vputs m).take k) p2 k c2 (fun x hx => VB.out x (List.mem_of_mem_take hx)) (by omega))
              have CF := Lib.hid (RC.out.left)
              have LK : ((vputs m).take k).length = k := by rw [List.length_take, ← HNB.out]; omega
              generalize hLk : (vputs m).take k = Lk at *
              go_upto_region 36 with fail
              rename_i aK
              refine wp_region_S (S := fun _ => True) (by kernel_rfl) ?_
              have HV := RC.out.below HR (below_drew (Below.refl _ _))
              replace hB := below_drew hB
              replace b5 := below_drew b5
              clear HR
              generalize wr.drew = V at *
              have CC := Lib.hid (RC.out.code w4.heap.size q2 l' 3 V HV b5.size)
              have hSv := b5.size
              clear HV RC ML VB HNB
              refine wpAnyS_takeL 0 rfl (by kernel_rfl) (by kernel_rfl) (by kernel_rfl) (fun _ _ _ H => H) (yieldsIf_move rfl _ rfl (.pointer q2) rfl) trivial ?_
              simp only [Act.put, List.setIfInBounds_toArray, List.set_cons_zero, List.set_cons_succ]
              refine gstep 1 rfl rfl (by kernel_rfl) ?_
              unfold Oper.wp execOp
              go_simp
              refine CC.out.mono ?_
              rintro _ w7 ⟨rfl, _, b7⟩
              replace hB := hB.trans (b7.mono hSz)
              replace b5 := b5.trans b7
              have sK := (s2.below b5).head k (by omega)
              rw [hLk] at sK
              clear CC
              refine wpAnyS_takeL 2 (v := .bool true) rfl (by kernel_rfl) (by kernel_rfl) (by kernel_rfl) (fun _ _ _ H => H) (Or.inl ⟨by rfl, fun w' hw' => by go_simp⟩) trivial ?_
              simp only [Act.put, List.setIfInBounds_toArray, List.set_cons_zero, List.set_cons_succ]
              refine wpAnyS_takeL 3 rfl (by kernel_rfl) (by kernel_rfl) (by kernel_rfl) (fun _ _ _ H => H) (yieldsIf_move rfl _ rfl (.bool true) rfl) trivial ?_
              simp only [Act.put, List.setIfInBounds_toArray, List.set_cons_zero, List.set_cons_succ]
              refine wpAnyS_takeL 4 rfl (by kernel_rfl) (by kernel_rfl) (by kernel_rfl) (fun _ _ _ H => H) (yieldsIf_move rfl _ rfl (.slice p2 nb c2) rfl) trivial ?_
              simp only [Act.put, List.setIfInBounds_toArray, List.set_cons_zero, List.set_cons_succ]
              refine wpAnyS_takeL 5 rfl (by kernel_rfl) (by kernel_rfl) (by kernel_rfl) (fun _ _ _ H => H) (yieldsIf_move rfl _ rfl (.int .u8 (cut : Int)) rfl) trivial ?_
              simp only [Act.put, List.setIfInBounds_toArray, List.set_cons_zero, List.set_cons_succ]
              refine wpAnyS_takeL 6 (v := .int .i64 (cut : Int)) rfl (by kernel_rfl) (by kernel_rfl) (by kernel_rfl) (fun _ _ _ H => H) (Or.inl ⟨by rfl, fun w' hw' => by go_simp⟩) trivial ?_
              simp only [Act.put, List.setIfInBounds_toArray, List.set_cons_zero, List.set_cons_succ]
              refine wpAnyS_takeL 7 rfl (by kernel_rfl) (by kernel_rfl) (by kernel_rfl) (fun _ _ _ H => H) (yieldsIf_move rfl _ rfl (.slice p2 nb c2) rfl) trivial ?_
              simp only [Act.put, List.setIfInBounds_toArray, List.set_cons_zero, List.set_cons_succ]
              refine wpAnyS_takeL 8 (v := .int .i64 (nb : Int)) rfl (by kernel_rfl) (by kernel_rfl) (by kernel_rfl) (fun _ _ _ H => H) (Or.inl ⟨by rfl, fun w' hw' => by go_simp⟩) trivial ?_
              simp only [Act.put, List.setIfInBounds_toArray, List.set_cons_zero, List.set_cons_succ]
              refine wpAnyS_takeL 9 (v := .int .i64 (k : Int)) rfl (by kernel_rfl) (by kernel_rfl) (by kernel_rfl) (fun _ _ _ H => H) (Or.inl ⟨by rfl, fun w' hw' => by go_simp⟩) trivial ?_
              simp only [Act.put, List.setIfInBounds_toArray, List.set_cons_zero, List.set_cons_succ]
              refine wpAnyS_takeL 10 rfl (by kernel_rfl) (by kernel_rfl) (by kernel_rfl) (fun _ _ _ H => H) (yieldsIf_head rfl _ _ rfl p2 nb c2 k rfl rfl (by omega)) trivial ?_
              simp only [Act.put, List.setIfInBounds_toArray, List.set_cons_zero, List.set_cons_succ]
              refine wpAnyS_takeL 13 rfl (by kernel_rfl) (by kernel_rfl) (by kernel_rfl) (fun _ _ _ H => H) (yieldsIf_move rfl _ rfl (.int .u8 (cut : Int)) rfl) trivial ?_
              simp only [Act.put, List.setIfInBounds_toArray, List.set_cons_zero, List.set_cons_succ]
              refine wpAnyS_takeL 14 (v := .int .i64 (cut : Int)) rfl (by kernel_rfl) (by kernel_rfl) (by kernel_rfl) (fun _ _ _ H => H) (Or.inl ⟨by rfl, fun w' hw' => by go_simp⟩) trivial ?_
              simp only [Act.put, List.setIfInBounds_toArray, List.set_cons_zero, List.set_cons_succ]
              refine wpAnyS_takeL 15 rfl (by kernel_rfl) (by kernel_rfl) (by kernel_rfl) (fun _ _ _ H => H) (yieldsIf_move rfl _ rfl (.slice p2 nb c2) rfl) trivial ?_
              simp only [Act.put, List.setIfInBounds_toArray, List.set_cons_zero, List.set_cons_succ]
              refine wpAnyS_takeL 16 (v := .int .i64 (nb : Int)) rfl (by kernel_rfl) (by kernel_rfl) (by kernel_rfl) (fun _ _ _ H => H) (Or.inl ⟨by rfl, fun w' hw' => by go_simp⟩) trivial ?_
              simp only [Act.put, List.setIfInBounds_toArray, List.set_cons_zero, List.set_cons_succ]
              refine wpAnyS_takeL 17 (v := .int .i64 (k : Int)) rfl (by kernel_rfl) (by kernel_rfl) (by kernel_rfl) (fun _ _ _ H => H) (Or.inl ⟨by rfl, fun w' hw' => by go_simp⟩) trivial ?_
              simp only [Act.put, List.setIfInBounds_toArray, List.set_cons_zero, List.set_cons_succ]
              refine gstep 11 rfl rfl (by kernel_rfl) ?_
              unfold Oper.wp execOp
              go_simp
              refine (CL.out _ sK).mono ?_
              rintro _ w8 ⟨q3, rfl, H8, b8⟩
              refine gstep 12 rfl rfl (by kernel_rfl) ?_
              unfold Oper.wp execOp
              go_simp
              refine (CF.out _ _ _ _ _ H8 b8.size).mono ?_
              rintro _ w9 ⟨rfl, _, b9⟩
              have B9 := hB.trans ((b8.trans (b9)).mono hB.size)
              clear H8 b8 b9 hB s2 sK b5
              rw [LK]
              refine wpAnyS_takeL 18 (v := .bool true) rfl (by kernel_rfl) (by kernel_rfl) (by kernel_rfl) (fun _ _ _ H => H) (Or.inl ⟨by rfl, fun w' hw' => by go_simp⟩) trivial ?_
              simp only [Act.put, List.setIfInBounds_toArray, List.set_cons_zero, List.set_cons_succ]
              refine wpAnyS_takeL 19 rfl (by kernel_rfl) (by kernel_rfl) (by kernel_rfl) (fun _ _ _ H => H) (yieldsIf_pick rfl _ _ _ rfl true rfl (.bool true) rfl) trivial ?_
              simp only [Act.put, List.setIfInBounds_toArray, List.set_cons_zero, List.set_cons_succ]
              refine wpAnyS_takeL 20 rfl (by kernel_rfl) (by kernel_rfl) (by kernel_rfl) (fun _ _ _ H => H) (yieldsIf_assign rfl _ rfl (.bool true) rfl) trivial ?_
              simp only [Act.put, List.setIfInBounds_toArray, List.set_cons_zero, List.set_cons_succ]
              refine wpAnyS_done (by kernel_rfl) ?_ _
              refine aK _ _ ?_
              clear aK
              go_wp2
              go_ret
              exact ⟨rfl, B9⟩
            · have i1 : (i : Int) < (nl : Int) := by omega
              have i0 : (0 : Int) ≤ (i : Int) := by omega
              rw [drop_get m i (by rw [LM.out]; omega)] at AF
              replace AF := Lib.hid AF
              have RN := Lib.hid (RC.out.num w4.heap.size q2 l' c' wr HR b5.size)
              clear RC HR HNB
              go_wp2_with fail
              refine RN.out.mono ?_
              rintro _ w6 ⟨rfl, HR6, b6⟩
              replace b5 := b5.trans b6
              clear b6 RN
              go_wp2
              exact ⟨⟨i + 1, by omega, rfl, ⟨_, _, HR6, AF.out⟩, b5⟩, by simp only [intOf]; omega⟩
        · have i1 : (i : Int) < (nl : Int) := by omega
          have i0 : (0 : Int) ≤ (i : Int) := by omega
          have il : i < m.length := by rw [LM.out]; omega
          obtain ⟨g, rfl, hA⟩ : ∃ g, p5 = some ⟨g, 0, none⟩ ∧ UA w2 g 0 m := by
            rcases hO2.row with ⟨h0, _⟩ | ⟨g, c, h0, _, _, _, hA⟩
            · injection h0 with _ h0 _
              omega
            · injection h0 with h0 _ _
              exact ⟨g, h0, hA⟩
          have cx := (hA.below b3).cell i il
          rw [Nat.zero_add] at cx
          have EV := Lib.hid (vsize_take m i il)
          have x62 := ML.out _ (List.getElem_mem il)
          have RN := RC.out.num w2.heap.size q (vput m[i] ++ vputs (m.drop (i + 1))) 0
          rw [numS_put _ x62] at RN
          replace RN := Lib.hid RN
          rw [drop_get m i il, vputs_cons] at HR
          replace HR := Lib.hid HR
          have s8 : vsize (m.take i) ≤ 800 := by
            have := vsize_le (m.take i)
            rw [List.length_take] at this
            omega
          clear hA
          generalize m[i] = x at *
          obtain ⟨s, hs⟩ : ∃ s, vsize (m.take i) = s := ⟨_, rfl⟩
          rw [hs] at EV s8 ⊢
          clear hs
          go_upto_region 19 with fail
          have hR := Lib.hid (HR.out)
          clear HR
          have b5 := (b3.alloc (by exact b3.size) (.cells #[.int .u64 64, .int .u64 16384, .int .u64 16384, .int .u64 1073741824, .int .u64 1073741824, .int .u64 1073741824, .int .u64 1073741824] 31))
          have bW := (Below.refl wr.heap.size wr).alloc (Nat.le_refl _) (.cells #[.int .u64 64, .int .u64 16384, .int .u64 16384, .int .u64 1073741824, .int .u64 1073741824, .int .u64 1073741824, .int .u64 1073741824] 31)
          have cT := topsT_cell wr
          have R5 := Lib.hid (RC.out.below hR.out bW)
          clear hR bW b3 RC
          generalize wr.alloc (.cells #[.int .u64 64, .int .u64 16384, .int .u64 16384, .int .u64 1073741824, .int .u64 1073741824, .int .u64 1073741824, .int .u64 1073741824] 31) = W5 at *
          generalize wr.heap.size = g5 at *
          go_loopw [11, 50] (fun v t wr => ∃ j : Nat, j ≤ 7 ∧ t = .int .i64 (j : Int) ∧ v = .int .i64 ((s : Int) + 1 + (cntT x j : Int)) ∧ wr = W5) (fun _ t _ => (7 - intOf t).toNat)
          case atStart => exact ⟨0, by omega, rfl, by show Value.int .i64 _ = Value.int .i64 ((s : Int) + 1 + 0); rw [Int.add_zero], rfl⟩
          case round =>
            obtain ⟨j, hj, rfl, rfl, hr⟩ := hrel
            subst hr
            by_cases hj7 : j = 7
            · subst j
              have E7 := EV.out
              rw [← cntT_all] at E7
              replace E7 := Lib.hid E7
              clear EV cT cx
              generalize cntT x 7 = c7 at *
              go_wp2_with fail
              refine (RN.out _ R5.out b5.size).mono ?_
              rintro _ w6 ⟨rfl, HR6, b6⟩
              replace b5 := b5.trans b6
              clear b6 RN R5
              go_wp2
              exact ⟨⟨i + 1, by omega, rfl, by rw [E7.out]; congr 1; omega, HR6, b5⟩, by simp only [intOf]; omega⟩
            · have j1 : (j : Int) < 7 := by omega
              have j0 : (0 : Int) ≤ (j : Int) := by omega
              have cj := cT j (by omega)
              have cl := cntT_le x j
              have CS : cntT x (j + 1) = cntT x j + if topsT.getD j 0 ≤ x then 1 else 0 := rfl
              replace CS := Lib.hid CS
              clear cT R5 RN cx EV
              generalize topsT.getD j 0 = T at *
              generalize hc : cntT x j = c at *
              clear hc
              by_cases hT : T ≤ x
              · have t1 : (T : Int) ≤ (x : Int) := by omega
                have CE : ((cntT x (j + 1) : Nat) : Int) = (c : Int) + 1 := by rw [CS.out, if_pos hT]; rfl
                replace CE := Lib.hid CE
                clear CS hT
                go_wp2
                exact ⟨⟨j + 1, by omega, rfl, by rw [CE.out]; first | rfl | (congr 1; omega), by trivial⟩, by simp only [intOf]; omega⟩
              · have t1 : ¬ (T : Int) ≤ (x : Int) := by omega
                have CE : ((cntT x (j + 1) : Nat) : Int) = (c : Int) := by rw [CS.out, if_neg hT]; rfl
                replace CE := Lib.hid CE
                clear CS hT
                go_wp2
                exact ⟨⟨j + 1, by omega, rfl, by rw [CE.out], by trivial⟩, by simp only [intOf]; omega⟩
    · have i1 : (i : Int) < (nl : Int) := by omega
      have i0 : (0 : Int) ≤ (i : Int) := by omega
      have il : i < l.length := by rw [← EL.out]; omega
      obtain ⟨g, o, rfl, hA⟩ : ∃ g o, pl = some ⟨g, o, none⟩ ∧ UA w g o l := by
        rcases HL.out.at_ with h0 | h0
        · omega
        · exact h0
      have cx := (hA.below hB).cell i il
      have EV := Lib.hid (modW_take l i il)
      clear hA C1 HL B1 RC b1
      generalize l[i] = x at *
      go_upto_region 9 with fail
      rename_i aK
      refine wp_region_seq ?_
      refine wpSeq_yield (S := fun _ => True) (yieldsIf_move rfl _ rfl (u5) rfl) trivial ?_
      simp only [Act.put, List.setIfInBounds_toArray, List.set_cons_zero, List.set_cons_succ]
      refine wpSeq_yield (S := fun _ => True) (yieldsIf_move rfl _ rfl (.int .u64 (x : Int)) rfl) trivial ?_
      simp only [Act.put, List.setIfInBounds_toArray, List.set_cons_zero, List.set_cons_succ]
      refine wpSeq_yield (S := fun _ => True) (v := .int .u64 ((x % 4611686018427387904 : Nat) : Int)) (Or.inl ⟨by rfl, fun w' hw' => by go_simp; exact Int.tmod_eq_emod_of_nonneg (by omega)⟩) trivial ?_
      simp only [Act.put, List.setIfInBounds_toArray, List.set_cons_zero, List.set_cons_succ]
      refine wpSeq_wp rfl (wp_build_word _ rfl _ rfl ?_)
      simp only [Act.put, List.setIfInBounds_toArray, List.set_cons_zero, List.set_cons_succ]
      obtain ⟨v', w', h1, h2, h3⟩ := append_word w.heap.size w _ 23 u5 _ (x % 4611686018427387904) hO (by rw [List.length_take, modW_length]; omega) hB hB.size
      rw [← EV.out] at h2
      refine wpSeq_wp rfl (wp_append_run _ _ _ _ rfl _ _ rfl rfl _ _ h1 ?_)
      simp only [Act.put, List.setIfInBounds_toArray, List.set_cons_zero, List.set_cons_succ]
      refine wpSeq_yield (S := fun _ => True) (yieldsIf_assign rfl _ rfl (v') rfl) trivial ?_
      simp only [Act.put, List.setIfInBounds_toArray, List.set_cons_zero, List.set_cons_succ]
      refine wpSeq_nil ?_
      refine aK _ _ ?_
      clear aK h1 hO cx EV hB
      go_wp2
      exact ⟨⟨i + 1, by omega, rfl, h2, h3⟩, by simp only [intOf]; omega⟩
end Go.Proofs.Ytooiaboaejcmhaa
