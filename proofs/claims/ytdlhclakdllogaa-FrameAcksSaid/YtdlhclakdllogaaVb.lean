/- The program's ordered: whether spans are right (printed by gen11/vb.py). -/
import Derived.Test.YtdlhclakdllogaaVa
namespace Go.Proofs.Ytdlhclakdllogaa
open Go.RowKit

set_option maxHeartbeats 8000000 in
set_option maxRecDepth 100000 in
theorem ordered_c (l : List (Nat × Nat)) (hl : ∀ q ∈ l, q.1 < 18446744073709551616 ∧ q.2 < 18446744073709551616) (p : Option Addr) (n c : Nat) (hn : n ≤ 1000000) (W : World) (hs : SA W (.slice p n c) l) :
    Calls Try.prog 32 #[.slice p n c] W fun e w' => e = .returned (.bool (rightL l)) ∧ Below W.heap.size W w' := by
  have EL := hs.len.1
  have HS := Lib.hid hs
  clear hs
  by_cases h0 : n = 0
  · subst h0
    rw [rightL_short (by omega)]
    clear EL
    go_enter Try.func32, Try.ntmps32
    go_upto_region 1 with fail
    rename_i aK
    refine wp_region_seq ?_
    refine wpSeq_yield (S := fun _ => True) (yieldsIf_move rfl _ rfl (.slice p 0 c) rfl) trivial ?_
    simp only [AP]
    refine wpSeq_yield (S := fun _ => True) (v := .int .i64 0) (Or.inl ⟨by rfl, fun w' hw' => by go_simp⟩) trivial ?_
    simp only [AP]
    refine wpSeq_yield (S := fun _ => True) (v := .bool true) (Or.inl ⟨by rfl, fun w' hw' => by go_simp⟩) trivial ?_
    simp only [AP]
    refine wpSeq_yield (S := fun _ => True) (yieldsIf_move rfl _ rfl (.bool true) rfl) trivial ?_
    simp only [AP]
    refine wpSeq_yield (S := fun _ => True) (yieldsIf_off rfl) trivial ?_
    simp only [AP]
    refine wpSeq_yield (S := fun _ => True) (yieldsIf_off rfl) trivial ?_
    simp only [AP]
    refine wpSeq_yield (S := fun _ => True) (yieldsIf_off rfl) trivial ?_
    simp only [AP]
    refine wpSeq_yield (S := fun _ => True) (yieldsIf_pick rfl _ _ _ rfl true rfl (.bool true) rfl) trivial ?_
    simp only [AP]
    refine wpSeq_nil ?_
    refine aK _ _ ?_
    clear aK
    go_wp2
    go_ret
    exact ⟨rfl, Below.refl _ _⟩
  · by_cases h1 : 32 < n
    · rw [rightL_long (by omega)]
      have g0 : ((n : Int) == 0) = false := beq_eq_false_iff_ne.2 (by omega)
      have g1 : (32 : Int) < (n : Int) := by omega
      clear EL
      go_enter Try.func32, Try.ntmps32
      go_upto_region 1 with fail
      rename_i aK
      refine wp_region_seq ?_
      refine wpSeq_yield (S := fun _ => True) (yieldsIf_move rfl _ rfl (.slice p n c) rfl) trivial ?_
      simp only [AP]
      refine wpSeq_yield (S := fun _ => True) (v := .int .i64 (n : Int)) (Or.inl ⟨by rfl, fun w' hw' => by go_simp⟩) trivial ?_
      simp only [AP]
      refine wpSeq_yield (S := fun _ => True) (v := .bool false) (Or.inl ⟨by rfl, fun w' hw' => by (go_simp; try omega)⟩) trivial ?_
      simp only [AP]
      refine wpSeq_yield (S := fun _ => True) (yieldsIf_move rfl _ rfl (.bool false) rfl) trivial ?_
      simp only [AP]
      refine wpSeq_yield (S := fun _ => True) (yieldsIf_move rfl _ rfl (.slice p n c) rfl) trivial ?_
      simp only [AP]
      refine wpSeq_yield (S := fun _ => True) (v := .int .i64 (n : Int)) (Or.inl ⟨by rfl, fun w' hw' => by go_simp⟩) trivial ?_
      simp only [AP]
      refine wpSeq_yield (S := fun _ => True) (v := .bool true) (Or.inl ⟨by rfl, fun w' hw' => by (go_simp; try omega)⟩) trivial ?_
      simp only [AP]
      refine wpSeq_yield (S := fun _ => True) (yieldsIf_pick rfl _ _ _ rfl false rfl (.bool true) rfl) trivial ?_
      simp only [AP]
      refine wpSeq_nil ?_
      refine aK _ _ ?_
      clear aK g0 g1
      go_wp2
      go_ret
      exact ⟨rfl, Below.refl _ _⟩
    · have g0 : ((n : Int) == 0) = false := beq_eq_false_iff_ne.2 (by omega)
      have g1 : ¬ (32 : Int) < (n : Int) := by omega
      have g2 : n ≤ 32 := by omega
      obtain ⟨rr, hrr⟩ : ∃ rr, rightL l = rr := ⟨_, rfl⟩
      rw [hrr]
      have RR := Lib.hid hrr
      clear hrr
      replace EL := Lib.hid EL
      go_enter Try.func32, Try.ntmps32
      go_upto_region 1 with fail
      rename_i aK
      refine wp_region_seq ?_
      refine wpSeq_yield (S := fun _ => True) (yieldsIf_move rfl _ rfl (.slice p n c) rfl) trivial ?_
      simp only [AP]
      refine wpSeq_yield (S := fun _ => True) (v := .int .i64 (n : Int)) (Or.inl ⟨by rfl, fun w' hw' => by go_simp⟩) trivial ?_
      simp only [AP]
      refine wpSeq_yield (S := fun _ => True) (v := .bool false) (Or.inl ⟨by rfl, fun w' hw' => by (go_simp; try omega)⟩) trivial ?_
      simp only [AP]
      refine wpSeq_yield (S := fun _ => True) (yieldsIf_move rfl _ rfl (.bool false) rfl) trivial ?_
      simp only [AP]
      refine wpSeq_yield (S := fun _ => True) (yieldsIf_move rfl _ rfl (.slice p n c) rfl) trivial ?_
      simp only [AP]
      refine wpSeq_yield (S := fun _ => True) (v := .int .i64 (n : Int)) (Or.inl ⟨by rfl, fun w' hw' => by go_simp⟩) trivial ?_
      simp only [AP]
      refine wpSeq_yield (S := fun _ => True) (v := .bool false) (Or.inl ⟨by rfl, fun w' hw' => by (go_simp; try omega)⟩) trivial ?_
      simp only [AP]
      refine wpSeq_yield (S := fun _ => True) (yieldsIf_pick rfl _ _ _ rfl false rfl (.bool false) rfl) trivial ?_
      simp only [AP]
      refine wpSeq_nil ?_
      refine aK _ _ ?_
      clear aK g0 g1
      go_upto_region 4 with fail
      go_loopw [15] (fun t wr => ∃ i : Nat, i ≤ n ∧ t = .int .i64 (i : Int) ∧ (∀ j, j < i → rightAt l j) ∧ Below W.heap.size W wr) (fun t _ => (n - intOf t).toNat)
      case atStart => exact ⟨0, by omega, rfl, (fun j h => absurd h (Nat.not_lt_zero _)), Below.refl _ _⟩
      case round =>
        obtain ⟨i, hi, rfl, hR, hB⟩ := hrel
        by_cases hin : i = n
        · subst i
          have er := Lib.hid (RR.out.symm.trans (rightL_all (by have := EL.out; omega) (by have := EL.out; omega) (by rw [← EL.out]; exact hR)))
          clear hR EL HS h0 h1 g2 RR
          go_wp2
          go_ret
          exact ⟨by rw [er.out]; rfl, hB⟩
        · have i1 : (i : Int) < (n : Int) := by omega
          have i0 : (0 : Int) ≤ (i : Int) := by omega
          have il : i < l.length := by rw [← EL.out]; omega
          obtain ⟨g, oo, rfl, hA⟩ : ∃ g o, p = some ⟨g, o, none⟩ ∧ PA W g o l := by
            rcases HS.out.at_ with h0 | h0
            · omega
            · exact h0
          replace hA := hA.below hB
          have RA := Lib.hid (show rightAt l i ↔ l[i].1 ≤ l[i].2 ∧ l[i].2 ≤ 4611686018427387903 ∧ (0 < i → l[i].2 + 2 ≤ (l.getD (i - 1) (0, 0)).1) by rw [← getD_lt il]; exact Iff.rfl)
          have NR := Lib.hid (rightL_not i il)
          have LI := Lib.hid (hl _ (List.getElem_mem il))
          have cr := hA.at_ i il
          have CP : 0 < i → ∃ q : Nat × Nat, l.getD (i - 1) (0, 0) = q ∧ (q.1 < 18446744073709551616) ∧ wr.cell? ⟨g, oo + (i - 1) * 2, none⟩ = some (.int .u64 ((q.1 : Nat) : Int)) := fun h => by
            have hj : i - 1 < l.length := by omega
            exact ⟨_, rfl, by rw [getD_lt hj]; exact (hl _ (List.getElem_mem hj)).1, by rw [getD_lt hj]; exact hA.lo (i - 1) hj⟩
          have glt := hA.lt
          clear hA
          obtain ⟨x, hx⟩ : ∃ x, l[i].1 = x := ⟨_, rfl⟩
          obtain ⟨y, hy⟩ : ∃ y, l[i].2 = y := ⟨_, rfl⟩
          rw [show spL l[i] = [.int .u64 (x : Int), .int .u64 (y : Int)] by rw [← hx, ← hy]; rfl] at cr
          rw [hx, hy] at RA LI
          clear hx hy
          have x64 := LI.out.1
          have y64 := LI.out.2
          clear LI
          replace CP := Lib.hid CP
          go_upto_region 5 with fail
          rename_i aK
          refine wp_region_seq ?_
          refine wpSeq_yield (S := fun _ => True) (yieldsIf_move rfl _ rfl (.int .i64 (i : Int)) rfl) trivial ?_
          simp only [AP]
          refine wpSeq_yield (S := fun _ => True) (v := .pointer (some ⟨g, oo + i * 2, none⟩)) (Or.inl ⟨by rfl, fun w' hw' => by go_simp⟩) trivial ?_
          simp only [AP]
          refine wpSeq_yield (S := fun w' => w' = wr) (show YieldsIf _ _ _ _ (.agg #[.int .u64 (x : Int), .int .u64 (y : Int)]) _ from yieldsIf_load_mid (S := fun w' => w' = wr) rfl 47 _ rfl g (oo + i * 2) rfl [.int .u64 (x : Int), .int .u64 (y : Int)] _ (fun _ h => h ▸ cr) Try.underlying47 rfl info_sp) rfl ?_
          simp only [AP]
          refine wpSeq_alloc 47 #[.int .u64 0, .int .u64 0] rfl (fun W => by go_simp) ?_
          simp only [AP]
          refine wpSeq_yield (S := fun _ => True) (yieldsIf_assign rfl _ rfl (.int .i64 (i : Int)) rfl) trivial ?_
          simp only [AP]
          refine wpSeq_store_row rfl 47 _ _ rfl (wr.heap.size) #[.int .u64 (x : Int), .int .u64 (y : Int)] rfl rfl _ _ (Blk.new _ _ _) info_sp rfl (sp_one _ _) ?_
          try simp only [Act.put]
          have hb := below_setRow ((Below.refl wr.heap.size wr).alloc (Nat.le_refl _) (.cells #[.int .u64 0, .int .u64 0] 47)) (Nat.le_refl wr.heap.size) #[.int .u64 (x : Int), .int .u64 (y : Int)]
          have K := (Blk.new wr 47 #[.int .u64 0, .int .u64 0]).row #[.int .u64 (x : Int), .int .u64 (y : Int)]
          replace hB := hB.trans (hb.mono hB.size)
          have CP2 : 0 < i → ∃ q : Nat × Nat, l.getD (i - 1) (0, 0) = q ∧ (q.1 < 18446744073709551616) ∧ ((wr.alloc (.cells #[.int .u64 0, .int .u64 0] 47)).setRow wr.heap.size #[.int .u64 (x : Int), .int .u64 (y : Int)]).cell? ⟨g, oo + (i - 1) * 2, none⟩ = some (.int .u64 ((q.1 : Nat) : Int)) := fun h => by
            obtain ⟨q, h1, h2, h3⟩ := CP.out h
            exact ⟨q, h1, h2, (hb.cell (p := ⟨g, oo + (i - 1) * 2, none⟩) glt).trans h3⟩
          clear CP
          have CP := Lib.hid CP2
          clear hb cr CP2
          generalize World.setRow _ _ _ = W2 at *
          generalize wr.heap.size = G1 at *
          refine wpSeq_nil ?_
          refine aK _ _ ?_
          clear aK
          have k0 : W2.cell? ⟨G1, 0, none⟩ = some (.int .u64 (x : Int)) := K.cell 0
          have k1 : W2.cell? ⟨G1, 1, none⟩ = some (.int .u64 (y : Int)) := K.cell 1
          clear K glt
          by_cases hxy : y < x
          · have g3 : (y : Int) < (x : Int) := by omega
            have er := Lib.hid (RR.out.symm.trans (NR.out (fun e => by have := (RA.out.1 e).1; omega)))
            go_upto_region 6 with fail
            rename_i aK
            refine wp_region_seq ?_
            refine wpSeq_yield (S := fun _ => True) (v := .pointer (some ⟨G1, 0, none⟩)) (Or.inl ⟨by rfl, fun w' hw' => by go_simp⟩) trivial ?_
            simp only [AP]
            refine wpSeq_yield (S := fun w' => w' = W2) (v := .int .u64 (x : Int)) (Or.inl ⟨by rfl, fun w' hw' => by (rw [hw']; go_simp)⟩) rfl ?_
            simp only [AP]
            refine wpSeq_yield (S := fun _ => True) (v := .pointer (some ⟨G1, 1, none⟩)) (Or.inl ⟨by rfl, fun w' hw' => by go_simp⟩) trivial ?_
            simp only [AP]
            refine wpSeq_yield (S := fun w' => w' = W2) (v := .int .u64 (y : Int)) (Or.inl ⟨by rfl, fun w' hw' => by (rw [hw']; go_simp)⟩) rfl ?_
            simp only [AP]
            refine wpSeq_yield (S := fun _ => True) (v := .bool true) (Or.inl ⟨by rfl, fun w' hw' => by go_simp⟩) trivial ?_
            simp only [AP]
            refine wpSeq_yield (S := fun _ => True) (yieldsIf_move rfl _ rfl (.bool true) rfl) trivial ?_
            simp only [AP]
            refine wpSeq_yield (S := fun _ => True) (yieldsIf_off rfl) trivial ?_
            simp only [AP]
            refine wpSeq_yield (S := fun _ => True) (yieldsIf_off rfl) trivial ?_
            simp only [AP]
            refine wpSeq_yield (S := fun _ => True) (yieldsIf_off rfl) trivial ?_
            simp only [AP]
            refine wpSeq_yield (S := fun _ => True) (yieldsIf_pick rfl _ _ _ rfl true rfl (.bool true) rfl) trivial ?_
            simp only [AP]
            refine wpSeq_nil ?_
            refine aK _ _ ?_
            clear aK g3 k0 k1
            go_wp2
            go_ret
            exact ⟨by rw [er.out]; rfl, hB⟩
          · by_cases hm : 4611686018427387903 < y
            · have g3 : ¬ (y : Int) < (x : Int) := by omega
              have g4 : (4611686018427387903 : Int) < (y : Int) := by omega
              have er := Lib.hid (RR.out.symm.trans (NR.out (fun e => by have := (RA.out.1 e).2.1; omega)))
              go_upto_region 6 with fail
              rename_i aK
              refine wp_region_seq ?_
              refine wpSeq_yield (S := fun _ => True) (v := .pointer (some ⟨G1, 0, none⟩)) (Or.inl ⟨by rfl, fun w' hw' => by go_simp⟩) trivial ?_
              simp only [AP]
              refine wpSeq_yield (S := fun w' => w' = W2) (v := .int .u64 (x : Int)) (Or.inl ⟨by rfl, fun w' hw' => by (rw [hw']; go_simp)⟩) rfl ?_
              simp only [AP]
              refine wpSeq_yield (S := fun _ => True) (v := .pointer (some ⟨G1, 1, none⟩)) (Or.inl ⟨by rfl, fun w' hw' => by go_simp⟩) trivial ?_
              simp only [AP]
              refine wpSeq_yield (S := fun w' => w' = W2) (v := .int .u64 (y : Int)) (Or.inl ⟨by rfl, fun w' hw' => by (rw [hw']; go_simp)⟩) rfl ?_
              simp only [AP]
              refine wpSeq_yield (S := fun _ => True) (v := .bool false) (Or.inl ⟨by rfl, fun w' hw' => by go_simp⟩) trivial ?_
              simp only [AP]
              refine wpSeq_yield (S := fun _ => True) (yieldsIf_move rfl _ rfl (.bool false) rfl) trivial ?_
              simp only [AP]
              refine wpSeq_yield (S := fun _ => True) (v := .pointer (some ⟨G1, 1, none⟩)) (Or.inl ⟨by rfl, fun w' hw' => by go_simp⟩) trivial ?_
              simp only [AP]
              refine wpSeq_yield (S := fun w' => w' = W2) (v := .int .u64 (y : Int)) (Or.inl ⟨by rfl, fun w' hw' => by (rw [hw']; go_simp)⟩) rfl ?_
              simp only [AP]
              refine wpSeq_yield (S := fun _ => True) (v := .bool true) (Or.inl ⟨by rfl, fun w' hw' => by go_simp⟩) trivial ?_
              simp only [AP]
              refine wpSeq_yield (S := fun _ => True) (yieldsIf_pick rfl _ _ _ rfl false rfl (.bool true) rfl) trivial ?_
              simp only [AP]
              refine wpSeq_nil ?_
              refine aK _ _ ?_
              clear aK g3 g4 k0 k1
              go_wp2
              go_ret
              exact ⟨by rw [er.out]; rfl, hB⟩
            · have g3 : ¬ (y : Int) < (x : Int) := by omega
              have g4 : ¬ (4611686018427387903 : Int) < (y : Int) := by omega
              go_upto_region 6 with fail
              rename_i aK
              refine wp_region_seq ?_
              refine wpSeq_yield (S := fun _ => True) (v := .pointer (some ⟨G1, 0, none⟩)) (Or.inl ⟨by rfl, fun w' hw' => by go_simp⟩) trivial ?_
              simp only [AP]
              refine wpSeq_yield (S := fun w' => w' = W2) (v := .int .u64 (x : Int)) (Or.inl ⟨by rfl, fun w' hw' => by (rw [hw']; go_simp)⟩) rfl ?_
              simp only [AP]
              refine wpSeq_yield (S := fun _ => True) (v := .pointer (some ⟨G1, 1, none⟩)) (Or.inl ⟨by rfl, fun w' hw' => by go_simp⟩) trivial ?_
              simp only [AP]
              refine wpSeq_yield (S := fun w' => w' = W2) (v := .int .u64 (y : Int)) (Or.inl ⟨by rfl, fun w' hw' => by (rw [hw']; go_simp)⟩) rfl ?_
              simp only [AP]
              refine wpSeq_yield (S := fun _ => True) (v := .bool false) (Or.inl ⟨by rfl, fun w' hw' => by go_simp⟩) trivial ?_
              simp only [AP]
              refine wpSeq_yield (S := fun _ => True) (yieldsIf_move rfl _ rfl (.bool false) rfl) trivial ?_
              simp only [AP]
              refine wpSeq_yield (S := fun _ => True) (v := .pointer (some ⟨G1, 1, none⟩)) (Or.inl ⟨by rfl, fun w' hw' => by go_simp⟩) trivial ?_
              simp only [AP]
              refine wpSeq_yield (S := fun w' => w' = W2) (v := .int .u64 (y : Int)) (Or.inl ⟨by rfl, fun w' hw' => by (rw [hw']; go_simp)⟩) rfl ?_
              simp only [AP]
              refine wpSeq_yield (S := fun _ => True) (v := .bool false) (Or.inl ⟨by rfl, fun w' hw' => by go_simp⟩) trivial ?_
              simp only [AP]
              refine wpSeq_yield (S := fun _ => True) (yieldsIf_pick rfl _ _ _ rfl false rfl (.bool false) rfl) trivial ?_
              simp only [AP]
              refine wpSeq_nil ?_
              refine aK _ _ ?_
              clear aK g3 g4 k0
              replace hB := below_drew hB
              replace k1 : W2.drew.cell? ⟨G1, 1, none⟩ = some (.int .u64 (y : Int)) := k1
              by_cases hi0 : i = 0
              · subst i
                have hR' : ∀ j, j < 0 + 1 → rightAt l j := fun j h => by
                  have : j = 0 := by omega
                  subst j
                  exact RA.out.2 ⟨by omega, by omega, fun h => absurd h (Nat.lt_irrefl _)⟩
                have HR := Lib.hid hR'
                clear hR' hR CP NR RA
                go_upto_region 8 with fail
                rename_i aK
                refine wp_region_S (S := fun _ => True) (by kernel_rfl) ?_
                refine wpAnyS_takeL 0 (v := .int .i64 ((0 : Nat) : Int)) rfl (by kernel_rfl) (by kernel_rfl) (by kernel_rfl) (fun _ _ _ H => H) (yieldsIf_move rfl _ rfl (.int .i64 ((0 : Nat) : Int)) rfl) trivial ?_
                simp only [AP]
                refine wpAnyS_takeL 1 (v := .bool false) rfl (by kernel_rfl) (by kernel_rfl) (by kernel_rfl) (fun _ _ _ H => H) (Or.inl ⟨by rfl, fun w' hw' => by go_simp⟩) trivial ?_
                simp only [AP]
                refine wpAnyS_takeL 2 (v := .bool false) rfl (by kernel_rfl) (by kernel_rfl) (by kernel_rfl) (fun _ _ _ H => H) (yieldsIf_move rfl _ rfl (.bool false) rfl) trivial ?_
                simp only [AP]
                refine wpAnyS_takeL 3 (v := undef) rfl (by kernel_rfl) (by kernel_rfl) (by kernel_rfl) (fun _ _ _ H => H) (yieldsIf_off rfl) trivial ?_
                simp only [AP]
                refine wpAnyS_takeL 4 (v := undef) rfl (by kernel_rfl) (by kernel_rfl) (by kernel_rfl) (fun _ _ _ H => H) (yieldsIf_off rfl) trivial ?_
                simp only [AP]
                refine wpAnyS_takeL 5 (v := undef) rfl (by kernel_rfl) (by kernel_rfl) (by kernel_rfl) (fun _ _ _ H => H) (yieldsIf_off rfl) trivial ?_
                simp only [AP]
                refine wpAnyS_takeL 6 (v := undef) rfl (by kernel_rfl) (by kernel_rfl) (by kernel_rfl) (fun _ _ _ H => H) (yieldsIf_off rfl) trivial ?_
                simp only [AP]
                refine wpAnyS_takeL 7 (v := undef) rfl (by kernel_rfl) (by kernel_rfl) (by kernel_rfl) (fun _ _ _ H => H) (yieldsIf_off rfl) trivial ?_
                simp only [AP]
                refine wpAnyS_takeL 8 (v := undef) rfl (by kernel_rfl) (by kernel_rfl) (by kernel_rfl) (fun _ _ _ H => H) (yieldsIf_off rfl) trivial ?_
                simp only [AP]
                refine wpAnyS_takeL 9 (v := undef) rfl (by kernel_rfl) (by kernel_rfl) (by kernel_rfl) (fun _ _ _ H => H) (yieldsIf_off rfl) trivial ?_
                simp only [AP]
                refine wpAnyS_takeL 10 (v := undef) rfl (by kernel_rfl) (by kernel_rfl) (by kernel_rfl) (fun _ _ _ H => H) (yieldsIf_off rfl) trivial ?_
                simp only [AP]
                refine wpAnyS_takeL 11 (v := undef) rfl (by kernel_rfl) (by kernel_rfl) (by kernel_rfl) (fun _ _ _ H => H) (yieldsIf_off rfl) trivial ?_
                simp only [AP]
                refine wpAnyS_takeL 12 (v := undef) rfl (by kernel_rfl) (by kernel_rfl) (by kernel_rfl) (fun _ _ _ H => H) (yieldsIf_off rfl) trivial ?_
                simp only [AP]
                refine wpAnyS_takeL 13 (v := .bool false) rfl (by kernel_rfl) (by kernel_rfl) (by kernel_rfl) (fun _ _ _ H => H) (yieldsIf_pick rfl _ _ _ rfl false rfl (.bool false) rfl) trivial ?_
                simp only [AP]
                refine wpAnyS_done (by kernel_rfl) ?_ _
                refine aK _ _ ?_
                clear aK k1
                go_wp2
                exact ⟨⟨0 + 1, by omega, rfl, HR.out, hB⟩, by simp only [intOf]; omega⟩
              · obtain ⟨q, hq, q64, cq⟩ := CP.out (by omega)
                rw [hq] at RA
                obtain ⟨z, hz⟩ : ∃ z, q.1 = z := ⟨_, rfl⟩
                rw [hz] at RA q64 cq
                clear hq hz CP
                have ip : (0 : Int) < (i : Int) := by omega
                have ipn : 0 < i := by omega
                have hS : (fun w' : World => w'.cell? ⟨G1, 1, none⟩ = some (.int .u64 (y : Int)) ∧ w'.cell? ⟨g, oo + (i - 1) * 2, none⟩ = some (.int .u64 (z : Int))) W2.drew := ⟨k1, cq⟩
                have d1 : IntKind.i64.wrap ((i : Int) - 1) = ((i - 1 : Nat) : Int) := by rw [IntKind.wrap_i64]; omega
                have j0 : (0 : Int) ≤ ((i - 1 : Nat) : Int) := by omega
                have j1 : ((i - 1 : Nat) : Int) < (n : Int) := by omega
                clear k1 cq
                obtain ⟨j, hj⟩ : ∃ j, i - 1 = j := ⟨_, rfl⟩
                rw [hj] at hS d1 j0 j1
                obtain ⟨m, hm2⟩ : ∃ m, y + 2 = m := ⟨_, rfl⟩
                have wm : IntKind.u64.wrap ((y : Int) + 2) = (m : Int) := by rw [IntKind.wrap_u64]; omega
                by_cases hyz : z < m
                · have g5 : (z : Int) < (m : Int) := by omega
                  have er := Lib.hid (RR.out.symm.trans (NR.out (fun e => by have := (RA.out.1 e).2.2 (by omega); omega)))
                  clear hj hm2
                  go_upto_region 8 with fail
                  rename_i aK
                  refine wp_region_S (S := fun w' => w'.cell? ⟨G1, 1, none⟩ = some (.int .u64 (y : Int)) ∧ w'.cell? ⟨g, oo + j * 2, none⟩ = some (.int .u64 (z : Int))) (by kernel_rfl) ?_
                  refine wpAnyS_takeL 0 (v := .int .i64 (i : Int)) rfl (by kernel_rfl) (by kernel_rfl) (by kernel_rfl) (fun _ _ _ H => H) (yieldsIf_move rfl _ rfl (.int .i64 (i : Int)) rfl) hS ?_
                  simp only [AP]
                  refine wpAnyS_takeL 1 (v := .bool true) rfl (by kernel_rfl) (by kernel_rfl) (by kernel_rfl) (fun _ _ _ H => H) (Or.inl ⟨by rfl, fun w' hw' => by go_simp⟩) hS ?_
                  simp only [AP]
                  refine wpAnyS_takeL 2 (v := .bool true) rfl (by kernel_rfl) (by kernel_rfl) (by kernel_rfl) (fun _ _ _ H => H) (yieldsIf_move rfl _ rfl (.bool true) rfl) hS ?_
                  simp only [AP]
                  refine wpAnyS_takeL 3 (v := .pointer (some ⟨G1, 1, none⟩)) rfl (by kernel_rfl) (by kernel_rfl) (by kernel_rfl) (fun _ _ _ H => H) (Or.inl ⟨by rfl, fun w' hw' => by go_simp⟩) hS ?_
                  simp only [AP]
                  refine wpAnyS_takeL 4 (v := .int .u64 (y : Int)) rfl (by kernel_rfl) (by kernel_rfl) (by kernel_rfl) (fun _ _ _ H => H) (Or.inl ⟨by rfl, fun w' hw' => by (have cc := hw'.1; go_simp)⟩) hS ?_
                  simp only [AP]
                  refine wpAnyS_takeL 5 (v := .int .u64 (m : Int)) rfl (by kernel_rfl) (by kernel_rfl) (by kernel_rfl) (fun _ _ _ H => H) (Or.inl ⟨by rfl, fun w' hw' => by go_simp⟩) hS ?_
                  simp only [AP]
                  refine wpAnyS_takeL 6 (v := .slice (some ⟨g, oo, none⟩) n c) rfl (by kernel_rfl) (by kernel_rfl) (by kernel_rfl) (fun _ _ _ H => H) (yieldsIf_move rfl _ rfl (.slice (some ⟨g, oo, none⟩) n c) rfl) hS ?_
                  simp only [AP]
                  refine wpAnyS_takeL 7 (v := .int .i64 (i : Int)) rfl (by kernel_rfl) (by kernel_rfl) (by kernel_rfl) (fun _ _ _ H => H) (yieldsIf_move rfl _ rfl (.int .i64 (i : Int)) rfl) hS ?_
                  simp only [AP]
                  refine wpAnyS_takeL 8 (v := .int .i64 (j : Int)) rfl (by kernel_rfl) (by kernel_rfl) (by kernel_rfl) (fun _ _ _ H => H) (Or.inl ⟨by rfl, fun w' hw' => by go_simp⟩) hS ?_
                  simp only [AP]
                  refine wpAnyS_takeL 9 (v := .pointer (some ⟨g, oo + j * 2, none⟩)) rfl (by kernel_rfl) (by kernel_rfl) (by kernel_rfl) (fun _ _ _ H => H) (Or.inl ⟨by rfl, fun w' hw' => by go_simp⟩) hS ?_
                  simp only [AP]
                  refine wpAnyS_takeL 10 (v := .pointer (some ⟨g, oo + j * 2, none⟩)) rfl (by kernel_rfl) (by kernel_rfl) (by kernel_rfl) (fun _ _ _ H => H) (Or.inl ⟨by rfl, fun w' hw' => by go_simp⟩) hS ?_
                  simp only [AP]
                  refine wpAnyS_takeL 11 (v := .int .u64 (z : Int)) rfl (by kernel_rfl) (by kernel_rfl) (by kernel_rfl) (fun _ _ _ H => H) (Or.inl ⟨by rfl, fun w' hw' => by (have cc := hw'.2; go_simp)⟩) hS ?_
                  simp only [AP]
                  refine wpAnyS_takeL 12 (v := .bool true) rfl (by kernel_rfl) (by kernel_rfl) (by kernel_rfl) (fun _ _ _ H => H) (Or.inl ⟨by rfl, fun w' hw' => by go_simp⟩) hS ?_
                  simp only [AP]
                  refine wpAnyS_takeL 13 (v := .bool true) rfl (by kernel_rfl) (by kernel_rfl) (by kernel_rfl) (fun _ _ _ H => H) (yieldsIf_pick rfl _ _ _ rfl true rfl (.bool true) rfl) hS ?_
                  simp only [AP]
                  refine wpAnyS_done (by kernel_rfl) ?_ _
                  refine aK _ _ ?_
                  clear aK hS g5 d1 j0 j1 wm
                  go_wp2
                  go_ret
                  exact ⟨by rw [er.out]; rfl, hB⟩
                · have g5 : ¬ (z : Int) < (m : Int) := by omega
                  have hR' : ∀ j, j < i + 1 → rightAt l j := fun k h => by
                    by_cases hk : k = i
                    · subst k
                      exact RA.out.2 ⟨by omega, by omega, fun _ => by omega⟩
                    · exact hR k (by omega)
                  have HR := Lib.hid hR'
                  clear hj hm2 hR' hR NR RA
                  go_upto_region 8 with fail
                  rename_i aK
                  refine wp_region_S (S := fun w' => w'.cell? ⟨G1, 1, none⟩ = some (.int .u64 (y : Int)) ∧ w'.cell? ⟨g, oo + j * 2, none⟩ = some (.int .u64 (z : Int))) (by kernel_rfl) ?_
                  refine wpAnyS_takeL 0 (v := .int .i64 (i : Int)) rfl (by kernel_rfl) (by kernel_rfl) (by kernel_rfl) (fun _ _ _ H => H) (yieldsIf_move rfl _ rfl (.int .i64 (i : Int)) rfl) hS ?_
                  simp only [AP]
                  refine wpAnyS_takeL 1 (v := .bool true) rfl (by kernel_rfl) (by kernel_rfl) (by kernel_rfl) (fun _ _ _ H => H) (Or.inl ⟨by rfl, fun w' hw' => by go_simp⟩) hS ?_
                  simp only [AP]
                  refine wpAnyS_takeL 2 (v := .bool true) rfl (by kernel_rfl) (by kernel_rfl) (by kernel_rfl) (fun _ _ _ H => H) (yieldsIf_move rfl _ rfl (.bool true) rfl) hS ?_
                  simp only [AP]
                  refine wpAnyS_takeL 3 (v := .pointer (some ⟨G1, 1, none⟩)) rfl (by kernel_rfl) (by kernel_rfl) (by kernel_rfl) (fun _ _ _ H => H) (Or.inl ⟨by rfl, fun w' hw' => by go_simp⟩) hS ?_
                  simp only [AP]
                  refine wpAnyS_takeL 4 (v := .int .u64 (y : Int)) rfl (by kernel_rfl) (by kernel_rfl) (by kernel_rfl) (fun _ _ _ H => H) (Or.inl ⟨by rfl, fun w' hw' => by (have cc := hw'.1; go_simp)⟩) hS ?_
                  simp only [AP]
                  refine wpAnyS_takeL 5 (v := .int .u64 (m : Int)) rfl (by kernel_rfl) (by kernel_rfl) (by kernel_rfl) (fun _ _ _ H => H) (Or.inl ⟨by rfl, fun w' hw' => by go_simp⟩) hS ?_
                  simp only [AP]
                  refine wpAnyS_takeL 6 (v := .slice (some ⟨g, oo, none⟩) n c) rfl (by kernel_rfl) (by kernel_rfl) (by kernel_rfl) (fun _ _ _ H => H) (yieldsIf_move rfl _ rfl (.slice (some ⟨g, oo, none⟩) n c) rfl) hS ?_
                  simp only [AP]
                  refine wpAnyS_takeL 7 (v := .int .i64 (i : Int)) rfl (by kernel_rfl) (by kernel_rfl) (by kernel_rfl) (fun _ _ _ H => H) (yieldsIf_move rfl _ rfl (.int .i64 (i : Int)) rfl) hS ?_
                  simp only [AP]
                  refine wpAnyS_takeL 8 (v := .int .i64 (j : Int)) rfl (by kernel_rfl) (by kernel_rfl) (by kernel_rfl) (fun _ _ _ H => H) (Or.inl ⟨by rfl, fun w' hw' => by go_simp⟩) hS ?_
                  simp only [AP]
                  refine wpAnyS_takeL 9 (v := .pointer (some ⟨g, oo + j * 2, none⟩)) rfl (by kernel_rfl) (by kernel_rfl) (by kernel_rfl) (fun _ _ _ H => H) (Or.inl ⟨by rfl, fun w' hw' => by go_simp⟩) hS ?_
                  simp only [AP]
                  refine wpAnyS_takeL 10 (v := .pointer (some ⟨g, oo + j * 2, none⟩)) rfl (by kernel_rfl) (by kernel_rfl) (by kernel_rfl) (fun _ _ _ H => H) (Or.inl ⟨by rfl, fun w' hw' => by go_simp⟩) hS ?_
                  simp only [AP]
                  refine wpAnyS_takeL 11 (v := .int .u64 (z : Int)) rfl (by kernel_rfl) (by kernel_rfl) (by kernel_rfl) (fun _ _ _ H => H) (Or.inl ⟨by rfl, fun w' hw' => by (have cc := hw'.2; go_simp)⟩) hS ?_
                  simp only [AP]
                  refine wpAnyS_takeL 12 (v := .bool false) rfl (by kernel_rfl) (by kernel_rfl) (by kernel_rfl) (fun _ _ _ H => H) (Or.inl ⟨by rfl, fun w' hw' => by go_simp⟩) hS ?_
                  simp only [AP]
                  refine wpAnyS_takeL 13 (v := .bool false) rfl (by kernel_rfl) (by kernel_rfl) (by kernel_rfl) (fun _ _ _ H => H) (yieldsIf_pick rfl _ _ _ rfl true rfl (.bool false) rfl) hS ?_
                  simp only [AP]
                  refine wpAnyS_done (by kernel_rfl) ?_ _
                  refine aK _ _ ?_
                  clear aK hS g5 d1 j0 j1 wm ip ipn
                  go_wp2
                  exact ⟨⟨i + 1, by omega, rfl, HR.out, hB⟩, by simp only [intOf]; omega⟩
end Go.Proofs.Ytdlhclakdllogaa
