/- The program's Short and Full (printed by gen12/pa.py). -/
import Derived.Test.YtpihgljdbpnehaaDoorHSb
namespace Go.Proofs.YtpihgljdbpnehaaDoor
open Go.RowKit
set_option maxHeartbeats 4000000 in
set_option maxRecDepth 100000 in
/-- The program's Short. -/
theorem short_c : ShortC := by
 intro pn acked ha hp W
 obtain ⟨d, hd⟩ : ∃ d, pn - acked = d := ⟨_, rfl⟩
 have w1 : IntKind.u64.wrap ((pn : Int) - (acked : Int)) = (d : Int) := by rw [IntKind.wrap_u64]; omega
 obtain ⟨R, hR⟩ : ∃ R, shortN pn acked = R := ⟨_, rfl⟩
 rw [hR]
 unfold shortN at hR
 rw [hd] at hR
 have R4 : 1 ≤ R ∧ R ≤ 4 ∧ (1 < R ↔ 128 ≤ d) ∧ (2 < R ↔ 32768 ≤ d) ∧ (3 < R ↔ 8388608 ≤ d) := by
  rw [← hR]
  split
  · omega
  ·
   split
   · omega
   ·
    split
    · omega
    · omega
 clear hd ha hp hR
 replace R4 := Lib.hid R4
 go_enter Tryd.func25, Tryd.ntmps25
 go_upto_region 2 with fail
 go_loopw [5] (fun t wr => ∃ k : Nat, 1 ≤ k ∧ k ≤ R ∧ t = .int .i64 (k : Int) ∧ wr = W) (fun t _ => (R - intOf t).toNat)
 case atStart => exact ⟨1, by omega, R4.out.1, rfl, rfl⟩
 case round =>
  obtain ⟨k, k1, hk, rfl, hw⟩ := hrel
  subst wr
  by_cases k4 : k < 4
  ·
   have Q := Lib.hid (show (k = 1 ∧ 8 * k = 8 ∧ 8 * k - 1 = 7 ∧ d / 128 = d / 2 ^ (8 * k - 1)) ∨ (k = 2 ∧ 8 * k = 16 ∧ 8 * k - 1 = 15 ∧ d / 32768 = d / 2 ^ (8 * k - 1)) ∨ (k = 3 ∧ 8 * k = 24 ∧ 8 * k - 1 = 23 ∧ d / 8388608 = d / 2 ^ (8 * k - 1)) by
    have : k = 1 ∨ k = 2 ∨ k = 3 := by omega
    rcases this with rfl | rfl | rfl
    · exact Or.inl ⟨rfl, rfl, rfl, rfl⟩
    · exact Or.inr (Or.inl ⟨rfl, rfl, rfl, rfl⟩)
    · exact Or.inr (Or.inr ⟨rfl, rfl, rfl, rfl⟩))
   obtain ⟨s, hs⟩ : ∃ s, d / 2 ^ (8 * k - 1) = s := ⟨_, rfl⟩
   have SS : 0 < s ↔ k < R := by
    have q := Q.out
    have r := R4.out
    rw [hs] at q
    omega
   have Q2 := Lib.hid (show (k = 1 ∧ d / 128 = s) ∨ (k = 2 ∧ d / 32768 = s) ∨ (k = 3 ∧ d / 8388608 = s) by
    have q := Q.out
    rw [hs] at q
    omega)
   clear hs Q
   by_cases kR : k < R
   ·
    have s0 : 0 < s := SS.2 kR
    go_upto_region 2 with fail
    rename_i aK
    refine wp_region_seq ?_
    refine smv (.int .i64 (k : Int)) rfl rfl rfl ?_
    simp only [AP]
    refine svl (.bool true) (.inl ⟨by rfl, fun w' _ => by (go_simp; try omega)⟩) ?_
    simp only [AP]
    refine smv (.bool true) rfl rfl rfl ?_
    simp only [AP]
    refine smv (.int .u64 (pn : Int)) rfl rfl rfl ?_
    simp only [AP]
    refine smv (.int .u64 (acked : Int)) rfl rfl rfl ?_
    simp only [AP]
    refine svl (.int .u64 (d : Int)) (.inl ⟨by rfl, fun w' _ => by (go_simp; try rw [w1])⟩) ?_
    simp only [AP]
    refine smv (.int .i64 (k : Int)) rfl rfl rfl ?_
    simp only [AP]
    refine svl (.int .i64 ((8 * k : Nat) : Int)) (.inl ⟨by rfl, fun w' _ => by (rcases Q2.out with ⟨rfl, q⟩ | ⟨rfl, q⟩ | ⟨rfl, q⟩ <;> go_simp <;> try (first | omega | decide))⟩) ?_
    simp only [AP]
    refine svl (.int .i64 ((8 * k - 1 : Nat) : Int)) (.inl ⟨by rfl, fun w' _ => by (rcases Q2.out with ⟨rfl, q⟩ | ⟨rfl, q⟩ | ⟨rfl, q⟩ <;> go_simp <;> try (first | omega | decide))⟩) ?_
    simp only [AP]
    refine svl (.int .u64 (s : Int)) (.inl ⟨by rfl, fun w' _ => by (rcases Q2.out with ⟨rfl, rfl⟩ | ⟨rfl, rfl⟩ | ⟨rfl, rfl⟩ <;> go_simp <;> try (first | omega | decide))⟩) ?_
    simp only [AP]
    refine svl (.bool true) (.inl ⟨by rfl, fun w' _ => by (go_simp; try omega)⟩) ?_
    simp only [AP]
    refine wpSeq_yield (S := fun _ => True) (yieldsIf_pick rfl _ _ _ rfl true rfl (.bool true) rfl) trivial ?_
    simp only [AP]
    refine wpSeq_nil ?_
    refine (by assumption : ∀ (a : Act) (w : World), _ → _) _ _ ?_
    have km : wrap64 ((k : Int) + 1) = ((k + 1 : Nat) : Int) := by
     unfold wrap64
     omega
    clear SS Q2 s0 w1
    go_wp2
    exact ⟨⟨k + 1, by omega, by omega, rfl, trivial⟩, by simp only [intOf]; omega⟩
   ·
    have s0 : ¬ 0 < s := fun x => kR (SS.1 x)
    go_upto_region 2 with fail
    rename_i aK
    refine wp_region_seq ?_
    refine smv (.int .i64 (k : Int)) rfl rfl rfl ?_
    simp only [AP]
    refine svl (.bool true) (.inl ⟨by rfl, fun w' _ => by (go_simp; try omega)⟩) ?_
    simp only [AP]
    refine smv (.bool true) rfl rfl rfl ?_
    simp only [AP]
    refine smv (.int .u64 (pn : Int)) rfl rfl rfl ?_
    simp only [AP]
    refine smv (.int .u64 (acked : Int)) rfl rfl rfl ?_
    simp only [AP]
    refine svl (.int .u64 (d : Int)) (.inl ⟨by rfl, fun w' _ => by (go_simp; try rw [w1])⟩) ?_
    simp only [AP]
    refine smv (.int .i64 (k : Int)) rfl rfl rfl ?_
    simp only [AP]
    refine svl (.int .i64 ((8 * k : Nat) : Int)) (.inl ⟨by rfl, fun w' _ => by (rcases Q2.out with ⟨rfl, q⟩ | ⟨rfl, q⟩ | ⟨rfl, q⟩ <;> go_simp <;> try (first | omega | decide))⟩) ?_
    simp only [AP]
    refine svl (.int .i64 ((8 * k - 1 : Nat) : Int)) (.inl ⟨by rfl, fun w' _ => by (rcases Q2.out with ⟨rfl, q⟩ | ⟨rfl, q⟩ | ⟨rfl, q⟩ <;> go_simp <;> try (first | omega | decide))⟩) ?_
    simp only [AP]
    refine svl (.int .u64 (s : Int)) (.inl ⟨by rfl, fun w' _ => by (rcases Q2.out with ⟨rfl, rfl⟩ | ⟨rfl, rfl⟩ | ⟨rfl, rfl⟩ <;> go_simp <;> try (first | omega | decide))⟩) ?_
    simp only [AP]
    refine svl (.bool false) (.inl ⟨by rfl, fun w' _ => by (go_simp; try omega)⟩) ?_
    simp only [AP]
    refine wpSeq_yield (S := fun _ => True) (yieldsIf_pick rfl _ _ _ rfl true rfl (.bool false) rfl) trivial ?_
    simp only [AP]
    refine wpSeq_nil ?_
    refine (by assumption : ∀ (a : Act) (w : World), _ → _) _ _ ?_
    go_upto_region 4 with fail
    rename_i aK
    refine wp_region_seq ?_
    refine smv (.int .i64 (k : Int)) rfl rfl rfl ?_
    simp only [AP]
    refine sas (.int .i64 (k : Int)) rfl rfl rfl ?_
    simp only [AP]
    refine wpSeq_nil ?_
    refine (by assumption : ∀ (a : Act) (w : World), _ → _) _ _ ?_
    go_wp2
    go_ret
    have e9 : k = R := by omega
    subst e9
    exact ⟨rfl, Below.refl _ _⟩
  ·
   skip
   go_upto_region 2 with fail
   rename_i aK
   refine wp_region_seq ?_
   refine smv (.int .i64 (k : Int)) rfl rfl rfl ?_
   simp only [AP]
   refine svl (.bool false) (.inl ⟨by rfl, fun w' _ => by (go_simp; try omega)⟩) ?_
   simp only [AP]
   refine smv (.bool false) rfl rfl rfl ?_
   simp only [AP]
   refine wpSeq_yield (S := fun _ => True) (yieldsIf_off rfl) trivial ?_
   simp only [AP]
   refine wpSeq_yield (S := fun _ => True) (yieldsIf_off rfl) trivial ?_
   simp only [AP]
   refine wpSeq_yield (S := fun _ => True) (yieldsIf_off rfl) trivial ?_
   simp only [AP]
   refine wpSeq_yield (S := fun _ => True) (yieldsIf_off rfl) trivial ?_
   simp only [AP]
   refine wpSeq_yield (S := fun _ => True) (yieldsIf_off rfl) trivial ?_
   simp only [AP]
   refine wpSeq_yield (S := fun _ => True) (yieldsIf_off rfl) trivial ?_
   simp only [AP]
   refine wpSeq_yield (S := fun _ => True) (yieldsIf_off rfl) trivial ?_
   simp only [AP]
   refine wpSeq_yield (S := fun _ => True) (yieldsIf_off rfl) trivial ?_
   simp only [AP]
   refine wpSeq_yield (S := fun _ => True) (yieldsIf_pick rfl _ _ _ rfl false rfl (.bool false) rfl) trivial ?_
   simp only [AP]
   refine wpSeq_nil ?_
   refine (by assumption : ∀ (a : Act) (w : World), _ → _) _ _ ?_
   go_upto_region 4 with fail
   rename_i aK
   refine wp_region_seq ?_
   refine smv (.int .i64 (k : Int)) rfl rfl rfl ?_
   simp only [AP]
   refine sas (.int .i64 (k : Int)) rfl rfl rfl ?_
   simp only [AP]
   refine wpSeq_nil ?_
   refine (by assumption : ∀ (a : Act) (w : World), _ → _) _ _ ?_
   go_wp2
   go_ret
   have e9 : k = R := by have := R4.out; omega
   subst e9
   exact ⟨rfl, Below.refl _ _⟩
set_option maxHeartbeats 4000000 in
set_option maxRecDepth 100000 in
theorem full_w (k : Int) (w short next : Nat) (hw : (fourN k = 1 ∧ w = 256) ∨ (fourN k = 2 ∧ w = 65536) ∨ (fourN k = 3 ∧ w = 16777216) ∨ (fourN k = 4 ∧ w = 4294967296)) (hs : short < 18446744073709551616) (hn : next < 4611686018427387904) (W : World) : Calls Tryd.prog 38 #[.int .u64 (short : Int), .int .i64 k, .int .u64 (next : Int)] W fun e w' => e = .returned (.int .u64 ((fullW w short next : Nat) : Int)) ∧ Below W.heap.size W w' := by
 have f4 : ((fourN k : Nat) : Int) = min (max k 1) 4 := by
  unfold fourN
  split
  · omega
  ·
   split
   · omega
   · omega
 unfold fullW
 obtain ⟨n, hn4⟩ : ∃ n, fourN k = n := ⟨_, rfl⟩
 rw [hn4] at hw f4
 clear hn4
 replace f4 := Lib.hid f4
 obtain ⟨a, ha⟩ : ∃ a, next % w = a := ⟨_, rfl⟩
 obtain ⟨s, hs2⟩ : ∃ s, short % w = s := ⟨_, rfl⟩
 obtain ⟨b, hb⟩ : ∃ b, next - a = b := ⟨_, rfl⟩
 obtain ⟨c, hc⟩ : ∃ c, b + s = c := ⟨_, rfl⟩
 obtain ⟨h, hh⟩ : ∃ h, w / 2 = h := ⟨_, rfl⟩
 obtain ⟨e, he⟩ : ∃ e, next - c = e := ⟨_, rfl⟩
 obtain ⟨f, hf⟩ : ∃ f, c - next = f := ⟨_, rfl⟩
 obtain ⟨q, hq⟩ : ∃ q, 4611686018427387904 - w = q := ⟨_, rfl⟩
 obtain ⟨u, hu⟩ : ∃ u, c + w = u := ⟨_, rfl⟩
 obtain ⟨v, hv⟩ : ∃ v, c - w = v := ⟨_, rfl⟩
 have wp : 256 ≤ w ∧ w ≤ 4294967296 := by omega
 have al : a ≤ next := by rw [← ha]; exact Nat.mod_le _ _
 have sl : s < w := by rw [← hs2]; exact Nat.mod_lt _ (by omega)
 have t1 : (next : Int).tmod (w : Int) = (a : Int) := by rw [← ha]; exact Int.tmod_eq_emod_of_nonneg (by omega)
 have t2 : (short : Int).tmod (w : Int) = (s : Int) := by rw [← hs2]; exact Int.tmod_eq_emod_of_nonneg (by omega)
 have t3 : (w : Int).tdiv 2 = (h : Int) := by rw [← hh]; exact Int.tdiv_eq_ediv_of_nonneg (by omega)
 have c62 : c < 4611686018427387904 := by
  rcases hw with ⟨_, rfl⟩ | ⟨_, rfl⟩ | ⟨_, rfl⟩ | ⟨_, rfl⟩
  all_goals omega
 rw [ha, hs2, hb, hc, hh, hq, hu, hv]
 clear ha hs2
 have w1 : IntKind.u64.wrap ((next : Int) - (a : Int)) = (b : Int) := by rw [IntKind.wrap_u64]; omega
 have w2 : IntKind.u64.wrap ((b : Int) + (s : Int)) = (c : Int) := by rw [IntKind.wrap_u64]; omega
 have w3 : IntKind.u64.wrap (4611686018427387904 - (w : Int)) = (q : Int) := by rw [IntKind.wrap_u64]; omega
 have w4 : c ≤ next → IntKind.u64.wrap ((next : Int) - (c : Int)) = (e : Int) := fun x => by rw [IntKind.wrap_u64]; omega
 have w5 : next < c → IntKind.u64.wrap ((c : Int) - (next : Int)) = (f : Int) := fun x => by rw [IntKind.wrap_u64]; omega
 have w6 : IntKind.u64.wrap ((c : Int) + (w : Int)) = (u : Int) := by rw [IntKind.wrap_u64]; omega
 have w7 : w ≤ c → IntKind.u64.wrap ((c : Int) - (w : Int)) = (v : Int) := fun x => by rw [IntKind.wrap_u64]; omega
 have m1 : IntKind.u64.wrap (a : Int) = (a : Int) := by rw [IntKind.wrap_u64]; omega
 have m2 : IntKind.u64.wrap (s : Int) = (s : Int) := by rw [IntKind.wrap_u64]; omega
 have m3 : IntKind.u64.wrap (h : Int) = (h : Int) := by rw [IntKind.wrap_u64]; omega
 have wz : ¬ (w : Int) = 0 := by omega
 obtain ⟨R, hR⟩ : ∃ R, R = (if c < q ∧ h ≤ next ∧ c ≤ next - h then u else if w ≤ c ∧ next < c - h then v else c) := ⟨_, rfl⟩
 rw [← hR]
 go_enter Tryd.func38, Tryd.ntmps38
 go_upto_region 0 with fail
 rename_i aK
 refine wp_region_seq ?_
 refine sas (.int .u64 0) rfl rfl rfl ?_
 simp only [AP]
 refine wpSeq_nil ?_
 refine aK _ _ ?_
 clear aK
 go_upto_region 1 with fail
 rename_i aK
 refine wp_region_seq ?_
 refine smv (.int .i64 k) rfl rfl rfl ?_
 simp only [AP]
 refine svl (.int .i64 (max k 1)) (.inl ⟨by rfl, fun w' _ => by (go_simp; try omega)⟩) ?_
 simp only [AP]
 refine svl (.int .i64 (n : Int)) (.inl ⟨by rfl, fun w' _ => by (rw [f4.out]; go_simp; try omega)⟩) ?_
 simp only [AP]
 refine svl (.int .i64 ((8 * n : Nat) : Int)) (.inl ⟨by rfl, fun w' _ => by (rcases hw with ⟨rfl, rfl⟩ | ⟨rfl, rfl⟩ | ⟨rfl, rfl⟩ | ⟨rfl, rfl⟩ <;> go_simp <;> try decide)⟩) ?_
 simp only [AP]
 refine svl (.int .u64 (w : Int)) (.inl ⟨by rfl, fun w' _ => by (rcases hw with ⟨rfl, rfl⟩ | ⟨rfl, rfl⟩ | ⟨rfl, rfl⟩ | ⟨rfl, rfl⟩ <;> go_simp <;> try decide)⟩) ?_
 simp only [AP]
 refine sas (.int .u64 (w : Int)) rfl rfl rfl ?_
 simp only [AP]
 refine wpSeq_nil ?_
 refine aK _ _ ?_
 clear aK
 go_upto_region 2 with fail
 rename_i aK
 refine wp_region_S (S := fun _ => True) (by kernel_rfl) ?_
 refine wpAnyS_takeL 0 (v := .int .u64 (next : Int)) rfl (by kernel_rfl) (by kernel_rfl) (by kernel_rfl) (fun _ _ _ H => H) (yieldsIf_move rfl _ rfl (.int .u64 (next : Int)) rfl) trivial ?_
 simp only [AP]
 refine wpAnyS_takeL 1 (v := .int .u64 (next : Int)) rfl (by kernel_rfl) (by kernel_rfl) (by kernel_rfl) (fun _ _ _ H => H) (yieldsIf_move rfl _ rfl (.int .u64 (next : Int)) rfl) trivial ?_
 simp only [AP]
 refine wpAnyS_takeL 2 (v := .int .u64 (w : Int)) rfl (by kernel_rfl) (by kernel_rfl) (by kernel_rfl) (fun _ _ _ H => H) (yieldsIf_move rfl _ rfl (.int .u64 (w : Int)) rfl) trivial ?_
 simp only [AP]
 refine wpAnyS_takeL 3 (v := .int .u64 (a : Int)) rfl (by kernel_rfl) (by kernel_rfl) (by kernel_rfl) (fun _ _ _ H => H) (Or.inl ⟨by rfl, fun w' hw' => by (go_simp; try omega)⟩) trivial ?_
 simp only [AP]
 refine wpAnyS_takeL 4 (v := .int .u64 (b : Int)) rfl (by kernel_rfl) (by kernel_rfl) (by kernel_rfl) (fun _ _ _ H => H) (Or.inl ⟨by rfl, fun w' hw' => by (go_simp; try rw [w1])⟩) trivial ?_
 simp only [AP]
 refine wpAnyS_takeL 5 (v := .int .u64 (short : Int)) rfl (by kernel_rfl) (by kernel_rfl) (by kernel_rfl) (fun _ _ _ H => H) (yieldsIf_move rfl _ rfl (.int .u64 (short : Int)) rfl) trivial ?_
 simp only [AP]
 refine wpAnyS_takeL 6 (v := .int .u64 (w : Int)) rfl (by kernel_rfl) (by kernel_rfl) (by kernel_rfl) (fun _ _ _ H => H) (yieldsIf_move rfl _ rfl (.int .u64 (w : Int)) rfl) trivial ?_
 simp only [AP]
 refine wpAnyS_takeL 7 (v := .int .u64 (s : Int)) rfl (by kernel_rfl) (by kernel_rfl) (by kernel_rfl) (fun _ _ _ H => H) (Or.inl ⟨by rfl, fun w' hw' => by (go_simp; try omega)⟩) trivial ?_
 simp only [AP]
 refine wpAnyS_takeL 8 (v := .int .u64 (c : Int)) rfl (by kernel_rfl) (by kernel_rfl) (by kernel_rfl) (fun _ _ _ H => H) (Or.inl ⟨by rfl, fun w' hw' => by (go_simp; try rw [w2])⟩) trivial ?_
 simp only [AP]
 refine wpAnyS_takeL 9 (v := .int .u64 (c : Int)) rfl (by kernel_rfl) (by kernel_rfl) (by kernel_rfl) (fun _ _ _ H => H) (yieldsIf_assign rfl _ rfl (.int .u64 (c : Int)) rfl) trivial ?_
 simp only [AP]
 refine wpAnyS_done (by kernel_rfl) ?_ _
 refine aK _ _ ?_
 clear aK
 by_cases x1 : c ≤ next
 ·
  by_cases x2 : h ≤ e
  ·
   by_cases x3 : c < q
   ·
    skip
    have e9 : u = R := by
     rw [hR, if_pos (by omega)]
    clear hR
    subst e9
    go_upto_region 3 with fail
    rename_i aK
    refine wp_region_seq ?_
    refine smv (.int .u64 (c : Int)) rfl rfl rfl ?_
    simp only [AP]
    refine smv (.int .u64 (next : Int)) rfl rfl rfl ?_
    simp only [AP]
    refine svl (.bool true) (.inl ⟨by rfl, fun w' _ => by (go_simp; try omega)⟩) ?_
    simp only [AP]
    refine smv (.bool true) rfl rfl rfl ?_
    simp only [AP]
    refine smv (.int .u64 (next : Int)) rfl rfl rfl ?_
    simp only [AP]
    refine smv (.int .u64 (c : Int)) rfl rfl rfl ?_
    simp only [AP]
    refine svl (.int .u64 (e : Int)) (.inl ⟨by rfl, fun w' _ => by (go_simp; try rw [w4 x1])⟩) ?_
    simp only [AP]
    refine smv (.int .u64 (w : Int)) rfl rfl rfl ?_
    simp only [AP]
    refine svl (.int .u64 (h : Int)) (.inl ⟨by rfl, fun w' _ => by (go_simp; try omega)⟩) ?_
    simp only [AP]
    refine svl (.bool true) (.inl ⟨by rfl, fun w' _ => by (go_simp; try omega)⟩) ?_
    simp only [AP]
    refine wpSeq_yield (S := fun _ => True) (yieldsIf_pick rfl _ _ _ rfl true rfl (.bool true) rfl) trivial ?_
    simp only [AP]
    refine smv (.bool true) rfl rfl rfl ?_
    simp only [AP]
    refine smv (.int .u64 (c : Int)) rfl rfl rfl ?_
    simp only [AP]
    refine smv (.int .u64 (w : Int)) rfl rfl rfl ?_
    simp only [AP]
    refine svl (.int .u64 (q : Int)) (.inl ⟨by rfl, fun w' _ => by (go_simp; try rw [w3])⟩) ?_
    simp only [AP]
    refine svl (.bool true) (.inl ⟨by rfl, fun w' _ => by (go_simp; try omega)⟩) ?_
    simp only [AP]
    refine wpSeq_yield (S := fun _ => True) (yieldsIf_pick rfl _ _ _ rfl true rfl (.bool true) rfl) trivial ?_
    simp only [AP]
    refine sas (.bool true) rfl rfl rfl ?_
    simp only [AP]
    refine wpSeq_nil ?_
    refine aK _ _ ?_
    clear aK
    go_upto_region 4 with fail
    rename_i aK
    refine wp_region_seq ?_
    refine smv (.int .u64 (c : Int)) rfl rfl rfl ?_
    simp only [AP]
    refine smv (.int .u64 (w : Int)) rfl rfl rfl ?_
    simp only [AP]
    refine svl (.int .u64 (u : Int)) (.inl ⟨by rfl, fun w' _ => by (go_simp; try rw [w6])⟩) ?_
    simp only [AP]
    refine sas (.int .u64 (u : Int)) rfl rfl rfl ?_
    simp only [AP]
    refine wpSeq_nil ?_
    refine aK _ _ ?_
    clear aK
    go_wp2
    go_ret
    exact ⟨rfl, below_drew (Below.refl _ _)⟩
   ·
    skip
    have e9 : c = R := by
     rw [hR, if_neg (by omega), if_neg (by omega)]
    clear hR
    subst e9
    go_upto_region 3 with fail
    rename_i aK
    refine wp_region_seq ?_
    refine smv (.int .u64 (c : Int)) rfl rfl rfl ?_
    simp only [AP]
    refine smv (.int .u64 (next : Int)) rfl rfl rfl ?_
    simp only [AP]
    refine svl (.bool true) (.inl ⟨by rfl, fun w' _ => by (go_simp; try omega)⟩) ?_
    simp only [AP]
    refine smv (.bool true) rfl rfl rfl ?_
    simp only [AP]
    refine smv (.int .u64 (next : Int)) rfl rfl rfl ?_
    simp only [AP]
    refine smv (.int .u64 (c : Int)) rfl rfl rfl ?_
    simp only [AP]
    refine svl (.int .u64 (e : Int)) (.inl ⟨by rfl, fun w' _ => by (go_simp; try rw [w4 x1])⟩) ?_
    simp only [AP]
    refine smv (.int .u64 (w : Int)) rfl rfl rfl ?_
    simp only [AP]
    refine svl (.int .u64 (h : Int)) (.inl ⟨by rfl, fun w' _ => by (go_simp; try omega)⟩) ?_
    simp only [AP]
    refine svl (.bool true) (.inl ⟨by rfl, fun w' _ => by (go_simp; try omega)⟩) ?_
    simp only [AP]
    refine wpSeq_yield (S := fun _ => True) (yieldsIf_pick rfl _ _ _ rfl true rfl (.bool true) rfl) trivial ?_
    simp only [AP]
    refine smv (.bool true) rfl rfl rfl ?_
    simp only [AP]
    refine smv (.int .u64 (c : Int)) rfl rfl rfl ?_
    simp only [AP]
    refine smv (.int .u64 (w : Int)) rfl rfl rfl ?_
    simp only [AP]
    refine svl (.int .u64 (q : Int)) (.inl ⟨by rfl, fun w' _ => by (go_simp; try rw [w3])⟩) ?_
    simp only [AP]
    refine svl (.bool false) (.inl ⟨by rfl, fun w' _ => by (go_simp; try omega)⟩) ?_
    simp only [AP]
    refine wpSeq_yield (S := fun _ => True) (yieldsIf_pick rfl _ _ _ rfl true rfl (.bool false) rfl) trivial ?_
    simp only [AP]
    refine sas (.bool false) rfl rfl rfl ?_
    simp only [AP]
    refine wpSeq_nil ?_
    refine aK _ _ ?_
    clear aK
    go_upto_region 5 with fail
    rename_i aK
    refine wp_region_seq ?_
    refine smv (.int .u64 (c : Int)) rfl rfl rfl ?_
    simp only [AP]
    refine smv (.int .u64 (next : Int)) rfl rfl rfl ?_
    simp only [AP]
    refine svl (.bool false) (.inl ⟨by rfl, fun w' _ => by (go_simp; try omega)⟩) ?_
    simp only [AP]
    refine smv (.bool false) rfl rfl rfl ?_
    simp only [AP]
    refine wpSeq_yield (S := fun _ => True) (yieldsIf_off rfl) trivial ?_
    simp only [AP]
    refine wpSeq_yield (S := fun _ => True) (yieldsIf_off rfl) trivial ?_
    simp only [AP]
    refine wpSeq_yield (S := fun _ => True) (yieldsIf_off rfl) trivial ?_
    simp only [AP]
    refine wpSeq_yield (S := fun _ => True) (yieldsIf_off rfl) trivial ?_
    simp only [AP]
    refine wpSeq_yield (S := fun _ => True) (yieldsIf_off rfl) trivial ?_
    simp only [AP]
    refine wpSeq_yield (S := fun _ => True) (yieldsIf_off rfl) trivial ?_
    simp only [AP]
    refine wpSeq_yield (S := fun _ => True) (yieldsIf_pick rfl _ _ _ rfl false rfl (.bool false) rfl) trivial ?_
    simp only [AP]
    refine smv (.bool false) rfl rfl rfl ?_
    simp only [AP]
    refine wpSeq_yield (S := fun _ => True) (yieldsIf_off rfl) trivial ?_
    simp only [AP]
    refine wpSeq_yield (S := fun _ => True) (yieldsIf_off rfl) trivial ?_
    simp only [AP]
    refine wpSeq_yield (S := fun _ => True) (yieldsIf_off rfl) trivial ?_
    simp only [AP]
    refine wpSeq_yield (S := fun _ => True) (yieldsIf_pick rfl _ _ _ rfl false rfl (.bool false) rfl) trivial ?_
    simp only [AP]
    refine sas (.bool false) rfl rfl rfl ?_
    simp only [AP]
    refine wpSeq_nil ?_
    refine aK _ _ ?_
    clear aK
    go_upto_region 7 with fail
    rename_i aK
    refine wp_region_seq ?_
    refine smv (.int .u64 (c : Int)) rfl rfl rfl ?_
    simp only [AP]
    refine sas (.int .u64 (c : Int)) rfl rfl rfl ?_
    simp only [AP]
    refine wpSeq_nil ?_
    refine aK _ _ ?_
    clear aK
    go_wp2
    go_ret
    exact ⟨rfl, below_drew (Below.refl _ _)⟩
  ·
   skip
   have e9 : c = R := by
    rw [hR, if_neg (by omega), if_neg (by omega)]
   clear hR
   subst e9
   go_upto_region 3 with fail
   rename_i aK
   refine wp_region_seq ?_
   refine smv (.int .u64 (c : Int)) rfl rfl rfl ?_
   simp only [AP]
   refine smv (.int .u64 (next : Int)) rfl rfl rfl ?_
   simp only [AP]
   refine svl (.bool true) (.inl ⟨by rfl, fun w' _ => by (go_simp; try omega)⟩) ?_
   simp only [AP]
   refine smv (.bool true) rfl rfl rfl ?_
   simp only [AP]
   refine smv (.int .u64 (next : Int)) rfl rfl rfl ?_
   simp only [AP]
   refine smv (.int .u64 (c : Int)) rfl rfl rfl ?_
   simp only [AP]
   refine svl (.int .u64 (e : Int)) (.inl ⟨by rfl, fun w' _ => by (go_simp; try rw [w4 x1])⟩) ?_
   simp only [AP]
   refine smv (.int .u64 (w : Int)) rfl rfl rfl ?_
   simp only [AP]
   refine svl (.int .u64 (h : Int)) (.inl ⟨by rfl, fun w' _ => by (go_simp; try omega)⟩) ?_
   simp only [AP]
   refine svl (.bool false) (.inl ⟨by rfl, fun w' _ => by (go_simp; try omega)⟩) ?_
   simp only [AP]
   refine wpSeq_yield (S := fun _ => True) (yieldsIf_pick rfl _ _ _ rfl true rfl (.bool false) rfl) trivial ?_
   simp only [AP]
   refine smv (.bool false) rfl rfl rfl ?_
   simp only [AP]
   refine wpSeq_yield (S := fun _ => True) (yieldsIf_off rfl) trivial ?_
   simp only [AP]
   refine wpSeq_yield (S := fun _ => True) (yieldsIf_off rfl) trivial ?_
   simp only [AP]
   refine wpSeq_yield (S := fun _ => True) (yieldsIf_off rfl) trivial ?_
   simp only [AP]
   refine wpSeq_yield (S := fun _ => True) (yieldsIf_off rfl) trivial ?_
   simp only [AP]
   refine wpSeq_yield (S := fun _ => True) (yieldsIf_pick rfl _ _ _ rfl false rfl (.bool false) rfl) trivial ?_
   simp only [AP]
   refine sas (.bool false) rfl rfl rfl ?_
   simp only [AP]
   refine wpSeq_nil ?_
   refine aK _ _ ?_
   clear aK
   go_upto_region 5 with fail
   rename_i aK
   refine wp_region_seq ?_
   refine smv (.int .u64 (c : Int)) rfl rfl rfl ?_
   simp only [AP]
   refine smv (.int .u64 (next : Int)) rfl rfl rfl ?_
   simp only [AP]
   refine svl (.bool false) (.inl ⟨by rfl, fun w' _ => by (go_simp; try omega)⟩) ?_
   simp only [AP]
   refine smv (.bool false) rfl rfl rfl ?_
   simp only [AP]
   refine wpSeq_yield (S := fun _ => True) (yieldsIf_off rfl) trivial ?_
   simp only [AP]
   refine wpSeq_yield (S := fun _ => True) (yieldsIf_off rfl) trivial ?_
   simp only [AP]
   refine wpSeq_yield (S := fun _ => True) (yieldsIf_off rfl) trivial ?_
   simp only [AP]
   refine wpSeq_yield (S := fun _ => True) (yieldsIf_off rfl) trivial ?_
   simp only [AP]
   refine wpSeq_yield (S := fun _ => True) (yieldsIf_off rfl) trivial ?_
   simp only [AP]
   refine wpSeq_yield (S := fun _ => True) (yieldsIf_off rfl) trivial ?_
   simp only [AP]
   refine wpSeq_yield (S := fun _ => True) (yieldsIf_pick rfl _ _ _ rfl false rfl (.bool false) rfl) trivial ?_
   simp only [AP]
   refine smv (.bool false) rfl rfl rfl ?_
   simp only [AP]
   refine wpSeq_yield (S := fun _ => True) (yieldsIf_off rfl) trivial ?_
   simp only [AP]
   refine wpSeq_yield (S := fun _ => True) (yieldsIf_off rfl) trivial ?_
   simp only [AP]
   refine wpSeq_yield (S := fun _ => True) (yieldsIf_off rfl) trivial ?_
   simp only [AP]
   refine wpSeq_yield (S := fun _ => True) (yieldsIf_pick rfl _ _ _ rfl false rfl (.bool false) rfl) trivial ?_
   simp only [AP]
   refine sas (.bool false) rfl rfl rfl ?_
   simp only [AP]
   refine wpSeq_nil ?_
   refine aK _ _ ?_
   clear aK
   go_upto_region 7 with fail
   rename_i aK
   refine wp_region_seq ?_
   refine smv (.int .u64 (c : Int)) rfl rfl rfl ?_
   simp only [AP]
   refine sas (.int .u64 (c : Int)) rfl rfl rfl ?_
   simp only [AP]
   refine wpSeq_nil ?_
   refine aK _ _ ?_
   clear aK
   go_wp2
   go_ret
   exact ⟨rfl, below_drew (Below.refl _ _)⟩
 ·
  have x2 : next < c := by omega
  go_upto_region 3 with fail
  rename_i aK
  refine wp_region_seq ?_
  refine smv (.int .u64 (c : Int)) rfl rfl rfl ?_
  simp only [AP]
  refine smv (.int .u64 (next : Int)) rfl rfl rfl ?_
  simp only [AP]
  refine svl (.bool false) (.inl ⟨by rfl, fun w' _ => by (go_simp; try omega)⟩) ?_
  simp only [AP]
  refine smv (.bool false) rfl rfl rfl ?_
  simp only [AP]
  refine wpSeq_yield (S := fun _ => True) (yieldsIf_off rfl) trivial ?_
  simp only [AP]
  refine wpSeq_yield (S := fun _ => True) (yieldsIf_off rfl) trivial ?_
  simp only [AP]
  refine wpSeq_yield (S := fun _ => True) (yieldsIf_off rfl) trivial ?_
  simp only [AP]
  refine wpSeq_yield (S := fun _ => True) (yieldsIf_off rfl) trivial ?_
  simp only [AP]
  refine wpSeq_yield (S := fun _ => True) (yieldsIf_off rfl) trivial ?_
  simp only [AP]
  refine wpSeq_yield (S := fun _ => True) (yieldsIf_off rfl) trivial ?_
  simp only [AP]
  refine wpSeq_yield (S := fun _ => True) (yieldsIf_pick rfl _ _ _ rfl false rfl (.bool false) rfl) trivial ?_
  simp only [AP]
  refine smv (.bool false) rfl rfl rfl ?_
  simp only [AP]
  refine wpSeq_yield (S := fun _ => True) (yieldsIf_off rfl) trivial ?_
  simp only [AP]
  refine wpSeq_yield (S := fun _ => True) (yieldsIf_off rfl) trivial ?_
  simp only [AP]
  refine wpSeq_yield (S := fun _ => True) (yieldsIf_off rfl) trivial ?_
  simp only [AP]
  refine wpSeq_yield (S := fun _ => True) (yieldsIf_off rfl) trivial ?_
  simp only [AP]
  refine wpSeq_yield (S := fun _ => True) (yieldsIf_pick rfl _ _ _ rfl false rfl (.bool false) rfl) trivial ?_
  simp only [AP]
  refine sas (.bool false) rfl rfl rfl ?_
  simp only [AP]
  refine wpSeq_nil ?_
  refine aK _ _ ?_
  clear aK
  by_cases y2 : h < f
  ·
   by_cases y3 : w ≤ c
   ·
    skip
    have e9 : v = R := by
     rw [hR, if_neg (by omega), if_pos (by omega)]
    clear hR
    subst e9
    go_upto_region 5 with fail
    rename_i aK
    refine wp_region_seq ?_
    refine smv (.int .u64 (c : Int)) rfl rfl rfl ?_
    simp only [AP]
    refine smv (.int .u64 (next : Int)) rfl rfl rfl ?_
    simp only [AP]
    refine svl (.bool true) (.inl ⟨by rfl, fun w' _ => by (go_simp; try omega)⟩) ?_
    simp only [AP]
    refine smv (.bool true) rfl rfl rfl ?_
    simp only [AP]
    refine smv (.int .u64 (c : Int)) rfl rfl rfl ?_
    simp only [AP]
    refine smv (.int .u64 (next : Int)) rfl rfl rfl ?_
    simp only [AP]
    refine svl (.int .u64 (f : Int)) (.inl ⟨by rfl, fun w' _ => by (go_simp; try rw [w5 x2])⟩) ?_
    simp only [AP]
    refine smv (.int .u64 (w : Int)) rfl rfl rfl ?_
    simp only [AP]
    refine svl (.int .u64 (h : Int)) (.inl ⟨by rfl, fun w' _ => by (go_simp; try omega)⟩) ?_
    simp only [AP]
    refine svl (.bool true) (.inl ⟨by rfl, fun w' _ => by (go_simp; try omega)⟩) ?_
    simp only [AP]
    refine wpSeq_yield (S := fun _ => True) (yieldsIf_pick rfl _ _ _ rfl true rfl (.bool true) rfl) trivial ?_
    simp only [AP]
    refine smv (.bool true) rfl rfl rfl ?_
    simp only [AP]
    refine smv (.int .u64 (c : Int)) rfl rfl rfl ?_
    simp only [AP]
    refine smv (.int .u64 (w : Int)) rfl rfl rfl ?_
    simp only [AP]
    refine svl (.bool true) (.inl ⟨by rfl, fun w' _ => by (go_simp; try omega)⟩) ?_
    simp only [AP]
    refine wpSeq_yield (S := fun _ => True) (yieldsIf_pick rfl _ _ _ rfl true rfl (.bool true) rfl) trivial ?_
    simp only [AP]
    refine sas (.bool true) rfl rfl rfl ?_
    simp only [AP]
    refine wpSeq_nil ?_
    refine aK _ _ ?_
    clear aK
    go_upto_region 6 with fail
    rename_i aK
    refine wp_region_seq ?_
    refine smv (.int .u64 (c : Int)) rfl rfl rfl ?_
    simp only [AP]
    refine smv (.int .u64 (w : Int)) rfl rfl rfl ?_
    simp only [AP]
    refine svl (.int .u64 (v : Int)) (.inl ⟨by rfl, fun w' _ => by (go_simp; try rw [w7 y3])⟩) ?_
    simp only [AP]
    refine sas (.int .u64 (v : Int)) rfl rfl rfl ?_
    simp only [AP]
    refine wpSeq_nil ?_
    refine aK _ _ ?_
    clear aK
    go_wp2
    go_ret
    exact ⟨rfl, below_drew (Below.refl _ _)⟩
   ·
    skip
    have e9 : c = R := by
     rw [hR, if_neg (by omega), if_neg (by omega)]
    clear hR
    subst e9
    go_upto_region 5 with fail
    rename_i aK
    refine wp_region_seq ?_
    refine smv (.int .u64 (c : Int)) rfl rfl rfl ?_
    simp only [AP]
    refine smv (.int .u64 (next : Int)) rfl rfl rfl ?_
    simp only [AP]
    refine svl (.bool true) (.inl ⟨by rfl, fun w' _ => by (go_simp; try omega)⟩) ?_
    simp only [AP]
    refine smv (.bool true) rfl rfl rfl ?_
    simp only [AP]
    refine smv (.int .u64 (c : Int)) rfl rfl rfl ?_
    simp only [AP]
    refine smv (.int .u64 (next : Int)) rfl rfl rfl ?_
    simp only [AP]
    refine svl (.int .u64 (f : Int)) (.inl ⟨by rfl, fun w' _ => by (go_simp; try rw [w5 x2])⟩) ?_
    simp only [AP]
    refine smv (.int .u64 (w : Int)) rfl rfl rfl ?_
    simp only [AP]
    refine svl (.int .u64 (h : Int)) (.inl ⟨by rfl, fun w' _ => by (go_simp; try omega)⟩) ?_
    simp only [AP]
    refine svl (.bool true) (.inl ⟨by rfl, fun w' _ => by (go_simp; try omega)⟩) ?_
    simp only [AP]
    refine wpSeq_yield (S := fun _ => True) (yieldsIf_pick rfl _ _ _ rfl true rfl (.bool true) rfl) trivial ?_
    simp only [AP]
    refine smv (.bool true) rfl rfl rfl ?_
    simp only [AP]
    refine smv (.int .u64 (c : Int)) rfl rfl rfl ?_
    simp only [AP]
    refine smv (.int .u64 (w : Int)) rfl rfl rfl ?_
    simp only [AP]
    refine svl (.bool false) (.inl ⟨by rfl, fun w' _ => by (go_simp; try omega)⟩) ?_
    simp only [AP]
    refine wpSeq_yield (S := fun _ => True) (yieldsIf_pick rfl _ _ _ rfl true rfl (.bool false) rfl) trivial ?_
    simp only [AP]
    refine sas (.bool false) rfl rfl rfl ?_
    simp only [AP]
    refine wpSeq_nil ?_
    refine aK _ _ ?_
    clear aK
    go_upto_region 7 with fail
    rename_i aK
    refine wp_region_seq ?_
    refine smv (.int .u64 (c : Int)) rfl rfl rfl ?_
    simp only [AP]
    refine sas (.int .u64 (c : Int)) rfl rfl rfl ?_
    simp only [AP]
    refine wpSeq_nil ?_
    refine aK _ _ ?_
    clear aK
    go_wp2
    go_ret
    exact ⟨rfl, below_drew (Below.refl _ _)⟩
  ·
   skip
   have e9 : c = R := by
    rw [hR, if_neg (by omega), if_neg (by omega)]
   clear hR
   subst e9
   go_upto_region 5 with fail
   rename_i aK
   refine wp_region_seq ?_
   refine smv (.int .u64 (c : Int)) rfl rfl rfl ?_
   simp only [AP]
   refine smv (.int .u64 (next : Int)) rfl rfl rfl ?_
   simp only [AP]
   refine svl (.bool true) (.inl ⟨by rfl, fun w' _ => by (go_simp; try omega)⟩) ?_
   simp only [AP]
   refine smv (.bool true) rfl rfl rfl ?_
   simp only [AP]
   refine smv (.int .u64 (c : Int)) rfl rfl rfl ?_
   simp only [AP]
   refine smv (.int .u64 (next : Int)) rfl rfl rfl ?_
   simp only [AP]
   refine svl (.int .u64 (f : Int)) (.inl ⟨by rfl, fun w' _ => by (go_simp; try rw [w5 x2])⟩) ?_
   simp only [AP]
   refine smv (.int .u64 (w : Int)) rfl rfl rfl ?_
   simp only [AP]
   refine svl (.int .u64 (h : Int)) (.inl ⟨by rfl, fun w' _ => by (go_simp; try omega)⟩) ?_
   simp only [AP]
   refine svl (.bool false) (.inl ⟨by rfl, fun w' _ => by (go_simp; try omega)⟩) ?_
   simp only [AP]
   refine wpSeq_yield (S := fun _ => True) (yieldsIf_pick rfl _ _ _ rfl true rfl (.bool false) rfl) trivial ?_
   simp only [AP]
   refine smv (.bool false) rfl rfl rfl ?_
   simp only [AP]
   refine wpSeq_yield (S := fun _ => True) (yieldsIf_off rfl) trivial ?_
   simp only [AP]
   refine wpSeq_yield (S := fun _ => True) (yieldsIf_off rfl) trivial ?_
   simp only [AP]
   refine wpSeq_yield (S := fun _ => True) (yieldsIf_off rfl) trivial ?_
   simp only [AP]
   refine wpSeq_yield (S := fun _ => True) (yieldsIf_pick rfl _ _ _ rfl false rfl (.bool false) rfl) trivial ?_
   simp only [AP]
   refine sas (.bool false) rfl rfl rfl ?_
   simp only [AP]
   refine wpSeq_nil ?_
   refine aK _ _ ?_
   clear aK
   go_upto_region 7 with fail
   rename_i aK
   refine wp_region_seq ?_
   refine smv (.int .u64 (c : Int)) rfl rfl rfl ?_
   simp only [AP]
   refine sas (.int .u64 (c : Int)) rfl rfl rfl ?_
   simp only [AP]
   refine wpSeq_nil ?_
   refine aK _ _ ?_
   clear aK
   go_wp2
   go_ret
   exact ⟨rfl, below_drew (Below.refl _ _)⟩
/-- The program's Full. -/
theorem full_c : FullC := fun short next k hs hn _ W => full_w k (256 ^ fourN k) short next (pow_four (fourN_is k)) hs hn W
end Go.Proofs.YtpihgljdbpnehaaDoor
