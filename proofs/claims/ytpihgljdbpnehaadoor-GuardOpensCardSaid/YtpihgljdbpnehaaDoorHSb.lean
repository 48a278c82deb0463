/- What the program's Short and Full are asked to answer; the reference's (printed by gen12/sb.py). -/
import Derived.Test.YtpihgljdbpnehaaDoorLq0Nb
import Derived.Test.YtpihgljdbpnehaaDoorBg0HSa
namespace Go.Proofs.YtpihgljdbpnehaaDoor
open Go.RowKit
/-- What the program's Short is asked to answer. -/
def ShortC : Prop := ∀ pn acked : Nat, acked ≤ pn → pn < 4611686018427387904 → ∀ W, Calls Tryd.prog 25 #[.int .u64 (pn : Int), .int .u64 (acked : Int)] W fun e w' => e = .returned (.int .i64 ((shortN pn acked : Nat) : Int)) ∧ Below W.heap.size W w'
/-- The bytes' number as one from 1 to 4. -/
def fourN (k : Int) : Nat := if k < 1 then 1 else if 4 < k then 4 else k.toNat
theorem fourN_is (k : Int) : fourN k = 1 ∨ fourN k = 2 ∨ fourN k = 3 ∨ fourN k = 4 := by
 unfold fourN
 split
 · exact Or.inl rfl
 ·
  split
  · exact Or.inr (Or.inr (Or.inr rfl))
  · omega
/-- What the program's Full is asked to answer. -/
def FullC : Prop := ∀ (short next : Nat) (k : Int), short < 18446744073709551616 → next < 4611686018427387904 → IntKind.i64.wrap k = k → ∀ W, Calls Tryd.prog 38 #[.int .u64 (short : Int), .int .i64 k, .int .u64 (next : Int)] W fun e w' => e = .returned (.int .u64 ((fullN short (fourN k) next : Nat) : Int)) ∧ Below W.heap.size W w'
set_option maxHeartbeats 4000000 in
set_option maxRecDepth 100000 in
theorem rfull_w (n w short next : Nat) (hw : n = 1 ∧ w = 256 ∨ n = 2 ∧ w = 65536 ∨ n = 3 ∧ w = 16777216 ∨ n = 4 ∧ w = 4294967296) (hs : short < 18446744073709551616) (hn : next < 4611686018427387904) (W : World) : Calls Tryd.prog 40 #[.int .u64 (short : Int), .int .i64 (n : Int), .int .u64 (next : Int)] W fun e w' => e = .returned (.int .u64 ((fullW w short next : Nat) : Int)) ∧ Below W.heap.size W w' := by
 unfold fullW
 obtain ⟨a, ha⟩ : ∃ a, next % w = a := ⟨_, rfl⟩
 obtain ⟨s, hs2⟩ : ∃ s, short % w = s := ⟨_, rfl⟩
 obtain ⟨b, hb⟩ : ∃ b, next - a = b := ⟨_, rfl⟩
 obtain ⟨c, hc⟩ : ∃ c, b + s = c := ⟨_, rfl⟩
 obtain ⟨h, hh⟩ : ∃ h, w / 2 = h := ⟨_, rfl⟩
 obtain ⟨e, he⟩ : ∃ e, next - h = e := ⟨_, rfl⟩
 obtain ⟨f, hf⟩ : ∃ f, c - h = f := ⟨_, rfl⟩
 obtain ⟨q, hq⟩ : ∃ q, 4611686018427387904 - w = q := ⟨_, rfl⟩
 obtain ⟨u, hu⟩ : ∃ u, c + w = u := ⟨_, rfl⟩
 obtain ⟨v, hv⟩ : ∃ v, c - w = v := ⟨_, rfl⟩
 have wp : 256 ≤ w ∧ w ≤ 4294967296 := by omega
 have al : a ≤ next := by rw [← ha]; exact Nat.mod_le _ _
 have sl : s < w := by rw [← hs2]; exact Nat.mod_lt _ (by omega)
 have t1 : (next : Int).tmod (w : Int) = (a : Int) := by rw [← ha]; exact Int.tmod_eq_emod_of_nonneg (by omega)
 have t2 : (short : Int).tmod (w : Int) = (s : Int) := by rw [← hs2]; exact Int.tmod_eq_emod_of_nonneg (by omega)
 have t3 : (w : Int).tdiv 2 = (h : Int) := by rw [← hh]; exact Int.tdiv_eq_ediv_of_nonneg (by omega)
 have c62 : c < 4611686018427387904 := by
  rcases hw with ⟨_, rfl⟩ | ⟨_, rfl⟩ | ⟨_, rfl⟩ | ⟨_, rfl⟩
  all_goals omega
 rw [ha, hs2, hb, hc, hh, he, hf, hq, hu, hv]
 clear ha hs2
 have w1 : IntKind.u64.wrap ((next : Int) - (a : Int)) = (b : Int) := by rw [IntKind.wrap_u64]; omega
 have w2 : IntKind.u64.wrap ((b : Int) + (s : Int)) = (c : Int) := by rw [IntKind.wrap_u64]; omega
 have w3 : IntKind.u64.wrap (4611686018427387904 - (w : Int)) = (q : Int) := by rw [IntKind.wrap_u64]; omega
 have w4 : h ≤ next → IntKind.u64.wrap ((next : Int) - (h : Int)) = (e : Int) := fun x => by rw [IntKind.wrap_u64]; omega
 have w5 : w ≤ c → IntKind.u64.wrap ((c : Int) - (h : Int)) = (f : Int) := fun x => by rw [IntKind.wrap_u64]; omega
 have w6 : IntKind.u64.wrap ((c : Int) + (w : Int)) = (u : Int) := by rw [IntKind.wrap_u64]; omega
 have w7 : w ≤ c → IntKind.u64.wrap ((c : Int) - (w : Int)) = (v : Int) := fun x => by rw [IntKind.wrap_u64]; omega
 have m1 : IntKind.u64.wrap (a : Int) = (a : Int) := by rw [IntKind.wrap_u64]; omega
 have m2 : IntKind.u64.wrap (s : Int) = (s : Int) := by rw [IntKind.wrap_u64]; omega
 have m3 : IntKind.u64.wrap (h : Int) = (h : Int) := by rw [IntKind.wrap_u64]; omega
 have wz : ¬ (w : Int) = 0 := by omega
 obtain ⟨R, hR⟩ : ∃ R, R = (if c < q ∧ h ≤ next ∧ c ≤ e then u else if w ≤ c ∧ next < f then v else c) := ⟨_, rfl⟩
 rw [← hR]
 go_enter Tryd.func40, Tryd.ntmps40
 go_upto_region 0 with fail
 rename_i aK
 refine wp_region_seq ?_
 refine sas (.int .u64 0) rfl rfl rfl ?_
 simp only [AP]
 refine wpSeq_nil ?_
 refine aK _ _ ?_
 clear aK
 go_upto_region 1 with fail
 rename_i aK
 refine wp_region_seq ?_
 refine smv (.int .i64 (n : Int)) rfl rfl rfl ?_
 simp only [AP]
 refine svl (.int .i64 ((8 * n : Nat) : Int)) (.inl ⟨by rfl, fun w' _ => by (rcases hw with ⟨rfl, rfl⟩ | ⟨rfl, rfl⟩ | ⟨rfl, rfl⟩ | ⟨rfl, rfl⟩ <;> go_simp <;> try decide)⟩) ?_
 simp only [AP]
 refine svl (.int .u64 (w : Int)) (.inl ⟨by rfl, fun w' _ => by (rcases hw with ⟨rfl, rfl⟩ | ⟨rfl, rfl⟩ | ⟨rfl, rfl⟩ | ⟨rfl, rfl⟩ <;> go_simp <;> try decide)⟩) ?_
 simp only [AP]
 refine sas (.int .u64 (w : Int)) rfl rfl rfl ?_
 simp only [AP]
 refine wpSeq_nil ?_
 refine aK _ _ ?_
 clear aK
 go_upto_region 2 with fail
 rename_i aK
 refine wp_region_S (S := fun _ => True) (by kernel_rfl) ?_
 refine wpAnyS_takeL 0 (v := .int .u64 (next : Int)) rfl (by kernel_rfl) (by kernel_rfl) (by kernel_rfl) (fun _ _ _ H => H) (yieldsIf_move rfl _ rfl (.int .u64 (next : Int)) rfl) trivial ?_
 simp only [AP]
 refine wpAnyS_takeL 1 (v := .int .u64 (next : Int)) rfl (by kernel_rfl) (by kernel_rfl) (by kernel_rfl) (fun _ _ _ H => H) (yieldsIf_move rfl _ rfl (.int .u64 (next : Int)) rfl) trivial ?_
 simp only [AP]
 refine wpAnyS_takeL 2 (v := .int .u64 (w : Int)) rfl (by kernel_rfl) (by kernel_rfl) (by kernel_rfl) (fun _ _ _ H => H) (yieldsIf_move rfl _ rfl (.int .u64 (w : Int)) rfl) trivial ?_
 simp only [AP]
 refine wpAnyS_takeL 3 (v := .int .u64 (a : Int)) rfl (by kernel_rfl) (by kernel_rfl) (by kernel_rfl) (fun _ _ _ H => H) (Or.inl ⟨by rfl, fun w' hw' => by (go_simp; try omega)⟩) trivial ?_
 simp only [AP]
 refine wpAnyS_takeL 4 (v := .int .u64 (b : Int)) rfl (by kernel_rfl) (by kernel_rfl) (by kernel_rfl) (fun _ _ _ H => H) (Or.inl ⟨by rfl, fun w' hw' => by (go_simp; try rw [w1])⟩) trivial ?_
 simp only [AP]
 refine wpAnyS_takeL 5 (v := .int .u64 (short : Int)) rfl (by kernel_rfl) (by kernel_rfl) (by kernel_rfl) (fun _ _ _ H => H) (yieldsIf_move rfl _ rfl (.int .u64 (short : Int)) rfl) trivial ?_
 simp only [AP]
 refine wpAnyS_takeL 6 (v := .int .u64 (w : Int)) rfl (by kernel_rfl) (by kernel_rfl) (by kernel_rfl) (fun _ _ _ H => H) (yieldsIf_move rfl _ rfl (.int .u64 (w : Int)) rfl) trivial ?_
 simp only [AP]
 refine wpAnyS_takeL 7 (v := .int .u64 (s : Int)) rfl (by kernel_rfl) (by kernel_rfl) (by kernel_rfl) (fun _ _ _ H => H) (Or.inl ⟨by rfl, fun w' hw' => by (go_simp; try omega)⟩) trivial ?_
 simp only [AP]
 refine wpAnyS_takeL 8 (v := .int .u64 (c : Int)) rfl (by kernel_rfl) (by kernel_rfl) (by kernel_rfl) (fun _ _ _ H => H) (Or.inl ⟨by rfl, fun w' hw' => by (go_simp; try rw [w2])⟩) trivial ?_
 simp only [AP]
 refine wpAnyS_takeL 9 (v := .int .u64 (c : Int)) rfl (by kernel_rfl) (by kernel_rfl) (by kernel_rfl) (fun _ _ _ H => H) (yieldsIf_assign rfl _ rfl (.int .u64 (c : Int)) rfl) trivial ?_
 simp only [AP]
 refine wpAnyS_done (by kernel_rfl) ?_ _
 refine aK _ _ ?_
 clear aK
 by_cases x1 : c < q
 ·
  by_cases x2 : h ≤ next
  ·
   by_cases x3 : c ≤ e
   ·
    have e9 : u = R := by rw [hR, if_pos ⟨x1, x2, x3⟩]
    clear hR
    subst e9
    go_upto_region 3 with fail
    rename_i aK
    refine wp_region_seq ?_
    refine smv (.int .u64 (c : Int)) rfl rfl rfl ?_
    simp only [AP]
    refine smv (.int .u64 (w : Int)) rfl rfl rfl ?_
    simp only [AP]
    refine svl (.int .u64 (q : Int)) (.inl ⟨by rfl, fun w' _ => by (go_simp; try rw [w3])⟩) ?_
    simp only [AP]
    refine svl (.bool true) (.inl ⟨by rfl, fun w' _ => by (go_simp; try omega)⟩) ?_
    simp only [AP]
    refine smv (.bool true) rfl rfl rfl ?_
    simp only [AP]
    refine smv (.int .u64 (next : Int)) rfl rfl rfl ?_
    simp only [AP]
    refine smv (.int .u64 (w : Int)) rfl rfl rfl ?_
    simp only [AP]
    refine svl (.int .u64 (h : Int)) (.inl ⟨by rfl, fun w' _ => by (go_simp; try omega)⟩) ?_
    simp only [AP]
    refine svl (.bool true) (.inl ⟨by rfl, fun w' _ => by (go_simp; try omega)⟩) ?_
    simp only [AP]
    refine wpSeq_yield (S := fun _ => True) (yieldsIf_pick rfl _ _ _ rfl true rfl (.bool true) rfl) trivial ?_
    simp only [AP]
    refine smv (.bool true) rfl rfl rfl ?_
    simp only [AP]
    refine smv (.int .u64 (c : Int)) rfl rfl rfl ?_
    simp only [AP]
    refine smv (.int .u64 (next : Int)) rfl rfl rfl ?_
    simp only [AP]
    refine smv (.int .u64 (w : Int)) rfl rfl rfl ?_
    simp only [AP]
    refine svl (.int .u64 (h : Int)) (.inl ⟨by rfl, fun w' _ => by (go_simp; try omega)⟩) ?_
    simp only [AP]
    refine svl (.int .u64 (e : Int)) (.inl ⟨by rfl, fun w' _ => by (go_simp; try rw [w4 x2])⟩) ?_
    simp only [AP]
    refine svl (.bool true) (.inl ⟨by rfl, fun w' _ => by (go_simp; try omega)⟩) ?_
    simp only [AP]
    refine wpSeq_yield (S := fun _ => True) (yieldsIf_pick rfl _ _ _ rfl true rfl (.bool true) rfl) trivial ?_
    simp only [AP]
    refine wpSeq_nil ?_
    refine aK _ _ ?_
    clear aK
    go_upto_region 4 with fail
    rename_i aK
    refine wp_region_seq ?_
    refine smv (.int .u64 (c : Int)) rfl rfl rfl ?_
    simp only [AP]
    refine smv (.int .u64 (w : Int)) rfl rfl rfl ?_
    simp only [AP]
    refine svl (.int .u64 (u : Int)) (.inl ⟨by rfl, fun w' _ => by (go_simp; try rw [w6])⟩) ?_
    simp only [AP]
    refine sas (.int .u64 (u : Int)) rfl rfl rfl ?_
    simp only [AP]
    refine wpSeq_nil ?_
    refine aK _ _ ?_
    clear aK
    go_wp2
    go_ret
    exact ⟨rfl, below_drew (Below.refl _ _)⟩
   go_upto_region 3 with fail
   rename_i aK
   refine wp_region_seq ?_
   refine smv (.int .u64 (c : Int)) rfl rfl rfl ?_
   simp only [AP]
   refine smv (.int .u64 (w : Int)) rfl rfl rfl ?_
   simp only [AP]
   refine svl (.int .u64 (q : Int)) (.inl ⟨by rfl, fun w' _ => by (go_simp; try rw [w3])⟩) ?_
   simp only [AP]
   refine svl (.bool true) (.inl ⟨by rfl, fun w' _ => by (go_simp; try omega)⟩) ?_
   simp only [AP]
   refine smv (.bool true) rfl rfl rfl ?_
   simp only [AP]
   refine smv (.int .u64 (next : Int)) rfl rfl rfl ?_
   simp only [AP]
   refine smv (.int .u64 (w : Int)) rfl rfl rfl ?_
   simp only [AP]
   refine svl (.int .u64 (h : Int)) (.inl ⟨by rfl, fun w' _ => by (go_simp; try omega)⟩) ?_
   simp only [AP]
   refine svl (.bool true) (.inl ⟨by rfl, fun w' _ => by (go_simp; try omega)⟩) ?_
   simp only [AP]
   refine wpSeq_yield (S := fun _ => True) (yieldsIf_pick rfl _ _ _ rfl true rfl (.bool true) rfl) trivial ?_
   simp only [AP]
   refine smv (.bool true) rfl rfl rfl ?_
   simp only [AP]
   refine smv (.int .u64 (c : Int)) rfl rfl rfl ?_
   simp only [AP]
   refine smv (.int .u64 (next : Int)) rfl rfl rfl ?_
   simp only [AP]
   refine smv (.int .u64 (w : Int)) rfl rfl rfl ?_
   simp only [AP]
   refine svl (.int .u64 (h : Int)) (.inl ⟨by rfl, fun w' _ => by (go_simp; try omega)⟩) ?_
   simp only [AP]
   refine svl (.int .u64 (e : Int)) (.inl ⟨by rfl, fun w' _ => by (go_simp; try rw [w4 x2])⟩) ?_
   simp only [AP]
   refine svl (.bool false) (.inl ⟨by rfl, fun w' _ => by (go_simp; try omega)⟩) ?_
   simp only [AP]
   refine wpSeq_yield (S := fun _ => True) (yieldsIf_pick rfl _ _ _ rfl true rfl (.bool false) rfl) trivial ?_
   simp only [AP]
   refine wpSeq_nil ?_
   refine aK _ _ ?_
   clear aK
   by_cases y1 : w ≤ c
   ·
    by_cases y2 : next < f
    ·
     have e9 : v = R := by rw [hR, if_neg (fun z => x3 z.2.2), if_pos ⟨y1, y2⟩]
     clear hR
     subst e9
     go_upto_region 5 with fail
     rename_i aK
     refine wp_region_seq ?_
     refine smv (.int .u64 (c : Int)) rfl rfl rfl ?_
     simp only [AP]
     refine smv (.int .u64 (w : Int)) rfl rfl rfl ?_
     simp only [AP]
     refine svl (.bool true) (.inl ⟨by rfl, fun w' _ => by (go_simp; try omega)⟩) ?_
     simp only [AP]
     refine smv (.bool true) rfl rfl rfl ?_
     simp only [AP]
     refine smv (.int .u64 (c : Int)) rfl rfl rfl ?_
     simp only [AP]
     refine smv (.int .u64 (w : Int)) rfl rfl rfl ?_
     simp only [AP]
     refine svl (.int .u64 (h : Int)) (.inl ⟨by rfl, fun w' _ => by (go_simp; try omega)⟩) ?_
     simp only [AP]
     refine svl (.int .u64 (f : Int)) (.inl ⟨by rfl, fun w' _ => by (go_simp; try rw [w5 y1])⟩) ?_
     simp only [AP]
     refine smv (.int .u64 (next : Int)) rfl rfl rfl ?_
     simp only [AP]
     refine svl (.bool true) (.inl ⟨by rfl, fun w' _ => by (go_simp; try omega)⟩) ?_
     simp only [AP]
     refine wpSeq_yield (S := fun _ => True) (yieldsIf_pick rfl _ _ _ rfl true rfl (.bool true) rfl) trivial ?_
     simp only [AP]
     refine wpSeq_nil ?_
     refine aK _ _ ?_
     clear aK
     go_upto_region 6 with fail
     rename_i aK
     refine wp_region_seq ?_
     refine smv (.int .u64 (c : Int)) rfl rfl rfl ?_
     simp only [AP]
     refine smv (.int .u64 (w : Int)) rfl rfl rfl ?_
     simp only [AP]
     refine svl (.int .u64 (v : Int)) (.inl ⟨by rfl, fun w' _ => by (go_simp; try rw [w7 y1])⟩) ?_
     simp only [AP]
     refine sas (.int .u64 (v : Int)) rfl rfl rfl ?_
     simp only [AP]
     refine wpSeq_nil ?_
     refine aK _ _ ?_
     clear aK
     go_wp2
     go_ret
     exact ⟨rfl, below_drew (Below.refl _ _)⟩
    have e9 : c = R := by rw [hR, if_neg (fun z => x3 z.2.2), if_neg (fun z => y2 z.2)]
    clear hR
    subst e9
    go_upto_region 5 with fail
    rename_i aK
    refine wp_region_seq ?_
    refine smv (.int .u64 (c : Int)) rfl rfl rfl ?_
    simp only [AP]
    refine smv (.int .u64 (w : Int)) rfl rfl rfl ?_
    simp only [AP]
    refine svl (.bool true) (.inl ⟨by rfl, fun w' _ => by (go_simp; try omega)⟩) ?_
    simp only [AP]
    refine smv (.bool true) rfl rfl rfl ?_
    simp only [AP]
    refine smv (.int .u64 (c : Int)) rfl rfl rfl ?_
    simp only [AP]
    refine smv (.int .u64 (w : Int)) rfl rfl rfl ?_
    simp only [AP]
    refine svl (.int .u64 (h : Int)) (.inl ⟨by rfl, fun w' _ => by (go_simp; try omega)⟩) ?_
    simp only [AP]
    refine svl (.int .u64 (f : Int)) (.inl ⟨by rfl, fun w' _ => by (go_simp; try rw [w5 y1])⟩) ?_
    simp only [AP]
    refine smv (.int .u64 (next : Int)) rfl rfl rfl ?_
    simp only [AP]
    refine svl (.bool false) (.inl ⟨by rfl, fun w' _ => by (go_simp; try omega)⟩) ?_
    simp only [AP]
    refine wpSeq_yield (S := fun _ => True) (yieldsIf_pick rfl _ _ _ rfl true rfl (.bool false) rfl) trivial ?_
    simp only [AP]
    refine wpSeq_nil ?_
    refine aK _ _ ?_
    clear aK
    go_upto_region 7 with fail
    rename_i aK
    refine wp_region_seq ?_
    refine smv (.int .u64 (c : Int)) rfl rfl rfl ?_
    simp only [AP]
    refine sas (.int .u64 (c : Int)) rfl rfl rfl ?_
    simp only [AP]
    refine wpSeq_nil ?_
    refine aK _ _ ?_
    clear aK
    go_wp2
    go_ret
    exact ⟨rfl, below_drew (Below.refl _ _)⟩
   have e9 : c = R := by rw [hR, if_neg (fun z => x3 z.2.2), if_neg (fun z => y1 z.1)]
   clear hR
   subst e9
   go_upto_region 5 with fail
   rename_i aK
   refine wp_region_seq ?_
   refine smv (.int .u64 (c : Int)) rfl rfl rfl ?_
   simp only [AP]
   refine smv (.int .u64 (w : Int)) rfl rfl rfl ?_
   simp only [AP]
   refine svl (.bool false) (.inl ⟨by rfl, fun w' _ => by (go_simp; try omega)⟩) ?_
   simp only [AP]
   refine smv (.bool false) rfl rfl rfl ?_
   simp only [AP]
   refine wpSeq_yield (S := fun _ => True) (yieldsIf_off rfl) trivial ?_
   simp only [AP]
   refine wpSeq_yield (S := fun _ => True) (yieldsIf_off rfl) trivial ?_
   simp only [AP]
   refine wpSeq_yield (S := fun _ => True) (yieldsIf_off rfl) trivial ?_
   simp only [AP]
   refine wpSeq_yield (S := fun _ => True) (yieldsIf_off rfl) trivial ?_
   simp only [AP]
   refine wpSeq_yield (S := fun _ => True) (yieldsIf_off rfl) trivial ?_
   simp only [AP]
   refine wpSeq_yield (S := fun _ => True) (yieldsIf_off rfl) trivial ?_
   simp only [AP]
   refine wpSeq_yield (S := fun _ => True) (yieldsIf_pick rfl _ _ _ rfl false rfl (.bool false) rfl) trivial ?_
   simp only [AP]
   refine wpSeq_nil ?_
   refine aK _ _ ?_
   clear aK
   go_upto_region 7 with fail
   rename_i aK
   refine wp_region_seq ?_
   refine smv (.int .u64 (c : Int)) rfl rfl rfl ?_
   simp only [AP]
   refine sas (.int .u64 (c : Int)) rfl rfl rfl ?_
   simp only [AP]
   refine wpSeq_nil ?_
   refine aK _ _ ?_
   clear aK
   go_wp2
   go_ret
   exact ⟨rfl, below_drew (Below.refl _ _)⟩
  go_upto_region 3 with fail
  rename_i aK
  refine wp_region_seq ?_
  refine smv (.int .u64 (c : Int)) rfl rfl rfl ?_
  simp only [AP]
  refine smv (.int .u64 (w : Int)) rfl rfl rfl ?_
  simp only [AP]
  refine svl (.int .u64 (q : Int)) (.inl ⟨by rfl, fun w' _ => by (go_simp; try rw [w3])⟩) ?_
  simp only [AP]
  refine svl (.bool true) (.inl ⟨by rfl, fun w' _ => by (go_simp; try omega)⟩) ?_
  simp only [AP]
  refine smv (.bool true) rfl rfl rfl ?_
  simp only [AP]
  refine smv (.int .u64 (next : Int)) rfl rfl rfl ?_
  simp only [AP]
  refine smv (.int .u64 (w : Int)) rfl rfl rfl ?_
  simp only [AP]
  refine svl (.int .u64 (h : Int)) (.inl ⟨by rfl, fun w' _ => by (go_simp; try omega)⟩) ?_
  simp only [AP]
  refine svl (.bool false) (.inl ⟨by rfl, fun w' _ => by (go_simp; try omega)⟩) ?_
  simp only [AP]
  refine wpSeq_yield (S := fun _ => True) (yieldsIf_pick rfl _ _ _ rfl true rfl (.bool false) rfl) trivial ?_
  simp only [AP]
  refine smv (.bool false) rfl rfl rfl ?_
  simp only [AP]
  refine wpSeq_yield (S := fun _ => True) (yieldsIf_off rfl) trivial ?_
  simp only [AP]
  refine wpSeq_yield (S := fun _ => True) (yieldsIf_off rfl) trivial ?_
  simp only [AP]
  refine wpSeq_yield (S := fun _ => True) (yieldsIf_off rfl) trivial ?_
  simp only [AP]
  refine wpSeq_yield (S := fun _ => True) (yieldsIf_off rfl) trivial ?_
  simp only [AP]
  refine wpSeq_yield (S := fun _ => True) (yieldsIf_off rfl) trivial ?_
  simp only [AP]
  refine wpSeq_yield (S := fun _ => True) (yieldsIf_off rfl) trivial ?_
  simp only [AP]
  refine wpSeq_yield (S := fun _ => True) (yieldsIf_pick rfl _ _ _ rfl false rfl (.bool false) rfl) trivial ?_
  simp only [AP]
  refine wpSeq_nil ?_
  refine aK _ _ ?_
  clear aK
  by_cases y1 : w ≤ c
  ·
   by_cases y2 : next < f
   ·
    have e9 : v = R := by rw [hR, if_neg (fun z => x2 z.2.1), if_pos ⟨y1, y2⟩]
    clear hR
    subst e9
    go_upto_region 5 with fail
    rename_i aK
    refine wp_region_seq ?_
    refine smv (.int .u64 (c : Int)) rfl rfl rfl ?_
    simp only [AP]
    refine smv (.int .u64 (w : Int)) rfl rfl rfl ?_
    simp only [AP]
    refine svl (.bool true) (.inl ⟨by rfl, fun w' _ => by (go_simp; try omega)⟩) ?_
    simp only [AP]
    refine smv (.bool true) rfl rfl rfl ?_
    simp only [AP]
    refine smv (.int .u64 (c : Int)) rfl rfl rfl ?_
    simp only [AP]
    refine smv (.int .u64 (w : Int)) rfl rfl rfl ?_
    simp only [AP]
    refine svl (.int .u64 (h : Int)) (.inl ⟨by rfl, fun w' _ => by (go_simp; try omega)⟩) ?_
    simp only [AP]
    refine svl (.int .u64 (f : Int)) (.inl ⟨by rfl, fun w' _ => by (go_simp; try rw [w5 y1])⟩) ?_
    simp only [AP]
    refine smv (.int .u64 (next : Int)) rfl rfl rfl ?_
    simp only [AP]
    refine svl (.bool true) (.inl ⟨by rfl, fun w' _ => by (go_simp; try omega)⟩) ?_
    simp only [AP]
    refine wpSeq_yield (S := fun _ => True) (yieldsIf_pick rfl _ _ _ rfl true rfl (.bool true) rfl) trivial ?_
    simp only [AP]
    refine wpSeq_nil ?_
    refine aK _ _ ?_
    clear aK
    go_upto_region 6 with fail
    rename_i aK
    refine wp_region_seq ?_
    refine smv (.int .u64 (c : Int)) rfl rfl rfl ?_
    simp only [AP]
    refine smv (.int .u64 (w : Int)) rfl rfl rfl ?_
    simp only [AP]
    refine svl (.int .u64 (v : Int)) (.inl ⟨by rfl, fun w' _ => by (go_simp; try rw [w7 y1])⟩) ?_
    simp only [AP]
    refine sas (.int .u64 (v : Int)) rfl rfl rfl ?_
    simp only [AP]
    refine wpSeq_nil ?_
    refine aK _ _ ?_
    clear aK
    go_wp2
    go_ret
    exact ⟨rfl, below_drew (Below.refl _ _)⟩
   have e9 : c = R := by rw [hR, if_neg (fun z => x2 z.2.1), if_neg (fun z => y2 z.2)]
   clear hR
   subst e9
   go_upto_region 5 with fail
   rename_i aK
   refine wp_region_seq ?_
   refine smv (.int .u64 (c : Int)) rfl rfl rfl ?_
   simp only [AP]
   refine smv (.int .u64 (w : Int)) rfl rfl rfl ?_
   simp only [AP]
   refine svl (.bool true) (.inl ⟨by rfl, fun w' _ => by (go_simp; try omega)⟩) ?_
   simp only [AP]
   refine smv (.bool true) rfl rfl rfl ?_
   simp only [AP]
   refine smv (.int .u64 (c : Int)) rfl rfl rfl ?_
   simp only [AP]
   refine smv (.int .u64 (w : Int)) rfl rfl rfl ?_
   simp only [AP]
   refine svl (.int .u64 (h : Int)) (.inl ⟨by rfl, fun w' _ => by (go_simp; try omega)⟩) ?_
   simp only [AP]
   refine svl (.int .u64 (f : Int)) (.inl ⟨by rfl, fun w' _ => by (go_simp; try rw [w5 y1])⟩) ?_
   simp only [AP]
   refine smv (.int .u64 (next : Int)) rfl rfl rfl ?_
   simp only [AP]
   refine svl (.bool false) (.inl ⟨by rfl, fun w' _ => by (go_simp; try omega)⟩) ?_
   simp only [AP]
   refine wpSeq_yield (S := fun _ => True) (yieldsIf_pick rfl _ _ _ rfl true rfl (.bool false) rfl) trivial ?_
   simp only [AP]
   refine wpSeq_nil ?_
   refine aK _ _ ?_
   clear aK
   go_upto_region 7 with fail
   rename_i aK
   refine wp_region_seq ?_
   refine smv (.int .u64 (c : Int)) rfl rfl rfl ?_
   simp only [AP]
   refine sas (.int .u64 (c : Int)) rfl rfl rfl ?_
   simp only [AP]
   refine wpSeq_nil ?_
   refine aK _ _ ?_
   clear aK
   go_wp2
   go_ret
   exact ⟨rfl, below_drew (Below.refl _ _)⟩
  have e9 : c = R := by rw [hR, if_neg (fun z => x2 z.2.1), if_neg (fun z => y1 z.1)]
  clear hR
  subst e9
  go_upto_region 5 with fail
  rename_i aK
  refine wp_region_seq ?_
  refine smv (.int .u64 (c : Int)) rfl rfl rfl ?_
  simp only [AP]
  refine smv (.int .u64 (w : Int)) rfl rfl rfl ?_
  simp only [AP]
  refine svl (.bool false) (.inl ⟨by rfl, fun w' _ => by (go_simp; try omega)⟩) ?_
  simp only [AP]
  refine smv (.bool false) rfl rfl rfl ?_
  simp only [AP]
  refine wpSeq_yield (S := fun _ => True) (yieldsIf_off rfl) trivial ?_
  simp only [AP]
  refine wpSeq_yield (S := fun _ => True) (yieldsIf_off rfl) trivial ?_
  simp only [AP]
  refine wpSeq_yield (S := fun _ => True) (yieldsIf_off rfl) trivial ?_
  simp only [AP]
  refine wpSeq_yield (S := fun _ => True) (yieldsIf_off rfl) trivial ?_
  simp only [AP]
  refine wpSeq_yield (S := fun _ => True) (yieldsIf_off rfl) trivial ?_
  simp only [AP]
  refine wpSeq_yield (S := fun _ => True) (yieldsIf_off rfl) trivial ?_
  simp only [AP]
  refine wpSeq_yield (S := fun _ => True) (yieldsIf_pick rfl _ _ _ rfl false rfl (.bool false) rfl) trivial ?_
  simp only [AP]
  refine wpSeq_nil ?_
  refine aK _ _ ?_
  clear aK
  go_upto_region 7 with fail
  rename_i aK
  refine wp_region_seq ?_
  refine smv (.int .u64 (c : Int)) rfl rfl rfl ?_
  simp only [AP]
  refine sas (.int .u64 (c : Int)) rfl rfl rfl ?_
  simp only [AP]
  refine wpSeq_nil ?_
  refine aK _ _ ?_
  clear aK
  go_wp2
  go_ret
  exact ⟨rfl, below_drew (Below.refl _ _)⟩
 go_upto_region 3 with fail
 rename_i aK
 refine wp_region_seq ?_
 refine smv (.int .u64 (c : Int)) rfl rfl rfl ?_
 simp only [AP]
 refine smv (.int .u64 (w : Int)) rfl rfl rfl ?_
 simp only [AP]
 refine svl (.int .u64 (q : Int)) (.inl ⟨by rfl, fun w' _ => by (go_simp; try rw [w3])⟩) ?_
 simp only [AP]
 refine svl (.bool false) (.inl ⟨by rfl, fun w' _ => by (go_simp; try omega)⟩) ?_
 simp only [AP]
 refine smv (.bool false) rfl rfl rfl ?_
 simp only [AP]
 refine wpSeq_yield (S := fun _ => True) (yieldsIf_off rfl) trivial ?_
 simp only [AP]
 refine wpSeq_yield (S := fun _ => True) (yieldsIf_off rfl) trivial ?_
 simp only [AP]
 refine wpSeq_yield (S := fun _ => True) (yieldsIf_off rfl) trivial ?_
 simp only [AP]
 refine wpSeq_yield (S := fun _ => True) (yieldsIf_off rfl) trivial ?_
 simp only [AP]
 refine wpSeq_yield (S := fun _ => True) (yieldsIf_pick rfl _ _ _ rfl false rfl (.bool false) rfl) trivial ?_
 simp only [AP]
 refine smv (.bool false) rfl rfl rfl ?_
 simp only [AP]
 refine wpSeq_yield (S := fun _ => True) (yieldsIf_off rfl) trivial ?_
 simp only [AP]
 refine wpSeq_yield (S := fun _ => True) (yieldsIf_off rfl) trivial ?_
 simp only [AP]
 refine wpSeq_yield (S := fun _ => True) (yieldsIf_off rfl) trivial ?_
 simp only [AP]
 refine wpSeq_yield (S := fun _ => True) (yieldsIf_off rfl) trivial ?_
 simp only [AP]
 refine wpSeq_yield (S := fun _ => True) (yieldsIf_off rfl) trivial ?_
 simp only [AP]
 refine wpSeq_yield (S := fun _ => True) (yieldsIf_off rfl) trivial ?_
 simp only [AP]
 refine wpSeq_yield (S := fun _ => True) (yieldsIf_pick rfl _ _ _ rfl false rfl (.bool false) rfl) trivial ?_
 simp only [AP]
 refine wpSeq_nil ?_
 refine aK _ _ ?_
 clear aK
 by_cases y1 : w ≤ c
 ·
  by_cases y2 : next < f
  ·
   have e9 : v = R := by rw [hR, if_neg (fun z => x1 z.1), if_pos ⟨y1, y2⟩]
   clear hR
   subst e9
   go_upto_region 5 with fail
   rename_i aK
   refine wp_region_seq ?_
   refine smv (.int .u64 (c : Int)) rfl rfl rfl ?_
   simp only [AP]
   refine smv (.int .u64 (w : Int)) rfl rfl rfl ?_
   simp only [AP]
   refine svl (.bool true) (.inl ⟨by rfl, fun w' _ => by (go_simp; try omega)⟩) ?_
   simp only [AP]
   refine smv (.bool true) rfl rfl rfl ?_
   simp only [AP]
   refine smv (.int .u64 (c : Int)) rfl rfl rfl ?_
   simp only [AP]
   refine smv (.int .u64 (w : Int)) rfl rfl rfl ?_
   simp only [AP]
   refine svl (.int .u64 (h : Int)) (.inl ⟨by rfl, fun w' _ => by (go_simp; try omega)⟩) ?_
   simp only [AP]
   refine svl (.int .u64 (f : Int)) (.inl ⟨by rfl, fun w' _ => by (go_simp; try rw [w5 y1])⟩) ?_
   simp only [AP]
   refine smv (.int .u64 (next : Int)) rfl rfl rfl ?_
   simp only [AP]
   refine svl (.bool true) (.inl ⟨by rfl, fun w' _ => by (go_simp; try omega)⟩) ?_
   simp only [AP]
   refine wpSeq_yield (S := fun _ => True) (yieldsIf_pick rfl _ _ _ rfl true rfl (.bool true) rfl) trivial ?_
   simp only [AP]
   refine wpSeq_nil ?_
   refine aK _ _ ?_
   clear aK
   go_upto_region 6 with fail
   rename_i aK
   refine wp_region_seq ?_
   refine smv (.int .u64 (c : Int)) rfl rfl rfl ?_
   simp only [AP]
   refine smv (.int .u64 (w : Int)) rfl rfl rfl ?_
   simp only [AP]
   refine svl (.int .u64 (v : Int)) (.inl ⟨by rfl, fun w' _ => by (go_simp; try rw [w7 y1])⟩) ?_
   simp only [AP]
   refine sas (.int .u64 (v : Int)) rfl rfl rfl ?_
   simp only [AP]
   refine wpSeq_nil ?_
   refine aK _ _ ?_
   clear aK
   go_wp2
   go_ret
   exact ⟨rfl, below_drew (Below.refl _ _)⟩
  have e9 : c = R := by rw [hR, if_neg (fun z => x1 z.1), if_neg (fun z => y2 z.2)]
  clear hR
  subst e9
  go_upto_region 5 with fail
  rename_i aK
  refine wp_region_seq ?_
  refine smv (.int .u64 (c : Int)) rfl rfl rfl ?_
  simp only [AP]
  refine smv (.int .u64 (w : Int)) rfl rfl rfl ?_
  simp only [AP]
  refine svl (.bool true) (.inl ⟨by rfl, fun w' _ => by (go_simp; try omega)⟩) ?_
  simp only [AP]
  refine smv (.bool true) rfl rfl rfl ?_
  simp only [AP]
  refine smv (.int .u64 (c : Int)) rfl rfl rfl ?_
  simp only [AP]
  refine smv (.int .u64 (w : Int)) rfl rfl rfl ?_
  simp only [AP]
  refine svl (.int .u64 (h : Int)) (.inl ⟨by rfl, fun w' _ => by (go_simp; try omega)⟩) ?_
  simp only [AP]
  refine svl (.int .u64 (f : Int)) (.inl ⟨by rfl, fun w' _ => by (go_simp; try rw [w5 y1])⟩) ?_
  simp only [AP]
  refine smv (.int .u64 (next : Int)) rfl rfl rfl ?_
  simp only [AP]
  refine svl (.bool false) (.inl ⟨by rfl, fun w' _ => by (go_simp; try omega)⟩) ?_
  simp only [AP]
  refine wpSeq_yield (S := fun _ => True) (yieldsIf_pick rfl _ _ _ rfl true rfl (.bool false) rfl) trivial ?_
  simp only [AP]
  refine wpSeq_nil ?_
  refine aK _ _ ?_
  clear aK
  go_upto_region 7 with fail
  rename_i aK
  refine wp_region_seq ?_
  refine smv (.int .u64 (c : Int)) rfl rfl rfl ?_
  simp only [AP]
  refine sas (.int .u64 (c : Int)) rfl rfl rfl ?_
  simp only [AP]
  refine wpSeq_nil ?_
  refine aK _ _ ?_
  clear aK
  go_wp2
  go_ret
  exact ⟨rfl, below_drew (Below.refl _ _)⟩
 have e9 : c = R := by rw [hR, if_neg (fun z => x1 z.1), if_neg (fun z => y1 z.1)]
 clear hR
 subst e9
 go_upto_region 5 with fail
 rename_i aK
 refine wp_region_seq ?_
 refine smv (.int .u64 (c : Int)) rfl rfl rfl ?_
 simp only [AP]
 refine smv (.int .u64 (w : Int)) rfl rfl rfl ?_
 simp only [AP]
 refine svl (.bool false) (.inl ⟨by rfl, fun w' _ => by (go_simp; try omega)⟩) ?_
 simp only [AP]
 refine smv (.bool false) rfl rfl rfl ?_
 simp only [AP]
 refine wpSeq_yield (S := fun _ => True) (yieldsIf_off rfl) trivial ?_
 simp only [AP]
 refine wpSeq_yield (S := fun _ => True) (yieldsIf_off rfl) trivial ?_
 simp only [AP]
 refine wpSeq_yield (S := fun _ => True) (yieldsIf_off rfl) trivial ?_
 simp only [AP]
 refine wpSeq_yield (S := fun _ => True) (yieldsIf_off rfl) trivial ?_
 simp only [AP]
 refine wpSeq_yield (S := fun _ => True) (yieldsIf_off rfl) trivial ?_
 simp only [AP]
 refine wpSeq_yield (S := fun _ => True) (yieldsIf_off rfl) trivial ?_
 simp only [AP]
 refine wpSeq_yield (S := fun _ => True) (yieldsIf_pick rfl _ _ _ rfl false rfl (.bool false) rfl) trivial ?_
 simp only [AP]
 refine wpSeq_nil ?_
 refine aK _ _ ?_
 clear aK
 go_upto_region 7 with fail
 rename_i aK
 refine wp_region_seq ?_
 refine smv (.int .u64 (c : Int)) rfl rfl rfl ?_
 simp only [AP]
 refine sas (.int .u64 (c : Int)) rfl rfl rfl ?_
 simp only [AP]
 refine wpSeq_nil ?_
 refine aK _ _ ?_
 clear aK
 go_wp2
 go_ret
 exact ⟨rfl, below_drew (Below.refl _ _)⟩
theorem pow_four {n : Nat} (h : n = 1 ∨ n = 2 ∨ n = 3 ∨ n = 4) : n = 1 ∧ 256 ^ n = 256 ∨ n = 2 ∧ 256 ^ n = 65536 ∨ n = 3 ∧ 256 ^ n = 16777216 ∨ n = 4 ∧ 256 ^ n = 4294967296 := by
 rcases h with rfl | rfl | rfl | rfl <;> decide
/-- The reference's Full. -/
theorem rfull_c (short next n : Nat) (h : n = 1 ∨ n = 2 ∨ n = 3 ∨ n = 4) (hs : short < 18446744073709551616) (hn : next < 4611686018427387904) (W : World) : Calls Tryd.prog 40 #[.int .u64 (short : Int), .int .i64 (n : Int), .int .u64 (next : Int)] W fun e w' => e = .returned (.int .u64 ((fullN short n next : Nat) : Int)) ∧ Below W.heap.size W w' :=
 rfull_w n (256 ^ n) short next (pow_four h) hs hn W
end Go.Proofs.YtpihgljdbpnehaaDoor
