/- A string behind bytes; whether a head's space and names are right (printed by gen12/pb.py). -/
import Derived.Test.YtpihgljdbpnehaaDoorLq0Nb
import Derived.Lib.AppendStr
namespace Go.Proofs.YtpihgljdbpnehaaDoor
open Go.RowKit
theorem append_strs (B : Nat) (w0 w : World) (ty : TypeId) (v : Value) (l : List Nat) (s : ByteArray) (O : OwL B w v l) (hl : l.length + s.size ≤ 1000000) (b : Below B w0 w) (hB : B ≤ w.heap.size) :
  ∃ v' w', (Builtin.append_ #[24, 9] ty #[v, .string s]).run Tryd.prog w = .ok v' w' ∧ OwL B w' v' (l ++ bL s) ∧ Below B w0 w' := by
 obtain ⟨i, hi, hs, hy, hz⟩ := info_u8
 obtain ⟨v', w', hr, h2, h3, _⟩ := Lib.run_append_own_string (P := Tryd.prog) w B 24 9 ty 5 i Tryd.underlying24 Tryd.underlying9 hi hz hs hy v l.length (vals l) O s (by simp only [maxLen]; omega) (by omega) hB
 refine ⟨v', w', hr, ?_, below_grown' b h3 (fun k hk => (O.lt k hk).1) hB⟩
 unfold OwL
 rw [List.length_append, vals_append, bL_length, ← strCells_vals]
 exact h2
theorem load_hd {ops : Array Oper} {o : Oper} {a : Act} (hgd : Region.wanted o (yielded ops a.tmps) = true) (x : Operand) (ho : o.op = .load 42 x) (g : Nat) (hx : a.eval x = .pointer (some ⟨g, 0, none⟩)) (sp : Int) (vt vf : Value) (W : World) (K : Blk W g 42 #[.int .i64 sp, vt, vf]) : YieldsIf Tryd.prog ops (fun w' => w' = W) o (.agg #[.int .i64 sp, vt, vf]) a :=
 yieldsIf_load_mid (S := fun w' => w' = W) hgd 42 x ho g 0 hx [.int .i64 sp, vt, vf] _ (fun _ h => h ▸ blk_range K) Tryd.underlying42 rfl info_hd
set_option maxHeartbeats 8000000 in
set_option maxRecDepth 100000 in
theorem named_c (sp : Int) (to fr : List Nat) (vt vf : Value) (W : World) (h1 : SB W vt to) (h2 : SB W vf fr) :
  Calls Tryd.prog 44 #[hdV sp vt vf] W fun e w' => ∃ x : Bool, e = .returned (.bool x) ∧ (x = true ↔ 0 ≤ sp ∧ sp ≤ 2 ∧ to.length = 8 ∧ (sp < 2 → fr.length = 8)) ∧ Below W.heap.size W w' := by
 obtain ⟨p1, c1, rfl⟩ := h1.shape
 obtain ⟨p2, c2, rfl⟩ := h2.shape
 show Calls Tryd.prog 44 #[.agg #[.int .i64 sp, .slice p1 to.length c1, .slice p2 fr.length c2]] W _
 obtain ⟨m, hm⟩ : ∃ m, to.length = m := ⟨_, rfl⟩
 obtain ⟨n, hn⟩ : ∃ n, fr.length = n := ⟨_, rfl⟩
 rw [hm] at h1
 rw [hn] at h2
 rw [hm, hn]
 clear hm hn
 go_enter Tryd.func44, Tryd.ntmps44
 go_upto_region 0 with fail
 rename_i aK
 refine wp_region_seq ?_
 refine wpSeq_wp rfl ?_
 unfold Oper.wp execOp
 go_simp
 refine sas (.bool false) rfl rfl rfl ?_
 simp only [AP]
 refine wpSeq_nil ?_
 refine aK _ _ ?_
 clear aK
 have K := Blk.new W 42 #[.int .i64 sp, .slice p1 m c1, .slice p2 n c2]
 have b := (Below.refl W.heap.size W).alloc (Nat.le_refl _) (.cells #[.int .i64 sp, .slice p1 m c1, .slice p2 n c2] 42)
 have zz : W.heap.size < (W.alloc (.cells #[.int .i64 sp, .slice p1 m c1, .slice p2 n c2] 42)).heap.size := by rw [size_alloc1]; omega
 generalize World.alloc W _ = W2 at *
 have x0 : W2.cell? ⟨W.heap.size, 0, none⟩ = some (.int .i64 sp) := K.cell 0
 have x1 : W2.cell? ⟨W.heap.size, 1, none⟩ = some (.slice p1 m c1) := K.cell 1
 have x2 : W2.cell? ⟨W.heap.size, 2, none⟩ = some (.slice p2 n c2) := K.cell 2
 replace h1 := Lib.hid (h1.below b)
 replace h2 := Lib.hid (h2.below b)
 replace K := Lib.hid K
 replace b := Lib.hid b
 clear h1 h2 K
 go_upto_region 1 with fail
 rename_i aK
 refine wp_region_seq ?_
 refine svl (.pointer (some ⟨W.heap.size, 0, none⟩)) (.inl ⟨by rfl, fun w' _ => by go_simp⟩) ?_
 simp only [AP]
 refine wpSeq_yield (S := fun w' => w' = W2) (v := .int .i64 sp) (Or.inl ⟨by rfl, fun w' hw' => by (rw [hw']; go_simp)⟩) rfl ?_
 simp only [AP]
 refine wpSeq_nil ?_
 refine (by assumption : ∀ (a : Act) (w : World), _ → _) _ _ ?_
 by_cases q0 : sp = 0
 ·
  skip
  go_upto_region 2 with fail
  rename_i aK
  refine wp_region_seq ?_
  refine svl (.bool true) (.inl ⟨by rfl, fun w' _ => by (go_simp; try omega)⟩) ?_
  simp only [AP]
  refine sas (.bool true) rfl rfl rfl ?_
  simp only [AP]
  refine wpSeq_nil ?_
  refine (by assumption : ∀ (a : Act) (w : World), _ → _) _ _ ?_
  by_cases y1 : m = 8
  ·
   by_cases y2 : n = 8
   ·
    skip
    go_upto_region 4 with fail
    rename_i aK
    refine wp_region_seq ?_
    refine svl (.pointer (some ⟨W.heap.size, 1, none⟩)) (.inl ⟨by rfl, fun w' _ => by go_simp⟩) ?_
    simp only [AP]
    refine wpSeq_yield (S := fun w' => w' = W2) (v := .slice p1 m c1) (Or.inl ⟨by rfl, fun w' hw' => by (rw [hw']; go_simp)⟩) rfl ?_
    simp only [AP]
    refine svl (.int .i64 (m : Int)) (.inl ⟨by rfl, fun w' _ => by go_simp⟩) ?_
    simp only [AP]
    refine svl (.bool true) (.inl ⟨by rfl, fun w' _ => by (go_simp; try omega)⟩) ?_
    simp only [AP]
    refine smv (.bool true) rfl rfl rfl ?_
    simp only [AP]
    refine svl (.pointer (some ⟨W.heap.size, 2, none⟩)) (.inl ⟨by rfl, fun w' _ => by go_simp⟩) ?_
    simp only [AP]
    refine wpSeq_yield (S := fun w' => w' = W2) (v := .slice p2 n c2) (Or.inl ⟨by rfl, fun w' hw' => by (rw [hw']; go_simp)⟩) rfl ?_
    simp only [AP]
    refine svl (.int .i64 (n : Int)) (.inl ⟨by rfl, fun w' _ => by go_simp⟩) ?_
    simp only [AP]
    refine svl (.bool true) (.inl ⟨by rfl, fun w' _ => by (go_simp; try omega)⟩) ?_
    simp only [AP]
    refine wpSeq_yield (S := fun _ => True) (yieldsIf_pick rfl _ _ _ rfl true rfl (.bool true) rfl) trivial ?_
    simp only [AP]
    refine sas (.bool true) rfl rfl rfl ?_
    simp only [AP]
    refine wpSeq_nil ?_
    refine (by assumption : ∀ (a : Act) (w : World), _ → _) _ _ ?_
    clear x0 x1 x2
    go_wp2
    go_ret
    refine ⟨true, rfl, ?_, b.out⟩
    simp only [true_iff]
    omega
   ·
    skip
    go_upto_region 4 with fail
    rename_i aK
    refine wp_region_seq ?_
    refine svl (.pointer (some ⟨W.heap.size, 1, none⟩)) (.inl ⟨by rfl, fun w' _ => by go_simp⟩) ?_
    simp only [AP]
    refine wpSeq_yield (S := fun w' => w' = W2) (v := .slice p1 m c1) (Or.inl ⟨by rfl, fun w' hw' => by (rw [hw']; go_simp)⟩) rfl ?_
    simp only [AP]
    refine svl (.int .i64 (m : Int)) (.inl ⟨by rfl, fun w' _ => by go_simp⟩) ?_
    simp only [AP]
    refine svl (.bool true) (.inl ⟨by rfl, fun w' _ => by (go_simp; try omega)⟩) ?_
    simp only [AP]
    refine smv (.bool true) rfl rfl rfl ?_
    simp only [AP]
    refine svl (.pointer (some ⟨W.heap.size, 2, none⟩)) (.inl ⟨by rfl, fun w' _ => by go_simp⟩) ?_
    simp only [AP]
    refine wpSeq_yield (S := fun w' => w' = W2) (v := .slice p2 n c2) (Or.inl ⟨by rfl, fun w' hw' => by (rw [hw']; go_simp)⟩) rfl ?_
    simp only [AP]
    refine svl (.int .i64 (n : Int)) (.inl ⟨by rfl, fun w' _ => by go_simp⟩) ?_
    simp only [AP]
    refine svl (.bool false) (.inl ⟨by rfl, fun w' _ => by (go_simp; try omega)⟩) ?_
    simp only [AP]
    refine wpSeq_yield (S := fun _ => True) (yieldsIf_pick rfl _ _ _ rfl true rfl (.bool false) rfl) trivial ?_
    simp only [AP]
    refine sas (.bool false) rfl rfl rfl ?_
    simp only [AP]
    refine wpSeq_nil ?_
    refine (by assumption : ∀ (a : Act) (w : World), _ → _) _ _ ?_
    clear x0 x1 x2
    go_wp2
    go_ret
    refine ⟨false, rfl, ?_, b.out⟩
    simp only [Bool.false_eq_true, false_iff]
    omega
  ·
   skip
   go_upto_region 4 with fail
   rename_i aK
   refine wp_region_seq ?_
   refine svl (.pointer (some ⟨W.heap.size, 1, none⟩)) (.inl ⟨by rfl, fun w' _ => by go_simp⟩) ?_
   simp only [AP]
   refine wpSeq_yield (S := fun w' => w' = W2) (v := .slice p1 m c1) (Or.inl ⟨by rfl, fun w' hw' => by (rw [hw']; go_simp)⟩) rfl ?_
   simp only [AP]
   refine svl (.int .i64 (m : Int)) (.inl ⟨by rfl, fun w' _ => by go_simp⟩) ?_
   simp only [AP]
   refine svl (.bool false) (.inl ⟨by rfl, fun w' _ => by (go_simp; try omega)⟩) ?_
   simp only [AP]
   refine smv (.bool false) rfl rfl rfl ?_
   simp only [AP]
   refine wpSeq_yield (S := fun _ => True) (yieldsIf_off rfl) trivial ?_
   simp only [AP]
   refine wpSeq_yield (S := fun _ => True) (yieldsIf_off rfl) trivial ?_
   simp only [AP]
   refine wpSeq_yield (S := fun _ => True) (yieldsIf_off rfl) trivial ?_
   simp only [AP]
   refine wpSeq_yield (S := fun _ => True) (yieldsIf_off rfl) trivial ?_
   simp only [AP]
   refine wpSeq_yield (S := fun _ => True) (yieldsIf_pick rfl _ _ _ rfl false rfl (.bool false) rfl) trivial ?_
   simp only [AP]
   refine sas (.bool false) rfl rfl rfl ?_
   simp only [AP]
   refine wpSeq_nil ?_
   refine (by assumption : ∀ (a : Act) (w : World), _ → _) _ _ ?_
   clear x0 x1 x2
   go_wp2
   go_ret
   refine ⟨false, rfl, ?_, b.out⟩
   simp only [Bool.false_eq_true, false_iff]
   omega
 go_upto_region 2 with fail
 rename_i aK
 refine wp_region_seq ?_
 refine svl (.bool false) (.inl ⟨by rfl, fun w' _ => by (go_simp; try omega)⟩) ?_
 simp only [AP]
 refine sas (.bool false) rfl rfl rfl ?_
 simp only [AP]
 refine wpSeq_nil ?_
 refine (by assumption : ∀ (a : Act) (w : World), _ → _) _ _ ?_
 by_cases q1 : sp = 1
 ·
  skip
  go_upto_region 3 with fail
  rename_i aK
  refine wp_region_seq ?_
  refine svl (.bool true) (.inl ⟨by rfl, fun w' _ => by (go_simp; try omega)⟩) ?_
  simp only [AP]
  refine sas (.bool true) rfl rfl rfl ?_
  simp only [AP]
  refine wpSeq_nil ?_
  refine (by assumption : ∀ (a : Act) (w : World), _ → _) _ _ ?_
  by_cases y1 : m = 8
  ·
   by_cases y2 : n = 8
   ·
    skip
    go_upto_region 4 with fail
    rename_i aK
    refine wp_region_seq ?_
    refine svl (.pointer (some ⟨W.heap.size, 1, none⟩)) (.inl ⟨by rfl, fun w' _ => by go_simp⟩) ?_
    simp only [AP]
    refine wpSeq_yield (S := fun w' => w' = W2) (v := .slice p1 m c1) (Or.inl ⟨by rfl, fun w' hw' => by (rw [hw']; go_simp)⟩) rfl ?_
    simp only [AP]
    refine svl (.int .i64 (m : Int)) (.inl ⟨by rfl, fun w' _ => by go_simp⟩) ?_
    simp only [AP]
    refine svl (.bool true) (.inl ⟨by rfl, fun w' _ => by (go_simp; try omega)⟩) ?_
    simp only [AP]
    refine smv (.bool true) rfl rfl rfl ?_
    simp only [AP]
    refine svl (.pointer (some ⟨W.heap.size, 2, none⟩)) (.inl ⟨by rfl, fun w' _ => by go_simp⟩) ?_
    simp only [AP]
    refine wpSeq_yield (S := fun w' => w' = W2) (v := .slice p2 n c2) (Or.inl ⟨by rfl, fun w' hw' => by (rw [hw']; go_simp)⟩) rfl ?_
    simp only [AP]
    refine svl (.int .i64 (n : Int)) (.inl ⟨by rfl, fun w' _ => by go_simp⟩) ?_
    simp only [AP]
    refine svl (.bool true) (.inl ⟨by rfl, fun w' _ => by (go_simp; try omega)⟩) ?_
    simp only [AP]
    refine wpSeq_yield (S := fun _ => True) (yieldsIf_pick rfl _ _ _ rfl true rfl (.bool true) rfl) trivial ?_
    simp only [AP]
    refine sas (.bool true) rfl rfl rfl ?_
    simp only [AP]
    refine wpSeq_nil ?_
    refine (by assumption : ∀ (a : Act) (w : World), _ → _) _ _ ?_
    clear x0 x1 x2
    go_wp2
    go_ret
    refine ⟨true, rfl, ?_, b.out⟩
    simp only [true_iff]
    omega
   ·
    skip
    go_upto_region 4 with fail
    rename_i aK
    refine wp_region_seq ?_
    refine svl (.pointer (some ⟨W.heap.size, 1, none⟩)) (.inl ⟨by rfl, fun w' _ => by go_simp⟩) ?_
    simp only [AP]
    refine wpSeq_yield (S := fun w' => w' = W2) (v := .slice p1 m c1) (Or.inl ⟨by rfl, fun w' hw' => by (rw [hw']; go_simp)⟩) rfl ?_
    simp only [AP]
    refine svl (.int .i64 (m : Int)) (.inl ⟨by rfl, fun w' _ => by go_simp⟩) ?_
    simp only [AP]
    refine svl (.bool true) (.inl ⟨by rfl, fun w' _ => by (go_simp; try omega)⟩) ?_
    simp only [AP]
    refine smv (.bool true) rfl rfl rfl ?_
    simp only [AP]
    refine svl (.pointer (some ⟨W.heap.size, 2, none⟩)) (.inl ⟨by rfl, fun w' _ => by go_simp⟩) ?_
    simp only [AP]
    refine wpSeq_yield (S := fun w' => w' = W2) (v := .slice p2 n c2) (Or.inl ⟨by rfl, fun w' hw' => by (rw [hw']; go_simp)⟩) rfl ?_
    simp only [AP]
    refine svl (.int .i64 (n : Int)) (.inl ⟨by rfl, fun w' _ => by go_simp⟩) ?_
    simp only [AP]
    refine svl (.bool false) (.inl ⟨by rfl, fun w' _ => by (go_simp; try omega)⟩) ?_
    simp only [AP]
    refine wpSeq_yield (S := fun _ => True) (yieldsIf_pick rfl _ _ _ rfl true rfl (.bool false) rfl) trivial ?_
    simp only [AP]
    refine sas (.bool false) rfl rfl rfl ?_
    simp only [AP]
    refine wpSeq_nil ?_
    refine (by assumption : ∀ (a : Act) (w : World), _ → _) _ _ ?_
    clear x0 x1 x2
    go_wp2
    go_ret
    refine ⟨false, rfl, ?_, b.out⟩
    simp only [Bool.false_eq_true, false_iff]
    omega
  ·
   skip
   go_upto_region 4 with fail
   rename_i aK
   refine wp_region_seq ?_
   refine svl (.pointer (some ⟨W.heap.size, 1, none⟩)) (.inl ⟨by rfl, fun w' _ => by go_simp⟩) ?_
   simp only [AP]
   refine wpSeq_yield (S := fun w' => w' = W2) (v := .slice p1 m c1) (Or.inl ⟨by rfl, fun w' hw' => by (rw [hw']; go_simp)⟩) rfl ?_
   simp only [AP]
   refine svl (.int .i64 (m : Int)) (.inl ⟨by rfl, fun w' _ => by go_simp⟩) ?_
   simp only [AP]
   refine svl (.bool false) (.inl ⟨by rfl, fun w' _ => by (go_simp; try omega)⟩) ?_
   simp only [AP]
   refine smv (.bool false) rfl rfl rfl ?_
   simp only [AP]
   refine wpSeq_yield (S := fun _ => True) (yieldsIf_off rfl) trivial ?_
   simp only [AP]
   refine wpSeq_yield (S := fun _ => True) (yieldsIf_off rfl) trivial ?_
   simp only [AP]
   refine wpSeq_yield (S := fun _ => True) (yieldsIf_off rfl) trivial ?_
   simp only [AP]
   refine wpSeq_yield (S := fun _ => True) (yieldsIf_off rfl) trivial ?_
   simp only [AP]
   refine wpSeq_yield (S := fun _ => True) (yieldsIf_pick rfl _ _ _ rfl false rfl (.bool false) rfl) trivial ?_
   simp only [AP]
   refine sas (.bool false) rfl rfl rfl ?_
   simp only [AP]
   refine wpSeq_nil ?_
   refine (by assumption : ∀ (a : Act) (w : World), _ → _) _ _ ?_
   clear x0 x1 x2
   go_wp2
   go_ret
   refine ⟨false, rfl, ?_, b.out⟩
   simp only [Bool.false_eq_true, false_iff]
   omega
 go_upto_region 3 with fail
 rename_i aK
 refine wp_region_seq ?_
 refine svl (.bool false) (.inl ⟨by rfl, fun w' _ => by (go_simp; try omega)⟩) ?_
 simp only [AP]
 refine sas (.bool false) rfl rfl rfl ?_
 simp only [AP]
 refine wpSeq_nil ?_
 refine (by assumption : ∀ (a : Act) (w : World), _ → _) _ _ ?_
 by_cases q2 : sp = 2
 ·
  skip
  go_upto_region 5 with fail
  rename_i aK
  refine wp_region_seq ?_
  refine svl (.bool true) (.inl ⟨by rfl, fun w' _ => by (go_simp; try omega)⟩) ?_
  simp only [AP]
  refine sas (.bool true) rfl rfl rfl ?_
  simp only [AP]
  refine wpSeq_nil ?_
  refine (by assumption : ∀ (a : Act) (w : World), _ → _) _ _ ?_
  by_cases y1 : m = 8
  ·
   skip
   go_upto_region 6 with fail
   rename_i aK
   refine wp_region_seq ?_
   refine svl (.pointer (some ⟨W.heap.size, 1, none⟩)) (.inl ⟨by rfl, fun w' _ => by go_simp⟩) ?_
   simp only [AP]
   refine wpSeq_yield (S := fun w' => w' = W2) (v := .slice p1 m c1) (Or.inl ⟨by rfl, fun w' hw' => by (rw [hw']; go_simp)⟩) rfl ?_
   simp only [AP]
   refine svl (.int .i64 (m : Int)) (.inl ⟨by rfl, fun w' _ => by go_simp⟩) ?_
   simp only [AP]
   refine svl (.bool true) (.inl ⟨by rfl, fun w' _ => by (go_simp; try omega)⟩) ?_
   simp only [AP]
   refine sas (.bool true) rfl rfl rfl ?_
   simp only [AP]
   refine wpSeq_nil ?_
   refine (by assumption : ∀ (a : Act) (w : World), _ → _) _ _ ?_
   clear x0 x1 x2
   go_wp2
   go_ret
   refine ⟨true, rfl, ?_, b.out⟩
   simp only [true_iff]
   omega
  ·
   skip
   go_upto_region 6 with fail
   rename_i aK
   refine wp_region_seq ?_
   refine svl (.pointer (some ⟨W.heap.size, 1, none⟩)) (.inl ⟨by rfl, fun w' _ => by go_simp⟩) ?_
   simp only [AP]
   refine wpSeq_yield (S := fun w' => w' = W2) (v := .slice p1 m c1) (Or.inl ⟨by rfl, fun w' hw' => by (rw [hw']; go_simp)⟩) rfl ?_
   simp only [AP]
   refine svl (.int .i64 (m : Int)) (.inl ⟨by rfl, fun w' _ => by go_simp⟩) ?_
   simp only [AP]
   refine svl (.bool false) (.inl ⟨by rfl, fun w' _ => by (go_simp; try omega)⟩) ?_
   simp only [AP]
   refine sas (.bool false) rfl rfl rfl ?_
   simp only [AP]
   refine wpSeq_nil ?_
   refine (by assumption : ∀ (a : Act) (w : World), _ → _) _ _ ?_
   clear x0 x1 x2
   go_wp2
   go_ret
   refine ⟨false, rfl, ?_, b.out⟩
   simp only [Bool.false_eq_true, false_iff]
   omega
 go_upto_region 5 with fail
 rename_i aK
 refine wp_region_seq ?_
 refine svl (.bool false) (.inl ⟨by rfl, fun w' _ => by (go_simp; try omega)⟩) ?_
 simp only [AP]
 refine sas (.bool false) rfl rfl rfl ?_
 simp only [AP]
 refine wpSeq_nil ?_
 refine (by assumption : ∀ (a : Act) (w : World), _ → _) _ _ ?_
 go_upto_region 7 with fail
 rename_i aK
 refine wp_region_seq ?_
 refine sas (.bool false) rfl rfl rfl ?_
 simp only [AP]
 refine wpSeq_nil ?_
 refine (by assumption : ∀ (a : Act) (w : World), _ → _) _ _ ?_
 clear x0 x1 x2
 go_wp2
 go_ret
 refine ⟨false, rfl, ?_, b.out⟩
 simp only [Bool.false_eq_true, false_iff]
 omega
end Go.Proofs.YtpihgljdbpnehaaDoor
