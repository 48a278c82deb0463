/- The program's check: what is wrong with a frame (printed by gen11/vc.py). -/
import Derived.Test.YtdlhclakdllogaaVb
namespace Go.Proofs.Ytdlhclakdllogaa
open Go.RowKit

def chk (nd : Nat) (hb kb : Bool) (k : Nat) (rb bb : Bool) : Nat := if 2048 < nd then 8 else if 0 < nd ∧ hb = false then 5 else if kb = false then 6 else if k = 2 ∧ rb = false then 5 else if (k = 6 ∨ k = 8) ∧ bb = true then 2 else 0
def checkN (f : Fr) : Nat := chk f.data.length (holdK f.kind) (knownK f.kind) f.kind (rightL f.acks) (beyondF f)
theorem encF_check (f : Fr) : encF f = if checkN f = 0 then finF (putO [] (nums f)) f.data else (checkN f, []) := by
  have e : encF f = (if 2048 < f.data.length then (8, [])
    else if 0 < f.data.length ∧ holdK f.kind = false then (5, [])
    else if knownK f.kind = false then (6, [])
    else if f.kind = 2 ∧ rightL f.acks = false then (5, [])
    else if (f.kind = 6 ∨ f.kind = 8) ∧ beyondF f = true then (2, [])
    else finF (putO [] (nums f)) f.data) := by
    have h1 : (0 < f.data.length ∧ f.kind ≠ 6 ∧ f.kind ≠ 8 ∧ f.kind ≠ 28) = (0 < f.data.length ∧ holdK f.kind = false) := by
      simp only [holdK, Bool.or_eq_false_iff, beq_eq_false_iff_ne, and_assoc]
    have h2 : ((f.kind = 6 ∨ f.kind = 8) ∧ 4611686018427387903 < f.off + f.data.length) = ((f.kind = 6 ∨ f.kind = 8) ∧ beyondF f = true) := by
      simp only [beyondF, decide_eq_true_eq]
    unfold encF
    simp only [h1, h2]
  rw [e]
  unfold checkN chk
  repeat' split
  all_goals first | rfl | (exfalso; omega)
set_option maxHeartbeats 8000000 in
set_option maxRecDepth 100000 in
theorem check_c (f : Fr) (hf : f.Ok) (l2 : f.acks.length ≤ 100) (vd va : Value) (W : World) (hd : FD W f vd va) :
    Calls Try.prog 18 #[frV f vd va] W fun e w' => e = .returned (.int .i64 ((checkN f : Nat) : Int)) ∧ Below W.heap.size W w' := by
  obtain ⟨p1, c1, rfl⟩ := hd.data.shape
  obtain ⟨p2, c2, rfl⟩ := hd.acks.shape
  have CH := Lib.hid (fun w => holds_c f.kind w)
  have CK := Lib.hid (fun w => pknown_c f.kind w)
  have CO := Lib.hid (fun w h => ordered_c f.acks hf.acks p2 f.acks.length c2 (by omega) w h)
  have CB := Lib.hid (fun h w hh => beyond_c f hf.off h (.slice p1 f.data.length c1) (.slice p2 f.acks.length c2) w hh)
  have hD := Lib.hid hd.data
  have hA := Lib.hid hd.acks
  clear hd hf l2
  unfold checkN
  generalize holdK f.kind = hb at *
  generalize knownK f.kind = kb at *
  generalize rightL f.acks = rb at *
  generalize beyondF f = bb at *
  obtain ⟨k, i, o, n, c, fn, d, a⟩ := f
  unfold frV frL at *
  dsimp only at *
  generalize d.length = nd at *
  generalize a.length = m at *
  show Calls Try.prog 18 #[.agg #[.int .u64 (k : Int), .int .u64 (i : Int), .int .u64 (o : Int), .int .u64 (n : Int), .int .u64 (c : Int), .bool fn, .slice p1 nd c1, .slice p2 m c2]] W fun e w' => e = .returned (.int .i64 ((chk nd hb kb k rb bb : Nat) : Int)) ∧ Below W.heap.size W w'
  go_enter Try.func18, Try.ntmps18
  go_upto_region 0 with fail
  rename_i aK
  refine wp_region_seq ?_
  refine wpSeq_wp rfl ?_
  unfold Oper.wp execOp
  go_simp
  refine wpSeq_yield (S := fun _ => True) (yieldsIf_assign rfl _ rfl (.int .i64 0) rfl) trivial ?_
  simp only [AP]
  refine wpSeq_nil ?_
  refine aK _ _ ?_
  clear aK
  have b := (Below.refl W.heap.size W).alloc (Nat.le_refl _) (.cells #[.int .u64 (k : Int), .int .u64 (i : Int), .int .u64 (o : Int), .int .u64 (n : Int), .int .u64 (c : Int), .bool fn, .slice p1 nd c1, .slice p2 m c2] 26)
  have K := Blk.new W 26 #[.int .u64 (k : Int), .int .u64 (i : Int), .int .u64 (o : Int), .int .u64 (n : Int), .int .u64 (c : Int), .bool fn, .slice p1 nd c1, .slice p2 m c2]
  generalize World.alloc W _ = W2 at *
  have x0 : W2.cell? ⟨W.heap.size, 0, none⟩ = some (.int .u64 (k : Int)) := K.cell 0
  have x6 : W2.cell? ⟨W.heap.size, 6, none⟩ = some (.slice p1 nd c1) := K.cell 6
  have x7 : W2.cell? ⟨W.heap.size, 7, none⟩ = some (.slice p2 m c2) := K.cell 7
  replace K := Lib.hid K
  by_cases h1 : 2048 < nd
  · have g1 : (2048 : Int) < (nd : Int) := by omega
    have er := Lib.hid (show chk nd hb kb k rb bb = 8 by simp [chk, h1])
    go_upto_region 1 with fail
    rename_i aK
    refine wp_region_seq ?_
    refine wpSeq_yield (S := fun _ => True) (v := .pointer (some ⟨W.heap.size, 6, none⟩)) (Or.inl ⟨by rfl, fun w' hw' => by go_simp⟩) trivial ?_
    simp only [AP]
    refine wpSeq_yield (S := fun w' => w' = W2) (v := .slice p1 nd c1) (Or.inl ⟨by rfl, fun w' hw' => by (rw [hw']; go_simp)⟩) rfl ?_
    simp only [AP]
    refine wpSeq_yield (S := fun _ => True) (v := .int .i64 (nd : Int)) (Or.inl ⟨by rfl, fun w' hw' => by go_simp⟩) trivial ?_
    simp only [AP]
    refine wpSeq_yield (S := fun _ => True) (v := .bool true) (Or.inl ⟨by rfl, fun w' hw' => by go_simp⟩) trivial ?_
    simp only [AP]
    refine wpSeq_yield (S := fun _ => True) (yieldsIf_assign rfl _ rfl (.bool true) rfl) trivial ?_
    simp only [AP]
    refine wpSeq_nil ?_
    refine aK _ _ ?_
    clear aK x0 x6 x7 g1
    go_wp2
    go_ret
    exact ⟨by rw [er.out]; rfl, b⟩
  · have g1 : ¬ (2048 : Int) < (nd : Int) := by omega
    have h1' : nd ≤ 2048 := by omega
    replace CB := Lib.hid (CB.out h1')
    clear h1'
    go_upto_region 1 with fail
    rename_i aK
    refine wp_region_seq ?_
    refine wpSeq_yield (S := fun _ => True) (v := .pointer (some ⟨W.heap.size, 6, none⟩)) (Or.inl ⟨by rfl, fun w' hw' => by go_simp⟩) trivial ?_
    simp only [AP]
    refine wpSeq_yield (S := fun w' => w' = W2) (v := .slice p1 nd c1) (Or.inl ⟨by rfl, fun w' hw' => by (rw [hw']; go_simp)⟩) rfl ?_
    simp only [AP]
    refine wpSeq_yield (S := fun _ => True) (v := .int .i64 (nd : Int)) (Or.inl ⟨by rfl, fun w' hw' => by go_simp⟩) trivial ?_
    simp only [AP]
    refine wpSeq_yield (S := fun _ => True) (v := .bool false) (Or.inl ⟨by rfl, fun w' hw' => by go_simp⟩) trivial ?_
    simp only [AP]
    refine wpSeq_yield (S := fun _ => True) (yieldsIf_assign rfl _ rfl (.bool false) rfl) trivial ?_
    simp only [AP]
    refine wpSeq_nil ?_
    refine aK _ _ ?_
    clear aK g1
    by_cases h0 : 0 < nd
    · have g0 : (0 : Int) < (nd : Int) := by omega
      cases hb with
      | false =>
        have er := Lib.hid (show chk nd false kb k rb bb = 5 by simp [chk, h1, h0])
        go_upto_region 3 with fail
        rename_i aK
        refine wp_region_seq ?_
        refine wpSeq_yield (S := fun _ => True) (v := .pointer (some ⟨W.heap.size, 6, none⟩)) (Or.inl ⟨by rfl, fun w' hw' => by go_simp⟩) trivial ?_
        simp only [AP]
        refine wpSeq_yield (S := fun w' => w' = W2) (v := .slice p1 nd c1) (Or.inl ⟨by rfl, fun w' hw' => by (rw [hw']; go_simp)⟩) rfl ?_
        simp only [AP]
        refine wpSeq_yield (S := fun _ => True) (v := .int .i64 (nd : Int)) (Or.inl ⟨by rfl, fun w' hw' => by go_simp⟩) trivial ?_
        simp only [AP]
        refine wpSeq_yield (S := fun _ => True) (v := .bool true) (Or.inl ⟨by rfl, fun w' hw' => by go_simp⟩) trivial ?_
        simp only [AP]
        refine wpSeq_yield (S := fun _ => True) (yieldsIf_move rfl _ rfl (.bool true) rfl) trivial ?_
        simp only [AP]
        refine wpSeq_yield (S := fun _ => True) (v := .pointer (some ⟨W.heap.size, 0, none⟩)) (Or.inl ⟨by rfl, fun w' hw' => by go_simp⟩) trivial ?_
        simp only [AP]
        refine wpSeq_yield (S := fun w' => w' = W2) (v := .int .u64 (k : Int)) (Or.inl ⟨by rfl, fun w' hw' => by (rw [hw']; go_simp)⟩) rfl ?_
        simp only [AP]
        refine wpSeq_wp rfl ?_
        unfold Oper.wp execOp
        go_simp
        refine (CH.out _).mono ?_
        rintro _ w1 ⟨rfl, hw⟩
        subst w1
        go_simp
        refine wpSeq_yield (S := fun _ => True) (v := .bool true) (Or.inl ⟨by rfl, fun w' hw' => by go_simp⟩) trivial ?_
        simp only [AP]
        refine wpSeq_yield (S := fun _ => True) (yieldsIf_pick rfl _ _ _ rfl true rfl (.bool true) rfl) trivial ?_
        simp only [AP]
        refine wpSeq_yield (S := fun _ => True) (yieldsIf_assign rfl _ rfl (.bool true) rfl) trivial ?_
        simp only [AP]
        refine wpSeq_nil ?_
        refine aK _ _ ?_
        clear aK x0 x6 x7 g0
        go_wp2
        go_ret
        exact ⟨by rw [er.out]; rfl, b⟩
      | true =>
        go_upto_region 3 with fail
        rename_i aK
        refine wp_region_seq ?_
        refine wpSeq_yield (S := fun _ => True) (v := .pointer (some ⟨W.heap.size, 6, none⟩)) (Or.inl ⟨by rfl, fun w' hw' => by go_simp⟩) trivial ?_
        simp only [AP]
        refine wpSeq_yield (S := fun w' => w' = W2) (v := .slice p1 nd c1) (Or.inl ⟨by rfl, fun w' hw' => by (rw [hw']; go_simp)⟩) rfl ?_
        simp only [AP]
        refine wpSeq_yield (S := fun _ => True) (v := .int .i64 (nd : Int)) (Or.inl ⟨by rfl, fun w' hw' => by go_simp⟩) trivial ?_
        simp only [AP]
        refine wpSeq_yield (S := fun _ => True) (v := .bool true) (Or.inl ⟨by rfl, fun w' hw' => by go_simp⟩) trivial ?_
        simp only [AP]
        refine wpSeq_yield (S := fun _ => True) (yieldsIf_move rfl _ rfl (.bool true) rfl) trivial ?_
        simp only [AP]
        refine wpSeq_yield (S := fun _ => True) (v := .pointer (some ⟨W.heap.size, 0, none⟩)) (Or.inl ⟨by rfl, fun w' hw' => by go_simp⟩) trivial ?_
        simp only [AP]
        refine wpSeq_yield (S := fun w' => w' = W2) (v := .int .u64 (k : Int)) (Or.inl ⟨by rfl, fun w' hw' => by (rw [hw']; go_simp)⟩) rfl ?_
        simp only [AP]
        refine wpSeq_wp rfl ?_
        unfold Oper.wp execOp
        go_simp
        refine (CH.out _).mono ?_
        rintro _ w1 ⟨rfl, hw⟩
        subst w1
        go_simp
        refine wpSeq_yield (S := fun _ => True) (v := .bool false) (Or.inl ⟨by rfl, fun w' hw' => by go_simp⟩) trivial ?_
        simp only [AP]
        refine wpSeq_yield (S := fun _ => True) (yieldsIf_pick rfl _ _ _ rfl true rfl (.bool false) rfl) trivial ?_
        simp only [AP]
        refine wpSeq_yield (S := fun _ => True) (yieldsIf_assign rfl _ rfl (.bool false) rfl) trivial ?_
        simp only [AP]
        refine wpSeq_nil ?_
        refine aK _ _ ?_
        clear aK g0
        cases kb with
        | false =>
          have er := Lib.hid (show chk nd true false k rb bb = 6 by simp [chk, h1, h0])
          go_upto_region 5 with fail
          rename_i aK
          refine wp_region_seq ?_
          refine wpSeq_yield (S := fun _ => True) (v := .pointer (some ⟨W.heap.size, 0, none⟩)) (Or.inl ⟨by rfl, fun w' hw' => by go_simp⟩) trivial ?_
          simp only [AP]
          refine wpSeq_yield (S := fun w' => w' = W2) (v := .int .u64 (k : Int)) (Or.inl ⟨by rfl, fun w' hw' => by (rw [hw']; go_simp)⟩) rfl ?_
          simp only [AP]
          refine wpSeq_wp rfl ?_
          unfold Oper.wp execOp
          go_simp
          refine (CK.out _).mono ?_
          rintro _ w1 ⟨rfl, hw⟩
          subst w1
          go_simp
          refine wpSeq_yield (S := fun _ => True) (v := .bool true) (Or.inl ⟨by rfl, fun w' hw' => by go_simp⟩) trivial ?_
          simp only [AP]
          refine wpSeq_yield (S := fun _ => True) (yieldsIf_assign rfl _ rfl (.bool true) rfl) trivial ?_
          simp only [AP]
          refine wpSeq_nil ?_
          refine aK _ _ ?_
          clear aK x0 x6 x7
          go_wp2
          go_ret
          exact ⟨by rw [er.out]; rfl, b⟩
        | true =>
          go_upto_region 5 with fail
          rename_i aK
          refine wp_region_seq ?_
          refine wpSeq_yield (S := fun _ => True) (v := .pointer (some ⟨W.heap.size, 0, none⟩)) (Or.inl ⟨by rfl, fun w' hw' => by go_simp⟩) trivial ?_
          simp only [AP]
          refine wpSeq_yield (S := fun w' => w' = W2) (v := .int .u64 (k : Int)) (Or.inl ⟨by rfl, fun w' hw' => by (rw [hw']; go_simp)⟩) rfl ?_
          simp only [AP]
          refine wpSeq_wp rfl ?_
          unfold Oper.wp execOp
          go_simp
          refine (CK.out _).mono ?_
          rintro _ w1 ⟨rfl, hw⟩
          subst w1
          go_simp
          refine wpSeq_yield (S := fun _ => True) (v := .bool false) (Or.inl ⟨by rfl, fun w' hw' => by go_simp⟩) trivial ?_
          simp only [AP]
          refine wpSeq_yield (S := fun _ => True) (yieldsIf_assign rfl _ rfl (.bool false) rfl) trivial ?_
          simp only [AP]
          refine wpSeq_nil ?_
          refine aK _ _ ?_
          clear aK
          by_cases k2 : k = 2
          · subst k2
            cases rb with
            | false =>
              have er := Lib.hid (show chk nd true true 2 false bb = 5 by simp [chk, h1, h0])
              go_upto_region 7 with fail
              rename_i aK
              refine wp_region_seq ?_
              refine wpSeq_yield (S := fun _ => True) (v := .pointer (some ⟨W.heap.size, 0, none⟩)) (Or.inl ⟨by rfl, fun w' hw' => by go_simp⟩) trivial ?_
              simp only [AP]
              refine wpSeq_yield (S := fun w' => w' = W2) (v := .int .u64 2) (Or.inl ⟨by rfl, fun w' hw' => by (rw [hw']; go_simp)⟩) rfl ?_
              simp only [AP]
              refine wpSeq_yield (S := fun _ => True) (v := .bool true) (Or.inl ⟨by rfl, fun w' hw' => by go_simp⟩) trivial ?_
              simp only [AP]
              refine wpSeq_yield (S := fun _ => True) (yieldsIf_move rfl _ rfl (.bool true) rfl) trivial ?_
              simp only [AP]
              refine wpSeq_yield (S := fun _ => True) (v := .pointer (some ⟨W.heap.size, 7, none⟩)) (Or.inl ⟨by rfl, fun w' hw' => by go_simp⟩) trivial ?_
              simp only [AP]
              refine wpSeq_yield (S := fun w' => w' = W2) (v := .slice p2 m c2) (Or.inl ⟨by rfl, fun w' hw' => by (rw [hw']; go_simp)⟩) rfl ?_
              simp only [AP]
              refine wpSeq_wp rfl ?_
              unfold Oper.wp execOp
              go_simp
              refine (CO.out _ (hA.out.below b)).mono ?_
              rintro _ w1 ⟨rfl, b1⟩
              replace b := b.trans (b1.mono b.size)
              go_simp
              refine wpSeq_yield (S := fun _ => True) (v := .bool true) (Or.inl ⟨by rfl, fun w' hw' => by go_simp⟩) trivial ?_
              simp only [AP]
              refine wpSeq_yield (S := fun _ => True) (yieldsIf_pick rfl _ _ _ rfl true rfl (.bool true) rfl) trivial ?_
              simp only [AP]
              refine wpSeq_yield (S := fun _ => True) (yieldsIf_assign rfl _ rfl (.bool true) rfl) trivial ?_
              simp only [AP]
              refine wpSeq_nil ?_
              refine aK _ _ ?_
              clear aK x0 x6 x7 b1
              go_wp2
              go_ret
              exact ⟨by rw [er.out]; rfl, b⟩
            | true =>
              have er := Lib.hid (show chk nd true true 2 true bb = 0 by simp [chk, h1, h0])
              go_upto_region 7 with fail
              rename_i aK
              refine wp_region_seq ?_
              refine wpSeq_yield (S := fun _ => True) (v := .pointer (some ⟨W.heap.size, 0, none⟩)) (Or.inl ⟨by rfl, fun w' hw' => by go_simp⟩) trivial ?_
              simp only [AP]
              refine wpSeq_yield (S := fun w' => w' = W2) (v := .int .u64 2) (Or.inl ⟨by rfl, fun w' hw' => by (rw [hw']; go_simp)⟩) rfl ?_
              simp only [AP]
              refine wpSeq_yield (S := fun _ => True) (v := .bool true) (Or.inl ⟨by rfl, fun w' hw' => by go_simp⟩) trivial ?_
              simp only [AP]
              refine wpSeq_yield (S := fun _ => True) (yieldsIf_move rfl _ rfl (.bool true) rfl) trivial ?_
              simp only [AP]
              refine wpSeq_yield (S := fun _ => True) (v := .pointer (some ⟨W.heap.size, 7, none⟩)) (Or.inl ⟨by rfl, fun w' hw' => by go_simp⟩) trivial ?_
              simp only [AP]
              refine wpSeq_yield (S := fun w' => w' = W2) (v := .slice p2 m c2) (Or.inl ⟨by rfl, fun w' hw' => by (rw [hw']; go_simp)⟩) rfl ?_
              simp only [AP]
              refine wpSeq_wp rfl ?_
              unfold Oper.wp execOp
              go_simp
              refine (CO.out _ (hA.out.below b)).mono ?_
              rintro _ w1 ⟨rfl, b1⟩
              replace b := b.trans (b1.mono b.size)
              go_simp
              refine wpSeq_yield (S := fun _ => True) (v := .bool false) (Or.inl ⟨by rfl, fun w' hw' => by go_simp⟩) trivial ?_
              simp only [AP]
              refine wpSeq_yield (S := fun _ => True) (yieldsIf_pick rfl _ _ _ rfl true rfl (.bool false) rfl) trivial ?_
              simp only [AP]
              refine wpSeq_yield (S := fun _ => True) (yieldsIf_assign rfl _ rfl (.bool false) rfl) trivial ?_
              simp only [AP]
              refine wpSeq_nil ?_
              refine aK _ _ ?_
              clear aK x0 x6 x7
              have x0 : w1.cell? ⟨W.heap.size, 0, none⟩ = some (.int .u64 2) := (K.out.below' b1).cell 0
              clear b1
              go_upto_region 9 with fail
              rename_i aK
              refine wp_region_seq ?_
              refine wpSeq_yield (S := fun _ => True) (v := .pointer (some ⟨W.heap.size, 0, none⟩)) (Or.inl ⟨by rfl, fun w' hw' => by go_simp⟩) trivial ?_
              simp only [AP]
              refine wpSeq_yield (S := fun w' => w' = w1) (v := .int .u64 2) (Or.inl ⟨by rfl, fun w' hw' => by (rw [hw']; go_simp)⟩) rfl ?_
              simp only [AP]
              refine wpSeq_yield (S := fun _ => True) (v := .bool false) (Or.inl ⟨by rfl, fun w' hw' => by go_simp⟩) trivial ?_
              simp only [AP]
              refine wpSeq_yield (S := fun _ => True) (yieldsIf_move rfl _ rfl (.bool false) rfl) trivial ?_
              simp only [AP]
              refine wpSeq_yield (S := fun _ => True) (v := .pointer (some ⟨W.heap.size, 0, none⟩)) (Or.inl ⟨by rfl, fun w' hw' => by go_simp⟩) trivial ?_
              simp only [AP]
              refine wpSeq_yield (S := fun w' => w' = w1) (v := .int .u64 2) (Or.inl ⟨by rfl, fun w' hw' => by (rw [hw']; go_simp)⟩) rfl ?_
              simp only [AP]
              refine wpSeq_yield (S := fun _ => True) (v := .bool false) (Or.inl ⟨by rfl, fun w' hw' => by go_simp⟩) trivial ?_
              simp only [AP]
              refine wpSeq_yield (S := fun _ => True) (yieldsIf_pick rfl _ _ _ rfl false rfl (.bool false) rfl) trivial ?_
              simp only [AP]
              refine wpSeq_yield (S := fun _ => True) (yieldsIf_move rfl _ rfl (.bool false) rfl) trivial ?_
              simp only [AP]
              refine wpSeq_yield (S := fun _ => True) (yieldsIf_off rfl) trivial ?_
              simp only [AP]
              refine wpSeq_yield (S := fun _ => True) (yieldsIf_off rfl) trivial ?_
              simp only [AP]
              refine wpSeq_yield (S := fun _ => True) (yieldsIf_pick rfl _ _ _ rfl false rfl (.bool false) rfl) trivial ?_
              simp only [AP]
              refine wpSeq_yield (S := fun _ => True) (yieldsIf_assign rfl _ rfl (.bool false) rfl) trivial ?_
              simp only [AP]
              refine wpSeq_nil ?_
              refine aK _ _ ?_
              clear aK x0
              go_wp2
              go_ret
              exact ⟨by rw [er.out]; rfl, b⟩
          · have n2 : ¬ (k : Int) = 2 := by omega
            have q2 : ((k : Int) == 2) = false := beq_eq_false_iff_ne.2 n2
            go_upto_region 7 with fail
            rename_i aK
            refine wp_region_seq ?_
            refine wpSeq_yield (S := fun _ => True) (v := .pointer (some ⟨W.heap.size, 0, none⟩)) (Or.inl ⟨by rfl, fun w' hw' => by go_simp⟩) trivial ?_
            simp only [AP]
            refine wpSeq_yield (S := fun w' => w' = W2) (v := .int .u64 (k : Int)) (Or.inl ⟨by rfl, fun w' hw' => by (rw [hw']; go_simp)⟩) rfl ?_
            simp only [AP]
            refine wpSeq_yield (S := fun _ => True) (v := .bool false) (Or.inl ⟨by rfl, fun w' hw' => by (go_simp; try omega)⟩) trivial ?_
            simp only [AP]
            refine wpSeq_yield (S := fun _ => True) (yieldsIf_move rfl _ rfl (.bool false) rfl) trivial ?_
            simp only [AP]
            refine wpSeq_yield (S := fun _ => True) (yieldsIf_off rfl) trivial ?_
            simp only [AP]
            refine wpSeq_yield (S := fun _ => True) (yieldsIf_off rfl) trivial ?_
            simp only [AP]
            refine wpSeq_yield (S := fun _ => True) (yieldsIf_off rfl) trivial ?_
            simp only [AP]
            refine wpSeq_yield (S := fun _ => True) (yieldsIf_off rfl) trivial ?_
            simp only [AP]
            refine wpSeq_yield (S := fun _ => True) (yieldsIf_pick rfl _ _ _ rfl false rfl (.bool false) rfl) trivial ?_
            simp only [AP]
            refine wpSeq_yield (S := fun _ => True) (yieldsIf_assign rfl _ rfl (.bool false) rfl) trivial ?_
            simp only [AP]
            refine wpSeq_nil ?_
            refine aK _ _ ?_
            clear aK n2 q2
            by_cases k6 : k = 6
            · subst k6
              cases bb with
              | false =>
                have er := Lib.hid (show chk nd true true 6 rb false = 0 by simp [chk, h1, h0])
                go_upto_region 9 with fail
                rename_i aK
                refine wp_region_seq ?_
                refine wpSeq_yield (S := fun _ => True) (v := .pointer (some ⟨W.heap.size, 0, none⟩)) (Or.inl ⟨by rfl, fun w' hw' => by go_simp⟩) trivial ?_
                simp only [AP]
                refine wpSeq_yield (S := fun w' => w' = W2) (v := .int .u64 6) (Or.inl ⟨by rfl, fun w' hw' => by (rw [hw']; go_simp)⟩) rfl ?_
                simp only [AP]
                refine wpSeq_yield (S := fun _ => True) (v := .bool true) (Or.inl ⟨by rfl, fun w' hw' => by go_simp⟩) trivial ?_
                simp only [AP]
                refine wpSeq_yield (S := fun _ => True) (yieldsIf_move rfl _ rfl (.bool true) rfl) trivial ?_
                simp only [AP]
                refine wpSeq_yield (S := fun _ => True) (yieldsIf_off rfl) trivial ?_
                simp only [AP]
                refine wpSeq_yield (S := fun _ => True) (yieldsIf_off rfl) trivial ?_
                simp only [AP]
                refine wpSeq_yield (S := fun _ => True) (yieldsIf_off rfl) trivial ?_
                simp only [AP]
                refine wpSeq_yield (S := fun _ => True) (yieldsIf_pick rfl _ _ _ rfl true rfl (.bool true) rfl) trivial ?_
                simp only [AP]
                refine wpSeq_yield (S := fun _ => True) (yieldsIf_move rfl _ rfl (.bool true) rfl) trivial ?_
                simp only [AP]
                refine wpSeq_yield (S := fun w' => w' = W2) (show YieldsIf _ _ _ _ (.agg #[.int .u64 6, .int .u64 (i : Int), .int .u64 (o : Int), .int .u64 (n : Int), .int .u64 (c : Int), .bool fn, .slice p1 nd c1, .slice p2 m c2]) _ from yieldsIf_load_mid (S := fun w' => w' = W2) rfl 26 _ rfl W.heap.size 0 rfl [.int .u64 6, .int .u64 (i : Int), .int .u64 (o : Int), .int .u64 (n : Int), .int .u64 (c : Int), .bool fn, .slice p1 nd c1, .slice p2 m c2] _ (fun _ h => h ▸ blk_range K.out) Try.underlying26 rfl info_fr) rfl ?_
                simp only [AP]
                refine wpSeq_wp rfl ?_
                unfold Oper.wp execOp
                go_simp
                refine (CB.out _ (hD.out.below b)).mono ?_
                rintro _ w1 ⟨rfl, b1⟩
                replace b := b.trans (b1.mono b.size)
                go_simp
                refine wpSeq_yield (S := fun _ => True) (yieldsIf_pick rfl _ _ _ rfl true rfl (.bool false) rfl) trivial ?_
                simp only [AP]
                refine wpSeq_yield (S := fun _ => True) (yieldsIf_assign rfl _ rfl (.bool false) rfl) trivial ?_
                simp only [AP]
                refine wpSeq_nil ?_
                refine aK _ _ ?_
                clear aK x0 x6 x7 b1
                go_wp2
                go_ret
                exact ⟨by rw [er.out]; rfl, b⟩
              | true =>
                have er := Lib.hid (show chk nd true true 6 rb true = 2 by simp [chk, h1, h0])
                go_upto_region 9 with fail
                rename_i aK
                refine wp_region_seq ?_
                refine wpSeq_yield (S := fun _ => True) (v := .pointer (some ⟨W.heap.size, 0, none⟩)) (Or.inl ⟨by rfl, fun w' hw' => by go_simp⟩) trivial ?_
                simp only [AP]
                refine wpSeq_yield (S := fun w' => w' = W2) (v := .int .u64 6) (Or.inl ⟨by rfl, fun w' hw' => by (rw [hw']; go_simp)⟩) rfl ?_
                simp only [AP]
                refine wpSeq_yield (S := fun _ => True) (v := .bool true) (Or.inl ⟨by rfl, fun w' hw' => by go_simp⟩) trivial ?_
                simp only [AP]
                refine wpSeq_yield (S := fun _ => True) (yieldsIf_move rfl _ rfl (.bool true) rfl) trivial ?_
                simp only [AP]
                refine wpSeq_yield (S := fun _ => True) (yieldsIf_off rfl) trivial ?_
                simp only [AP]
                refine wpSeq_yield (S := fun _ => True) (yieldsIf_off rfl) trivial ?_
                simp only [AP]
                refine wpSeq_yield (S := fun _ => True) (yieldsIf_off rfl) trivial ?_
                simp only [AP]
                refine wpSeq_yield (S := fun _ => True) (yieldsIf_pick rfl _ _ _ rfl true rfl (.bool true) rfl) trivial ?_
                simp only [AP]
                refine wpSeq_yield (S := fun _ => True) (yieldsIf_move rfl _ rfl (.bool true) rfl) trivial ?_
                simp only [AP]
                refine wpSeq_yield (S := fun w' => w' = W2) (show YieldsIf _ _ _ _ (.agg #[.int .u64 6, .int .u64 (i : Int), .int .u64 (o : Int), .int .u64 (n : Int), .int .u64 (c : Int), .bool fn, .slice p1 nd c1, .slice p2 m c2]) _ from yieldsIf_load_mid (S := fun w' => w' = W2) rfl 26 _ rfl W.heap.size 0 rfl [.int .u64 6, .int .u64 (i : Int), .int .u64 (o : Int), .int .u64 (n : Int), .int .u64 (c : Int), .bool fn, .slice p1 nd c1, .slice p2 m c2] _ (fun _ h => h ▸ blk_range K.out) Try.underlying26 rfl info_fr) rfl ?_
                simp only [AP]
                refine wpSeq_wp rfl ?_
                unfold Oper.wp execOp
                go_simp
                refine (CB.out _ (hD.out.below b)).mono ?_
                rintro _ w1 ⟨rfl, b1⟩
                replace b := b.trans (b1.mono b.size)
                go_simp
                refine wpSeq_yield (S := fun _ => True) (yieldsIf_pick rfl _ _ _ rfl true rfl (.bool true) rfl) trivial ?_
                simp only [AP]
                refine wpSeq_yield (S := fun _ => True) (yieldsIf_assign rfl _ rfl (.bool true) rfl) trivial ?_
                simp only [AP]
                refine wpSeq_nil ?_
                refine aK _ _ ?_
                clear aK x0 x6 x7 b1
                go_wp2
                go_ret
                exact ⟨by rw [er.out]; rfl, b⟩
            · by_cases k8 : k = 8
              · subst k8
                cases bb with
                | false =>
                  have er := Lib.hid (show chk nd true true 8 rb false = 0 by simp [chk, h1, h0])
                  go_upto_region 9 with fail
                  rename_i aK
                  refine wp_region_seq ?_
                  refine wpSeq_yield (S := fun _ => True) (v := .pointer (some ⟨W.heap.size, 0, none⟩)) (Or.inl ⟨by rfl, fun w' hw' => by go_simp⟩) trivial ?_
                  simp only [AP]
                  refine wpSeq_yield (S := fun w' => w' = W2) (v := .int .u64 8) (Or.inl ⟨by rfl, fun w' hw' => by (rw [hw']; go_simp)⟩) rfl ?_
                  simp only [AP]
                  refine wpSeq_yield (S := fun _ => True) (v := .bool false) (Or.inl ⟨by rfl, fun w' hw' => by go_simp⟩) trivial ?_
                  simp only [AP]
                  refine wpSeq_yield (S := fun _ => True) (yieldsIf_move rfl _ rfl (.bool false) rfl) trivial ?_
                  simp only [AP]
                  refine wpSeq_yield (S := fun _ => True) (v := .pointer (some ⟨W.heap.size, 0, none⟩)) (Or.inl ⟨by rfl, fun w' hw' => by go_simp⟩) trivial ?_
                  simp only [AP]
                  refine wpSeq_yield (S := fun w' => w' = W2) (v := .int .u64 8) (Or.inl ⟨by rfl, fun w' hw' => by (rw [hw']; go_simp)⟩) rfl ?_
                  simp only [AP]
                  refine wpSeq_yield (S := fun _ => True) (v := .bool true) (Or.inl ⟨by rfl, fun w' hw' => by go_simp⟩) trivial ?_
                  simp only [AP]
                  refine wpSeq_yield (S := fun _ => True) (yieldsIf_pick rfl _ _ _ rfl false rfl (.bool true) rfl) trivial ?_
                  simp only [AP]
                  refine wpSeq_yield (S := fun _ => True) (yieldsIf_move rfl _ rfl (.bool true) rfl) trivial ?_
                  simp only [AP]
                  refine wpSeq_yield (S := fun w' => w' = W2) (show YieldsIf _ _ _ _ (.agg #[.int .u64 8, .int .u64 (i : Int), .int .u64 (o : Int), .int .u64 (n : Int), .int .u64 (c : Int), .bool fn, .slice p1 nd c1, .slice p2 m c2]) _ from yieldsIf_load_mid (S := fun w' => w' = W2) rfl 26 _ rfl W.heap.size 0 rfl [.int .u64 8, .int .u64 (i : Int), .int .u64 (o : Int), .int .u64 (n : Int), .int .u64 (c : Int), .bool fn, .slice p1 nd c1, .slice p2 m c2] _ (fun _ h => h ▸ blk_range K.out) Try.underlying26 rfl info_fr) rfl ?_
                  simp only [AP]
                  refine wpSeq_wp rfl ?_
                  unfold Oper.wp execOp
                  go_simp
                  refine (CB.out _ (hD.out.below b)).mono ?_
                  rintro _ w1 ⟨rfl, b1⟩
                  replace b := b.trans (b1.mono b.size)
                  go_simp
                  refine wpSeq_yield (S := fun _ => True) (yieldsIf_pick rfl _ _ _ rfl true rfl (.bool false) rfl) trivial ?_
                  simp only [AP]
                  refine wpSeq_yield (S := fun _ => True) (yieldsIf_assign rfl _ rfl (.bool false) rfl) trivial ?_
                  simp only [AP]
                  refine wpSeq_nil ?_
                  refine aK _ _ ?_
                  clear aK x0 x6 x7 b1
                  go_wp2
                  go_ret
                  exact ⟨by rw [er.out]; rfl, b⟩
                | true =>
                  have er := Lib.hid (show chk nd true true 8 rb true = 2 by simp [chk, h1, h0])
                  go_upto_region 9 with fail
                  rename_i aK
                  refine wp_region_seq ?_
                  refine wpSeq_yield (S := fun _ => True) (v := .pointer (some ⟨W.heap.size, 0, none⟩)) (Or.inl ⟨by rfl, fun w' hw' => by go_simp⟩) trivial ?_
                  simp only [AP]
                  refine wpSeq_yield (S := fun w' => w' = W2) (v := .int .u64 8) (Or.inl ⟨by rfl, fun w' hw' => by (rw [hw']; go_simp)⟩) rfl ?_
                  simp only [AP]
                  refine wpSeq_yield (S := fun _ => True) (v := .bool false) (Or.inl ⟨by rfl, fun w' hw' => by go_simp⟩) trivial ?_
                  simp only [AP]
                  refine wpSeq_yield (S := fun _ => True) (yieldsIf_move rfl _ rfl (.bool false) rfl) trivial ?_
                  simp only [AP]
                  refine wpSeq_yield (S := fun _ => True) (v := .pointer (some ⟨W.heap.size, 0, none⟩)) (Or.inl ⟨by rfl, fun w' hw' => by go_simp⟩) trivial ?_
                  simp only [AP]
                  refine wpSeq_yield (S := fun w' => w' = W2) (v := .int .u64 8) (Or.inl ⟨by rfl, fun w' hw' => by (rw [hw']; go_simp)⟩) rfl ?_
                  simp only [AP]
                  refine wpSeq_yield (S := fun _ => True) (v := .bool true) (Or.inl ⟨by rfl, fun w' hw' => by go_simp⟩) trivial ?_
                  simp only [AP]
                  refine wpSeq_yield (S := fun _ => True) (yieldsIf_pick rfl _ _ _ rfl false rfl (.bool true) rfl) trivial ?_
                  simp only [AP]
                  refine wpSeq_yield (S := fun _ => True) (yieldsIf_move rfl _ rfl (.bool true) rfl) trivial ?_
                  simp only [AP]
                  refine wpSeq_yield (S := fun w' => w' = W2) (show YieldsIf _ _ _ _ (.agg #[.int .u64 8, .int .u64 (i : Int), .int .u64 (o : Int), .int .u64 (n : Int), .int .u64 (c : Int), .bool fn, .slice p1 nd c1, .slice p2 m c2]) _ from yieldsIf_load_mid (S := fun w' => w' = W2) rfl 26 _ rfl W.heap.size 0 rfl [.int .u64 8, .int .u64 (i : Int), .int .u64 (o : Int), .int .u64 (n : Int), .int .u64 (c : Int), .bool fn, .slice p1 nd c1, .slice p2 m c2] _ (fun _ h => h ▸ blk_range K.out) Try.underlying26 rfl info_fr) rfl ?_
                  simp only [AP]
                  refine wpSeq_wp rfl ?_
                  unfold Oper.wp execOp
                  go_simp
                  refine (CB.out _ (hD.out.below b)).mono ?_
                  rintro _ w1 ⟨rfl, b1⟩
                  replace b := b.trans (b1.mono b.size)
                  go_simp
                  refine wpSeq_yield (S := fun _ => True) (yieldsIf_pick rfl _ _ _ rfl true rfl (.bool true) rfl) trivial ?_
                  simp only [AP]
                  refine wpSeq_yield (S := fun _ => True) (yieldsIf_assign rfl _ rfl (.bool true) rfl) trivial ?_
                  simp only [AP]
                  refine wpSeq_nil ?_
                  refine aK _ _ ?_
                  clear aK x0 x6 x7 b1
                  go_wp2
                  go_ret
                  exact ⟨by rw [er.out]; rfl, b⟩
              · have n6 : ((k : Int) == 6) = false := beq_eq_false_iff_ne.2 (by omega)
                have n8 : ((k : Int) == 8) = false := beq_eq_false_iff_ne.2 (by omega)
                have er := Lib.hid (show chk nd true true k rb bb = 0 by simp [chk, h1, h0, k2, k6, k8])
                go_upto_region 9 with fail
                rename_i aK
                refine wp_region_seq ?_
                refine wpSeq_yield (S := fun _ => True) (v := .pointer (some ⟨W.heap.size, 0, none⟩)) (Or.inl ⟨by rfl, fun w' hw' => by go_simp⟩) trivial ?_
                simp only [AP]
                refine wpSeq_yield (S := fun w' => w' = W2) (v := .int .u64 (k : Int)) (Or.inl ⟨by rfl, fun w' hw' => by (rw [hw']; go_simp)⟩) rfl ?_
                simp only [AP]
                refine wpSeq_yield (S := fun _ => True) (v := .bool false) (Or.inl ⟨by rfl, fun w' hw' => by (go_simp; try omega)⟩) trivial ?_
                simp only [AP]
                refine wpSeq_yield (S := fun _ => True) (yieldsIf_move rfl _ rfl (.bool false) rfl) trivial ?_
                simp only [AP]
                refine wpSeq_yield (S := fun _ => True) (v := .pointer (some ⟨W.heap.size, 0, none⟩)) (Or.inl ⟨by rfl, fun w' hw' => by go_simp⟩) trivial ?_
                simp only [AP]
                refine wpSeq_yield (S := fun w' => w' = W2) (v := .int .u64 (k : Int)) (Or.inl ⟨by rfl, fun w' hw' => by (rw [hw']; go_simp)⟩) rfl ?_
                simp only [AP]
                refine wpSeq_yield (S := fun _ => True) (v := .bool false) (Or.inl ⟨by rfl, fun w' hw' => by (go_simp; try omega)⟩) trivial ?_
                simp only [AP]
                refine wpSeq_yield (S := fun _ => True) (yieldsIf_pick rfl _ _ _ rfl false rfl (.bool false) rfl) trivial ?_
                simp only [AP]
                refine wpSeq_yield (S := fun _ => True) (yieldsIf_move rfl _ rfl (.bool false) rfl) trivial ?_
                simp only [AP]
                refine wpSeq_yield (S := fun _ => True) (yieldsIf_off rfl) trivial ?_
                simp only [AP]
                refine wpSeq_yield (S := fun _ => True) (yieldsIf_off rfl) trivial ?_
                simp only [AP]
                refine wpSeq_yield (S := fun _ => True) (yieldsIf_pick rfl _ _ _ rfl false rfl (.bool false) rfl) trivial ?_
                simp only [AP]
                refine wpSeq_yield (S := fun _ => True) (yieldsIf_assign rfl _ rfl (.bool false) rfl) trivial ?_
                simp only [AP]
                refine wpSeq_nil ?_
                refine aK _ _ ?_
                clear aK x0 x6 x7 n6 n8
                go_wp2
                go_ret
                exact ⟨by rw [er.out]; rfl, b⟩
    · have g0 : ¬ (0 : Int) < (nd : Int) := by omega
      go_upto_region 3 with fail
      rename_i aK
      refine wp_region_seq ?_
      refine wpSeq_yield (S := fun _ => True) (v := .pointer (some ⟨W.heap.size, 6, none⟩)) (Or.inl ⟨by rfl, fun w' hw' => by go_simp⟩) trivial ?_
      simp only [AP]
      refine wpSeq_yield (S := fun w' => w' = W2) (v := .slice p1 nd c1) (Or.inl ⟨by rfl, fun w' hw' => by (rw [hw']; go_simp)⟩) rfl ?_
      simp only [AP]
      refine wpSeq_yield (S := fun _ => True) (v := .int .i64 (nd : Int)) (Or.inl ⟨by rfl, fun w' hw' => by go_simp⟩) trivial ?_
      simp only [AP]
      refine wpSeq_yield (S := fun _ => True) (v := .bool false) (Or.inl ⟨by rfl, fun w' hw' => by go_simp⟩) trivial ?_
      simp only [AP]
      refine wpSeq_yield (S := fun _ => True) (yieldsIf_move rfl _ rfl (.bool false) rfl) trivial ?_
      simp only [AP]
      refine wpSeq_yield (S := fun _ => True) (yieldsIf_off rfl) trivial ?_
      simp only [AP]
      refine wpSeq_yield (S := fun _ => True) (yieldsIf_off rfl) trivial ?_
      simp only [AP]
      refine wpSeq_yield (S := fun _ => True) (yieldsIf_off rfl) trivial ?_
      simp only [AP]
      refine wpSeq_yield (S := fun _ => True) (yieldsIf_off rfl) trivial ?_
      simp only [AP]
      refine wpSeq_yield (S := fun _ => True) (yieldsIf_pick rfl _ _ _ rfl false rfl (.bool false) rfl) trivial ?_
      simp only [AP]
      refine wpSeq_yield (S := fun _ => True) (yieldsIf_assign rfl _ rfl (.bool false) rfl) trivial ?_
      simp only [AP]
      refine wpSeq_nil ?_
      refine aK _ _ ?_
      clear aK g0
      cases kb with
      | false =>
        have er := Lib.hid (show chk nd hb false k rb bb = 6 by simp [chk, h1, h0])
        go_upto_region 5 with fail
        rename_i aK
        refine wp_region_seq ?_
        refine wpSeq_yield (S := fun _ => True) (v := .pointer (some ⟨W.heap.size, 0, none⟩)) (Or.inl ⟨by rfl, fun w' hw' => by go_simp⟩) trivial ?_
        simp only [AP]
        refine wpSeq_yield (S := fun w' => w' = W2) (v := .int .u64 (k : Int)) (Or.inl ⟨by rfl, fun w' hw' => by (rw [hw']; go_simp)⟩) rfl ?_
        simp only [AP]
        refine wpSeq_wp rfl ?_
        unfold Oper.wp execOp
        go_simp
        refine (CK.out _).mono ?_
        rintro _ w1 ⟨rfl, hw⟩
        subst w1
        go_simp
        refine wpSeq_yield (S := fun _ => True) (v := .bool true) (Or.inl ⟨by rfl, fun w' hw' => by go_simp⟩) trivial ?_
        simp only [AP]
        refine wpSeq_yield (S := fun _ => True) (yieldsIf_assign rfl _ rfl (.bool true) rfl) trivial ?_
        simp only [AP]
        refine wpSeq_nil ?_
        refine aK _ _ ?_
        clear aK x0 x6 x7
        go_wp2
        go_ret
        exact ⟨by rw [er.out]; rfl, b⟩
      | true =>
        go_upto_region 5 with fail
        rename_i aK
        refine wp_region_seq ?_
        refine wpSeq_yield (S := fun _ => True) (v := .pointer (some ⟨W.heap.size, 0, none⟩)) (Or.inl ⟨by rfl, fun w' hw' => by go_simp⟩) trivial ?_
        simp only [AP]
        refine wpSeq_yield (S := fun w' => w' = W2) (v := .int .u64 (k : Int)) (Or.inl ⟨by rfl, fun w' hw' => by (rw [hw']; go_simp)⟩) rfl ?_
        simp only [AP]
        refine wpSeq_wp rfl ?_
        unfold Oper.wp execOp
        go_simp
        refine (CK.out _).mono ?_
        rintro _ w1 ⟨rfl, hw⟩
        subst w1
        go_simp
        refine wpSeq_yield (S := fun _ => True) (v := .bool false) (Or.inl ⟨by rfl, fun w' hw' => by go_simp⟩) trivial ?_
        simp only [AP]
        refine wpSeq_yield (S := fun _ => True) (yieldsIf_assign rfl _ rfl (.bool false) rfl) trivial ?_
        simp only [AP]
        refine wpSeq_nil ?_
        refine aK _ _ ?_
        clear aK
        by_cases k2 : k = 2
        · subst k2
          cases rb with
          | false =>
            have er := Lib.hid (show chk nd hb true 2 false bb = 5 by simp [chk, h1, h0])
            go_upto_region 7 with fail
            rename_i aK
            refine wp_region_seq ?_
            refine wpSeq_yield (S := fun _ => True) (v := .pointer (some ⟨W.heap.size, 0, none⟩)) (Or.inl ⟨by rfl, fun w' hw' => by go_simp⟩) trivial ?_
            simp only [AP]
            refine wpSeq_yield (S := fun w' => w' = W2) (v := .int .u64 2) (Or.inl ⟨by rfl, fun w' hw' => by (rw [hw']; go_simp)⟩) rfl ?_
            simp only [AP]
            refine wpSeq_yield (S := fun _ => True) (v := .bool true) (Or.inl ⟨by rfl, fun w' hw' => by go_simp⟩) trivial ?_
            simp only [AP]
            refine wpSeq_yield (S := fun _ => True) (yieldsIf_move rfl _ rfl (.bool true) rfl) trivial ?_
            simp only [AP]
            refine wpSeq_yield (S := fun _ => True) (v := .pointer (some ⟨W.heap.size, 7, none⟩)) (Or.inl ⟨by rfl, fun w' hw' => by go_simp⟩) trivial ?_
            simp only [AP]
            refine wpSeq_yield (S := fun w' => w' = W2) (v := .slice p2 m c2) (Or.inl ⟨by rfl, fun w' hw' => by (rw [hw']; go_simp)⟩) rfl ?_
            simp only [AP]
            refine wpSeq_wp rfl ?_
            unfold Oper.wp execOp
            go_simp
            refine (CO.out _ (hA.out.below b)).mono ?_
            rintro _ w1 ⟨rfl, b1⟩
            replace b := b.trans (b1.mono b.size)
            go_simp
            refine wpSeq_yield (S := fun _ => True) (v := .bool true) (Or.inl ⟨by rfl, fun w' hw' => by go_simp⟩) trivial ?_
            simp only [AP]
            refine wpSeq_yield (S := fun _ => True) (yieldsIf_pick rfl _ _ _ rfl true rfl (.bool true) rfl) trivial ?_
            simp only [AP]
            refine wpSeq_yield (S := fun _ => True) (yieldsIf_assign rfl _ rfl (.bool true) rfl) trivial ?_
            simp only [AP]
            refine wpSeq_nil ?_
            refine aK _ _ ?_
            clear aK x0 x6 x7 b1
            go_wp2
            go_ret
            exact ⟨by rw [er.out]; rfl, b⟩
          | true =>
            have er := Lib.hid (show chk nd hb true 2 true bb = 0 by simp [chk, h1, h0])
            go_upto_region 7 with fail
            rename_i aK
            refine wp_region_seq ?_
            refine wpSeq_yield (S := fun _ => True) (v := .pointer (some ⟨W.heap.size, 0, none⟩)) (Or.inl ⟨by rfl, fun w' hw' => by go_simp⟩) trivial ?_
            simp only [AP]
            refine wpSeq_yield (S := fun w' => w' = W2) (v := .int .u64 2) (Or.inl ⟨by rfl, fun w' hw' => by (rw [hw']; go_simp)⟩) rfl ?_
            simp only [AP]
            refine wpSeq_yield (S := fun _ => True) (v := .bool true) (Or.inl ⟨by rfl, fun w' hw' => by go_simp⟩) trivial ?_
            simp only [AP]
            refine wpSeq_yield (S := fun _ => True) (yieldsIf_move rfl _ rfl (.bool true) rfl) trivial ?_
            simp only [AP]
            refine wpSeq_yield (S := fun _ => True) (v := .pointer (some ⟨W.heap.size, 7, none⟩)) (Or.inl ⟨by rfl, fun w' hw' => by go_simp⟩) trivial ?_
            simp only [AP]
            refine wpSeq_yield (S := fun w' => w' = W2) (v := .slice p2 m c2) (Or.inl ⟨by rfl, fun w' hw' => by (rw [hw']; go_simp)⟩) rfl ?_
            simp only [AP]
            refine wpSeq_wp rfl ?_
            unfold Oper.wp execOp
            go_simp
            refine (CO.out _ (hA.out.below b)).mono ?_
            rintro _ w1 ⟨rfl, b1⟩
            replace b := b.trans (b1.mono b.size)
            go_simp
            refine wpSeq_yield (S := fun _ => True) (v := .bool false) (Or.inl ⟨by rfl, fun w' hw' => by go_simp⟩) trivial ?_
            simp only [AP]
            refine wpSeq_yield (S := fun _ => True) (yieldsIf_pick rfl _ _ _ rfl true rfl (.bool false) rfl) trivial ?_
            simp only [AP]
            refine wpSeq_yield (S := fun _ => True) (yieldsIf_assign rfl _ rfl (.bool false) rfl) trivial ?_
            simp only [AP]
            refine wpSeq_nil ?_
            refine aK _ _ ?_
            clear aK x0 x6 x7
            have x0 : w1.cell? ⟨W.heap.size, 0, none⟩ = some (.int .u64 2) := (K.out.below' b1).cell 0
            clear b1
            go_upto_region 9 with fail
            rename_i aK
            refine wp_region_seq ?_
            refine wpSeq_yield (S := fun _ => True) (v := .pointer (some ⟨W.heap.size, 0, none⟩)) (Or.inl ⟨by rfl, fun w' hw' => by go_simp⟩) trivial ?_
            simp only [AP]
            refine wpSeq_yield (S := fun w' => w' = w1) (v := .int .u64 2) (Or.inl ⟨by rfl, fun w' hw' => by (rw [hw']; go_simp)⟩) rfl ?_
            simp only [AP]
            refine wpSeq_yield (S := fun _ => True) (v := .bool false) (Or.inl ⟨by rfl, fun w' hw' => by go_simp⟩) trivial ?_
            simp only [AP]
            refine wpSeq_yield (S := fun _ => True) (yieldsIf_move rfl _ rfl (.bool false) rfl) trivial ?_
            simp only [AP]
            refine wpSeq_yield (S := fun _ => True) (v := .pointer (some ⟨W.heap.size, 0, none⟩)) (Or.inl ⟨by rfl, fun w' hw' => by go_simp⟩) trivial ?_
            simp only [AP]
            refine wpSeq_yield (S := fun w' => w' = w1) (v := .int .u64 2) (Or.inl ⟨by rfl, fun w' hw' => by (rw [hw']; go_simp)⟩) rfl ?_
            simp only [AP]
            refine wpSeq_yield (S := fun _ => True) (v := .bool false) (Or.inl ⟨by rfl, fun w' hw' => by go_simp⟩) trivial ?_
            simp only [AP]
            refine wpSeq_yield (S := fun _ => True) (yieldsIf_pick rfl _ _ _ rfl false rfl (.bool false) rfl) trivial ?_
            simp only [AP]
            refine wpSeq_yield (S := fun _ => True) (yieldsIf_move rfl _ rfl (.bool false) rfl) trivial ?_
            simp only [AP]
            refine wpSeq_yield (S := fun _ => True) (yieldsIf_off rfl) trivial ?_
            simp only [AP]
            refine wpSeq_yield (S := fun _ => True) (yieldsIf_off rfl) trivial ?_
            simp only [AP]
            refine wpSeq_yield (S := fun _ => True) (yieldsIf_pick rfl _ _ _ rfl false rfl (.bool false) rfl) trivial ?_
            simp only [AP]
            refine wpSeq_yield (S := fun _ => True) (yieldsIf_assign rfl _ rfl (.bool false) rfl) trivial ?_
            simp only [AP]
            refine wpSeq_nil ?_
            refine aK _ _ ?_
            clear aK x0
            go_wp2
            go_ret
            exact ⟨by rw [er.out]; rfl, b⟩
        · have n2 : ¬ (k : Int) = 2 := by omega
          have q2 : ((k : Int) == 2) = false := beq_eq_false_iff_ne.2 n2
          go_upto_region 7 with fail
          rename_i aK
          refine wp_region_seq ?_
          refine wpSeq_yield (S := fun _ => True) (v := .pointer (some ⟨W.heap.size, 0, none⟩)) (Or.inl ⟨by rfl, fun w' hw' => by go_simp⟩) trivial ?_
          simp only [AP]
          refine wpSeq_yield (S := fun w' => w' = W2) (v := .int .u64 (k : Int)) (Or.inl ⟨by rfl, fun w' hw' => by (rw [hw']; go_simp)⟩) rfl ?_
          simp only [AP]
          refine wpSeq_yield (S := fun _ => True) (v := .bool false) (Or.inl ⟨by rfl, fun w' hw' => by (go_simp; try omega)⟩) trivial ?_
          simp only [AP]
          refine wpSeq_yield (S := fun _ => True) (yieldsIf_move rfl _ rfl (.bool false) rfl) trivial ?_
          simp only [AP]
          refine wpSeq_yield (S := fun _ => True) (yieldsIf_off rfl) trivial ?_
          simp only [AP]
          refine wpSeq_yield (S := fun _ => True) (yieldsIf_off rfl) trivial ?_
          simp only [AP]
          refine wpSeq_yield (S := fun _ => True) (yieldsIf_off rfl) trivial ?_
          simp only [AP]
          refine wpSeq_yield (S := fun _ => True) (yieldsIf_off rfl) trivial ?_
          simp only [AP]
          refine wpSeq_yield (S := fun _ => True) (yieldsIf_pick rfl _ _ _ rfl false rfl (.bool false) rfl) trivial ?_
          simp only [AP]
          refine wpSeq_yield (S := fun _ => True) (yieldsIf_assign rfl _ rfl (.bool false) rfl) trivial ?_
          simp only [AP]
          refine wpSeq_nil ?_
          refine aK _ _ ?_
          clear aK n2 q2
          by_cases k6 : k = 6
          · subst k6
            cases bb with
            | false =>
              have er := Lib.hid (show chk nd hb true 6 rb false = 0 by simp [chk, h1, h0])
              go_upto_region 9 with fail
              rename_i aK
              refine wp_region_seq ?_
              refine wpSeq_yield (S := fun _ => True) (v := .pointer (some ⟨W.heap.size, 0, none⟩)) (Or.inl ⟨by rfl, fun w' hw' => by go_simp⟩) trivial ?_
              simp only [AP]
              refine wpSeq_yield (S := fun w' => w' = W2) (v := .int .u64 6) (Or.inl ⟨by rfl, fun w' hw' => by (rw [hw']; go_simp)⟩) rfl ?_
              simp only [AP]
              refine wpSeq_yield (S := fun _ => True) (v := .bool true) (Or.inl ⟨by rfl, fun w' hw' => by go_simp⟩) trivial ?_
              simp only [AP]
              refine wpSeq_yield (S := fun _ => True) (yieldsIf_move rfl _ rfl (.bool true) rfl) trivial ?_
              simp only [AP]
              refine wpSeq_yield (S := fun _ => True) (yieldsIf_off rfl) trivial ?_
              simp only [AP]
              refine wpSeq_yield (S := fun _ => True) (yieldsIf_off rfl) trivial ?_
              simp only [AP]
              refine wpSeq_yield (S := fun _ => True) (yieldsIf_off rfl) trivial ?_
              simp only [AP]
              refine wpSeq_yield (S := fun _ => True) (yieldsIf_pick rfl _ _ _ rfl true rfl (.bool true) rfl) trivial ?_
              simp only [AP]
              refine wpSeq_yield (S := fun _ => True) (yieldsIf_move rfl _ rfl (.bool true) rfl) trivial ?_
              simp only [AP]
              refine wpSeq_yield (S := fun w' => w' = W2) (show YieldsIf _ _ _ _ (.agg #[.int .u64 6, .int .u64 (i : Int), .int .u64 (o : Int), .int .u64 (n : Int), .int .u64 (c : Int), .bool fn, .slice p1 nd c1, .slice p2 m c2]) _ from yieldsIf_load_mid (S := fun w' => w' = W2) rfl 26 _ rfl W.heap.size 0 rfl [.int .u64 6, .int .u64 (i : Int), .int .u64 (o : Int), .int .u64 (n : Int), .int .u64 (c : Int), .bool fn, .slice p1 nd c1, .slice p2 m c2] _ (fun _ h => h ▸ blk_range K.out) Try.underlying26 rfl info_fr) rfl ?_
              simp only [AP]
              refine wpSeq_wp rfl ?_
              unfold Oper.wp execOp
              go_simp
              refine (CB.out _ (hD.out.below b)).mono ?_
              rintro _ w1 ⟨rfl, b1⟩
              replace b := b.trans (b1.mono b.size)
              go_simp
              refine wpSeq_yield (S := fun _ => True) (yieldsIf_pick rfl _ _ _ rfl true rfl (.bool false) rfl) trivial ?_
              simp only [AP]
              refine wpSeq_yield (S := fun _ => True) (yieldsIf_assign rfl _ rfl (.bool false) rfl) trivial ?_
              simp only [AP]
              refine wpSeq_nil ?_
              refine aK _ _ ?_
              clear aK x0 x6 x7 b1
              go_wp2
              go_ret
              exact ⟨by rw [er.out]; rfl, b⟩
            | true =>
              have er := Lib.hid (show chk nd hb true 6 rb true = 2 by simp [chk, h1, h0])
              go_upto_region 9 with fail
              rename_i aK
              refine wp_region_seq ?_
              refine wpSeq_yield (S := fun _ => True) (v := .pointer (some ⟨W.heap.size, 0, none⟩)) (Or.inl ⟨by rfl, fun w' hw' => by go_simp⟩) trivial ?_
              simp only [AP]
              refine wpSeq_yield (S := fun w' => w' = W2) (v := .int .u64 6) (Or.inl ⟨by rfl, fun w' hw' => by (rw [hw']; go_simp)⟩) rfl ?_
              simp only [AP]
              refine wpSeq_yield (S := fun _ => True) (v := .bool true) (Or.inl ⟨by rfl, fun w' hw' => by go_simp⟩) trivial ?_
              simp only [AP]
              refine wpSeq_yield (S := fun _ => True) (yieldsIf_move rfl _ rfl (.bool true) rfl) trivial ?_
              simp only [AP]
              refine wpSeq_yield (S := fun _ => True) (yieldsIf_off rfl) trivial ?_
              simp only [AP]
              refine wpSeq_yield (S := fun _ => True) (yieldsIf_off rfl) trivial ?_
              simp only [AP]
              refine wpSeq_yield (S := fun _ => True) (yieldsIf_off rfl) trivial ?_
              simp only [AP]
              refine wpSeq_yield (S := fun _ => True) (yieldsIf_pick rfl _ _ _ rfl true rfl (.bool true) rfl) trivial ?_
              simp only [AP]
              refine wpSeq_yield (S := fun _ => True) (yieldsIf_move rfl _ rfl (.bool true) rfl) trivial ?_
              simp only [AP]
              refine wpSeq_yield (S := fun w' => w' = W2) (show YieldsIf _ _ _ _ (.agg #[.int .u64 6, .int .u64 (i : Int), .int .u64 (o : Int), .int .u64 (n : Int), .int .u64 (c : Int), .bool fn, .slice p1 nd c1, .slice p2 m c2]) _ from yieldsIf_load_mid (S := fun w' => w' = W2) rfl 26 _ rfl W.heap.size 0 rfl [.int .u64 6, .int .u64 (i : Int), .int .u64 (o : Int), .int .u64 (n : Int), .int .u64 (c : Int), .bool fn, .slice p1 nd c1, .slice p2 m c2] _ (fun _ h => h ▸ blk_range K.out) Try.underlying26 rfl info_fr) rfl ?_
              simp only [AP]
              refine wpSeq_wp rfl ?_
              unfold Oper.wp execOp
              go_simp
              refine (CB.out _ (hD.out.below b)).mono ?_
              rintro _ w1 ⟨rfl, b1⟩
              replace b := b.trans (b1.mono b.size)
              go_simp
              refine wpSeq_yield (S := fun _ => True) (yieldsIf_pick rfl _ _ _ rfl true rfl (.bool true) rfl) trivial ?_
              simp only [AP]
              refine wpSeq_yield (S := fun _ => True) (yieldsIf_assign rfl _ rfl (.bool true) rfl) trivial ?_
              simp only [AP]
              refine wpSeq_nil ?_
              refine aK _ _ ?_
              clear aK x0 x6 x7 b1
              go_wp2
              go_ret
              exact ⟨by rw [er.out]; rfl, b⟩
          · by_cases k8 : k = 8
            · subst k8
              cases bb with
              | false =>
                have er := Lib.hid (show chk nd hb true 8 rb false = 0 by simp [chk, h1, h0])
                go_upto_region 9 with fail
                rename_i aK
                refine wp_region_seq ?_
                refine wpSeq_yield (S := fun _ => True) (v := .pointer (some ⟨W.heap.size, 0, none⟩)) (Or.inl ⟨by rfl, fun w' hw' => by go_simp⟩) trivial ?_
                simp only [AP]
                refine wpSeq_yield (S := fun w' => w' = W2) (v := .int .u64 8) (Or.inl ⟨by rfl, fun w' hw' => by (rw [hw']; go_simp)⟩) rfl ?_
                simp only [AP]
                refine wpSeq_yield (S := fun _ => True) (v := .bool false) (Or.inl ⟨by rfl, fun w' hw' => by go_simp⟩) trivial ?_
                simp only [AP]
                refine wpSeq_yield (S := fun _ => True) (yieldsIf_move rfl _ rfl (.bool false) rfl) trivial ?_
                simp only [AP]
                refine wpSeq_yield (S := fun _ => True) (v := .pointer (some ⟨W.heap.size, 0, none⟩)) (Or.inl ⟨by rfl, fun w' hw' => by go_simp⟩) trivial ?_
                simp only [AP]
                refine wpSeq_yield (S := fun w' => w' = W2) (v := .int .u64 8) (Or.inl ⟨by rfl, fun w' hw' => by (rw [hw']; go_simp)⟩) rfl ?_
                simp only [AP]
                refine wpSeq_yield (S := fun _ => True) (v := .bool true) (Or.inl ⟨by rfl, fun w' hw' => by go_simp⟩) trivial ?_
                simp only [AP]
                refine wpSeq_yield (S := fun _ => True) (yieldsIf_pick rfl _ _ _ rfl false rfl (.bool true) rfl) trivial ?_
                simp only [AP]
                refine wpSeq_yield (S := fun _ => True) (yieldsIf_move rfl _ rfl (.bool true) rfl) trivial ?_
                simp only [AP]
                refine wpSeq_yield (S := fun w' => w' = W2) (show YieldsIf _ _ _ _ (.agg #[.int .u64 8, .int .u64 (i : Int), .int .u64 (o : Int), .int .u64 (n : Int), .int .u64 (c : Int), .bool fn, .slice p1 nd c1, .slice p2 m c2]) _ from yieldsIf_load_mid (S := fun w' => w' = W2) rfl 26 _ rfl W.heap.size 0 rfl [.int .u64 8, .int .u64 (i : Int), .int .u64 (o : Int), .int .u64 (n : Int), .int .u64 (c : Int), .bool fn, .slice p1 nd c1, .slice p2 m c2] _ (fun _ h => h ▸ blk_range K.out) Try.underlying26 rfl info_fr) rfl ?_
                simp only [AP]
                refine wpSeq_wp rfl ?_
                unfold Oper.wp execOp
                go_simp
                refine (CB.out _ (hD.out.below b)).mono ?_
                rintro _ w1 ⟨rfl, b1⟩
                replace b := b.trans (b1.mono b.size)
                go_simp
                refine wpSeq_yield (S := fun _ => True) (yieldsIf_pick rfl _ _ _ rfl true rfl (.bool false) rfl) trivial ?_
                simp only [AP]
                refine wpSeq_yield (S := fun _ => True) (yieldsIf_assign rfl _ rfl (.bool false) rfl) trivial ?_
                simp only [AP]
                refine wpSeq_nil ?_
                refine aK _ _ ?_
                clear aK x0 x6 x7 b1
                go_wp2
                go_ret
                exact ⟨by rw [er.out]; rfl, b⟩
              | true =>
                have er := Lib.hid (show chk nd hb true 8 rb true = 2 by simp [chk, h1, h0])
                go_upto_region 9 with fail
                rename_i aK
                refine wp_region_seq ?_
                refine wpSeq_yield (S := fun _ => True) (v := .pointer (some ⟨W.heap.size, 0, none⟩)) (Or.inl ⟨by rfl, fun w' hw' => by go_simp⟩) trivial ?_
                simp only [AP]
                refine wpSeq_yield (S := fun w' => w' = W2) (v := .int .u64 8) (Or.inl ⟨by rfl, fun w' hw' => by (rw [hw']; go_simp)⟩) rfl ?_
                simp only [AP]
                refine wpSeq_yield (S := fun _ => True) (v := .bool false) (Or.inl ⟨by rfl, fun w' hw' => by go_simp⟩) trivial ?_
                simp only [AP]
                refine wpSeq_yield (S := fun _ => True) (yieldsIf_move rfl _ rfl (.bool false) rfl) trivial ?_
                simp only [AP]
                refine wpSeq_yield (S := fun _ => True) (v := .pointer (some ⟨W.heap.size, 0, none⟩)) (Or.inl ⟨by rfl, fun w' hw' => by go_simp⟩) trivial ?_
                simp only [AP]
                refine wpSeq_yield (S := fun w' => w' = W2) (v := .int .u64 8) (Or.inl ⟨by rfl, fun w' hw' => by (rw [hw']; go_simp)⟩) rfl ?_
                simp only [AP]
                refine wpSeq_yield (S := fun _ => True) (v := .bool true) (Or.inl ⟨by rfl, fun w' hw' => by go_simp⟩) trivial ?_
                simp only [AP]
                refine wpSeq_yield (S := fun _ => True) (yieldsIf_pick rfl _ _ _ rfl false rfl (.bool true) rfl) trivial ?_
                simp only [AP]
                refine wpSeq_yield (S := fun _ => True) (yieldsIf_move rfl _ rfl (.bool true) rfl) trivial ?_
                simp only [AP]
                refine wpSeq_yield (S := fun w' => w' = W2) (show YieldsIf _ _ _ _ (.agg #[.int .u64 8, .int .u64 (i : Int), .int .u64 (o : Int), .int .u64 (n : Int), .int .u64 (c : Int), .bool fn, .slice p1 nd c1, .slice p2 m c2]) _ from yieldsIf_load_mid (S := fun w' => w' = W2) rfl 26 _ rfl W.heap.size 0 rfl [.int .u64 8, .int .u64 (i : Int), .int .u64 (o : Int), .int .u64 (n : Int), .int .u64 (c : Int), .bool fn, .slice p1 nd c1, .slice p2 m c2] _ (fun _ h => h ▸ blk_range K.out) Try.underlying26 rfl info_fr) rfl ?_
                simp only [AP]
                refine wpSeq_wp rfl ?_
                unfold Oper.wp execOp
                go_simp
                refine (CB.out _ (hD.out.below b)).mono ?_
                rintro _ w1 ⟨rfl, b1⟩
                replace b := b.trans (b1.mono b.size)
                go_simp
                refine wpSeq_yield (S := fun _ => True) (yieldsIf_pick rfl _ _ _ rfl true rfl (.bool true) rfl) trivial ?_
                simp only [AP]
                refine wpSeq_yield (S := fun _ => True) (yieldsIf_assign rfl _ rfl (.bool true) rfl) trivial ?_
                simp only [AP]
                refine wpSeq_nil ?_
                refine aK _ _ ?_
                clear aK x0 x6 x7 b1
                go_wp2
                go_ret
                exact ⟨by rw [er.out]; rfl, b⟩
            · have n6 : ((k : Int) == 6) = false := beq_eq_false_iff_ne.2 (by omega)
              have n8 : ((k : Int) == 8) = false := beq_eq_false_iff_ne.2 (by omega)
              have er := Lib.hid (show chk nd hb true k rb bb = 0 by simp [chk, h1, h0, k2, k6, k8])
              go_upto_region 9 with fail
              rename_i aK
              refine wp_region_seq ?_
              refine wpSeq_yield (S := fun _ => True) (v := .pointer (some ⟨W.heap.size, 0, none⟩)) (Or.inl ⟨by rfl, fun w' hw' => by go_simp⟩) trivial ?_
              simp only [AP]
              refine wpSeq_yield (S := fun w' => w' = W2) (v := .int .u64 (k : Int)) (Or.inl ⟨by rfl, fun w' hw' => by (rw [hw']; go_simp)⟩) rfl ?_
              simp only [AP]
              refine wpSeq_yield (S := fun _ => True) (v := .bool false) (Or.inl ⟨by rfl, fun w' hw' => by (go_simp; try omega)⟩) trivial ?_
              simp only [AP]
              refine wpSeq_yield (S := fun _ => True) (yieldsIf_move rfl _ rfl (.bool false) rfl) trivial ?_
              simp only [AP]
              refine wpSeq_yield (S := fun _ => True) (v := .pointer (some ⟨W.heap.size, 0, none⟩)) (Or.inl ⟨by rfl, fun w' hw' => by go_simp⟩) trivial ?_
              simp only [AP]
              refine wpSeq_yield (S := fun w' => w' = W2) (v := .int .u64 (k : Int)) (Or.inl ⟨by rfl, fun w' hw' => by (rw [hw']; go_simp)⟩) rfl ?_
              simp only [AP]
              refine wpSeq_yield (S := fun _ => True) (v := .bool false) (Or.inl ⟨by rfl, fun w' hw' => by (go_simp; try omega)⟩) trivial ?_
              simp only [AP]
              refine wpSeq_yield (S := fun _ => True) (yieldsIf_pick rfl _ _ _ rfl false rfl (.bool false) rfl) trivial ?_
              simp only [AP]
              refine wpSeq_yield (S := fun _ => True) (yieldsIf_move rfl _ rfl (.bool false) rfl) trivial ?_
              simp only [AP]
              refine wpSeq_yield (S := fun _ => True) (yieldsIf_off rfl) trivial ?_
              simp only [AP]
              refine wpSeq_yield (S := fun _ => True) (yieldsIf_off rfl) trivial ?_
              simp only [AP]
              refine wpSeq_yield (S := fun _ => True) (yieldsIf_pick rfl _ _ _ rfl false rfl (.bool false) rfl) trivial ?_
              simp only [AP]
              refine wpSeq_yield (S := fun _ => True) (yieldsIf_assign rfl _ rfl (.bool false) rfl) trivial ?_
              simp only [AP]
              refine wpSeq_nil ?_
              refine aK _ _ ?_
              clear aK x0 x6 x7 n6 n8
              go_wp2
              go_ret
              exact ⟨by rw [er.out]; rfl, b⟩
end Go.Proofs.Ytdlhclakdllogaa
