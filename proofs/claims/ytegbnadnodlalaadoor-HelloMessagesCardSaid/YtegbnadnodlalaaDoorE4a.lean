/- The reference's Message; law HelloMessages by contract (printed by gen14/eg.py). -/
import Derived.Test.YtegbnadnodlalaaDoorE3d
namespace Go.Proofs.YtegbnadnodlalaaDoor
open Go.RowKit
def AwakeC (W : World) : Prop := ∀ w, Below W.heap.size W w → Calls Tryd.prog 6 #[] w fun e w' => e = .returned (.bool true) ∧ Below w.heap.size w w'
theorem msgB_small (k : Nat) (b : List Nat) (h : b.length ≤ 5000) : msgB k b = [k, 0, b.length / 256, b.length % 256] ++ b := by
  unfold msgB
  rw [show b.length / 65536 = 0 by omega, show b.length / 256 % 256 = b.length / 256 by omega]
  rfl
theorem msgB_bytes {k : Nat} {b : List Nat} (hk : k < 256) (hb : Bytes b) (h : b.length ≤ 5000) : Bytes (msgB k b) := by
  rw [msgB_small k b h]
  refine Bytes.append (fun x hx => ?_) hb
  simp only [List.mem_cons, List.not_mem_nil, or_false] at hx
  omega
set_option maxHeartbeats 8000000 in
set_option maxRecDepth 100000 in
theorem rmsg_c (k : Nat) (b : List Nat) (p : Option Addr) (n c : Nat) (hn : n ≤ 5000) (W : World) (hs : SB W (.slice p n c) b) :
    Calls Tryd.prog 9 #[.int .u8 (k : Int), .slice p n c] W fun e w' => ∃ v, e = .returned v ∧ OwL W.heap.size w' v (msgB k b) ∧ Below W.heap.size W w' := by
  have ln := hs.len.1
  rw [msgB_small k b (by omega), ← ln]
  have e1 : ((n : Nat) : Int) / 256 = ((n / 256 : Nat) : Int) := by omega
  have e2 : ((n : Nat) : Int) % 256 = ((n % 256 : Nat) : Int) := by omega
  have e1' : ((n : Nat) : Int).tdiv 256 = ((n / 256 : Nat) : Int) := by rw [Int.tdiv_eq_ediv_of_nonneg (by omega)]; omega
  have e2' : ((n : Nat) : Int).tmod 256 = ((n % 256 : Nat) : Int) := by rw [Int.tmod_eq_emod_of_nonneg (by omega)]; omega
  have e3 : IntKind.u8.wrap ((n / 256 : Nat) : Int) = ((n / 256 : Nat) : Int) := by rw [IntKind.wrap_u8]; omega
  have e4 : IntKind.u8.wrap ((n % 256 : Nat) : Int) = ((n % 256 : Nat) : Int) := by rw [IntKind.wrap_u8]; omega
  have e5 : IntKind.i64.wrap ((n / 256 : Nat) : Int) = ((n / 256 : Nat) : Int) := by rw [IntKind.wrap_i64]; omega
  have e6 : IntKind.i64.wrap ((n % 256 : Nat) : Int) = ((n % 256 : Nat) : Int) := by rw [IntKind.wrap_i64]; omega
  obtain ⟨x1, hx1⟩ : ∃ x, n / 256 = x := ⟨_, rfl⟩
  obtain ⟨x2, hx2⟩ : ∃ x, n % 256 = x := ⟨_, rfl⟩
  rw [hx1] at e1 e1' e3 e5 ⊢
  rw [hx2] at e2 e2' e4 e6 ⊢
  obtain ⟨v', w', h1, h2, h3⟩ := append_fresh W 22 (.slice p n c) [k, 0, x1, x2] b hs (by simp only [List.length_cons, List.length_nil]; omega) W.heap.size W (Below.refl _ _) (Nat.le_refl _)
  rw [← vals_four] at h1
  have F := Lib.hid (And.intro h2 h3)
  replace h1 := Lib.hid h1
  clear h2 h3 hs ln hx1 hx2
  go_enter Tryd.func9, Tryd.ntmps9
  go_upto_region 1 with fail
  rename_i aK
  refine wp_region_seq ?_
  refine wpSeq_yield (S := fun _ => True) (yieldsIf_move rfl _ rfl (.int .u8 (k : Int)) rfl) trivial ?_
  simp only [AP]
  refine wpSeq_yield (S := fun _ => True) (yieldsIf_move rfl _ rfl (.slice p n c) rfl) trivial ?_
  simp only [AP]
  refine wpSeq_yield (S := fun _ => True) (v := .int .i64 (n : Int)) (Or.inl ⟨by rfl, fun w' hw' => by go_simp⟩) trivial ?_
  simp only [AP]
  refine wpSeq_yield (S := fun _ => True) (v := .int .i64 (x1 : Int)) (Or.inl ⟨by rfl, fun w' hw' => by go_simp⟩) trivial ?_
  simp only [AP]
  refine wpSeq_yield (S := fun _ => True) (v := .int .u8 (x1 : Int)) (Or.inl ⟨by rfl, fun w' hw' => by go_simp⟩) trivial ?_
  simp only [AP]
  refine wpSeq_yield (S := fun _ => True) (yieldsIf_move rfl _ rfl (.slice p n c) rfl) trivial ?_
  simp only [AP]
  refine wpSeq_yield (S := fun _ => True) (v := .int .i64 (n : Int)) (Or.inl ⟨by rfl, fun w' hw' => by go_simp⟩) trivial ?_
  simp only [AP]
  refine wpSeq_yield (S := fun _ => True) (v := .int .i64 (x2 : Int)) (Or.inl ⟨by rfl, fun w' hw' => by go_simp⟩) trivial ?_
  simp only [AP]
  refine wpSeq_yield (S := fun _ => True) (v := .int .u8 (x2 : Int)) (Or.inl ⟨by rfl, fun w' hw' => by go_simp⟩) trivial ?_
  simp only [AP]
  refine wpSeq_wp rfl ?_
  unfold Oper.wp execOp
  go_simp
  refine wpSeq_yield (S := fun _ => True) (yieldsIf_move rfl _ rfl (.slice p n c) rfl) trivial ?_
  simp only [AP]
  refine wpSeq_wp rfl (wp_append_run _ _ _ _ rfl _ _ rfl rfl _ w' h1.out ?_)
  simp only [AP]
  refine wpSeq_yield (S := fun _ => True) (yieldsIf_assign rfl _ rfl (v') rfl) trivial ?_
  simp only [AP]
  refine wpSeq_nil ?_
  refine (by assumption : ∀ (a : Act) (w : World), _ → _) _ _ ?_
  go_wp2
  go_ret
  exact ⟨_, rfl, F.out.1, F.out.2⟩
set_option maxHeartbeats 8000000 in
set_option maxRecDepth 100000 in
theorem messages_c (k : Nat) (hk : k < 256) (b m : List Nat) (bb : Bytes b) (bm : Bytes m) (pb : Option Addr) (nb cb : Nat) (pm : Option Addr) (nm cm : Nat) (cut : Nat) (hcut : cut < 65536) (W : World) (hsb : SB W (.slice pb nb cb) b) (hsm : SB W (.slice pm nm cm) m) (AW : AwakeC W) :
    Calls Tryd.prog 3 #[.int .u8 (k : Int), .slice pb nb cb, .slice pm nm cm, .int .u16 (cut : Int)] W fun e w' => e = .returned (.bool true) ∧ Below W.heap.size W w' := by
  have lb := hsb.len.1
  have lm := hsm.len.1
  have AW := Lib.hid (AW W (Below.refl _ _))
  by_cases g1 : 5000 < nb
  · have z : (5000 : Int) < (nb : Int) := by omega
    clear hsb hsm lb lm g1
    go_enter Tryd.func3, Tryd.ntmps3
    go_wp2_with fail
    refine AW.out.mono ?_
    rintro _ w1 ⟨rfl, b0⟩
    clear AW
    go_wp2
    go_ret
    exact ⟨rfl, b0⟩
  by_cases g2 : 2000 < nm
  · have z : (2000 : Int) < (nm : Int) := by omega
    have z2 : ¬ (5000 : Int) < (nb : Int) := by omega
    clear hsb hsm lb lm g1 g2
    go_enter Tryd.func3, Tryd.ntmps3
    go_wp2_with fail
    refine AW.out.mono ?_
    rintro _ w1 ⟨rfl, b0⟩
    clear AW
    go_wp2
    go_ret
    exact ⟨rfl, b0⟩
  have z : ¬ (2000 : Int) < (nm : Int) := by omega
  have z2 : ¬ (5000 : Int) < (nb : Int) := by omega
  have MC := Lib.hid (fun (w : World) (h : Below W.heap.size W w) => msg_c k b pb nb cb (by omega) w (hsb.below h))
  by_cases g3 : 4096 < nb
  · have mf : msgF k b = (8, []) := if_pos (by omega)
    rw [mf] at MC
    have z3 : (4096 : Int) < (nb : Int) := by omega
    have e1 : ((nb : Nat) : Int) / 256 = ((nb / 256 : Nat) : Int) := by omega
    have e3 : IntKind.u8.wrap ((nb / 256 : Nat) : Int) = ((nb / 256 : Nat) : Int) := by rw [IntKind.wrap_u8]; omega
    have e4 : IntKind.u8.wrap (nb : Int) = ((nb % 256 : Nat) : Int) := by rw [IntKind.wrap_u8]; omega
    obtain ⟨x1, hx1⟩ : ∃ x, nb / 256 = x := ⟨_, rfl⟩
    obtain ⟨x2, hx2⟩ : ∃ x, nb % 256 = x := ⟨_, rfl⟩
    rw [hx1] at e1 e3
    rw [hx2] at e4
    have TM : takeM ([k, 0, x1, x2] ++ b) = (8, 0, [], 0) := take_long k 0 x1 x2 b (by omega)
    have TC := fun (p : Option Addr) (n c : Nat) (w : World) (h : SB w (.slice p n c) ([k, 0, x1, x2] ++ b)) => take_c ([k, 0, x1, x2] ++ b) (Bytes.append (fun x hx => by
      simp only [List.mem_cons, List.not_mem_nil, or_false] at hx
      omega) bb) (by rw [List.length_append]; simp only [List.length_cons, List.length_nil]; omega) p n c w h
    unfold TakePost at TC
    rw [TM] at TC
    have AF := Lib.hid (fun (w : World) (h : Below W.heap.size W w) => append_fresh w 22 (.slice pb nb cb) [k, 0, x1, x2] b (hsb.below h) (by simp only [List.length_cons, List.length_nil]; omega) W.heap.size W h h.size)
    have TC := Lib.hid TC
    clear hsb hsm lb lm g1 g2 g3 mf TM hx1 hx2 bb bm hk
    go_enter Tryd.func3, Tryd.ntmps3
    go_wp2_with fail
    refine AW.out.mono ?_
    rintro _ w1 ⟨rfl, b0⟩
    clear AW
    go_upto_region 5 with fail
    rename_i aK
    refine wp_region_seq ?_
    refine wpSeq_yield (S := fun _ => True) (yieldsIf_move rfl _ rfl (.int .u8 (k : Int)) rfl) trivial ?_
    simp only [AP]
    refine wpSeq_yield (S := fun _ => True) (yieldsIf_move rfl _ rfl (.slice pb nb cb) rfl) trivial ?_
    simp only [AP]
    refine wpSeq_wp rfl ?_
    unfold Oper.wp execOp
    go_simp
    refine (MC.out w1 b0).mono ?_
    rintro _ w2 ⟨v9, rfl, O9, b1⟩
    obtain ⟨p9, c9, hv⟩ := O9.shape
    subst hv
    replace b0 := b0.trans (b1.mono b0.size)
    clear MC b1 O9
    go_simp
    refine wpSeq_yield (S := fun _ => True) (yieldsIf_move rfl _ rfl (.tuple #[.slice p9 0 c9, .int .i64 8]) rfl) trivial ?_
    simp only [AP]
    refine wpSeq_yield (S := fun _ => True) (v := .slice p9 0 c9) (Or.inl ⟨by rfl, fun w' hw' => by go_simp⟩) trivial ?_
    simp only [AP]
    refine wpSeq_yield (S := fun _ => True) (v := .int .i64 8) (Or.inl ⟨by rfl, fun w' hw' => by go_simp⟩) trivial ?_
    simp only [AP]
    refine wpSeq_yield (S := fun _ => True) (yieldsIf_assign rfl _ rfl (.slice p9 0 c9) rfl) trivial ?_
    simp only [AP]
    refine wpSeq_yield (S := fun _ => True) (yieldsIf_assign rfl _ rfl (.int .i64 8) rfl) trivial ?_
    simp only [AP]
    refine wpSeq_nil ?_
    refine (by assumption : ∀ (a : Act) (w : World), _ → _) _ _ ?_
    go_upto_region 6 with fail
    rename_i aK
    refine wp_region_seq ?_
    refine wpSeq_yield (S := fun _ => True) (yieldsIf_move rfl _ rfl (.slice pb nb cb) rfl) trivial ?_
    simp only [AP]
    refine wpSeq_yield (S := fun _ => True) (v := .int .i64 (nb : Int)) (Or.inl ⟨by rfl, fun w' hw' => by go_simp⟩) trivial ?_
    simp only [AP]
    refine wpSeq_yield (S := fun _ => True) (v := .bool true) (Or.inl ⟨by rfl, fun w' hw' => by (go_simp; try omega)⟩) trivial ?_
    simp only [AP]
    refine wpSeq_nil ?_
    refine (by assumption : ∀ (a : Act) (w : World), _ → _) _ _ ?_
    obtain ⟨v', w', h1, h2, h3⟩ := AF.out w2 b0
    rw [← show (#[.int .u8 (k : Int), .int .u8 0, .int .u8 (x1 : Int), .int .u8 (x2 : Int)] : Array Value) = (vals [k, 0, x1, x2]).toArray from rfl] at h1
    replace h1 := Lib.hid h1
    clear AF
    go_upto_region 7 with fail
    rename_i aK
    refine wp_region_seq ?_
    refine wpSeq_yield (S := fun _ => True) (yieldsIf_move rfl _ rfl (.int .u8 (k : Int)) rfl) trivial ?_
    simp only [AP]
    refine wpSeq_yield (S := fun _ => True) (yieldsIf_move rfl _ rfl (.slice pb nb cb) rfl) trivial ?_
    simp only [AP]
    refine wpSeq_yield (S := fun _ => True) (v := .int .i64 (nb : Int)) (Or.inl ⟨by rfl, fun w' hw' => by go_simp⟩) trivial ?_
    simp only [AP]
    refine wpSeq_yield (S := fun _ => True) (v := .int .i64 (x1 : Int)) (Or.inl ⟨by rfl, fun w' hw' => by go_simp⟩) trivial ?_
    simp only [AP]
    refine wpSeq_yield (S := fun _ => True) (v := .int .u8 (x1 : Int)) (Or.inl ⟨by rfl, fun w' hw' => by go_simp⟩) trivial ?_
    simp only [AP]
    refine wpSeq_yield (S := fun _ => True) (yieldsIf_move rfl _ rfl (.slice pb nb cb) rfl) trivial ?_
    simp only [AP]
    refine wpSeq_yield (S := fun _ => True) (v := .int .i64 (nb : Int)) (Or.inl ⟨by rfl, fun w' hw' => by go_simp⟩) trivial ?_
    simp only [AP]
    refine wpSeq_yield (S := fun _ => True) (v := .int .u8 (x2 : Int)) (Or.inl ⟨by rfl, fun w' hw' => by go_simp⟩) trivial ?_
    simp only [AP]
    refine wpSeq_wp rfl ?_
    unfold Oper.wp execOp
    go_simp
    refine wpSeq_yield (S := fun _ => True) (yieldsIf_move rfl _ rfl (.slice pb nb cb) rfl) trivial ?_
    simp only [AP]
    refine wpSeq_wp rfl (wp_append_run _ _ _ _ rfl _ _ rfl rfl _ w' h1.out ?_)
    simp only [AP]
    obtain ⟨pv, cv, hv⟩ := h2.shape
    subst hv
    replace h2 := h2.sb
    clear b0 h1
    refine wpSeq_wp rfl ?_
    unfold Oper.wp execOp
    go_simp
    refine (TC.out _ _ _ w' h2).mono ?_
    rintro _ w3 ⟨v12, rfl, O12, b1⟩
    replace h3 := h3.trans (b1.mono h3.size)
    clear TC b1 h2 O12
    go_simp
    refine wpSeq_yield (S := fun _ => True) (yieldsIf_move rfl _ rfl (.tuple #[.int .u8 0, v12, .int .i64 0, .int .i64 8]) rfl) trivial ?_
    simp only [AP]
    refine wpSeq_yield (S := fun _ => True) (v := .int .u8 0) (Or.inl ⟨by rfl, fun w' hw' => by go_simp⟩) trivial ?_
    simp only [AP]
    refine wpSeq_yield (S := fun _ => True) (v := v12) (Or.inl ⟨by rfl, fun w' hw' => by go_simp⟩) trivial ?_
    simp only [AP]
    refine wpSeq_yield (S := fun _ => True) (v := .int .i64 0) (Or.inl ⟨by rfl, fun w' hw' => by go_simp⟩) trivial ?_
    simp only [AP]
    refine wpSeq_yield (S := fun _ => True) (v := .int .i64 8) (Or.inl ⟨by rfl, fun w' hw' => by go_simp⟩) trivial ?_
    simp only [AP]
    refine wpSeq_yield (S := fun _ => True) (yieldsIf_assign rfl _ rfl (.int .u8 0) rfl) trivial ?_
    simp only [AP]
    refine wpSeq_yield (S := fun _ => True) (yieldsIf_assign rfl _ rfl (v12) rfl) trivial ?_
    simp only [AP]
    refine wpSeq_yield (S := fun _ => True) (yieldsIf_assign rfl _ rfl (.int .i64 0) rfl) trivial ?_
    simp only [AP]
    refine wpSeq_yield (S := fun _ => True) (yieldsIf_assign rfl _ rfl (.int .i64 8) rfl) trivial ?_
    simp only [AP]
    refine wpSeq_nil ?_
    refine (by assumption : ∀ (a : Act) (w : World), _ → _) _ _ ?_
    go_upto_region 8 with fail
    rename_i aK
    refine wp_region_seq ?_
    refine wpSeq_yield (S := fun _ => True) (yieldsIf_move rfl _ rfl (.int .i64 8) rfl) trivial ?_
    simp only [AP]
    refine wpSeq_yield (S := fun _ => True) (v := .bool true) (Or.inl ⟨by rfl, fun w' hw' => by go_simp⟩) trivial ?_
    simp only [AP]
    refine wpSeq_yield (S := fun _ => True) (yieldsIf_move rfl _ rfl (.bool true) rfl) trivial ?_
    simp only [AP]
    refine wpSeq_yield (S := fun _ => True) (yieldsIf_move rfl _ rfl (.slice p9 0 c9) rfl) trivial ?_
    simp only [AP]
    refine wpSeq_yield (S := fun _ => True) (v := .int .i64 0) (Or.inl ⟨by rfl, fun w' hw' => by go_simp⟩) trivial ?_
    simp only [AP]
    refine wpSeq_yield (S := fun _ => True) (v := .bool true) (Or.inl ⟨by rfl, fun w' hw' => by go_simp⟩) trivial ?_
    simp only [AP]
    refine wpSeq_yield (S := fun _ => True) (yieldsIf_pick rfl _ _ _ rfl true rfl (.bool true) rfl) trivial ?_
    simp only [AP]
    refine wpSeq_yield (S := fun _ => True) (yieldsIf_move rfl _ rfl (.bool true) rfl) trivial ?_
    simp only [AP]
    refine wpSeq_yield (S := fun _ => True) (yieldsIf_move rfl _ rfl (.int .i64 8) rfl) trivial ?_
    simp only [AP]
    refine wpSeq_yield (S := fun _ => True) (v := .bool true) (Or.inl ⟨by rfl, fun w' hw' => by go_simp⟩) trivial ?_
    simp only [AP]
    refine wpSeq_yield (S := fun _ => True) (yieldsIf_pick rfl _ _ _ rfl true rfl (.bool true) rfl) trivial ?_
    simp only [AP]
    refine wpSeq_yield (S := fun _ => True) (yieldsIf_move rfl _ rfl (.bool true) rfl) trivial ?_
    simp only [AP]
    refine wpSeq_yield (S := fun _ => True) (yieldsIf_move rfl _ rfl (.int .i64 0) rfl) trivial ?_
    simp only [AP]
    refine wpSeq_yield (S := fun _ => True) (v := .bool true) (Or.inl ⟨by rfl, fun w' hw' => by go_simp⟩) trivial ?_
    simp only [AP]
    refine wpSeq_yield (S := fun _ => True) (yieldsIf_pick rfl _ _ _ rfl true rfl (.bool true) rfl) trivial ?_
    simp only [AP]
    refine wpSeq_yield (S := fun _ => True) (yieldsIf_assign rfl _ rfl (.bool true) rfl) trivial ?_
    simp only [AP]
    refine wpSeq_nil ?_
    refine (by assumption : ∀ (a : Act) (w : World), _ → _) _ _ ?_
    go_wp2
    go_ret
    exact ⟨rfl, h3⟩
  · have mf : msgF k b = (0, msgB k b) := if_neg (by omega)
    rw [mf] at MC
    have z3 : ¬ (4096 : Int) < (nb : Int) := by omega
    have lM : (msgB k b).length = 4 + nb := by rw [msgB_length]; omega
    have bM := msgB_bytes hk bb (by omega)
    have TM := take_msg k b m (by omega)
    rw [← lb] at TM
    have TN := fun n (hn : n < 4 + nb) => take_cut k b (by omega) n (by omega)
    obtain ⟨ct, hct⟩ : ∃ ct, cut % (4 + nb) = ct := ⟨_, rfl⟩
    have hct2 : ct < 4 + nb := by rw [← hct]; exact Nat.mod_lt _ (by omega)
    have T2 := TN ct hct2
    obtain ⟨N, hN⟩ : ∃ N, 4 + nb = N := ⟨_, rfl⟩
    rw [hN] at TM lM hct hct2
    have lR := Lib.hid (show (msgB k b).length + m.length ≤ 1000000 by omega)
    have RC := fun (w : World) (h : Below W.heap.size W w) => rmsg_c k b pb nb cb (by omega) w (hsb.below h)
    generalize msgB k b = MB at *
    have TC := fun (p : Option Addr) (n c : Nat) (w : World) (h : SB w (.slice p n c) (MB ++ m)) => take_c (MB ++ m) (bM.append bm) (by rw [List.length_append]; exact lR.out) p n c w h
    have TD := fun (p : Option Addr) (n c : Nat) (w : World) (h : SB w (.slice p n c) (MB.take ct)) => take_c (MB.take ct) (bM.take ct) (by rw [List.length_take]; omega) p n c w h
    unfold TakePost at TC TD
    rw [TM] at TC
    rw [T2] at TD
    have TC := Lib.hid TC
    have TD := Lib.hid TD
    have RC := Lib.hid RC
    have HB := Lib.hid (fun (w : World) (h : Below W.heap.size W w) => hsb.below h)
    have HM := Lib.hid (fun (w : World) (h : Below W.heap.size W w) => hsm.below h)
    have LB := Lib.hid lb
    have LM := Lib.hid lM
    have CT := Lib.hid (show ct < N from hct2)
    have m1 : ((cut : Nat) : Int).tmod (N : Int) = (ct : Int) := by rw [Int.tmod_eq_emod_of_nonneg (by omega), ← hct]; omega
    have m2 : ¬ (N : Int) = 0 := by omega
    have m3 : IntKind.i64.wrap (cut : Int) = (cut : Int) := by rw [IntKind.wrap_i64]; omega
    have m4 : IntKind.i64.wrap (ct : Int) = (ct : Int) := by rw [IntKind.wrap_i64]; omega
    have m5 : (0 : Int) ≤ (ct : Int) := by omega
    have m6 : ¬ N = 0 := by omega
    have HN := Lib.hid hN
    obtain ⟨LT, hLT⟩ : ∃ x, (MB ++ m).length = x := ⟨_, rfl⟩
    replace hLT := Lib.hid hLT
    clear hsb hsm lb lm g1 g2 g3 mf TM TN T2 hct hct2 bb bm hk bM lM hN
    go_enter Tryd.func3, Tryd.ntmps3
    go_wp2_with fail
    refine AW.out.mono ?_
    rintro _ w1 ⟨rfl, b0⟩
    clear AW
    go_upto_region 5 with fail
    rename_i aK
    refine wp_region_seq ?_
    refine wpSeq_yield (S := fun _ => True) (yieldsIf_move rfl _ rfl (.int .u8 (k : Int)) rfl) trivial ?_
    simp only [AP]
    refine wpSeq_yield (S := fun _ => True) (yieldsIf_move rfl _ rfl (.slice pb nb cb) rfl) trivial ?_
    simp only [AP]
    refine wpSeq_wp rfl ?_
    unfold Oper.wp execOp
    go_simp
    refine (MC.out w1 b0).mono ?_
    rintro _ w2 ⟨v9, rfl, O9, b1⟩
    obtain ⟨p9, c9, hv⟩ := O9.shape
    rw [LM.out] at hv
    subst hv
    replace O9 := O9.sb
    replace b0 := b0.trans (b1.mono b0.size)
    clear MC b1
    go_simp
    refine wpSeq_yield (S := fun _ => True) (yieldsIf_move rfl _ rfl (.tuple #[.slice p9 N c9, .int .i64 0]) rfl) trivial ?_
    simp only [AP]
    refine wpSeq_yield (S := fun _ => True) (v := .slice p9 N c9) (Or.inl ⟨by rfl, fun w' hw' => by go_simp⟩) trivial ?_
    simp only [AP]
    refine wpSeq_yield (S := fun _ => True) (v := .int .i64 0) (Or.inl ⟨by rfl, fun w' hw' => by go_simp⟩) trivial ?_
    simp only [AP]
    refine wpSeq_yield (S := fun _ => True) (yieldsIf_assign rfl _ rfl (.slice p9 N c9) rfl) trivial ?_
    simp only [AP]
    refine wpSeq_yield (S := fun _ => True) (yieldsIf_assign rfl _ rfl (.int .i64 0) rfl) trivial ?_
    simp only [AP]
    refine wpSeq_nil ?_
    refine (by assumption : ∀ (a : Act) (w : World), _ → _) _ _ ?_
    go_upto_region 6 with fail
    rename_i aK
    refine wp_region_seq ?_
    refine wpSeq_yield (S := fun _ => True) (yieldsIf_move rfl _ rfl (.slice pb nb cb) rfl) trivial ?_
    simp only [AP]
    refine wpSeq_yield (S := fun _ => True) (v := .int .i64 (nb : Int)) (Or.inl ⟨by rfl, fun w' hw' => by go_simp⟩) trivial ?_
    simp only [AP]
    refine wpSeq_yield (S := fun _ => True) (v := .bool false) (Or.inl ⟨by rfl, fun w' hw' => by (go_simp; try omega)⟩) trivial ?_
    simp only [AP]
    refine wpSeq_nil ?_
    refine (by assumption : ∀ (a : Act) (w : World), _ → _) _ _ ?_
    go_upto_region 9 with fail
    rename_i aK
    refine wp_region_seq ?_
    refine wpSeq_wp rfl (wp_build_run _ rfl _ _ (run_buildSlice_none _) ?_)
    simp only [AP]
    have b1 := (Below.refl w2.heap.size w2).alloc (Nat.le_refl _) (.cells #[] 5)
    obtain ⟨va, w3, h1, O3, b3⟩ := append_more w2.heap.size w2 _ 22 _ (.slice p9 N c9) [] MB (OwL.new w2.heap.size w2 [] (Nat.le_refl _) (Nat.zero_le _)) (O9.below b1) (by have := LM.out; have := lR.out; simp only [List.length_nil]; omega) b1 b1.size
    rw [List.nil_append] at O3
    refine wpSeq_yield (S := fun _ => True) (yieldsIf_move rfl _ rfl (.slice p9 N c9) rfl) trivial ?_
    simp only [AP]
    refine wpSeq_wp rfl (wp_append_run _ _ _ _ rfl _ _ rfl rfl _ w3 h1 ?_)
    simp only [AP]
    clear h1 b1
    obtain ⟨vb, w4, h1, O4, b4⟩ := append_more w2.heap.size w2 w3 22 va (.slice pm nm cm) MB m O3 (HM.out w3 (b0.trans (b3.mono b0.size))) lR.out b3 b3.size
    refine wpSeq_yield (S := fun _ => True) (yieldsIf_move rfl _ rfl (.slice pm nm cm) rfl) trivial ?_
    simp only [AP]
    refine wpSeq_wp rfl (wp_append_run _ _ _ _ rfl _ _ rfl rfl _ w4 h1 ?_)
    simp only [AP]
    clear h1
    obtain ⟨pv, cv, hv⟩ := O4.shape
    rw [hLT.out] at hv
    subst hv
    have S9 : SB w4 (.slice p9 N c9) MB := O9.below b4
    replace b0 := b0.trans (b4.mono b0.size)
    replace O4 := O4.sb
    clear O3 O9 b3 b4
    refine wpSeq_wp rfl ?_
    unfold Oper.wp execOp
    go_simp
    refine (TC.out _ _ _ w4 O4).mono ?_
    rintro _ w5 ⟨v16, rfl, O16, b1⟩
    obtain ⟨p16, c16, hv⟩ := O16.shape
    try dsimp only at hv
    rw [← LB.out] at hv
    subst hv
    replace O16 := O16.sb
    replace S9 := S9.below b1
    replace b0 := b0.trans (b1.mono b0.size)
    clear TC b1 O4
    go_simp
    refine wpSeq_yield (S := fun _ => True) (yieldsIf_move rfl _ rfl (.tuple #[.int .u8 (k : Int), .slice p16 nb c16, .int .i64 (N : Int), .int .i64 0]) rfl) trivial ?_
    simp only [AP]
    refine wpSeq_yield (S := fun _ => True) (v := .int .u8 (k : Int)) (Or.inl ⟨by rfl, fun w' hw' => by go_simp⟩) trivial ?_
    simp only [AP]
    refine wpSeq_yield (S := fun _ => True) (v := .slice p16 nb c16) (Or.inl ⟨by rfl, fun w' hw' => by go_simp⟩) trivial ?_
    simp only [AP]
    refine wpSeq_yield (S := fun _ => True) (v := .int .i64 (N : Int)) (Or.inl ⟨by rfl, fun w' hw' => by go_simp⟩) trivial ?_
    simp only [AP]
    refine wpSeq_yield (S := fun _ => True) (v := .int .i64 0) (Or.inl ⟨by rfl, fun w' hw' => by go_simp⟩) trivial ?_
    simp only [AP]
    refine wpSeq_yield (S := fun _ => True) (yieldsIf_assign rfl _ rfl (.int .u8 (k : Int)) rfl) trivial ?_
    simp only [AP]
    refine wpSeq_yield (S := fun _ => True) (yieldsIf_assign rfl _ rfl (.slice p16 nb c16) rfl) trivial ?_
    simp only [AP]
    refine wpSeq_yield (S := fun _ => True) (yieldsIf_assign rfl _ rfl (.int .i64 (N : Int)) rfl) trivial ?_
    simp only [AP]
    refine wpSeq_yield (S := fun _ => True) (yieldsIf_assign rfl _ rfl (.int .i64 0) rfl) trivial ?_
    simp only [AP]
    refine wpSeq_nil ?_
    refine (by assumption : ∀ (a : Act) (w : World), _ → _) _ _ ?_
    go_upto_region 10 with fail
    rename_i aK
    refine wp_region_seq ?_
    refine wpSeq_yield (S := fun _ => True) (yieldsIf_move rfl _ rfl (.slice p9 N c9) rfl) trivial ?_
    simp only [AP]
    refine wpSeq_yield (S := fun _ => True) (yieldsIf_move rfl _ rfl (.int .u16 (cut : Int)) rfl) trivial ?_
    simp only [AP]
    refine wpSeq_yield (S := fun _ => True) (v := .int .i64 (cut : Int)) (Or.inl ⟨by rfl, fun w' hw' => by go_simp⟩) trivial ?_
    simp only [AP]
    refine wpSeq_yield (S := fun _ => True) (yieldsIf_move rfl _ rfl (.slice p9 N c9) rfl) trivial ?_
    simp only [AP]
    refine wpSeq_yield (S := fun _ => True) (v := .int .i64 (N : Int)) (Or.inl ⟨by rfl, fun w' hw' => by go_simp⟩) trivial ?_
    simp only [AP]
    refine wpSeq_yield (S := fun _ => True) (v := .int .i64 (ct : Int)) (Or.inl ⟨by rfl, fun w' hw' => by go_simp⟩) trivial ?_
    simp only [AP]
    refine wpSeq_yield (S := fun _ => True) (yieldsIf_head rfl _ _ rfl p9 N c9 ct rfl rfl (by have := S9.len; have := LM.out; have := CT.out; omega)) trivial ?_
    simp only [AP]
    refine wpSeq_wp rfl ?_
    unfold Oper.wp execOp
    go_simp
    refine (TD.out _ _ _ w5 (S9.head ct (by have := CT.out; omega))).mono ?_
    rintro _ w6 ⟨v20, rfl, O20, b1⟩
    obtain ⟨p20, c20, hv⟩ := O20.shape
    try dsimp only at hv
    subst hv
    replace O16 := O16.below b1
    replace S9 := S9.below b1
    replace b0 := b0.trans (b1.mono b0.size)
    clear TD b1 O20
    go_simp
    refine wpSeq_yield (S := fun _ => True) (yieldsIf_move rfl _ rfl (.tuple #[.int .u8 0, .slice p20 0 c20, .int .i64 0, .int .i64 0]) rfl) trivial ?_
    simp only [AP]
    refine wpSeq_yield (S := fun _ => True) (v := .int .u8 0) (Or.inl ⟨by rfl, fun w' hw' => by go_simp⟩) trivial ?_
    simp only [AP]
    refine wpSeq_yield (S := fun _ => True) (v := .slice p20 0 c20) (Or.inl ⟨by rfl, fun w' hw' => by go_simp⟩) trivial ?_
    simp only [AP]
    refine wpSeq_yield (S := fun _ => True) (v := .int .i64 0) (Or.inl ⟨by rfl, fun w' hw' => by go_simp⟩) trivial ?_
    simp only [AP]
    refine wpSeq_yield (S := fun _ => True) (v := .int .i64 0) (Or.inl ⟨by rfl, fun w' hw' => by go_simp⟩) trivial ?_
    simp only [AP]
    refine wpSeq_yield (S := fun _ => True) (yieldsIf_assign rfl _ rfl (.int .u8 0) rfl) trivial ?_
    simp only [AP]
    refine wpSeq_yield (S := fun _ => True) (yieldsIf_assign rfl _ rfl (.slice p20 0 c20) rfl) trivial ?_
    simp only [AP]
    refine wpSeq_yield (S := fun _ => True) (yieldsIf_assign rfl _ rfl (.int .i64 0) rfl) trivial ?_
    simp only [AP]
    refine wpSeq_yield (S := fun _ => True) (yieldsIf_assign rfl _ rfl (.int .i64 0) rfl) trivial ?_
    simp only [AP]
    refine wpSeq_nil ?_
    refine (by assumption : ∀ (a : Act) (w : World), _ → _) _ _ ?_
    have bd := below_drew (Below.refl w6.heap.size w6)
    replace S9 := S9.below bd
    replace O16 := O16.below bd
    replace b0 := b0.trans (bd.mono b0.size)
    clear bd m1 m2 m3 m4 m5 m6
    go_upto_region 11 with fail
    rename_i aK
    refine wp_region_S (S := fun w' => SB w' (.slice p9 N c9) MB ∧ SB w' (.slice p16 nb c16) b ∧ SB w' (.slice pb nb cb) b) (by kernel_rfl) ?_
    generalize w6.drew = w7 at *
    have hS := And.intro S9 (And.intro O16 (HB.out w7 b0))
    refine wpAnyS_takeL 0 (v := .int .i64 0) rfl (by kernel_rfl) (by kernel_rfl) (by kernel_rfl) (fun _ _ _ H => H) (yieldsIf_move rfl _ rfl (.int .i64 0) rfl) hS ?_
    simp only [AP]
    refine wpAnyS_takeL 1 (v := .bool true) rfl (by kernel_rfl) (by kernel_rfl) (by kernel_rfl) (fun _ _ _ H => H) (Or.inl ⟨by rfl, fun w' hw' => by go_simp⟩) hS ?_
    simp only [AP]
    refine wpAnyS_takeL 2 (v := .bool true) rfl (by kernel_rfl) (by kernel_rfl) (by kernel_rfl) (fun _ _ _ H => H) (yieldsIf_move rfl _ rfl (.bool true) rfl) hS ?_
    simp only [AP]
    refine wpAnyS_takeL 3 (v := .slice p9 N c9) rfl (by kernel_rfl) (by kernel_rfl) (by kernel_rfl) (fun _ _ _ H => H) (yieldsIf_move rfl _ rfl (.slice p9 N c9) rfl) hS ?_
    simp only [AP]
    refine wpAnyS_takeL 4 (v := .string (strB MB)) rfl (by kernel_rfl) (by kernel_rfl) (by kernel_rfl) (fun _ _ _ H => H) (yieldsIf_conv (S := fun w' => SB w' (.slice p9 N c9) MB ∧ SB w' (.slice p16 nb c16) b ∧ SB w' (.slice pb nb cb) b) rfl _ rfl (.slice p9 N c9) rfl MB (fun _ h => h.1)) hS ?_
    simp only [AP]
    refine wpAnyS_takeL 5 (v := .int .u8 (k : Int)) rfl (by kernel_rfl) (by kernel_rfl) (by kernel_rfl) (fun _ _ _ H => H) (yieldsIf_move rfl _ rfl (.int .u8 (k : Int)) rfl) hS ?_
    simp only [AP]
    refine wpAnyS_takeL 6 (v := .slice pb nb cb) rfl (by kernel_rfl) (by kernel_rfl) (by kernel_rfl) (fun _ _ _ H => H) (yieldsIf_move rfl _ rfl (.slice pb nb cb) rfl) hS ?_
    simp only [AP]
    clear hS
    refine gstep 7 rfl rfl (by kernel_rfl) ?_
    unfold Oper.wp execOp
    go_simp
    refine (RC.out w7 b0).mono ?_
    rintro _ w8 ⟨v105, rfl, O5, b1⟩
    replace S9 := S9.below b1
    replace O16 := O16.below b1
    replace b0 := b0.trans (b1.mono b0.size)
    have hS := And.intro S9 (And.intro O16 (HB.out w8 b0))
    refine ⟨hS, ?_⟩
    clear RC b1
    refine gstep 8 rfl rfl (by kernel_rfl) (wp_conv _ 106 rfl rfl v105 rfl MB O5.sb ?_)
    simp only [AP]
    refine ⟨hS, ?_⟩
    clear O5
    refine wpAnyS_takeL 9 (v := .bool true) rfl (by kernel_rfl) (by kernel_rfl) (by kernel_rfl) (fun _ _ _ H => H) (yieldsIf_strB rfl _ _ rfl MB MB rfl rfl rfl) hS ?_
    simp only [AP]
    refine wpAnyS_takeL 10 (v := .bool true) rfl (by kernel_rfl) (by kernel_rfl) (by kernel_rfl) (fun _ _ _ H => H) (yieldsIf_pick rfl _ _ _ rfl true rfl (.bool true) rfl) hS ?_
    simp only [AP]
    refine wpAnyS_takeL 11 (v := .bool true) rfl (by kernel_rfl) (by kernel_rfl) (by kernel_rfl) (fun _ _ _ H => H) (yieldsIf_move rfl _ rfl (.bool true) rfl) hS ?_
    simp only [AP]
    refine wpAnyS_takeL 12 (v := .int .u8 (k : Int)) rfl (by kernel_rfl) (by kernel_rfl) (by kernel_rfl) (fun _ _ _ H => H) (yieldsIf_move rfl _ rfl (.int .u8 (k : Int)) rfl) hS ?_
    simp only [AP]
    refine wpAnyS_takeL 13 (v := .int .u8 (k : Int)) rfl (by kernel_rfl) (by kernel_rfl) (by kernel_rfl) (fun _ _ _ H => H) (yieldsIf_move rfl _ rfl (.int .u8 (k : Int)) rfl) hS ?_
    simp only [AP]
    refine wpAnyS_takeL 14 (v := .bool true) rfl (by kernel_rfl) (by kernel_rfl) (by kernel_rfl) (fun _ _ _ H => H) (Or.inl ⟨by rfl, fun w' hw' => by go_simp⟩) hS ?_
    simp only [AP]
    refine wpAnyS_takeL 15 (v := .bool true) rfl (by kernel_rfl) (by kernel_rfl) (by kernel_rfl) (fun _ _ _ H => H) (yieldsIf_pick rfl _ _ _ rfl true rfl (.bool true) rfl) hS ?_
    simp only [AP]
    refine wpAnyS_takeL 16 (v := .bool true) rfl (by kernel_rfl) (by kernel_rfl) (by kernel_rfl) (fun _ _ _ H => H) (yieldsIf_move rfl _ rfl (.bool true) rfl) hS ?_
    simp only [AP]
    refine wpAnyS_takeL 17 (v := .slice p16 nb c16) rfl (by kernel_rfl) (by kernel_rfl) (by kernel_rfl) (fun _ _ _ H => H) (yieldsIf_move rfl _ rfl (.slice p16 nb c16) rfl) hS ?_
    simp only [AP]
    refine wpAnyS_takeL 18 (v := .string (strB b)) rfl (by kernel_rfl) (by kernel_rfl) (by kernel_rfl) (fun _ _ _ H => H) (yieldsIf_conv (S := fun w' => SB w' (.slice p9 N c9) MB ∧ SB w' (.slice p16 nb c16) b ∧ SB w' (.slice pb nb cb) b) rfl _ rfl (.slice p16 nb c16) rfl b (fun _ h => h.2.1)) hS ?_
    simp only [AP]
    refine wpAnyS_takeL 19 (v := .slice pb nb cb) rfl (by kernel_rfl) (by kernel_rfl) (by kernel_rfl) (fun _ _ _ H => H) (yieldsIf_move rfl _ rfl (.slice pb nb cb) rfl) hS ?_
    simp only [AP]
    refine wpAnyS_takeL 20 (v := .string (strB b)) rfl (by kernel_rfl) (by kernel_rfl) (by kernel_rfl) (fun _ _ _ H => H) (yieldsIf_conv (S := fun w' => SB w' (.slice p9 N c9) MB ∧ SB w' (.slice p16 nb c16) b ∧ SB w' (.slice pb nb cb) b) rfl _ rfl (.slice pb nb cb) rfl b (fun _ h => h.2.2)) hS ?_
    simp only [AP]
    refine wpAnyS_takeL 21 (v := .bool true) rfl (by kernel_rfl) (by kernel_rfl) (by kernel_rfl) (fun _ _ _ H => H) (yieldsIf_strB rfl _ _ rfl b b rfl rfl rfl) hS ?_
    simp only [AP]
    refine wpAnyS_takeL 22 (v := .bool true) rfl (by kernel_rfl) (by kernel_rfl) (by kernel_rfl) (fun _ _ _ H => H) (yieldsIf_pick rfl _ _ _ rfl true rfl (.bool true) rfl) hS ?_
    simp only [AP]
    refine wpAnyS_takeL 23 (v := .bool true) rfl (by kernel_rfl) (by kernel_rfl) (by kernel_rfl) (fun _ _ _ H => H) (yieldsIf_move rfl _ rfl (.bool true) rfl) hS ?_
    simp only [AP]
    refine wpAnyS_takeL 24 (v := .int .i64 (N : Int)) rfl (by kernel_rfl) (by kernel_rfl) (by kernel_rfl) (fun _ _ _ H => H) (yieldsIf_move rfl _ rfl (.int .i64 (N : Int)) rfl) hS ?_
    simp only [AP]
    refine wpAnyS_takeL 25 (v := .slice p9 N c9) rfl (by kernel_rfl) (by kernel_rfl) (by kernel_rfl) (fun _ _ _ H => H) (yieldsIf_move rfl _ rfl (.slice p9 N c9) rfl) hS ?_
    simp only [AP]
    refine wpAnyS_takeL 26 (v := .int .i64 (N : Int)) rfl (by kernel_rfl) (by kernel_rfl) (by kernel_rfl) (fun _ _ _ H => H) (Or.inl ⟨by rfl, fun w' hw' => by go_simp⟩) hS ?_
    simp only [AP]
    refine wpAnyS_takeL 27 (v := .bool true) rfl (by kernel_rfl) (by kernel_rfl) (by kernel_rfl) (fun _ _ _ H => H) (Or.inl ⟨by rfl, fun w' hw' => by go_simp⟩) hS ?_
    simp only [AP]
    refine wpAnyS_takeL 28 (v := .bool true) rfl (by kernel_rfl) (by kernel_rfl) (by kernel_rfl) (fun _ _ _ H => H) (yieldsIf_pick rfl _ _ _ rfl true rfl (.bool true) rfl) hS ?_
    simp only [AP]
    refine wpAnyS_takeL 29 (v := .bool true) rfl (by kernel_rfl) (by kernel_rfl) (by kernel_rfl) (fun _ _ _ H => H) (yieldsIf_move rfl _ rfl (.bool true) rfl) hS ?_
    simp only [AP]
    refine wpAnyS_takeL 30 (v := .int .i64 0) rfl (by kernel_rfl) (by kernel_rfl) (by kernel_rfl) (fun _ _ _ H => H) (yieldsIf_move rfl _ rfl (.int .i64 0) rfl) hS ?_
    simp only [AP]
    refine wpAnyS_takeL 31 (v := .bool true) rfl (by kernel_rfl) (by kernel_rfl) (by kernel_rfl) (fun _ _ _ H => H) (Or.inl ⟨by rfl, fun w' hw' => by go_simp⟩) hS ?_
    simp only [AP]
    refine wpAnyS_takeL 32 (v := .bool true) rfl (by kernel_rfl) (by kernel_rfl) (by kernel_rfl) (fun _ _ _ H => H) (yieldsIf_pick rfl _ _ _ rfl true rfl (.bool true) rfl) hS ?_
    simp only [AP]
    refine wpAnyS_takeL 33 (v := .bool true) rfl (by kernel_rfl) (by kernel_rfl) (by kernel_rfl) (fun _ _ _ H => H) (yieldsIf_move rfl _ rfl (.bool true) rfl) hS ?_
    simp only [AP]
    refine wpAnyS_takeL 34 (v := .slice p20 0 c20) rfl (by kernel_rfl) (by kernel_rfl) (by kernel_rfl) (fun _ _ _ H => H) (yieldsIf_move rfl _ rfl (.slice p20 0 c20) rfl) hS ?_
    simp only [AP]
    refine wpAnyS_takeL 35 (v := .int .i64 0) rfl (by kernel_rfl) (by kernel_rfl) (by kernel_rfl) (fun _ _ _ H => H) (Or.inl ⟨by rfl, fun w' hw' => by go_simp⟩) hS ?_
    simp only [AP]
    refine wpAnyS_takeL 36 (v := .bool true) rfl (by kernel_rfl) (by kernel_rfl) (by kernel_rfl) (fun _ _ _ H => H) (Or.inl ⟨by rfl, fun w' hw' => by go_simp⟩) hS ?_
    simp only [AP]
    refine wpAnyS_takeL 37 (v := .bool true) rfl (by kernel_rfl) (by kernel_rfl) (by kernel_rfl) (fun _ _ _ H => H) (yieldsIf_pick rfl _ _ _ rfl true rfl (.bool true) rfl) hS ?_
    simp only [AP]
    refine wpAnyS_takeL 38 (v := .bool true) rfl (by kernel_rfl) (by kernel_rfl) (by kernel_rfl) (fun _ _ _ H => H) (yieldsIf_move rfl _ rfl (.bool true) rfl) hS ?_
    simp only [AP]
    refine wpAnyS_takeL 39 (v := .int .i64 0) rfl (by kernel_rfl) (by kernel_rfl) (by kernel_rfl) (fun _ _ _ H => H) (yieldsIf_move rfl _ rfl (.int .i64 0) rfl) hS ?_
    simp only [AP]
    refine wpAnyS_takeL 40 (v := .bool true) rfl (by kernel_rfl) (by kernel_rfl) (by kernel_rfl) (fun _ _ _ H => H) (Or.inl ⟨by rfl, fun w' hw' => by go_simp⟩) hS ?_
    simp only [AP]
    refine wpAnyS_takeL 41 (v := .bool true) rfl (by kernel_rfl) (by kernel_rfl) (by kernel_rfl) (fun _ _ _ H => H) (yieldsIf_pick rfl _ _ _ rfl true rfl (.bool true) rfl) hS ?_
    simp only [AP]
    refine wpAnyS_takeL 42 (v := .bool true) rfl (by kernel_rfl) (by kernel_rfl) (by kernel_rfl) (fun _ _ _ H => H) (yieldsIf_move rfl _ rfl (.bool true) rfl) hS ?_
    simp only [AP]
    refine wpAnyS_takeL 43 (v := .int .i64 0) rfl (by kernel_rfl) (by kernel_rfl) (by kernel_rfl) (fun _ _ _ H => H) (yieldsIf_move rfl _ rfl (.int .i64 0) rfl) hS ?_
    simp only [AP]
    refine wpAnyS_takeL 44 (v := .bool true) rfl (by kernel_rfl) (by kernel_rfl) (by kernel_rfl) (fun _ _ _ H => H) (Or.inl ⟨by rfl, fun w' hw' => by go_simp⟩) hS ?_
    simp only [AP]
    refine wpAnyS_takeL 45 (v := .bool true) rfl (by kernel_rfl) (by kernel_rfl) (by kernel_rfl) (fun _ _ _ H => H) (yieldsIf_pick rfl _ _ _ rfl true rfl (.bool true) rfl) hS ?_
    simp only [AP]
    refine wpAnyS_takeL 46 (v := .bool true) rfl (by kernel_rfl) (by kernel_rfl) (by kernel_rfl) (fun _ _ _ H => H) (yieldsIf_assign rfl _ rfl (.bool true) rfl) hS ?_
    simp only [AP]
    refine wpAnyS_done (by kernel_rfl) ?_ _
    refine aK _ _ ?_
    clear aK
    go_wp2
    go_ret
    exact ⟨rfl, b0⟩
end Go.Proofs.YtegbnadnodlalaaDoor
