/- Law HelloRows by contract (printed by gen14/eh.py). -/
import Derived.Test.YtegbnadnodlalaaDoorE3d0E4a
namespace Go.Proofs.YtegbnadnodlalaaDoor
open Go.RowKit
/-- Messages one behind the other. -/
def catM (zs : List (Nat × List Nat)) : List Nat := (zs.map fun z => msgB z.1 z.2).flatten
theorem catM_cons (z : Nat × List Nat) (r : List (Nat × List Nat)) : catM (z :: r) = msgB z.1 z.2 ++ catM r := by simp [catM]
theorem catM_succ (zs : List (Nat × List Nat)) (j : Nat) (z : Nat × List Nat) (h : zs[j]? = some z) : catM (zs.take (j + 1)) = catM (zs.take j) ++ msgB z.1 z.2 := by
  have hj := (List.getElem?_eq_some_iff.1 h).1
  have hz := (List.getElem?_eq_some_iff.1 h).2
  unfold catM
  rw [← List.take_append_getElem hj, hz, List.map_append, List.flatten_append]
  simp
theorem catM_drop (zs : List (Nat × List Nat)) (j : Nat) (z : Nat × List Nat) (h : zs[j]? = some z) : catM (zs.drop j) = msgB z.1 z.2 ++ catM (zs.drop (j + 1)) := by
  have hj := (List.getElem?_eq_some_iff.1 h).1
  have hz := (List.getElem?_eq_some_iff.1 h).2
  rw [List.drop_eq_getElem_cons hj, hz, catM_cons]
def Small (zs : List (Nat × List Nat)) : Prop := ∀ z ∈ zs, z.1 < 256 ∧ Bytes z.2 ∧ z.2.length ≤ 300
theorem catM_small : ∀ (zs : List (Nat × List Nat)), Small zs → (catM zs).length ≤ 304 * zs.length ∧ Bytes (catM zs)
  | [], _ => ⟨by simp [catM], Bytes.nil⟩
  | z :: r, h => by
    obtain ⟨h1, h2, h3⟩ := h z (List.mem_cons_self ..)
    obtain ⟨i1, i2⟩ := catM_small r (fun y hy => h y (List.mem_cons_of_mem _ hy))
    rw [catM_cons]
    refine ⟨?_, (msgB_bytes h1 h2 (by omega)).append i2⟩
    rw [List.length_append, msgB_length, List.length_cons]
    omega
theorem Small.take {zs : List (Nat × List Nat)} (h : Small zs) (j : Nat) : Small (zs.take j) := fun z hz => h z (List.mem_of_mem_take hz)
theorem Small.drop {zs : List (Nat × List Nat)} (h : Small zs) (j : Nat) : Small (zs.drop j) := fun z hz => h z (List.mem_of_mem_drop hz)
/-- What a round reads. -/
structure RowAt (W : World) (pk pl : Option Addr) (j : Nat) (z : Nat × List Nat) : Prop where
  kind : ∃ g o, pk = some ⟨g, o, none⟩ ∧ g < W.heap.size ∧ W.cell? ⟨g, o + j, none⟩ = some (.int .u8 (z.1 : Int))
  list : ∃ g o p c, pl = some ⟨g, o, none⟩ ∧ g < W.heap.size ∧ W.cell? ⟨g, o + j, none⟩ = some (.slice p z.2.length c) ∧ SB W (.slice p z.2.length c) z.2
  b1 : z.1 < 256
  b2 : Bytes z.2
set_option maxHeartbeats 8000000 in
set_option maxRecDepth 100000 in
theorem rows_c (zs : List (Nat × List Nat)) (pk : Option Addr) (nk ck : Nat) (pl : Option Addr) (nl cl n : Nat) (hn : n = min (min nk nl) 20) (hz : zs.length = n) (W : World) (RA : ∀ j z, zs[j]? = some z → RowAt W pk pl j z) (AW : AwakeC W) :
    Calls Tryd.prog 5 #[.slice pk nk ck, .slice pl nl cl] W fun e w' => e = .returned (.bool true) ∧ Below W.heap.size W w' := by
  have AW := Lib.hid (AW W (Below.refl _ _))
  have mm : min (min (nk : Int) (nl : Int)) 20 = (n : Int) := by omega
  have n20 : n ≤ 20 := by omega
  have nnk : n ≤ nk := by omega
  have nnl : n ≤ nl := by omega
  have HZ := Lib.hid hz
  have HN := Lib.hid (And.intro nnk (And.intro nnl n20))
  clear hn hz
  replace RA := Lib.hid RA
  go_enter Tryd.func5, Tryd.ntmps5
  go_wp2_with fail
  refine AW.out.mono ?_
  rintro _ w1 ⟨rfl, b0⟩
  clear AW
  go_upto_region 3 with fail
  rename_i aK
  refine wp_region_seq ?_
  refine wpSeq_yield (S := fun _ => True) (yieldsIf_assign rfl _ rfl (.slice none 0 0) rfl) trivial ?_
  simp only [AP]
  refine wpSeq_nil ?_
  refine (by assumption : ∀ (a : Act) (w : World), _ → _) _ _ ?_
  go_upto_region 4 with fail
  rename_i aK
  refine wp_region_seq ?_
  refine wpSeq_yield (S := fun _ => True) (yieldsIf_move rfl _ rfl (.slice pk nk ck) rfl) trivial ?_
  simp only [AP]
  refine wpSeq_yield (S := fun _ => True) (v := .int .i64 (nk : Int)) (Or.inl ⟨by rfl, fun w' hw' => by go_simp⟩) trivial ?_
  simp only [AP]
  refine wpSeq_yield (S := fun _ => True) (yieldsIf_move rfl _ rfl (.slice pl nl cl) rfl) trivial ?_
  simp only [AP]
  refine wpSeq_yield (S := fun _ => True) (v := .int .i64 (nl : Int)) (Or.inl ⟨by rfl, fun w' hw' => by go_simp⟩) trivial ?_
  simp only [AP]
  refine wpSeq_yield (S := fun _ => True) (v := .int .i64 (n : Int)) (Or.inl ⟨by rfl, fun w' hw' => by (go_simp; try omega)⟩) trivial ?_
  simp only [AP]
  refine wpSeq_yield (S := fun _ => True) (yieldsIf_assign rfl _ rfl (.int .i64 (n : Int)) rfl) trivial ?_
  simp only [AP]
  refine wpSeq_nil ?_
  refine (by assumption : ∀ (a : Act) (w : World), _ → _) _ _ ?_
  clear mm
  go_upto_region 5 with fail
  rename_i aK
  refine wp_region_seq ?_
  refine wpSeq_yield (S := fun _ => True) (yieldsIf_move rfl _ rfl (.int .i64 (n : Int)) rfl) trivial ?_
  simp only [AP]
  refine wpSeq_yield (S := fun _ => True) (yieldsIf_move rfl _ rfl (.int .i64 0) rfl) trivial ?_
  simp only [AP]
  refine wpSeq_nil ?_
  refine (by assumption : ∀ (a : Act) (w : World), _ → _) _ _ ?_
  go_upto_region 6 with fail
  go_loopw [5, 7, 8, 9, 27] (fun v5 _ _ _ v wr => ∃ j : Nat, j ≤ n ∧ v = .int .i64 (j : Int) ∧ OwL W.heap.size wr v5 (catM (zs.take j)) ∧ Below W.heap.size W wr ∧ Small (zs.take j)) (fun _ _ _ _ v _ => (n - intOf v).toNat)
  case atStart => exact ⟨0, by omega, rfl, OwL.nil _ _, b0, fun z hz => by cases hz⟩
  case round =>
    clear b0
    obtain ⟨j, jm, rfl, O, b0, SM⟩ := hrel
    by_cases jj : j = n
    · have e0 : zs.take j = zs := List.take_of_length_le (by rw [HZ.out]; omega)
      rw [e0] at O SM
      have HSM := Lib.hid SM
      have D := Lib.hid (And.intro O.sb b0)
      clear e0 O SM b0
      have jf : ¬ (j : Int) < (n : Int) := by omega
      clear jj jm
      go_upto_region 6 with fail
      rename_i aK
      refine wp_region_seq ?_
      refine wpSeq_yield (S := fun _ => True) (v := .bool false) (Or.inl ⟨by rfl, fun w' hw' => by (go_simp; try omega)⟩) trivial ?_
      simp only [AP]
      refine wpSeq_nil ?_
      refine (by assumption : ∀ (a : Act) (w : World), _ → _) _ _ ?_
      clear jf
      go_upto_region 13 with fail
      rename_i aK
      refine wp_region_seq ?_
      refine wpSeq_yield (S := fun _ => True) (yieldsIf_move rfl _ rfl (.int .i64 (n : Int)) rfl) trivial ?_
      simp only [AP]
      refine wpSeq_yield (S := fun _ => True) (yieldsIf_move rfl _ rfl (.int .i64 0) rfl) trivial ?_
      simp only [AP]
      refine wpSeq_nil ?_
      refine (by assumption : ∀ (a : Act) (w : World), _ → _) _ _ ?_
      go_upto_region 14 with fail
      go_loopw [5, 10, 11, 12, 13, 14, 53] (fun v5 _ _ _ _ _ v wr => ∃ j : Nat, j ≤ n ∧ v = .int .i64 (j : Int) ∧ SB wr v5 (catM (zs.drop j)) ∧ Below W.heap.size W wr) (fun _ _ _ _ _ _ v _ => (n - intOf v).toNat)
      case atStart => exact ⟨0, by omega, rfl, D.out.1, D.out.2⟩
      case round =>
        clear D
        obtain ⟨j, jm, rfl, O, b0⟩ := hrel
        obtain ⟨p5, c5, hv⟩ := O.shape
        subst hv
        by_cases jj : j = n
        · have e0 : zs.drop j = [] := List.drop_of_length_le (by rw [HZ.out]; omega)
          rw [e0] at O ⊢
          have jf : ¬ (j : Int) < (n : Int) := by omega
          replace O : SB wr (.slice p5 0 c5) [] := O
          have TC := take_c [] Bytes.nil (Nat.zero_le _) p5 0 c5 wr O
          unfold TakePost at TC
          rw [show takeM [] = (0, 0, [], 0) from rfl] at TC
          replace TC := Lib.hid TC
          rw [show (catM []).length = 0 from rfl]
          clear jj jm e0 O
          go_upto_region 14 with fail
          rename_i aK
          refine wp_region_seq ?_
          refine wpSeq_yield (S := fun _ => True) (v := .bool false) (Or.inl ⟨by rfl, fun w' hw' => by (go_simp; try omega)⟩) trivial ?_
          simp only [AP]
          refine wpSeq_nil ?_
          refine (by assumption : ∀ (a : Act) (w : World), _ → _) _ _ ?_
          go_upto_region 21 with fail
          rename_i aK
          refine wp_region_seq ?_
          refine wpSeq_yield (S := fun _ => True) (yieldsIf_move rfl _ rfl (.slice p5 0 c5) rfl) trivial ?_
          simp only [AP]
          refine wpSeq_wp rfl ?_
          unfold Oper.wp execOp
          go_simp
          refine TC.out.mono ?_
          rintro _ w3 ⟨v16, rfl, O16, b1⟩
          replace b0 := b0.trans (b1.mono b0.size)
          clear TC b1 O16
          go_simp
          refine wpSeq_yield (S := fun _ => True) (yieldsIf_move rfl _ rfl (.tuple #[.int .u8 0, v16, .int .i64 0, .int .i64 0]) rfl) trivial ?_
          simp only [AP]
          refine wpSeq_yield (S := fun _ => True) (v := .int .u8 0) (Or.inl ⟨by rfl, fun w' hw' => by go_simp⟩) trivial ?_
          simp only [AP]
          refine wpSeq_yield (S := fun _ => True) (v := v16) (Or.inl ⟨by rfl, fun w' hw' => by go_simp⟩) trivial ?_
          simp only [AP]
          refine wpSeq_yield (S := fun _ => True) (v := .int .i64 0) (Or.inl ⟨by rfl, fun w' hw' => by go_simp⟩) trivial ?_
          simp only [AP]
          refine wpSeq_yield (S := fun _ => True) (v := .int .i64 0) (Or.inl ⟨by rfl, fun w' hw' => by go_simp⟩) trivial ?_
          simp only [AP]
          refine wpSeq_yield (S := fun _ => True) (yieldsIf_assign rfl _ rfl (.int .u8 0) rfl) trivial ?_
          simp only [AP]
          refine wpSeq_yield (S := fun _ => True) (yieldsIf_assign rfl _ rfl (v16) rfl) trivial ?_
          simp only [AP]
          refine wpSeq_yield (S := fun _ => True) (yieldsIf_assign rfl _ rfl (.int .i64 0) rfl) trivial ?_
          simp only [AP]
          refine wpSeq_yield (S := fun _ => True) (yieldsIf_assign rfl _ rfl (.int .i64 0) rfl) trivial ?_
          simp only [AP]
          refine wpSeq_nil ?_
          refine (by assumption : ∀ (a : Act) (w : World), _ → _) _ _ ?_
          go_upto_region 22 with fail
          rename_i aK
          refine wp_region_seq ?_
          refine wpSeq_yield (S := fun _ => True) (yieldsIf_move rfl _ rfl (.slice p5 0 c5) rfl) trivial ?_
          simp only [AP]
          refine wpSeq_yield (S := fun _ => True) (v := .int .i64 0) (Or.inl ⟨by rfl, fun w' hw' => by go_simp⟩) trivial ?_
          simp only [AP]
          refine wpSeq_yield (S := fun _ => True) (v := .bool true) (Or.inl ⟨by rfl, fun w' hw' => by go_simp⟩) trivial ?_
          simp only [AP]
          refine wpSeq_yield (S := fun _ => True) (yieldsIf_move rfl _ rfl (.bool true) rfl) trivial ?_
          simp only [AP]
          refine wpSeq_yield (S := fun _ => True) (yieldsIf_move rfl _ rfl (.int .i64 0) rfl) trivial ?_
          simp only [AP]
          refine wpSeq_yield (S := fun _ => True) (v := .bool true) (Or.inl ⟨by rfl, fun w' hw' => by go_simp⟩) trivial ?_
          simp only [AP]
          refine wpSeq_yield (S := fun _ => True) (yieldsIf_pick rfl _ _ _ rfl true rfl (.bool true) rfl) trivial ?_
          simp only [AP]
          refine wpSeq_yield (S := fun _ => True) (yieldsIf_move rfl _ rfl (.bool true) rfl) trivial ?_
          simp only [AP]
          refine wpSeq_yield (S := fun _ => True) (yieldsIf_move rfl _ rfl (.int .i64 0) rfl) trivial ?_
          simp only [AP]
          refine wpSeq_yield (S := fun _ => True) (v := .bool true) (Or.inl ⟨by rfl, fun w' hw' => by go_simp⟩) trivial ?_
          simp only [AP]
          refine wpSeq_yield (S := fun _ => True) (yieldsIf_pick rfl _ _ _ rfl true rfl (.bool true) rfl) trivial ?_
          simp only [AP]
          refine wpSeq_yield (S := fun _ => True) (yieldsIf_assign rfl _ rfl (.bool true) rfl) trivial ?_
          simp only [AP]
          refine wpSeq_nil ?_
          refine (by assumption : ∀ (a : Act) (w : World), _ → _) _ _ ?_
          go_wp2
          go_ret
          exact ⟨rfl, b0⟩
        · have jl : j < n := by omega
          have jz : j < zs.length := by rw [HZ.out]; exact jl
          obtain ⟨⟨kz, bz⟩, hz⟩ : ∃ z, zs[j]? = some z := ⟨_, List.getElem?_eq_getElem jz⟩
          obtain ⟨⟨gk, ok, hpk, lgk, ckk⟩, ⟨gl, ol, pz, cz, hpl, lgl, cll, SZ⟩, k8, bb⟩ := RA.out j _ hz
          dsimp only at ckk cll SZ k8 bb
          subst hpk hpl
          have sm := HSM.out (kz, bz) (List.mem_of_getElem? hz)
          dsimp only at sm
          have sd := catM_small _ (HSM.out.drop j)
          have cd := catM_drop zs j (kz, bz) hz
          dsimp only at cd
          have TC := take_c (catM (zs.drop j)) sd.2 (by rw [List.length_drop, HZ.out] at sd; have := HN.out; omega) p5 _ c5 wr O
          unfold TakePost at TC
          have tm : takeM (catM (zs.drop j)) = (0, kz, bz, 4 + bz.length) := by rw [cd]; exact take_msg kz bz _ (by omega)
          rw [tm] at TC
          obtain ⟨m, hm⟩ : ∃ m, bz.length = m := ⟨_, rfl⟩
          rw [hm] at TC cll SZ sm
          obtain ⟨M, hM⟩ : ∃ M, 4 + m = M := ⟨_, rfl⟩
          rw [hM] at TC
          have dm : (catM (zs.drop j)).drop M = catM (zs.drop (j + 1)) := by
            rw [cd]
            exact List.drop_left' (by rw [msgB_length]; omega)
          have lc : M ≤ (catM (zs.drop j)).length := by rw [cd, List.length_append, msgB_length]; omega
          generalize catM (zs.drop j) = A at *
          obtain ⟨L5, hL5⟩ : ∃ x, A.length = x := ⟨_, rfl⟩
          rw [hL5] at TC O lc ⊢
          have l5 := O.len.2
          rw [hL5] at l5
          have z1 : (j : Int) < (n : Int) := by omega
          have z2 : (j : Int) < (nk : Int) ∧ (j : Int) < (nl : Int) ∧ (0 : Int) ≤ (j : Int) := by have := HN.out; omega
          obtain ⟨z2, z3, z4⟩ := z2
          have e4 : IntKind.i64.wrap (4 + (m : Int)) = (M : Int) := by rw [IntKind.wrap_i64]; omega
          have e5 : IntKind.i64.wrap ((j : Int) + 1) = ((j + 1 : Nat) : Int) := by have := HN.out; rw [IntKind.wrap_i64]; omega
          have e5 := Lib.hid e5
          have TC := Lib.hid TC
          have LL := Lib.hid (And.intro lc l5)
          have DM := Lib.hid dm
          have HM := Lib.hid hm
          have CK := Lib.hid (fun (w : World) (h : Below W.heap.size W w) => (h.cell (p := ⟨gk, ok + j, none⟩) lgk).trans ckk)
          have CL := Lib.hid (fun (w : World) (h : Below W.heap.size W w) => (h.cell (p := ⟨gl, ol + j, none⟩) lgl).trans cll)
          have HSZ := Lib.hid (fun (w : World) (h : Below W.heap.size W w) => SZ.below h)
          have O := Lib.hid O
          clear jj hz sm sd cd tm hM dm lc l5 ckk cll SZ k8 bb lgk lgl jz hm hL5
          go_upto_region 14 with fail
          rename_i aK
          refine wp_region_seq ?_
          refine wpSeq_yield (S := fun _ => True) (v := .bool true) (Or.inl ⟨by rfl, fun w' hw' => by (go_simp; try omega)⟩) trivial ?_
          simp only [AP]
          refine wpSeq_nil ?_
          refine (by assumption : ∀ (a : Act) (w : World), _ → _) _ _ ?_
          go_upto_region 15 with fail
          rename_i aK
          refine wp_region_seq ?_
          refine wpSeq_yield (S := fun _ => True) (yieldsIf_move rfl _ rfl (.int .i64 (j : Int)) rfl) trivial ?_
          simp only [AP]
          refine wpSeq_yield (S := fun _ => True) (yieldsIf_assign rfl _ rfl (.int .i64 (j : Int)) rfl) trivial ?_
          simp only [AP]
          refine wpSeq_nil ?_
          refine (by assumption : ∀ (a : Act) (w : World), _ → _) _ _ ?_
          go_upto_region 16 with fail
          rename_i aK
          refine wp_region_seq ?_
          refine wpSeq_yield (S := fun _ => True) (yieldsIf_move rfl _ rfl (.slice p5 L5 c5) rfl) trivial ?_
          simp only [AP]
          refine wpSeq_wp rfl ?_
          unfold Oper.wp execOp
          go_simp
          refine TC.out.mono ?_
          rintro _ w3 ⟨v12, rfl, O12, b1⟩
          obtain ⟨p12, c12, hv⟩ := O12.shape
          try dsimp only at hv
          rw [HM.out] at hv
          subst hv
          replace O12 := O12.sb
          replace O := Lib.hid (O.out.below b1)
          replace b0 := b0.trans (b1.mono b0.size)
          clear TC b1
          go_simp
          refine wpSeq_yield (S := fun _ => True) (yieldsIf_move rfl _ rfl (.tuple #[.int .u8 (kz : Int), .slice p12 m c12, .int .i64 (M : Int), .int .i64 0]) rfl) trivial ?_
          simp only [AP]
          refine wpSeq_yield (S := fun _ => True) (v := .int .u8 (kz : Int)) (Or.inl ⟨by rfl, fun w' hw' => by go_simp⟩) trivial ?_
          simp only [AP]
          refine wpSeq_yield (S := fun _ => True) (v := .slice p12 m c12) (Or.inl ⟨by rfl, fun w' hw' => by go_simp⟩) trivial ?_
          simp only [AP]
          refine wpSeq_yield (S := fun _ => True) (v := .int .i64 (M : Int)) (Or.inl ⟨by rfl, fun w' hw' => by go_simp⟩) trivial ?_
          simp only [AP]
          refine wpSeq_yield (S := fun _ => True) (v := .int .i64 0) (Or.inl ⟨by rfl, fun w' hw' => by go_simp⟩) trivial ?_
          simp only [AP]
          refine wpSeq_yield (S := fun _ => True) (yieldsIf_assign rfl _ rfl (.int .u8 (kz : Int)) rfl) trivial ?_
          simp only [AP]
          refine wpSeq_yield (S := fun _ => True) (yieldsIf_assign rfl _ rfl (.slice p12 m c12) rfl) trivial ?_
          simp only [AP]
          refine wpSeq_yield (S := fun _ => True) (yieldsIf_assign rfl _ rfl (.int .i64 (M : Int)) rfl) trivial ?_
          simp only [AP]
          refine wpSeq_yield (S := fun _ => True) (yieldsIf_assign rfl _ rfl (.int .i64 0) rfl) trivial ?_
          simp only [AP]
          refine wpSeq_nil ?_
          refine (by assumption : ∀ (a : Act) (w : World), _ → _) _ _ ?_
          have bd := below_drew (Below.refl w3.heap.size w3)
          replace O := Lib.hid (O.out.below bd)
          replace O12 := O12.below bd
          replace b0 := b0.trans (bd.mono b0.size)
          clear bd
          go_upto_region 17 with fail
          rename_i aK
          refine wp_region_S (S := fun w' => SB w' (.slice p12 m c12) bz ∧ Below W.heap.size W w') (by kernel_rfl) ?_
          generalize w3.drew = w4 at *
          have hS := And.intro O12 b0
          refine wpAnyS_takeL 0 (v := .int .i64 0) rfl (by kernel_rfl) (by kernel_rfl) (by kernel_rfl) (fun _ _ _ H => H) (yieldsIf_move rfl _ rfl (.int .i64 0) rfl) hS ?_
          simp only [AP]
          refine wpAnyS_takeL 1 (v := .bool false) rfl (by kernel_rfl) (by kernel_rfl) (by kernel_rfl) (fun _ _ _ H => H) (Or.inl ⟨by rfl, fun w' hw' => by go_simp⟩) hS ?_
          simp only [AP]
          refine wpAnyS_takeL 2 (v := .bool false) rfl (by kernel_rfl) (by kernel_rfl) (by kernel_rfl) (fun _ _ _ H => H) (yieldsIf_move rfl _ rfl (.bool false) rfl) hS ?_
          simp only [AP]
          refine wpAnyS_takeL 3 (v := .int .u8 (kz : Int)) rfl (by kernel_rfl) (by kernel_rfl) (by kernel_rfl) (fun _ _ _ H => H) (yieldsIf_move rfl _ rfl (.int .u8 (kz : Int)) rfl) hS ?_
          simp only [AP]
          refine wpAnyS_takeL 4 (v := .slice (some ⟨gk, ok, none⟩) nk ck) rfl (by kernel_rfl) (by kernel_rfl) (by kernel_rfl) (fun _ _ _ H => H) (yieldsIf_move rfl _ rfl (.slice (some ⟨gk, ok, none⟩) nk ck) rfl) hS ?_
          simp only [AP]
          refine wpAnyS_takeL 5 (v := .int .i64 (j : Int)) rfl (by kernel_rfl) (by kernel_rfl) (by kernel_rfl) (fun _ _ _ H => H) (yieldsIf_move rfl _ rfl (.int .i64 (j : Int)) rfl) hS ?_
          simp only [AP]
          refine wpAnyS_takeL 6 (v := .pointer (some ⟨gk, ok + j, none⟩)) rfl (by kernel_rfl) (by kernel_rfl) (by kernel_rfl) (fun _ _ _ H => H) (Or.inl ⟨by rfl, fun w' hw' => by (go_simp)⟩) hS ?_
          simp only [AP]
          refine wpAnyS_takeL 7 (v := .int .u8 (kz : Int)) rfl (by kernel_rfl) (by kernel_rfl) (by kernel_rfl) (fun _ _ _ H => H) (Or.inl ⟨by rfl, fun w' hw' => by (have cc := CK.out w' hw'.2; go_simp)⟩) hS ?_
          simp only [AP]
          refine wpAnyS_takeL 8 (v := .bool false) rfl (by kernel_rfl) (by kernel_rfl) (by kernel_rfl) (fun _ _ _ H => H) (Or.inl ⟨by rfl, fun w' hw' => by go_simp⟩) hS ?_
          simp only [AP]
          refine wpAnyS_takeL 9 (v := .bool false) rfl (by kernel_rfl) (by kernel_rfl) (by kernel_rfl) (fun _ _ _ H => H) (yieldsIf_pick rfl _ _ _ rfl false rfl (.bool false) rfl) hS ?_
          simp only [AP]
          refine wpAnyS_takeL 10 (v := .bool false) rfl (by kernel_rfl) (by kernel_rfl) (by kernel_rfl) (fun _ _ _ H => H) (yieldsIf_move rfl _ rfl (.bool false) rfl) hS ?_
          simp only [AP]
          refine wpAnyS_takeL 11 (v := .slice p12 m c12) rfl (by kernel_rfl) (by kernel_rfl) (by kernel_rfl) (fun _ _ _ H => H) (yieldsIf_move rfl _ rfl (.slice p12 m c12) rfl) hS ?_
          simp only [AP]
          refine wpAnyS_takeL 12 (v := .string (strB bz)) rfl (by kernel_rfl) (by kernel_rfl) (by kernel_rfl) (fun _ _ _ H => H) (yieldsIf_conv (S := fun w' => SB w' (.slice p12 m c12) bz ∧ Below W.heap.size W w') rfl _ rfl (.slice p12 m c12) rfl bz (fun _ h => h.1)) hS ?_
          simp only [AP]
          refine wpAnyS_takeL 13 (v := .slice (some ⟨gl, ol, none⟩) nl cl) rfl (by kernel_rfl) (by kernel_rfl) (by kernel_rfl) (fun _ _ _ H => H) (yieldsIf_move rfl _ rfl (.slice (some ⟨gl, ol, none⟩) nl cl) rfl) hS ?_
          simp only [AP]
          refine wpAnyS_takeL 14 (v := .int .i64 (j : Int)) rfl (by kernel_rfl) (by kernel_rfl) (by kernel_rfl) (fun _ _ _ H => H) (yieldsIf_move rfl _ rfl (.int .i64 (j : Int)) rfl) hS ?_
          simp only [AP]
          refine wpAnyS_takeL 15 (v := .pointer (some ⟨gl, ol + j, none⟩)) rfl (by kernel_rfl) (by kernel_rfl) (by kernel_rfl) (fun _ _ _ H => H) (Or.inl ⟨by rfl, fun w' hw' => by (go_simp)⟩) hS ?_
          simp only [AP]
          refine wpAnyS_takeL 16 (v := .slice pz m cz) rfl (by kernel_rfl) (by kernel_rfl) (by kernel_rfl) (fun _ _ _ H => H) (Or.inl ⟨by rfl, fun w' hw' => by (have cc := CL.out w' hw'.2; go_simp)⟩) hS ?_
          simp only [AP]
          refine wpAnyS_takeL 17 (v := .string (strB bz)) rfl (by kernel_rfl) (by kernel_rfl) (by kernel_rfl) (fun _ _ _ H => H) (yieldsIf_conv (S := fun w' => SB w' (.slice p12 m c12) bz ∧ Below W.heap.size W w') rfl _ rfl (.slice pz m cz) rfl bz (fun _ h => HSZ.out _ h.2)) hS ?_
          simp only [AP]
          refine wpAnyS_takeL 18 (v := .bool false) rfl (by kernel_rfl) (by kernel_rfl) (by kernel_rfl) (fun _ _ _ H => H) (yieldsIf_strN rfl _ _ rfl bz bz rfl rfl rfl) hS ?_
          simp only [AP]
          refine wpAnyS_takeL 19 (v := .bool false) rfl (by kernel_rfl) (by kernel_rfl) (by kernel_rfl) (fun _ _ _ H => H) (yieldsIf_pick rfl _ _ _ rfl false rfl (.bool false) rfl) hS ?_
          simp only [AP]
          refine wpAnyS_takeL 20 (v := .bool false) rfl (by kernel_rfl) (by kernel_rfl) (by kernel_rfl) (fun _ _ _ H => H) (yieldsIf_move rfl _ rfl (.bool false) rfl) hS ?_
          simp only [AP]
          refine wpAnyS_takeL 21 (v := .int .i64 (M : Int)) rfl (by kernel_rfl) (by kernel_rfl) (by kernel_rfl) (fun _ _ _ H => H) (yieldsIf_move rfl _ rfl (.int .i64 (M : Int)) rfl) hS ?_
          simp only [AP]
          refine wpAnyS_takeL 22 (v := .slice (some ⟨gl, ol, none⟩) nl cl) rfl (by kernel_rfl) (by kernel_rfl) (by kernel_rfl) (fun _ _ _ H => H) (yieldsIf_move rfl _ rfl (.slice (some ⟨gl, ol, none⟩) nl cl) rfl) hS ?_
          simp only [AP]
          refine wpAnyS_takeL 23 (v := .int .i64 (j : Int)) rfl (by kernel_rfl) (by kernel_rfl) (by kernel_rfl) (fun _ _ _ H => H) (yieldsIf_move rfl _ rfl (.int .i64 (j : Int)) rfl) hS ?_
          simp only [AP]
          refine wpAnyS_takeL 24 (v := .pointer (some ⟨gl, ol + j, none⟩)) rfl (by kernel_rfl) (by kernel_rfl) (by kernel_rfl) (fun _ _ _ H => H) (Or.inl ⟨by rfl, fun w' hw' => by (go_simp)⟩) hS ?_
          simp only [AP]
          refine wpAnyS_takeL 25 (v := .slice pz m cz) rfl (by kernel_rfl) (by kernel_rfl) (by kernel_rfl) (fun _ _ _ H => H) (Or.inl ⟨by rfl, fun w' hw' => by (have cc := CL.out w' hw'.2; go_simp)⟩) hS ?_
          simp only [AP]
          refine wpAnyS_takeL 26 (v := .int .i64 (m : Int)) rfl (by kernel_rfl) (by kernel_rfl) (by kernel_rfl) (fun _ _ _ H => H) (Or.inl ⟨by rfl, fun w' hw' => by go_simp⟩) hS ?_
          simp only [AP]
          refine wpAnyS_takeL 27 (v := .int .i64 (M : Int)) rfl (by kernel_rfl) (by kernel_rfl) (by kernel_rfl) (fun _ _ _ H => H) (Or.inl ⟨by rfl, fun w' hw' => by go_simp⟩) hS ?_
          simp only [AP]
          refine wpAnyS_takeL 28 (v := .bool false) rfl (by kernel_rfl) (by kernel_rfl) (by kernel_rfl) (fun _ _ _ H => H) (Or.inl ⟨by rfl, fun w' hw' => by go_simp⟩) hS ?_
          simp only [AP]
          refine wpAnyS_takeL 29 (v := .bool false) rfl (by kernel_rfl) (by kernel_rfl) (by kernel_rfl) (fun _ _ _ H => H) (yieldsIf_pick rfl _ _ _ rfl false rfl (.bool false) rfl) hS ?_
          simp only [AP]
          refine wpAnyS_done (by kernel_rfl) ?_ _
          refine aK _ _ ?_
          clear aK hS O12 CK CL HSZ
          go_upto_region 19 with fail
          rename_i aK
          refine wp_region_seq ?_
          refine wpSeq_yield (S := fun _ => True) (yieldsIf_move rfl _ rfl (.slice p5 L5 c5) rfl) trivial ?_
          simp only [AP]
          refine wpSeq_yield (S := fun _ => True) (yieldsIf_move rfl _ rfl (.int .i64 (M : Int)) rfl) trivial ?_
          simp only [AP]
          refine wpSeq_yield (S := fun _ => True) (yieldsIf_tail rfl _ _ rfl p5 L5 c5 M rfl rfl LL.out.1 LL.out.2) trivial ?_
          simp only [AP]
          refine wpSeq_yield (S := fun _ => True) (yieldsIf_assign rfl _ rfl (.slice (tailP p5 c5 M) (L5 - M) (c5 - M)) rfl) trivial ?_
          simp only [AP]
          refine wpSeq_nil ?_
          refine (by assumption : ∀ (a : Act) (w : World), _ → _) _ _ ?_
          have e5 := e5.out
          have OT := O.out.tail M LL.out.1
          rw [DM.out] at OT
          clear e4
          go_upto_region 20 with fail
          rename_i aK
          refine wp_region_seq ?_
          refine wpSeq_yield (S := fun _ => True) (v := .int .i64 ((j + 1 : Nat) : Int)) (Or.inl ⟨by rfl, fun w' hw' => by go_simp⟩) trivial ?_
          simp only [AP]
          refine wpSeq_yield (S := fun _ => True) (yieldsIf_move rfl _ rfl (.int .i64 ((j + 1 : Nat) : Int)) rfl) trivial ?_
          simp only [AP]
          refine wpSeq_nil ?_
          go_wp2
          exact ⟨⟨j + 1, by omega, rfl, OT, b0⟩, by simp only [intOf]; omega⟩
    · have jl : j < n := by omega
      have jz : j < zs.length := by rw [HZ.out]; exact jl
      obtain ⟨⟨kz, bz⟩, hz⟩ : ∃ z, zs[j]? = some z := ⟨_, List.getElem?_eq_getElem jz⟩
      obtain ⟨⟨gk, ok, hpk, lgk, ckk⟩, ⟨gl, ol, pz, cz, hpl, lgl, cll, SZ⟩, k8, bb⟩ := RA.out j _ hz
      dsimp only at ckk cll SZ k8 bb
      subst hpk hpl
      obtain ⟨m, hm⟩ : ∃ m, bz.length = m := ⟨_, rfl⟩
      rw [hm] at cll SZ
      have z1 : (j : Int) < (n : Int) := by omega
      have z2 : (j : Int) < (nk : Int) ∧ (j : Int) < (nl : Int) ∧ (0 : Int) ≤ (j : Int) := by have := HN.out; omega
      obtain ⟨z2, z3, z4⟩ := z2
      have CK := Lib.hid (fun (w : World) (h : Below W.heap.size W w) => (h.cell (p := ⟨gk, ok + j, none⟩) lgk).trans ckk)
      have CL := Lib.hid (fun (w : World) (h : Below W.heap.size W w) => (h.cell (p := ⟨gl, ol + j, none⟩) lgl).trans cll)
      have cl1 := CL.out wr b0
      by_cases hm3 : 300 < m
      · have z5 : (300 : Int) < (m : Int) := by omega
        clear jj hz hm ckk cll SZ k8 bb lgk lgl jz O SM CK CL hm3
        go_upto_region 6 with fail
        rename_i aK
        refine wp_region_seq ?_
        refine wpSeq_yield (S := fun _ => True) (v := .bool true) (Or.inl ⟨by rfl, fun w' hw' => by (go_simp; try omega)⟩) trivial ?_
        simp only [AP]
        refine wpSeq_nil ?_
        refine (by assumption : ∀ (a : Act) (w : World), _ → _) _ _ ?_
        go_upto_region 7 with fail
        rename_i aK
        refine wp_region_seq ?_
        refine wpSeq_yield (S := fun _ => True) (yieldsIf_move rfl _ rfl (.int .i64 (j : Int)) rfl) trivial ?_
        simp only [AP]
        refine wpSeq_yield (S := fun _ => True) (yieldsIf_assign rfl _ rfl (.int .i64 (j : Int)) rfl) trivial ?_
        simp only [AP]
        refine wpSeq_nil ?_
        refine (by assumption : ∀ (a : Act) (w : World), _ → _) _ _ ?_
        go_upto_region 8 with fail
        rename_i aK
        refine wp_region_seq ?_
        refine wpSeq_yield (S := fun _ => True) (yieldsIf_move rfl _ rfl (.slice (some ⟨gl, ol, none⟩) nl cl) rfl) trivial ?_
        simp only [AP]
        refine wpSeq_yield (S := fun _ => True) (yieldsIf_move rfl _ rfl (.int .i64 (j : Int)) rfl) trivial ?_
        simp only [AP]
        refine wpSeq_yield (S := fun _ => True) (v := .pointer (some ⟨gl, ol + j, none⟩)) (Or.inl ⟨by rfl, fun w' hw' => by (go_simp)⟩) trivial ?_
        simp only [AP]
        refine wpSeq_yield (S := fun w' => w' = wr) (v := .slice pz m cz) (Or.inl ⟨by rfl, fun w' hw' => by (rw [hw']; go_simp)⟩) rfl ?_
        simp only [AP]
        refine wpSeq_yield (S := fun _ => True) (v := .int .i64 (m : Int)) (Or.inl ⟨by rfl, fun w' hw' => by go_simp⟩) trivial ?_
        simp only [AP]
        refine wpSeq_yield (S := fun _ => True) (v := .bool true) (Or.inl ⟨by rfl, fun w' hw' => by (go_simp; try omega)⟩) trivial ?_
        simp only [AP]
        refine wpSeq_nil ?_
        refine (by assumption : ∀ (a : Act) (w : World), _ → _) _ _ ?_
        go_wp2
        go_ret
        exact ⟨rfl, b0⟩
      · have z5 : ¬ (300 : Int) < (m : Int) := by omega
        have mf : msgF kz bz = (0, msgB kz bz) := if_neg (by omega)
        have MC := fun (w : World) (h : Below W.heap.size W w) => msg_c kz bz pz m cz (by omega) w (SZ.below h)
        rw [mf] at MC
        have MC := Lib.hid MC
        have e5 : IntKind.i64.wrap ((j : Int) + 1) = ((j + 1 : Nat) : Int) := by have := HN.out; rw [IntKind.wrap_i64]; omega
        have e5 := Lib.hid e5
        have SM2 : Small (zs.take (j + 1)) := fun z hz2 => by
          rw [← List.take_append_getElem jz, List.mem_append, List.mem_singleton] at hz2
          rcases hz2 with h | h
          · exact SM z h
          · rw [List.getElem?_eq_getElem jz] at hz
            have := Option.some.inj hz
            rw [h, this]
            exact ⟨k8, bb, by dsimp only; omega⟩
        have cs := catM_succ zs j (kz, bz) hz
        dsimp only at cs
        have ln := (catM_small _ SM2).1
        rw [cs, List.length_append] at ln
        have lt := List.length_take (l := zs) (i := j + 1)
        have LN := Lib.hid (show (catM (zs.take j)).length + (msgB kz bz).length ≤ 1000000 by have := HN.out; omega)
        have CS := Lib.hid cs
        have HSM := Lib.hid SM2
        have O := Lib.hid O
        clear jj hz hm ckk cll SZ k8 bb lgk lgl jz SM hm3 mf SM2 cs ln lt
        go_upto_region 6 with fail
        rename_i aK
        refine wp_region_seq ?_
        refine wpSeq_yield (S := fun _ => True) (v := .bool true) (Or.inl ⟨by rfl, fun w' hw' => by (go_simp; try omega)⟩) trivial ?_
        simp only [AP]
        refine wpSeq_nil ?_
        refine (by assumption : ∀ (a : Act) (w : World), _ → _) _ _ ?_
        go_upto_region 7 with fail
        rename_i aK
        refine wp_region_seq ?_
        refine wpSeq_yield (S := fun _ => True) (yieldsIf_move rfl _ rfl (.int .i64 (j : Int)) rfl) trivial ?_
        simp only [AP]
        refine wpSeq_yield (S := fun _ => True) (yieldsIf_assign rfl _ rfl (.int .i64 (j : Int)) rfl) trivial ?_
        simp only [AP]
        refine wpSeq_nil ?_
        refine (by assumption : ∀ (a : Act) (w : World), _ → _) _ _ ?_
        go_upto_region 8 with fail
        rename_i aK
        refine wp_region_seq ?_
        refine wpSeq_yield (S := fun _ => True) (yieldsIf_move rfl _ rfl (.slice (some ⟨gl, ol, none⟩) nl cl) rfl) trivial ?_
        simp only [AP]
        refine wpSeq_yield (S := fun _ => True) (yieldsIf_move rfl _ rfl (.int .i64 (j : Int)) rfl) trivial ?_
        simp only [AP]
        refine wpSeq_yield (S := fun _ => True) (v := .pointer (some ⟨gl, ol + j, none⟩)) (Or.inl ⟨by rfl, fun w' hw' => by (go_simp)⟩) trivial ?_
        simp only [AP]
        refine wpSeq_yield (S := fun w' => w' = wr) (v := .slice pz m cz) (Or.inl ⟨by rfl, fun w' hw' => by (rw [hw']; go_simp)⟩) rfl ?_
        simp only [AP]
        refine wpSeq_yield (S := fun _ => True) (v := .int .i64 (m : Int)) (Or.inl ⟨by rfl, fun w' hw' => by go_simp⟩) trivial ?_
        simp only [AP]
        refine wpSeq_yield (S := fun _ => True) (v := .bool false) (Or.inl ⟨by rfl, fun w' hw' => by (go_simp; try omega)⟩) trivial ?_
        simp only [AP]
        refine wpSeq_nil ?_
        refine (by assumption : ∀ (a : Act) (w : World), _ → _) _ _ ?_
        clear cl1
        have bd := below_drew (Below.refl wr.heap.size wr)
        replace O := Lib.hid (O.out.below bd)
        replace b0 := b0.trans (bd.mono b0.size)
        clear bd
        go_upto_region 10 with fail
        rename_i aK
        refine wp_region_S (S := fun w' => Below W.heap.size W w') (by kernel_rfl) ?_
        generalize wr.drew = w4 at *
        have hS := b0
        refine wpAnyS_takeL 0 (v := .slice (some ⟨gk, ok, none⟩) nk ck) rfl (by kernel_rfl) (by kernel_rfl) (by kernel_rfl) (fun _ _ _ H => H) (yieldsIf_move rfl _ rfl (.slice (some ⟨gk, ok, none⟩) nk ck) rfl) hS ?_
        simp only [AP]
        refine wpAnyS_takeL 1 (v := .int .i64 (j : Int)) rfl (by kernel_rfl) (by kernel_rfl) (by kernel_rfl) (fun _ _ _ H => H) (yieldsIf_move rfl _ rfl (.int .i64 (j : Int)) rfl) hS ?_
        simp only [AP]
        refine wpAnyS_takeL 2 (v := .pointer (some ⟨gk, ok + j, none⟩)) rfl (by kernel_rfl) (by kernel_rfl) (by kernel_rfl) (fun _ _ _ H => H) (Or.inl ⟨by rfl, fun w' hw' => by (go_simp)⟩) hS ?_
        simp only [AP]
        refine wpAnyS_takeL 3 (v := .int .u8 (kz : Int)) rfl (by kernel_rfl) (by kernel_rfl) (by kernel_rfl) (fun _ _ _ H => H) (Or.inl ⟨by rfl, fun w' hw' => by (have cc := CK.out w' hw'; go_simp)⟩) hS ?_
        simp only [AP]
        refine wpAnyS_takeL 4 (v := .slice (some ⟨gl, ol, none⟩) nl cl) rfl (by kernel_rfl) (by kernel_rfl) (by kernel_rfl) (fun _ _ _ H => H) (yieldsIf_move rfl _ rfl (.slice (some ⟨gl, ol, none⟩) nl cl) rfl) hS ?_
        simp only [AP]
        refine wpAnyS_takeL 5 (v := .int .i64 (j : Int)) rfl (by kernel_rfl) (by kernel_rfl) (by kernel_rfl) (fun _ _ _ H => H) (yieldsIf_move rfl _ rfl (.int .i64 (j : Int)) rfl) hS ?_
        simp only [AP]
        refine wpAnyS_takeL 6 (v := .pointer (some ⟨gl, ol + j, none⟩)) rfl (by kernel_rfl) (by kernel_rfl) (by kernel_rfl) (fun _ _ _ H => H) (Or.inl ⟨by rfl, fun w' hw' => by (go_simp)⟩) hS ?_
        simp only [AP]
        refine wpAnyS_takeL 7 (v := .slice pz m cz) rfl (by kernel_rfl) (by kernel_rfl) (by kernel_rfl) (fun _ _ _ H => H) (Or.inl ⟨by rfl, fun w' hw' => by (have cc := CL.out w' hw'; go_simp)⟩) hS ?_
        simp only [AP]
        clear hS CK CL
        refine gstep 8 rfl rfl (by kernel_rfl) ?_
        unfold Oper.wp execOp
        go_simp
        refine (MC.out w4 b0).mono ?_
        rintro _ w5 ⟨v8, rfl, O8, b1⟩
        replace O := Lib.hid (O.out.below b1)
        replace b0 := b0.trans (b1.mono b0.size)
        have hS := b0
        refine ⟨hS, ?_⟩
        clear MC b1
        refine wpAnyS_takeL 9 (v := .tuple #[v8, .int .i64 0]) rfl (by kernel_rfl) (by kernel_rfl) (by kernel_rfl) (fun _ _ _ H => H) (yieldsIf_move rfl _ rfl (.tuple #[v8, .int .i64 0]) rfl) hS ?_
        simp only [AP]
        refine wpAnyS_takeL 10 (v := v8) rfl (by kernel_rfl) (by kernel_rfl) (by kernel_rfl) (fun _ _ _ H => H) (Or.inl ⟨by rfl, fun w' hw' => by go_simp⟩) hS ?_
        simp only [AP]
        refine wpAnyS_takeL 11 (v := .int .i64 0) rfl (by kernel_rfl) (by kernel_rfl) (by kernel_rfl) (fun _ _ _ H => H) (Or.inl ⟨by rfl, fun w' hw' => by go_simp⟩) hS ?_
        simp only [AP]
        refine wpAnyS_takeL 12 (v := v8) rfl (by kernel_rfl) (by kernel_rfl) (by kernel_rfl) (fun _ _ _ H => H) (yieldsIf_assign rfl _ rfl (v8) rfl) hS ?_
        simp only [AP]
        refine wpAnyS_takeL 13 (v := .int .i64 0) rfl (by kernel_rfl) (by kernel_rfl) (by kernel_rfl) (fun _ _ _ H => H) (yieldsIf_assign rfl _ rfl (.int .i64 0) rfl) hS ?_
        simp only [AP]
        refine wpAnyS_done (by kernel_rfl) ?_ _
        refine aK _ _ ?_
        clear aK hS
        obtain ⟨va, w6, h1, O6, b6⟩ := append_more W.heap.size W w5 22 _ v8 _ _ O.out O8.sb LN.out b0 b0.size
        rw [← CS.out] at O6
        have D := Lib.hid (And.intro O6 b6)
        clear O O8 O6 b6 b0 LN CS
        go_upto_region 11 with fail
        rename_i aK
        refine wp_region_seq ?_
        refine wpSeq_yield (S := fun _ => True) (yieldsIf_move rfl _ rfl _ rfl) trivial ?_
        simp only [AP]
        refine wpSeq_yield (S := fun _ => True) (yieldsIf_move rfl _ rfl (v8) rfl) trivial ?_
        simp only [AP]
        refine wpSeq_wp rfl (wp_append_run _ _ _ _ rfl _ _ rfl rfl _ w6 h1 ?_)
        simp only [AP]
        refine wpSeq_yield (S := fun _ => True) (yieldsIf_assign rfl _ rfl (va) rfl) trivial ?_
        simp only [AP]
        refine wpSeq_nil ?_
        refine (by assumption : ∀ (a : Act) (w : World), _ → _) _ _ ?_
        clear h1
        have e5 := e5.out
        go_upto_region 12 with fail
        rename_i aK
        refine wp_region_seq ?_
        refine wpSeq_yield (S := fun _ => True) (v := .int .i64 ((j + 1 : Nat) : Int)) (Or.inl ⟨by rfl, fun w' hw' => by go_simp⟩) trivial ?_
        simp only [AP]
        refine wpSeq_yield (S := fun _ => True) (yieldsIf_move rfl _ rfl (.int .i64 ((j + 1 : Nat) : Int)) rfl) trivial ?_
        simp only [AP]
        refine wpSeq_nil ?_
        go_wp2
        exact ⟨⟨j + 1, by omega, rfl, D.out.1, D.out.2, HSM.out⟩, by simp only [intOf]; omega⟩
end Go.Proofs.YtegbnadnodlalaaDoor
