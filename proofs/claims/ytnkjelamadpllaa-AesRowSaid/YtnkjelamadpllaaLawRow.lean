/- The law AesRow, by the contracts of Encrypt, New, and a Cipher's Encrypt. -/
import Derived.Test.YtnkjelamadpllaaKb
import Derived.Carry
namespace Go.Proofs.Ytnkjelamadpllaa
open Go.RowKit

theorem neq16b (l1 l2 : List Int) (h1 : l1.length = 16) (h2 : l2.length = 16) (w : World) :
    (binOp .neq 24 (.agg (Iv .u8 l1)) (.agg (Iv .u8 l2))).run Try.prog w = .ok (.bool (!decide (l1 = l2))) w := by
  rw [run_neq_struct, eq16b l1 l2 h1 h2]
  rfl
theorem yieldsIf_neq16b {ops : Array Oper} {S : World → Prop} {o : Oper} {a : Act} (hgd : Region.wanted o (yielded ops a.tmps) = true) (x y : Operand) (ho : o.op = .binOp .neq 24 x y 24) (p q : List Nat) (hx : a.eval x = .agg (Iv .u8 (NI p))) (hy : a.eval y = .agg (Iv .u8 (NI q)))
    (hp : p.length = 16) (hq : q.length = 16) (c : Bool) (hc : (!decide (p = q)) = c) : YieldsIf Try.prog ops S o (.bool c) a := by
  refine Or.inl ⟨hgd, fun w _ => ?_⟩
  simp only [execOp, ho, hx, hy, Sem.run_bind, Sem.run_pure, Result.andThen_ok, run_eqGuard_agg (hm := eqg_16b), neq16b _ _ (by rw [NI_length, hp]) (by rw [NI_length, hq]), dec_NI, hc]
set_option maxHeartbeats 8000000 in
set_option maxRecDepth 100000 in
theorem row_c (CE : EncC) {R : Nat → Nat → World → Option Addr → List Nat → Prop} (CC : CipherC R) (K : List Nat) (lK : K.length = 16) (bK : ∀ x ∈ K, x < 256) (n : Nat) (hn : n < 256) (w : World) :
    Calls Try.prog 6 #[.agg (Iv .u8 (NI K)), .int .u8 (n : Int)] w fun e w' => e = .returned (.bool true) ∧ Below w.heap.size w w' := by
  obtain ⟨N, hN⟩ : ∃ N, N = n % 40 := ⟨_, rfl⟩
  have N40 : N < 40 := by omega
  have t0 : (n : Int).tmod 40 = (N : Int) := by rw [Int.tmod_eq_emod_of_nonneg (by omega)]; omega
  have y0 : IntKind.u8.wrap (N : Int) = (N : Int) := by rw [IntKind.wrap_u8]; omega
  clear hN
  have hmm := fun t W => run_makeMap (P := Try.prog) t W
  go_enter Try.func6, Try.ntmps6
  go_upto_region 1 with fail
  generalize hW : World.alloc w _ = W
  have hB : Below w.heap.size w W := hW ▸ (Below.refl w.heap.size w).alloc (Nat.le_refl _) _
  have K0 : Blk W (w.heap.size) 22 (Iv .u8 (NI K)) := hW ▸ Blk.new' (by simp) _ _
  clear hW
  refine wp_region_seq ?_
  refine wpSeq_wp rfl ?_
  go_simp
  refine (awake_c CE _).mono ?_
  rintro e v1 ⟨rfl, b⟩
  replace hB := hB.trans (b.mono hB.size)
  replace K0 := K0.below' b
  clear b
  show wpSeq _ _ _ _ _ _
  refine wpSeq_yield (S := fun _ => True) (yieldsIf_not rfl _ _ rfl true rfl) trivial ?_
  simp only [Act.put, List.setIfInBounds_toArray, List.set_cons_zero, List.set_cons_succ]
  refine wpSeq_nil ?_
  go_upto_region 4 with fail
  have m0 := World.ownsMap_made v1 Try.prog 24 (plainElem (H := Unit) Try.prog 4)
  have hb := (Below.refl v1.heap.size v1).alloc (Nat.le_refl _) (.map #[] 0)
  have hgm := hB.size
  have h0m := K0.lt
  replace hB := hB.trans (hb.mono hB.size)
  replace K0 := K0.below' hb
  clear hmm
  generalize hX : World.alloc v1 _ = X1 at *
  clear hX hb
  generalize v1.heap.size = gm at *
  refine wp_region_seq ?_
  refine wpSeq_yield (S := fun W => Blk W (w.heap.size) 22 (Iv .u8 (NI K))) (yieldsIf_row_wanted rfl 22 _ rfl (w.heap.size) rfl 22 _ _ (fun _ h => h) Try.underlying22 rfl (info_n _ lK)) K0 ?_
  simp only [Act.put, List.setIfInBounds_toArray, List.set_cons_zero, List.set_cons_succ]
  refine wpSeq_wp rfl ?_
  go_simp
  refine (CC.new K lK bK _).mono ?_
  rintro e v2 ⟨p, rfl, hR, b⟩
  have hlo := m0.lt
  have hS : RowS R w.heap.size gm X1.heap.size v2.heap.size p K (rowK K) 0 w v2 := ⟨K0.below' b, m0.kept (row := none) ⟨b.os, b.tape, b.output, b.size, fun i hi _ => b.block i hi⟩ (by simp), rfl, hR, Nat.le_refl _, hB.trans (b.mono hB.size)⟩
  clear hB K0 m0 hR b
  generalize X1.heap.size = lo at *
  generalize v2.heap.size = hi at *
  show wpSeq _ _ _ _ _ _
  refine wpSeq_wp rfl ?_
  go_simp
  show wpSeq _ _ _ _ _ _
  refine wpSeq_nil ?_
  go_wp2
  go_loopw [18] (fun i wr => ∃ k : Nat, k ≤ N ∧ i = .int .u8 (k : Int) ∧ RowS R w.heap.size gm lo hi p K (rowK K) k w wr) (fun i _ => (N - intOf i).toNat)
  case atStart => exact ⟨0, by omega, rfl, hS⟩
  case round =>
    clear hS
    obtain ⟨k, hk, rfl, hS⟩ := hrel
    by_cases hkN : k = N
    · subst hkN
      go_upto_region 16 with fail
      refine wp_region_seq ?_
      refine wpSeq_yield (S := RowS R w.heap.size gm lo hi p K (rowK K) k w) (yieldsIf_move rfl _ rfl _ rfl) hS ?_
      simp only [Act.put, List.setIfInBounds_toArray, List.set_cons_zero, List.set_cons_succ]
      refine wpSeq_yield (S := RowS R w.heap.size gm lo hi p K (rowK K) k w) (v := .int .i64 (k : Int)) (Or.inl ⟨by rfl, ?_⟩) hS ?_
      · intro W1 h1
        have hl := h1.mp.len (t := 32) (e := 4) Try.underlying32 3
        rw [h1.sz] at hl
        go_simp
      simp only [Act.put, List.setIfInBounds_toArray, List.set_cons_zero, List.set_cons_succ]
      refine wpSeq_yield (S := RowS R w.heap.size gm lo hi p K (rowK K) k w) (yieldsIf_move rfl _ rfl _ rfl) hS ?_
      simp only [Act.put, List.setIfInBounds_toArray, List.set_cons_zero, List.set_cons_succ]
      refine wpSeq_yield (S := RowS R w.heap.size gm lo hi p K (rowK K) k w) (v := .int .u8 (k : Int)) (Or.inl ⟨by rfl, ?_⟩) hS ?_
      · intro W1 h1
        go_simp
      simp only [Act.put, List.setIfInBounds_toArray, List.set_cons_zero, List.set_cons_succ]
      refine wpSeq_yield (S := RowS R w.heap.size gm lo hi p K (rowK K) k w) (v := .int .i64 (k : Int)) (Or.inl ⟨by rfl, ?_⟩) hS ?_
      · intro W1 h1
        have y2 : IntKind.i64.wrap (k : Int) = (k : Int) := by rw [IntKind.wrap_i64]; omega
        go_simp
      simp only [Act.put, List.setIfInBounds_toArray, List.set_cons_zero, List.set_cons_succ]
      refine wpSeq_yield (S := RowS R w.heap.size gm lo hi p K (rowK K) k w) (v := .bool true) (Or.inl ⟨by rfl, ?_⟩) hS ?_
      · intro W1 h1
        go_simp
      simp only [Act.put, List.setIfInBounds_toArray, List.set_cons_zero, List.set_cons_succ]
      refine wpSeq_yield (S := RowS R w.heap.size gm lo hi p K (rowK K) k w) (yieldsIf_move rfl _ rfl _ rfl) hS ?_
      simp only [Act.put, List.setIfInBounds_toArray, List.set_cons_zero, List.set_cons_succ]
      refine wpSeq_yield (S := RowS R w.heap.size gm lo hi p K (rowK K) k w) (yieldsIf_move rfl _ rfl _ rfl) hS ?_
      simp only [Act.put, List.setIfInBounds_toArray, List.set_cons_zero, List.set_cons_succ]
      refine wpSeq_yield (S := RowS R w.heap.size gm lo hi p K (rowK K) k w) (yieldsIf_row_wanted rfl 22 _ rfl (w.heap.size) rfl 22 _ _ (fun _ h => h.kb) Try.underlying22 rfl (info_n _ lK)) hS ?_
      simp only [Act.put, List.setIfInBounds_toArray, List.set_cons_zero, List.set_cons_succ]
      refine wpSeq_wp rfl ?_
      go_simp
      refine (CC.nil K lK bK _).mono ?_
      rintro e v3 ⟨rfl, b⟩
      replace hS := hS.below CC b
      clear b
      show wpSeq _ _ _ _ _ _
      refine wpSeq_yield (S := RowS R w.heap.size gm lo hi p K (rowK K) k w) (yieldsIf_z16b rfl rfl) hS ?_
      simp only [Act.put, List.setIfInBounds_toArray, List.set_cons_zero, List.set_cons_succ]
      refine wpSeq_yield (S := RowS R w.heap.size gm lo hi p K (rowK K) k w) (yieldsIf_eq16b rfl _ _ rfl z16 z16 rfl rfl lz16 lz16 true (decide_eq_true rfl)) hS ?_
      simp only [Act.put, List.setIfInBounds_toArray, List.set_cons_zero, List.set_cons_succ]
      refine wpSeq_yield (S := RowS R w.heap.size gm lo hi p K (rowK K) k w) (yieldsIf_pick rfl _ _ _ rfl true rfl _ rfl) hS ?_
      simp only [Act.put, List.setIfInBounds_toArray, List.set_cons_zero, List.set_cons_succ]
      refine wpSeq_wp rfl ?_
      go_simp
      show wpSeq _ _ _ _ _ _
      refine wpSeq_nil ?_
      go_wp2
      refine bodyPost_ret (results_tmp rfl _ _ _) ?_ ?_
      · rfl
      · exact ⟨rfl, hS.bl⟩
    · have kN : k < N := by omega
      have c1 : (k : Int) < (N : Int) := by omega
      obtain ⟨j, hj⟩ : ∃ j, j = k % 16 := ⟨_, rfl⟩
      have j16 : j < 16 := by omega
      have u0 : (k : Int).tmod 16 = (j : Int) := by rw [Int.tmod_eq_emod_of_nonneg (by omega)]; omega
      have u1 : IntKind.u8.wrap (j : Int) = (j : Int) := by rw [IntKind.wrap_u8]; omega
      have u2 : IntKind.u8.wrap ((k : Int) + 1) = ((k + 1 : Nat) : Int) := by rw [IntKind.wrap_u8]; omega
      have u3 : ((k : Int) + 1) % 256 = ((k + 1 : Nat) : Int) := by omega
      have j1 : (j : Int) < 16 := by omega
      have j0 : (0 : Int) ≤ (j : Int) := by omega
      have hJ := Lib.hid hj
      clear hj
      go_upto_region 9 with fail
      change Code.wp _ _ _ _ (World.alloc wr (.cells (Iv .u8 (NI z16)) 24))
      have hb := (Below.refl wr.heap.size wr).alloc (Nat.le_refl _) (.cells (Iv .u8 (NI z16)) 24)
      have A := Blk.new wr 24 (Iv .u8 (NI z16))
      generalize hX : World.alloc wr _ = X1 at *
      clear hX
      obtain ⟨gc, hgc⟩ : ∃ gc, gc = wr.heap.size := ⟨_, rfl⟩
      rw [← hgc] at A
      rw [← hgc]
      replace hgc : wr.heap.size ≤ gc := by omega
      refine wp_region_seq ?_
      refine wpSeq_yield (S := fun W => Blk W gc 24 (Iv .u8 (NI z16))) (yieldsIf_move rfl _ rfl _ rfl) A ?_
      simp only [Act.put, List.setIfInBounds_toArray, List.set_cons_zero, List.set_cons_succ]
      refine wpSeq_yield (S := fun W => Blk W gc 24 (Iv .u8 (NI z16))) (v := .int .u8 (j : Int)) (Or.inl ⟨by rfl, ?_⟩) A ?_
      · intro W1 h1
        go_simp
      simp only [Act.put, List.setIfInBounds_toArray, List.set_cons_zero, List.set_cons_succ]
      refine wpSeq_yield (S := fun W => Blk W gc 24 (Iv .u8 (NI z16))) (yieldsIf_move rfl _ rfl _ rfl) A ?_
      simp only [Act.put, List.setIfInBounds_toArray, List.set_cons_zero, List.set_cons_succ]
      refine wpSeq_yield (S := fun W => Blk W gc 24 (Iv .u8 (NI z16))) (v := .int .u8 ((k + 1 : Nat) : Int)) (Or.inl ⟨by rfl, ?_⟩) A ?_
      · intro W1 h1
        go_simp
      simp only [Act.put, List.setIfInBounds_toArray, List.set_cons_zero, List.set_cons_succ]
      refine wpSeq_yield (S := fun W => Blk W gc 24 (Iv .u8 (NI z16))) (v := .pointer (some ⟨gc, j, none⟩)) (Or.inl ⟨by rfl, ?_⟩) A ?_
      · intro W1 h1
        go_simp
      simp only [Act.put, List.setIfInBounds_toArray, List.set_cons_zero, List.set_cons_succ]
      have c9 := list_cell A j (by rw [lz16]; exact j16)
      have f9 := Blk.frozen A j
      refine wpSeq_wp rfl (wp_store_int _ _ _ rfl rfl (by kernel_rfl) gc j .u8 ((k + 1 : Nat) : Int) rfl rfl _ c9 f9 ?_)
      try simp only [Act.put, List.setIfInBounds_toArray, List.set_cons_zero, List.set_cons_succ]
      clear c9 f9
      replace hb := hb.setCell (p := ⟨gc, j, none⟩) (by dsimp only; omega) (.int .u8 ((k + 1 : Nat) : Int))
      have C := list_set (l' := rowB k) A j (k + 1) (by rw [hJ.out]; rfl)
      replace hS := hS.below CC hb
      clear hb A
      generalize hWn : World.setCell _ _ _ = Wn at *
      clear hWn
      refine wpSeq_nil ?_
      go_upto_region 10 with fail
      obtain ⟨E, hE⟩ : ∃ l, l = encL boxL K (rowB k) := ⟨_, rfl⟩
      have lE : E.length = 16 := hE ▸ encL_length K (rowB k)
      have hkey := rowK_is bK (k := k) (by omega)
      rw [← hE] at hkey
      have HE := Lib.hid hE
      clear hE
      refine wp_region_seq ?_
      refine wpSeq_yield (S := fun W => Blk W gc 24 (Iv .u8 (NI (rowB k)))) (yieldsIf_move rfl _ rfl _ rfl) C ?_
      simp only [Act.put, List.setIfInBounds_toArray, List.set_cons_zero, List.set_cons_succ]
      refine wpSeq_yield (S := fun W => Blk W gc 24 (Iv .u8 (NI (rowB k)))) (yieldsIf_row_wanted rfl 24 _ rfl gc rfl 24 _ _ (fun _ h => h) Try.underlying24 rfl (info_b _ (rowB_length k))) C ?_
      simp only [Act.put, List.setIfInBounds_toArray, List.set_cons_zero, List.set_cons_succ]
      refine wpSeq_wp rfl ?_
      go_simp
      refine (CC.enc lo hi p K (rowB k) E lK (rowB_length k) bK (rowB_bytes (by omega)) HE.out _ hS.top hS.rd).mono ?_
      rintro e v3 ⟨rfl, b⟩
      replace hS := hS.below CC b
      replace C := C.below' b
      clear b
      show wpSeq _ _ _ _ _ _
      refine wpSeq_wp rfl ?_
      go_simp
      show wpSeq _ _ _ _ _ _
      change wpSeq _ _ _ _ _ (World.alloc v3 (.cells (Iv .u8 (NI z16)) 24))
      have hb := (Below.refl v3.heap.size v3).alloc (Nat.le_refl _) (.cells (Iv .u8 (NI z16)) 24)
      have A := Blk.new v3 24 (Iv .u8 (NI z16))
      generalize hX : World.alloc v3 _ = X3 at *
      clear hX
      obtain ⟨ge, hge⟩ : ∃ ge, ge = v3.heap.size := ⟨_, rfl⟩
      rw [← hge] at A
      rw [← hge]
      replace hge : v3.heap.size ≤ ge := by omega
      refine wpSeq_store_row rfl 24 _ _ rfl ge (Iv .u8 (NI E)) rfl rfl _ _ A (info_b _ lE) (by simp only [Iv_size, NI_length, lE, lz16]) (Iv_one _ _) ?_
      try simp only [Act.put, List.setIfInBounds_toArray, List.set_cons_zero, List.set_cons_succ]
      replace hb := below_setRow hb (g := ge) (by omega) (Iv .u8 (NI E))
      replace A := A.row (Iv .u8 (NI E))
      replace hS := hS.below CC hb
      replace C := C.below' hb
      clear hb
      generalize hWn : World.setRow _ _ _ = Wn at *
      clear hWn
      refine wpSeq_nil ?_
      go_upto_region 11 with fail
      have hd : Below Wn.heap.size Wn Wn.drew := below_drew (Below.refl _ _)
      have hT : RowS R w.heap.size gm lo hi p K (rowK K) k w Wn.drew ∧ Blk Wn.drew gc 24 (Iv .u8 (NI (rowB k))) ∧ Blk Wn.drew ge 24 (Iv .u8 (NI E)) := ⟨hS.below CC hd, C.below' hd, A.below' hd⟩
      clear hS C A hd
      refine wp_region_S (S := fun W => RowS R w.heap.size gm lo hi p K (rowK K) k w W ∧ Blk W gc 24 (Iv .u8 (NI (rowB k))) ∧ Blk W ge 24 (Iv .u8 (NI E))) (by kernel_rfl) ?_
      refine wpAnyS_takeL 0 rfl (by kernel_rfl) (by kernel_rfl) (by kernel_rfl) (fun _ _ _ h => h) (yieldsIf_row_wanted rfl 24 _ rfl ge rfl 24 _ _ (fun _ h => h.2.2) Try.underlying24 rfl (info_b _ lE)) hT ?_
      simp only [Act.put, List.setIfInBounds_toArray, List.set_cons_zero, List.set_cons_succ]
      refine wpAnyS_takeL 1 rfl (by kernel_rfl) (by kernel_rfl) (by kernel_rfl) (fun _ _ _ h => h) (yieldsIf_row_wanted rfl 22 _ rfl (w.heap.size) rfl 22 _ _ (fun _ h => h.1.kb) Try.underlying22 rfl (info_n _ lK)) hT ?_
      simp only [Act.put, List.setIfInBounds_toArray, List.set_cons_zero, List.set_cons_succ]
      refine wpAnyS_takeL 2 rfl (by kernel_rfl) (by kernel_rfl) (by kernel_rfl) (fun _ _ _ h => h) (yieldsIf_row_wanted rfl 24 _ rfl gc rfl 24 _ _ (fun _ h => h.2.1) Try.underlying24 rfl (info_b _ (rowB_length k))) hT ?_
      simp only [Act.put, List.setIfInBounds_toArray, List.set_cons_zero, List.set_cons_succ]
      refine wpAnyS_one (i := 3) (by kernel_rfl) ?_
      unfold wpOp
      go_simp
      left
      refine (CE K (rowB k) E lK (rowB_length k) bK (rowB_bytes (by omega)) HE.out _).mono ?_
      rintro e v4 ⟨rfl, b⟩
      replace hT : RowS R w.heap.size gm lo hi p K (rowK K) k w v4 ∧ Blk v4 gc 24 (Iv .u8 (NI (rowB k))) ∧ Blk v4 ge 24 (Iv .u8 (NI E)) := ⟨hT.1.below CC b, hT.2.1.below' b, hT.2.2.below' b⟩
      clear b
      refine ⟨hT, ?_⟩
      refine wpAnyS_takeL 4 rfl (by kernel_rfl) (by kernel_rfl) (by kernel_rfl) (fun _ _ _ h => h) (yieldsIf_neq16b rfl _ _ rfl E E rfl rfl lE lE false (by rw [decide_eq_true rfl]; rfl)) hT ?_
      simp only [Act.put, List.setIfInBounds_toArray, List.set_cons_zero, List.set_cons_succ]
      refine wpAnyS_done (by kernel_rfl) ?_ _
      go_upto_region 13 with fail
      refine wp_region_seq ?_
      refine wpSeq_yield (S := fun W => RowS R w.heap.size gm lo hi p K (rowK K) k w W ∧ Blk W gc 24 (Iv .u8 (NI (rowB k))) ∧ Blk W ge 24 (Iv .u8 (NI E))) (yieldsIf_move rfl _ rfl _ rfl) hT ?_
      simp only [Act.put, List.setIfInBounds_toArray, List.set_cons_zero, List.set_cons_succ]
      refine wpSeq_yield (S := fun W => RowS R w.heap.size gm lo hi p K (rowK K) k w W ∧ Blk W gc 24 (Iv .u8 (NI (rowB k))) ∧ Blk W ge 24 (Iv .u8 (NI E))) (yieldsIf_row_wanted rfl 24 _ rfl ge rfl 24 _ _ (fun _ h => h.2.2) Try.underlying24 rfl (info_b _ lE)) hT ?_
      simp only [Act.put, List.setIfInBounds_toArray, List.set_cons_zero, List.set_cons_succ]
      obtain ⟨v5, hrun, hm5, hg5⟩ := hT.1.mp.update (t := 32) (e := 4) block_keyed Try.underlying32 (by unfold maxLen; omega) hkey (plainElem_bool Try.underlying4 true)
      have hS := hT.1.put CC hm5 hg5 hgm hlo (by omega) (rowK_ne lK bK (by omega))
      clear hm5 hg5 hT
      refine wpSeq_wp rfl ?_
      go_simp
      show wpSeq _ _ _ _ _ _
      refine wpSeq_nil ?_
      clear hrun
      go_wp2
      exact ⟨⟨k + 1, by omega, rfl, hS⟩, by simp only [intOf]; omega⟩
end Go.Proofs.Ytnkjelamadpllaa
