/- The law ScalarReduces: bytes of any length, modulo the order; whether a number is below it. -/
import Derived.Test.YtnglancehmdlpaaRt
namespace Go.Proofs.Ytnglancehmdlpaa
open Go.RowKit

theorem less_v (u v : Value) (U V : Nat) (q : Bool) (b c : Nat) (w : World) (hu : LongIs w u U b) (hv : LongIs w v V c) (hq : decide (U < V) = q) (hb : b ≤ 1000) (hc : c ≤ 1000) :
    Calls Try.prog 13 #[u, v] w fun e w' => e = .returned (.bool q) ∧ Below w.heap.size w w' := by
  obtain ⟨g, n, cc, f, rfl, h1, h2, h3⟩ := hu
  obtain ⟨g', n', c', f', rfl, h1', h2', h3'⟩ := hv
  refine (less_any g n cc g' n' c' f f' w h1 h1' (by omega) (by omega)).mono fun e w' ⟨he, hw⟩ => ?_
  subst hw
  rw [h2, h2', hq] at he
  exact ⟨he, Below.refl _ _⟩

set_option maxHeartbeats 4000000 in
set_option maxRecDepth 100000 in
theorem sreduces_n (p : Option Addr) (n c N0 : Nat) (f : Nat → Nat) (lN0 : N0 < pw 4) (w : World) (Hb : Bs w (.slice p n c) n f) :
    Calls Try.prog 3 #[.slice p n c, Key (keyOf N0)] w fun e w' => e = .returned (.bool true) ∧ Below w.heap.size w w' := by
  obtain ⟨E0, hE0⟩ : ∃ r, r = leTo f n % LL := ⟨_, rfl⟩
  have lE0 : E0 < pw 4 := hE0 ▸ mod_lt4 _
  have HE0 := Lib.hid hE0
  clear hE0
  obtain ⟨q, hq⟩ : ∃ q, decide (N0 < LL) = q := ⟨_, rfl⟩
  unfold Key
  go_enter Try.func3, Try.ntmps3
  go_wp2_with fail
  refine (awake_any _).mono ?_
  rintro e w1 ⟨rfl, b⟩
  have hS : Facts [.blk (w.heap.size) 24 (Iv .u8 (keyOf N0))] w1 := Facts.below (Facts.cons (f := .blk _ _ _) (Blk.new w _ _) Facts.nil) b
  have hB : Below w.heap.size w w1 := ((Below.refl w.heap.size w).alloc (Nat.le_refl _) _).trans (b.mono (by simp))
  replace Hb := Hb.below hB
  clear b
  by_cases hn : n ≤ 200
  · go_upto_region 5 with fail
    replace hS := hS.drew
    replace hB := below_drew hB
    replace Hb := Hb.drew
    refine wp_region_Z (S := Facts [.blk (w.heap.size) 24 (Iv .u8 (keyOf N0))]) 19 (by kernel_rfl) ?_
    refine wpAnyZ_takeL 0 rfl (by kernel_rfl) (by kernel_rfl) (by kernel_rfl) (by kernel_rfl) (by kernel_rfl) (fun _ _ _ h => h) (yieldsIf_move rfl _ rfl _ rfl) hS ?_
    simp only [Act.put, List.setIfInBounds_toArray, List.set_cons_zero, List.set_cons_succ]
    refine wpAnyZ_takeL 2 rfl (by kernel_rfl) (by kernel_rfl) (by kernel_rfl) (by kernel_rfl) (by kernel_rfl) (fun _ _ _ h => h) (yieldsIf_move rfl _ rfl _ rfl) hS ?_
    simp only [Act.put, List.setIfInBounds_toArray, List.set_cons_zero, List.set_cons_succ]
    refine wpAnyZ_one (i := 1) (by kernel_rfl) ?_
    unfold wpOp
    go_simp
    left
    refine (reduce_b _ n f E0 _ Hb (by omega) HE0.out).mono ?_
    rintro e v1 ⟨rfl, b⟩
    replace hB := hB.trans (b.mono hB.size)
    replace hS := hS.below b
    replace Hb := Hb.below b
    clear b
    refine ⟨hS, ?_⟩
    refine wpAnyZ_one (i := 3) (by kernel_rfl) ?_
    unfold wpOp
    go_simp
    left
    refine (rreduce_b _ n f E0 _ Hb (by omega) HE0.out).mono ?_
    rintro e v2 ⟨rfl, b⟩
    replace hB := hB.trans (b.mono hB.size)
    replace hS := hS.below b
    replace Hb := Hb.below b
    clear b
    refine ⟨hS, ?_⟩
    refine wpAnyZ_takeL 4 rfl (by kernel_rfl) (by kernel_rfl) (by kernel_rfl) (by kernel_rfl) (by kernel_rfl) (fun _ _ _ h => h) (yieldsIf_eql rfl 24 _ _ _ rfl _ _ rfl rfl eqg_api_Key true (key_dec E0 E0 true lE0 lE0 (decide_eq_true rfl))) hS ?_
    simp only [Act.put, List.setIfInBounds_toArray, List.set_cons_zero, List.set_cons_succ]
    refine wpAnyZ_takeL 5 rfl (by kernel_rfl) (by kernel_rfl) (by kernel_rfl) (by kernel_rfl) (by kernel_rfl) (fun _ _ _ h => h) (yieldsIf_move rfl _ rfl _ rfl) hS ?_
    simp only [Act.put, List.setIfInBounds_toArray, List.set_cons_zero, List.set_cons_succ]
    refine wpAnyZ_takeL 6 rfl (by kernel_rfl) (by kernel_rfl) (by kernel_rfl) (by kernel_rfl) (by kernel_rfl) (fun _ _ _ h => h) (show YieldsIf _ _ _ _ (Key (keyOf N0)) _ from yieldsIf_load rfl 24 _ rfl (w.heap.size) rfl 24 _ _ (.head _) Try.underlying24 rfl (info_key _ (keyOf_length _))) hS ?_
    simp only [Act.put, List.setIfInBounds_toArray, List.set_cons_zero, List.set_cons_succ]
    refine wpAnyZ_takeL 8 (v := (.slice (some ⟨w.heap.size, 0, none⟩) 32 32)) rfl (by kernel_rfl) (by kernel_rfl) (by kernel_rfl) (by kernel_rfl) (by kernel_rfl) (fun _ _ _ h => h) (Or.inl ⟨by rfl, ?_⟩) hS ?_
    · intro w' _
      go_simp
    simp only [Act.put, List.setIfInBounds_toArray, List.set_cons_zero, List.set_cons_succ]
    refine wpAnyZ_one (i := 7) (by kernel_rfl) ?_
    unfold wpOp
    go_simp
    left
    refine (check_n N0 q lN0 (hq) _).mono ?_
    rintro e v3 ⟨rfl, b⟩
    replace hB := hB.trans (b.mono hB.size)
    replace hS := hS.below b
    replace Hb := Hb.below b
    clear b
    refine ⟨hS, ?_⟩
    refine wpAnyZ_one (i := 9) (by kernel_rfl) ?_
    unfold wpOp
    go_simp
    left
    refine (rof_v N0 _ _ _ (hS.blkAt _ _ _ (.head _)) lN0).mono ?_
    rintro e v4 ⟨r4, rfl, Hr4, b⟩
    replace hB := hB.trans (b.mono hB.size)
    replace hS := hS.below b
    replace Hb := Hb.below b
    clear b
    refine ⟨hS, ?_⟩
    refine wpAnyZ_one (i := 10) (by kernel_rfl) ?_
    unfold wpOp
    go_simp
    left
    refine (l_v _).mono ?_
    rintro e v5 ⟨r5, rfl, Hr5, b⟩
    replace hB := hB.trans (b.mono hB.size)
    replace hS := hS.below b
    replace Hb := Hb.below b
    replace Hr4 := Hr4.below b
    clear b
    refine ⟨hS, ?_⟩
    refine wpAnyZ_one (i := 11) (by kernel_rfl) ?_
    unfold wpOp
    go_simp
    left
    refine (less_v _ _ N0 LL q 16 16 _ Hr4 Hr5.long hq (by decide) (by decide)).mono ?_
    rintro e v6 ⟨rfl, b⟩
    replace hB := hB.trans (b.mono hB.size)
    replace hS := hS.below b
    replace Hb := Hb.below b
    replace Hr4 := Hr4.below b
    replace Hr5 := Hr5.below b
    clear b
    refine ⟨hS, ?_⟩
    refine wpAnyZ_takeL 12 (v := (.bool true)) rfl (by kernel_rfl) (by kernel_rfl) (by kernel_rfl) (by kernel_rfl) (by kernel_rfl) (fun _ _ _ h => h) (Or.inl ⟨by rfl, ?_⟩) hS ?_
    · intro w' _
      cases q <;> go_simp
    simp only [Act.put, List.setIfInBounds_toArray, List.set_cons_zero, List.set_cons_succ]
    refine wpAnyZ_takeL 13 rfl (by kernel_rfl) (by kernel_rfl) (by kernel_rfl) (by kernel_rfl) (by kernel_rfl) (fun _ _ _ h => h) (yieldsIf_pick rfl _ _ _ rfl true rfl _ rfl) hS ?_
    simp only [Act.put, List.setIfInBounds_toArray, List.set_cons_zero, List.set_cons_succ]
    refine wpAnyZ_takeL 14 rfl (by kernel_rfl) (by kernel_rfl) (by kernel_rfl) (by kernel_rfl) (by kernel_rfl) (fun _ _ _ h => h) (yieldsIf_move rfl _ rfl _ rfl) hS ?_
    simp only [Act.put, List.setIfInBounds_toArray, List.set_cons_zero, List.set_cons_succ]
    refine wpAnyZ_takeL 15 rfl (by kernel_rfl) (by kernel_rfl) (by kernel_rfl) (by kernel_rfl) (by kernel_rfl) (fun _ _ _ h => h) (yieldsIf_move rfl _ rfl _ rfl) hS ?_
    simp only [Act.put, List.setIfInBounds_toArray, List.set_cons_zero, List.set_cons_succ]
    refine wpAnyZ_one (i := 16) (by kernel_rfl) ?_
    unfold wpOp
    go_simp
    left
    refine (reduce_b _ n f E0 _ Hb (by omega) HE0.out).mono ?_
    rintro e v7 ⟨rfl, b⟩
    replace hB := hB.trans (b.mono hB.size)
    replace hS := hS.below b
    replace Hb := Hb.below b
    replace Hr4 := Hr4.below b
    replace Hr5 := Hr5.below b
    clear b
    refine ⟨hS, ?_⟩
    refine wpAnyZ_one (i := 17) (by kernel_rfl) ?_
    unfold wpOp
    go_simp
    left
    refine (check_n E0 true lE0 (decide_eq_true (HE0.out ▸ Nat.mod_lt _ LL_pos)) _).mono ?_
    rintro e v8 ⟨rfl, b⟩
    replace hB := hB.trans (b.mono hB.size)
    replace hS := hS.below b
    replace Hb := Hb.below b
    replace Hr4 := Hr4.below b
    replace Hr5 := Hr5.below b
    clear b
    refine ⟨hS, ?_⟩
    refine wpAnyZ_takeL 18 rfl (by kernel_rfl) (by kernel_rfl) (by kernel_rfl) (by kernel_rfl) (by kernel_rfl) (fun _ _ _ h => h) (yieldsIf_pick rfl _ _ _ rfl true rfl _ rfl) hS ?_
    simp only [Act.put, List.setIfInBounds_toArray, List.set_cons_zero, List.set_cons_succ]
    refine wpAnyZ_one (i := 19) (by kernel_rfl) ?_
    unfold wpOp
    go_simp
    left
    refine wpAnyZ_done (by kernel_rfl) ?_ _
    go_wp2
    go_ret
    exact ⟨rfl, hB⟩
  · go_wp2
    go_ret
    exact ⟨rfl, hB⟩
end Go.Proofs.Ytnglancehmdlpaa
