/- The walk of the reference's Times. -/
import Derived.Test.YtjaomgildhiddaaDoorRg
namespace Go.Proofs.YtjaomgildhiddaaDoor
open Go.RowKit

theorem wrapN64 (a : Nat) (ha : a < 18446744073709551616) : IntKind.u64.wrap (a : Int) = (a : Int) := by rw [IntKind.wrap_u64]; omega

/-- The memory of Times' second half behind k rounds. -/
structure TcW (N g : Nat) (o : Nat → Nat) (w wr : World) (h k : Nat) : Prop where
  out : Blk wr g 33 (Iv .u64 ((List.range N).map fun j => ((o j : Nat) : Int)))
  l : Blk wr h 30 (Iv .u32 (fill N (fun i => ((tF N o i : Nat) : Int)) k))
  k : Below w.heap.size w wr
  gh : g < h
  wg : w.heap.size ≤ g
theorem TcW.step {N g : Nat} {o : Nat → Nat} {w wr : World} {h k : Nat} (F : TcW N g o w wr h k) (hk : k < N) : TcW N g o w (wr.setCell ⟨h, k, none⟩ (.int .u32 ((((tc o k : Nat) : Int) + ((o k : Nat) : Int)) % 65536))) h (k + 1) := by
  have h1 := F.gh; have h2 := F.wg
  refine ⟨F.out.far (by simp; omega) _, ?_, F.k.setCell (by simp; omega) _, F.gh, F.wg⟩
  have e : (((tc o k : Nat) : Int) + ((o k : Nat) : Int)) % 65536 = ((tF N o k : Nat) : Int) := by
    simp only [tF, if_pos hk]
    omega
  rw [e]
  have := F.l.set k (.int .u32 ((tF N o k : Nat) : Int))
  rw [Iv_set, fill_set N (fun i => ((tF N o i : Nat) : Int)) k] at this
  exact this
theorem and16_64 (x : Int) (h0 : 0 ≤ x) (h1 : x < 18446744073709551616) : bits .and .u64 x 65535 = x % 65536 := by
  obtain ⟨n, rfl⟩ := Int.eq_ofNat_of_zero_le h0
  have h := bits_and_u64_nat n 65535 (by omega) (by omega)
  have e : n &&& 65535 = n % 65536 := Nat.and_two_pow_sub_one_eq_mod n 16
  rw [e] at h
  exact h

set_option maxHeartbeats 4000000 in
set_option maxRecDepth 100000 in
theorem times_any (ga na ca gb nb cb : Nat) (fa fb : Nat → Nat) (w : World) (ha : Sl w ga na fa) (hb : Sl w gb nb fb) (hna : na ≤ 1048576) (hnb : nb ≤ 1048576) :
    Calls Tryd.prog 59 #[SlV ga na ca, SlV gb nb cb] w (RetV w (na + nb) (lv fa na * lv fb nb)) := by
  have hmk := make64 (na + nb) (by omega)
  rw [show ((na + nb : Nat) : Int) = (na : Int) + (nb : Int) by omega] at hmk
  unfold SlV
  go_enter Tryd.func59, Tryd.ntmps59
  go_wp2
  generalize hW : World.alloc w _ = W
  have F0 : TimW na nb ga gb fa fb w W 0 0 (fun _ => 0) := by
    subst hW
    refine ⟨ha.below ((Below.refl _ _).alloc (Nat.le_refl _) _), hb.below ((Below.refl _ _).alloc (Nat.le_refl _) _), Blk.new _ _ _, (Below.refl _ _).alloc (Nat.le_refl _) _, ha.blk, hb.blk, ?_, fun j => by omega⟩
    have : ∀ n, lv (fun _ => 0) n = 0 := by
      intro n
      induction n with
      | zero => rfl
      | succ n ih => simp [lv, ih]
    rw [this]
    simp [lv]
  clear hW hmk
  go_loopw [6] (fun i wr => ∃ I : Nat, ∃ o : Nat → Nat, I ≤ na ∧ i = .int .i64 I ∧ TimW na nb ga gb fa fb w wr I 0 o) (fun i _ => na - (intOf i).toNat)
  case atStart => exact ⟨0, fun _ => 0, by omega, rfl, F0⟩
  case round =>
    obtain ⟨I, o, hI, rfl, F⟩ := hrel
    clear F0
    by_cases hIlt : I < na
    · go_wp2
      obtain ⟨wo, hwo⟩ : ∃ wo : World, wo = wr := ⟨_, rfl⟩
      rw [← hwo] at F ⊢
      clear hwo
      go_loopw [7] (fun k wr => ∃ K : Nat, ∃ o : Nat → Nat, K ≤ nb ∧ k = .int .i64 K ∧ TimW na nb ga gb fa fb w wr I K o) (fun k _ => nb - (intOf k).toNat)
      case atStart => exact ⟨0, o, by omega, rfl, F⟩
      case round =>
        obtain ⟨K, p, hK, rfl, G⟩ := hrel
        clear F
        by_cases hKlt : K < nb
        · go_wp2
          refine wp_region_still_tail 23 (by kernel_rfl) (by kernel_rfl) ?_
          simp only [List.take_succ_cons, List.take_zero, List.drop_succ_cons, List.drop_zero]
          change wpStill _ _ (World.drew wr) (fun a' => wpList _ _ _ _ a' (World.drew wr)) _ _
          have H := G.drew
          clear G
          generalize World.drew wr = V at H ⊢
          have c0 : V.cell? ⟨w.heap.size, I + K, none⟩ = some (.int .u64 ((p (I + K) : Nat) : Int)) := by
            rw [H.out.cell, Iv_get _ _ _ (by simp; omega)]
            simp [show I + K < na + nb by omega]
          have c1 : V.cell? ⟨ga, I, none⟩ = some (.int .u32 ((fa I : Nat) : Int)) := H.a.cell I hIlt
          have c2 : V.cell? ⟨gb, K, none⟩ = some (.int .u32 ((fb K : Nat) : Int)) := H.b.cell K hKlt
          have f0 := H.out.frozen (I + K)
          have l1 := ha.lt I
          have l2 := hb.lt K
          have l3 := H.bd (I + K)
          have l4 := part_mul (fa I) (fb K) l1 l2
          rw [if_neg (by omega)] at l3
          obtain ⟨pr, hpr⟩ : ∃ pr, pr = fa I * fb K := ⟨_, rfl⟩
          obtain ⟨sm, hsm⟩ : ∃ sm, sm = p (I + K) + pr := ⟨_, rfl⟩
          have i1 : (0 : Int) ≤ (I : Int) := by omega
          have i2 : (I : Int) < (na : Int) := by omega
          have i3 : (0 : Int) ≤ (K : Int) := by omega
          have i4 : (K : Int) < (nb : Int) := by omega
          have i5 : (0 : Int) ≤ (I : Int) + (K : Int) := by omega
          have i6 : (I : Int) + (K : Int) < (na : Int) + (nb : Int) := by omega
          have i7 : ((I : Int) + (K : Int)).toNat = I + K := by omega
          have i8 : IntKind.i64.wrap ((I : Int) + (K : Int)) = (I : Int) + (K : Int) := by rw [IntKind.wrap_i64]; omega
          have j1 : IntKind.u64.wrap ((fa I : Nat) : Int) = ((fa I : Nat) : Int) := wrapN64 _ (by omega)
          have j2 : IntKind.u64.wrap ((fb K : Nat) : Int) = ((fb K : Nat) : Int) := wrapN64 _ (by omega)
          have j3 : IntKind.u64.wrap (((fa I : Nat) : Int) * ((fb K : Nat) : Int)) = ((pr : Nat) : Int) := by rw [← Int.natCast_mul, ← hpr]; exact wrapN64 _ (by omega)
          have j4 : IntKind.u64.wrap (((p (I + K) : Nat) : Int) + ((pr : Nat) : Int)) = ((sm : Nat) : Int) := by rw [← Int.natCast_add, ← hsm]; exact wrapN64 _ (by omega)
          have S1 := H.step hIlt hKlt
          rw [← hpr, ← hsm] at S1
          have HS := Lib.hid S1
          clear S1 H hpr hsm
          repeat still_step
          refine wpStill_nil ?_
          clear i5 i6 i7 i8 j1 j2 j3 j4
          go_wp2
          exact ⟨⟨K + 1, _, by omega, by go_num, HS.out⟩, by simp [intOf]; omega⟩
        · obtain rfl : K = nb := by omega
          have G2 := G.next
          clear G
          go_wp2
          exact ⟨⟨I + 1, _, by omega, by go_num, G2⟩, by simp [intOf]; omega⟩
    · obtain rfl : I = na := by omega
      have hbd : ∀ j, o j ≤ 1048577 * 4294967296 := fun j => by
        have := F.bd j
        have h2 : I * 4294967296 ≤ 1048576 * 4294967296 := Nat.mul_le_mul_right _ hna
        split at this <;> omega
      have hv : lv (tF (I + nb) o) (I + nb) = lv fa I * lv fb nb := t_val o (I + nb) _ (by rw [F.num]; simp [lv]) (by
        rw [Nat.pow_add]
        exact Nat.mul_lt_mul'' (lv_lt fa ha.lt I) (lv_lt fb hb.lt nb))
      have hmk := make32 (I + nb) (by omega) (fun i => ((tF (I + nb) o i : Nat) : Int))
      rw [show ((I + nb : Nat) : Int) = (I : Int) + (nb : Int) by omega] at hmk
      have HV := Lib.hid hv
      clear hv
      go_wp2
      have T0 : TcW (I + nb) w.heap.size o w (wr.alloc (.cells (Iv .u32 (fill (I + nb) (fun i => ((tF (I + nb) o i : Nat) : Int)) 0)) 30)) wr.heap.size 0 :=
        ⟨F.out.alloc _, Blk.new _ _ _, F.k.alloc F.k.size _, F.out.lt, Nat.le_refl _⟩
      clear F hmk
      generalize World.alloc wr _ = W2 at T0 ⊢
      generalize wr.heap.size = h at T0 ⊢
      obtain ⟨N, hN⟩ : ∃ N, N = I + nb := ⟨_, rfl⟩
      rw [← hN] at T0 HV ⊢
      have hN2 : (N : Int) = (I : Int) + (nb : Int) := by omega
      go_loopw [9, 10] (fun c i wr => ∃ k : Nat, k ≤ N ∧ i = .int .i64 k ∧ c = .int .u64 ((tc o k : Nat) : Int) ∧ TcW N w.heap.size o w wr h k) (fun _ i _ => N - (intOf i).toNat)
      case atStart => exact ⟨0, by omega, rfl, rfl, T0⟩
      case round =>
        obtain ⟨k, hk, rfl, rfl, G⟩ := hrel
        clear T0
        by_cases hlt : k < N
        · have c0 : wr.cell? ⟨w.heap.size, k, none⟩ = some (.int .u64 ((o k : Nat) : Int)) := by
            rw [G.out.cell, Iv_get _ _ _ (by simpa using hlt)]
            simp [hlt]
          have c1 : wr.cell? ⟨h, k, none⟩ = some (.int .u32 0) := by
            rw [G.l.cell, Iv_get _ _ _ (by rw [fill_length]; omega), fill_getD _ _ _ _ hlt, if_neg (by omega)]
          have f1 := G.l.frozen k
          have b1 := hbd k
          have b2 := tc_le o _ hbd k
          go_wp2
          rw [and16_64 _ (by omega) (by omega), show (((tc o k : Nat) : Int) + ((o k : Nat) : Int)) % 65536 % 4294967296 = (((tc o k : Nat) : Int) + ((o k : Nat) : Int)) % 65536 by omega]
          exact ⟨⟨k + 1, by omega, by go_num, val_int (by simp only [tc]; omega), G.step hlt⟩, by simp [intOf]; omega⟩
        · obtain rfl : k = N := by omega
          have HO := G.l
          rw [fill_full] at HO
          have HB := G.k
          have hh := G.wg
          have hg := G.gh
          clear G
          subst hN
          go_wp2
          go_ret
          exact ⟨_, HV.out, h, _, rfl, Sl.of_blk HO (fun i => by unfold tF; split <;> omega) (fun i hi => by unfold tF; rw [if_neg (by omega)]), by omega, HB⟩

end Go.Proofs.YtjaomgildhiddaaDoor
