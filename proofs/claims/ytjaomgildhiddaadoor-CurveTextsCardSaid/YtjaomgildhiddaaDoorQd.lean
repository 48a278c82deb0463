/- The reference's points in memory; Sum and Minus with what their block holds; D, Zero, Join (printed by gencurve.py). -/
import Derived.Test.YtjaomgildhiddaaDoorPl
import Derived.Test.YtjaomgildhiddaaDoorRn
import Derived.Test.YtjaomgildhiddaaDoorPj
namespace Go.Proofs.YtjaomgildhiddaaDoor
open Go.RowKit

/-- A number whose block is known. -/
def RetB (w : World) (n : Nat) (f : Nat → Nat) (e : Ending) (w' : World) : Prop := ∃ g c, e = .returned (SlV g n c) ∧ Blk w' g 30 (Iv .u32 ((List.range n).map fun i => ((f i : Nat) : Int))) ∧ w.heap.size ≤ g ∧ Below w.heap.size w w'
set_option maxHeartbeats 2000000 in
set_option maxRecDepth 100000 in
theorem sum_blk (ga na ca gb nb cb : Nat) (fa fb : Nat → Nat) (w : World) (ha : Sl w ga na fa) (hb : Sl w gb nb fb) (hna : na < 4294967296) (hnb : nb < 4294967296) :
    Calls Tryd.prog 10 #[SlV ga na ca, SlV gb nb cb] w (RetB w (maxN na nb + 1) (sumF (maxN na nb + 1) fa fb)) := by
  by_cases hmax : na < nb
  · rw [show maxN na nb = nb by unfold maxN; rw [if_pos hmax]]
    have hmk := make32 (nb + 1) (by omega) (fun i => ((sumF (nb + 1) fa fb i : Nat) : Int))
    rw [show ((nb + 1 : Nat) : Int) = (nb : Int) + 1 by omega] at hmk
    unfold SlV
    go_enter Tryd.func10, Tryd.ntmps10
    go_wp2
    generalize hW : World.alloc w _ = W
    have F0 : SumW na nb ga gb nb fa fb w W 0 := by
      subst hW
      exact ⟨ha.below ((Below.refl _ _).alloc (Nat.le_refl _) _), hb.below ((Below.refl _ _).alloc (Nat.le_refl _) _), Blk.new _ _ _, (Below.refl _ _).alloc (Nat.le_refl _) _, ha.blk, hb.blk⟩
    clear hW hmk
    go_loopw [7, 8] (fun c i wr => ∃ k : Nat, k ≤ nb + 1 ∧ i = .int .i64 k ∧ c = .int .u32 ((cry fa fb k : Nat) : Int) ∧ SumW na nb ga gb nb fa fb w wr k) (fun _ i _ => nb + 1 - (intOf i).toNat)
    case atStart => exact ⟨0, by omega, rfl, rfl, F0⟩
    case round =>
      obtain ⟨k, hk, rfl, rfl, F⟩ := hrel
      clear F0
      by_cases hlt : k < nb + 1
      · have PA := fun W (h : Sl W ga na fa) => part_any ga na ca fa k W h
        have PB := fun W (h : Sl W gb nb fb) => part_any gb nb cb fb k W h
        have l1 := ha.lt k
        have l2 := hb.lt k
        have l3 := cry_le fa fb ha.lt hb.lt k
        have c1 : wr.cell? ⟨w.heap.size, k, none⟩ = some (.int .u32 0) := by
          rw [F.out.cell, Iv_get _ _ _ (by rw [fill_length]; omega), fill_getD _ _ _ _ hlt, if_neg (by omega)]
        have f1 := F.out.frozen k
        go_wp2_with fail
        refine (PA _ F.a).mono ?_
        rintro e w' ⟨rfl, rfl⟩
        go_wp2_with fail
        refine (PB _ F.b).mono ?_
        rintro e w' ⟨rfl, rfl⟩
        go_wp2
        rw [and16 _ (by omega) (by omega)]
        exact ⟨⟨k + 1, by omega, by go_num, val_int (by simp only [cry]; omega), by exact F.step hlt⟩, by simp [intOf]; omega⟩
      · obtain rfl : k = nb + 1 := by omega
        have HO := F.out
        rw [fill_full] at HO
        have HB := F.k
        clear F
        go_wp2
        go_ret
        exact ⟨w.heap.size, _, rfl, HO, Nat.le_refl _, HB⟩
  · rw [show maxN na nb = na by unfold maxN; rw [if_neg hmax]]
    have hmk := make32 (na + 1) (by omega) (fun i => ((sumF (na + 1) fa fb i : Nat) : Int))
    rw [show ((na + 1 : Nat) : Int) = (na : Int) + 1 by omega] at hmk
    unfold SlV
    go_enter Tryd.func10, Tryd.ntmps10
    go_wp2
    generalize hW : World.alloc w _ = W
    have F0 : SumW na nb ga gb na fa fb w W 0 := by
      subst hW
      exact ⟨ha.below ((Below.refl _ _).alloc (Nat.le_refl _) _), hb.below ((Below.refl _ _).alloc (Nat.le_refl _) _), Blk.new _ _ _, (Below.refl _ _).alloc (Nat.le_refl _) _, ha.blk, hb.blk⟩
    clear hW hmk
    go_loopw [7, 8] (fun c i wr => ∃ k : Nat, k ≤ na + 1 ∧ i = .int .i64 k ∧ c = .int .u32 ((cry fa fb k : Nat) : Int) ∧ SumW na nb ga gb na fa fb w wr k) (fun _ i _ => na + 1 - (intOf i).toNat)
    case atStart => exact ⟨0, by omega, rfl, rfl, F0⟩
    case round =>
      obtain ⟨k, hk, rfl, rfl, F⟩ := hrel
      clear F0
      by_cases hlt : k < na + 1
      · have PA := fun W (h : Sl W ga na fa) => part_any ga na ca fa k W h
        have PB := fun W (h : Sl W gb nb fb) => part_any gb nb cb fb k W h
        have l1 := ha.lt k
        have l2 := hb.lt k
        have l3 := cry_le fa fb ha.lt hb.lt k
        have c1 : wr.cell? ⟨w.heap.size, k, none⟩ = some (.int .u32 0) := by
          rw [F.out.cell, Iv_get _ _ _ (by rw [fill_length]; omega), fill_getD _ _ _ _ hlt, if_neg (by omega)]
        have f1 := F.out.frozen k
        go_wp2_with fail
        refine (PA _ F.a).mono ?_
        rintro e w' ⟨rfl, rfl⟩
        go_wp2_with fail
        refine (PB _ F.b).mono ?_
        rintro e w' ⟨rfl, rfl⟩
        go_wp2
        rw [and16 _ (by omega) (by omega)]
        exact ⟨⟨k + 1, by omega, by go_num, val_int (by simp only [cry]; omega), by exact F.step hlt⟩, by simp [intOf]; omega⟩
      · obtain rfl : k = na + 1 := by omega
        have HO := F.out
        rw [fill_full] at HO
        have HB := F.k
        clear F
        go_wp2
        go_ret
        exact ⟨w.heap.size, _, rfl, HO, Nat.le_refl _, HB⟩
set_option maxHeartbeats 2000000 in
set_option maxRecDepth 100000 in
theorem minus_blk (ga na ca gb nb cb : Nat) (fa fb : Nat → Nat) (w : World) (ha : Sl w ga na fa) (hb : Sl w gb nb fb) (hna : na ≤ 4294967296) :
    Calls Tryd.prog 11 #[SlV ga na ca, SlV gb nb cb] w (RetB w na (subF na fa fb)) := by
  have hmk := make32 na hna (fun i => ((subF na fa fb i : Nat) : Int))
  unfold SlV
  go_enter Tryd.func11, Tryd.ntmps11
  go_wp2
  generalize hW : World.alloc w _ = W
  have F0 : MinW na nb ga gb fa fb w W 0 := by
    subst hW
    exact ⟨ha.below ((Below.refl _ _).alloc (Nat.le_refl _) _), hb.below ((Below.refl _ _).alloc (Nat.le_refl _) _), Blk.new _ _ _, (Below.refl _ _).alloc (Nat.le_refl _) _, ha.blk, hb.blk⟩
  clear hW hmk
  go_loopw [6, 7] (fun c i wr => ∃ k : Nat, k ≤ na ∧ i = .int .i64 k ∧ c = .int .u32 ((brw fa fb k : Nat) : Int) ∧ MinW na nb ga gb fa fb w wr k) (fun _ i _ => na - (intOf i).toNat)
  case atStart => exact ⟨0, by omega, rfl, rfl, F0⟩
  case round =>
    obtain ⟨k, hk, rfl, rfl, F⟩ := hrel
    clear F0
    by_cases hlt : k < na
    · have PB := fun W (h : Sl W gb nb fb) => part_any gb nb cb fb k W h
      have c0 := F.a.cell k hlt
      have l1 := ha.lt k
      have l2 := hb.lt k
      have l3 := brw_le fa fb k
      have i1 : (0 : Int) ≤ (k : Int) := by omega
      have i2 : (k : Int) < (na : Int) := by omega
      go_wp2
      go_quiet ((go_at_call 30; exact quiet_left (PB _ (F.b.drewN _))))
      have G := F.drewN nq
      clear F c0
      generalize World.drewN wr nq = V at G ⊢
      have c1 : V.cell? ⟨w.heap.size, k, none⟩ = some (.int .u32 0) := by
        rw [G.out.cell, Iv_get _ _ _ (by rw [fill_length]; omega), fill_getD _ _ _ _ hlt, if_neg (by omega)]
      have f1 := G.out.frozen k
      go_wp2
      obtain ⟨e1, e2⟩ := sub_part (fa k) (fb k) (brw fa fb k) l1 l2 l3
      exact ⟨⟨k + 1, by omega, by go_num, by rw [e2]; rfl, by rw [e1]; exact G.step hlt⟩, by simp [intOf]; omega⟩
    · obtain rfl : k = na := by omega
      have HO := F.out
      rw [fill_full] at HO
      have HB := F.k
      clear F
      go_wp2
      go_ret
      exact ⟨w.heap.size, k, rfl, HO, Nat.le_refl _, HB⟩

open Ed
structure R3 where
  x : Value
  y : Value
  z : Value
def Rc (r : R3) : Array Value := #[r.x, r.y, r.z]
def RW (r : R3) : Value := .agg (Rc r)
def zR : Array Value := #[.slice none 0 0, .slice none 0 0, .slice none 0 0]
def IsSl (v : Value) : Prop := ∃ g n c, v = SlV g n c
theorem LongIs.sl {w : World} {v : Value} {V : Nat} (h : LongIs w v V) : IsSl v := by
  obtain ⟨g, n, c, f, rfl, _⟩ := h
  exact ⟨g, n, c, rfl⟩
theorem Rc_one3 {x y z : Value} (hx : IsSl x) (hy : IsSl y) (hz : IsSl z) : (Rc ⟨x, y, z⟩).all (·.oneCell') = true := by
  obtain ⟨g, n, c, rfl⟩ := hx
  obtain ⟨g', n', c', rfl⟩ := hy
  obtain ⟨g'', n'', c'', rfl⟩ := hz
  simp [Rc, SlV, Value.oneCell']
theorem info_Rc (r : R3) : (Tryd.prog.info? 42).map (·.size) = some (Rc r).size := by
  show _ = some 3
  kernel_rfl
theorem Rc_same (r : R3) : zR.size = (Rc r).size := rfl
theorem Rc_same2 (r s : R3) : (Rc r).size = (Rc s).size := rfl
/-- A point, by long numbers. -/
structure RIs (w : World) (r : R3) (P : Pt dd) : Prop where
  ex : ∃ X Y Z, LongIs w r.x X ∧ LongIs w r.y Y ∧ LongIs w r.z Z ∧ F Z ≠ 0 ∧ F X = F Z*P.x ∧ F Y = F Z*P.y
theorem RIs.below {w w1 : World} {r : R3} {P : Pt dd} (h : RIs w r P) (hb : Below w.heap.size w w1) : RIs w1 r P := by
  obtain ⟨X, Y, Z, h1, h2, h3, h4⟩ := h.ex
  exact ⟨X, Y, Z, h1.below hb, h2.below hb, h3.below hb, h4⟩
theorem RIs.drew {w : World} {r : R3} {P : Pt dd} (h : RIs w r P) : RIs w.drew r P := by
  obtain ⟨X, Y, Z, h1, h2, h3, h4⟩ := h.ex
  exact ⟨X, Y, Z, h1.drew, h2.drew, h3.drew, h4⟩
theorem RIs.away {w : World} {r : R3} {P : Pt dd} {k : Nat} {t : TypeId} {ds : Array Value} (h : RIs w r P) (hx : Blk w k t ds) (h0 : ∀ z : Int, ds[0]? ≠ some (.int .u32 z)) (cs : Array Value) : RIs (w.setRow k cs) r P := by
  obtain ⟨X, Y, Z, h1, h2, h3, h4⟩ := h.ex
  exact ⟨X, Y, Z, h1.away hx h0 cs, h2.away hx h0 cs, h3.away hx h0 cs, h4⟩
theorem RIs.one {w : World} {r : R3} {P : Pt dd} (h : RIs w r P) : (Rc r).all (·.oneCell') = true := by
  obtain ⟨X, Y, Z, h1, h2, h3, h4⟩ := h.ex
  exact Rc_one3 h1.sl h2.sl h3.sl
theorem RIs.slx {w : World} {r : R3} {P : Pt dd} (h : RIs w r P) : IsSl r.x := by
  obtain ⟨X, Y, Z, h1, h2, h3, h4⟩ := h.ex
  exact h1.sl
theorem zR_not32 (z : Int) : zR[0]? ≠ some (.int .u32 z) := by simp [zR]
theorem Rc_not32 {r : R3} (h : IsSl r.x) (z : Int) : (Rc r)[0]? ≠ some (.int .u32 z) := by
  obtain ⟨g, n, c, e⟩ := h
  simp [Rc, e, SlV]
theorem Pc_not32 (p : P4) (z : Int) : (Pc p)[0]? ≠ some (.int .u32 z) := by simp [Pc, el0]
theorem Iv8_not32 (l : List Int) (z : Int) : (Iv .u8 l)[0]? ≠ some (.int .u32 z) := by
  cases l <;> simp [Iv]
theorem yieldsIf_rf0 {ops : Array Oper} {S : World → Prop} {o : Oper} {a : Act} (hgd : Region.wanted o (yielded ops a.tmps) = true) (x : Operand) (ho : o.op = .fieldAddr 42 x 0) (g : Nat) (hx : a.eval x = .pointer (some ⟨g, 0, none⟩)) :
    YieldsIf Tryd.prog ops S o (.pointer (some ⟨g, 0, none⟩)) a := Or.inl ⟨hgd, fun w _ => by
  simp only [execOp, ho, hx]
  go_simp⟩
theorem yieldsIf_rl0 {ops : Array Oper} {L : List Fact} {o : Oper} {a : Act} (hgd : Region.wanted o (yielded ops a.tmps) = true) (x : Operand) (ho : o.op = .load 26 x) (g : Nat) (hx : a.eval x = .pointer (some ⟨g, 0, none⟩))
    (t : TypeId) (r : R3) (hm : Fact.blk g t (Rc r) ∈ L) : YieldsIf Tryd.prog ops (Facts L) o r.x a := Or.inl ⟨hgd, fun w hw => by
  have c : w.cell? ⟨g, 0, none⟩ = some r.x := by
    rw [(hw.blkAt g t _ hm).cell]
    rfl
  simp only [execOp, ho, hx]
  go_simp⟩
theorem yieldsIf_rf1 {ops : Array Oper} {S : World → Prop} {o : Oper} {a : Act} (hgd : Region.wanted o (yielded ops a.tmps) = true) (x : Operand) (ho : o.op = .fieldAddr 42 x 1) (g : Nat) (hx : a.eval x = .pointer (some ⟨g, 0, none⟩)) :
    YieldsIf Tryd.prog ops S o (.pointer (some ⟨g, 1, none⟩)) a := Or.inl ⟨hgd, fun w _ => by
  simp only [execOp, ho, hx]
  go_simp⟩
theorem yieldsIf_rl1 {ops : Array Oper} {L : List Fact} {o : Oper} {a : Act} (hgd : Region.wanted o (yielded ops a.tmps) = true) (x : Operand) (ho : o.op = .load 26 x) (g : Nat) (hx : a.eval x = .pointer (some ⟨g, 1, none⟩))
    (t : TypeId) (r : R3) (hm : Fact.blk g t (Rc r) ∈ L) : YieldsIf Tryd.prog ops (Facts L) o r.y a := Or.inl ⟨hgd, fun w hw => by
  have c : w.cell? ⟨g, 1, none⟩ = some r.y := by
    rw [(hw.blkAt g t _ hm).cell]
    rfl
  simp only [execOp, ho, hx]
  go_simp⟩
theorem yieldsIf_rf2 {ops : Array Oper} {S : World → Prop} {o : Oper} {a : Act} (hgd : Region.wanted o (yielded ops a.tmps) = true) (x : Operand) (ho : o.op = .fieldAddr 42 x 2) (g : Nat) (hx : a.eval x = .pointer (some ⟨g, 0, none⟩)) :
    YieldsIf Tryd.prog ops S o (.pointer (some ⟨g, 2, none⟩)) a := Or.inl ⟨hgd, fun w _ => by
  simp only [execOp, ho, hx]
  go_simp⟩
theorem yieldsIf_rl2 {ops : Array Oper} {L : List Fact} {o : Oper} {a : Act} (hgd : Region.wanted o (yielded ops a.tmps) = true) (x : Operand) (ho : o.op = .load 26 x) (g : Nat) (hx : a.eval x = .pointer (some ⟨g, 2, none⟩))
    (t : TypeId) (r : R3) (hm : Fact.blk g t (Rc r) ∈ L) : YieldsIf Tryd.prog ops (Facts L) o r.z a := Or.inl ⟨hgd, fun w hw => by
  have c : w.cell? ⟨g, 2, none⟩ = some r.z := by
    rw [(hw.blkAt g t _ hm).cell]
    rfl
  simp only [execOp, ho, hx]
  go_simp⟩
theorem yieldsIf_r3 {ops : Array Oper} {S : World → Prop} {o : Oper} {a : Act} {x y z : Value} (hgd : Region.wanted o (yielded ops a.tmps) = true) (p q s : Operand) (ho : o.op = .build 42 #[(0, p), (1, q), (2, s)]) (hx : a.eval p = x) (hy : a.eval q = y) (hz : a.eval s = z) (sx : IsSl x) (sy : IsSl y) (sz : IsSl z) :
    YieldsIf Tryd.prog ops S o (RW ⟨x, y, z⟩) a := Or.inl ⟨hgd, fun w _ => by
  obtain ⟨g, n, c, rfl⟩ := sx
  obtain ⟨g', n', c', rfl⟩ := sy
  obtain ⟨g'', n'', c'', rfl⟩ := sz
  unfold SlV at hx hy hz
  simp only [execOp, ho, List.map_toArray, List.map_cons, List.map_nil, hx, hy, hz, RW, Rc, SlV]
  go_simp⟩
theorem yieldsIf_r0 {ops : Array Oper} {S : World → Prop} {o : Oper} {a : Act} (hgd : Region.wanted o (yielded ops a.tmps) = true) (ho : o.op = .build 42 #[]) :
    YieldsIf Tryd.prog ops S o (.agg zR) a := Or.inl ⟨hgd, fun w _ => by
  simp only [execOp, ho, List.map_toArray, List.map_cons, List.map_nil, zR]
  go_simp⟩

/-! The reckoning. -/
theorem dnum (z a b : Nat) (hz : z = 0) (ha : a = 121666) (hb : b = 121665) : fs z (fm b (pinv a)) = dN := by
  refine F_inj2 (fs_lt _ _) dN_lt ?_
  have h1 := finv_mul (cc + 1) cc_one
  have la : a < pp := by rw [ha]; exact l121666
  have fa : F a = cc + 1 := by rw [ha]; exact F_121666
  have fb : F b = cc := by rw [hb]; exact F_c
  have fz : F z = 0 := by rw [hz]; exact F_zero
  clear ha hb hz
  rw [F_fs _ _ (fm_lt _ _), F_fm, F_inv _ la, fa, fb, fz, F_dN]
  have h2 := cc_dd
  refine ok.cancel cc_one ?_
  generalize finv (cc + 1) = u at *
  generalize dd = d at *
  generalize cc = c at *
  grind
def jA (Z1 Z2 : Nat) : Nat := fm Z1 Z2
def jH (X1 Y1 X2 Y2 : Nat) : Nat := fs (fs (fm (fa X1 Y1) (fa X2 Y2)) (fm X1 X2)) (fm Y1 Y2)
def jK (X1 Y1 X2 Y2 : Nat) : Nat := fm dN (fm (fm X1 X2) (fm Y1 Y2))
def jF (X1 Y1 Z1 X2 Y2 Z2 : Nat) : Nat := fs (fm (jA Z1 Z2) (jA Z1 Z2)) (jK X1 Y1 X2 Y2)
def jG (X1 Y1 Z1 X2 Y2 Z2 : Nat) : Nat := fa (fm (jA Z1 Z2) (jA Z1 Z2)) (jK X1 Y1 X2 Y2)
section
variable {n : Nat} [NeZero n]
theorem jm_x {m c u v X : Fin n} (h : X*u = c) : m*(m*m*v)*(m*c) = m*m*v*(m*m*u)*X := by grind
theorem jm_y {m s u v Y : Fin n} (h : Y*v = s) : m*(m*m*u)*(m*s) = m*m*v*(m*m*u)*Y := by grind
theorem jm_h (a b X1 Y1 X2 Y2 : Fin n) : (a*X1 + a*Y1)*(b*X2 + b*Y2) - (a*X1)*(b*X2) - (a*Y1)*(b*Y2) = (a*b)*(X1*Y2 + Y1*X2) := by grind
theorem jm_f (a b d X1 Y1 X2 Y2 : Fin n) : a*b*(a*b) - d*((a*X1)*(b*X2)*((a*Y1)*(b*Y2))) = (a*b)*(a*b)*(1 - d*X1*X2*Y1*Y2) := by grind
theorem jm_g (a b d X1 Y1 X2 Y2 : Fin n) : a*b*(a*b) + d*((a*X1)*(b*X2)*((a*Y1)*(b*Y2))) = (a*b)*(a*b)*(1 + d*X1*X2*Y1*Y2) := by grind
theorem jm_s (a b X1 Y1 X2 Y2 : Fin n) : (a*Y1)*(b*Y2) + (a*X1)*(b*X2) = (a*b)*(Y1*Y2 + X1*X2) := by grind
end
theorem join_is {X1 Y1 Z1 X2 Y2 Z2 : Nat} {P Q : Pt dd} (a0 : F Z1 ≠ 0) (ax : F X1 = F Z1*P.x) (ay : F Y1 = F Z1*P.y) (b0 : F Z2 ≠ 0) (bx : F X2 = F Z2*Q.x) (bY : F Y2 = F Z2*Q.y) :
    F (fm (jF X1 Y1 Z1 X2 Y2 Z2) (jG X1 Y1 Z1 X2 Y2 Z2)) ≠ 0 ∧
    F (fm (fm (jA Z1 Z2) (jF X1 Y1 Z1 X2 Y2 Z2)) (jH X1 Y1 X2 Y2)) = F (fm (jF X1 Y1 Z1 X2 Y2 Z2) (jG X1 Y1 Z1 X2 Y2 Z2))*(add ok P Q).x ∧
    F (fm (fm (jA Z1 Z2) (jG X1 Y1 Z1 X2 Y2 Z2)) (fa (fm Y1 Y2) (fm X1 X2))) = F (fm (jF X1 Y1 Z1 X2 Y2 Z2) (jG X1 Y1 Z1 X2 Y2 Z2))*(add ok P Q).y := by
  have eA : F (jA Z1 Z2) = F Z1*F Z2 := by unfold jA; rw [F_fm]
  have eK : F (jK X1 Y1 X2 Y2) = dd*((F Z1*P.x)*(F Z2*Q.x)*((F Z1*P.y)*(F Z2*Q.y))) := by unfold jK; rw [F_fm, F_fm, F_fm, F_fm, F_dN, ax, ay, bx, bY]
  have eF : F (jF X1 Y1 Z1 X2 Y2 Z2) = (F Z1*F Z2)*(F Z1*F Z2)*(1 - dd*P.x*Q.x*P.y*Q.y) := by
    unfold jF
    rw [F_fs _ _ (show jK X1 Y1 X2 Y2 < pp from fm_lt _ _), F_fm, eA, eK]
    exact jm_f _ _ _ _ _ _ _
  have eG : F (jG X1 Y1 Z1 X2 Y2 Z2) = (F Z1*F Z2)*(F Z1*F Z2)*(1 + dd*P.x*Q.x*P.y*Q.y) := by
    unfold jG
    rw [F_fa, F_fm, eA, eK]
    exact jm_g _ _ _ _ _ _ _
  have eH : F (jH X1 Y1 X2 Y2) = (F Z1*F Z2)*(P.x*Q.y + P.y*Q.x) := by
    unfold jH
    rw [F_fs _ _ (fm_lt _ _), F_fs _ _ (fm_lt _ _), F_fm, F_fm, F_fm, F_fa, F_fa, ax, ay, bx, bY]
    exact jm_h _ _ _ _ _ _
  have eS : F (fa (fm Y1 Y2) (fm X1 X2)) = (F Z1*F Z2)*(P.y*Q.y + P.x*Q.x) := by
    rw [F_fa, F_fm, F_fm, ax, ay, bx, bY]
    exact jm_s _ _ _ _ _ _
  have hx := add_x ok P Q
  have hy := add_y ok P Q
  have hm := ok.mul_ne a0 b0
  rw [F_fm, F_fm, F_fm, F_fm, F_fm, eA, eF, eG, eH, eS]
  exact ⟨ok.mul_ne (ok.mul_ne (ok.mul_ne hm hm) (ok.full2 P.on Q.on)) (ok.mul_ne (ok.mul_ne hm hm) (ok.full1 P.on Q.on)), jm_x hx, jm_y hy⟩

set_option maxHeartbeats 4000000 in
set_option maxRecDepth 100000 in
theorem rd_v (w : World) : Calls Tryd.prog 20 #[] w (RetL w dN) := by
  obtain ⟨E0, hE0⟩ : ∃ r, r = 0 := ⟨_, rfl⟩
  have lE0 : E0 < pp := hE0 ▸ by rw [pp_eq]; decide
  have HE0 := Lib.hid hE0
  clear hE0
  obtain ⟨E1, hE1⟩ : ∃ r, r = 121665 := ⟨_, rfl⟩
  have lE1 : E1 < pp := hE1 ▸ by rw [pp_eq]; decide
  have HE1 := Lib.hid hE1
  clear hE1
  obtain ⟨E2, hE2⟩ : ∃ r, r = 121666 := ⟨_, rfl⟩
  have lE2 : E2 < pp := hE2 ▸ by rw [pp_eq]; decide
  have HE2 := Lib.hid hE2
  clear hE2
  obtain ⟨E3, hE3⟩ : ∃ r, r = mpow E2 57896044618658097711785492504343953926634992332820282019728792003956564819947 := ⟨_, rfl⟩
  have lE3 : E3 < pp := hE3 ▸ mpow_lt _ _
  have HE3 := Lib.hid hE3
  clear hE3
  obtain ⟨E4, hE4⟩ : ∃ r, r = E1 * E3 % pp := ⟨_, rfl⟩
  have lE4 : E4 < pp := hE4 ▸ Nat.mod_lt _ pp_pos
  have HE4 := Lib.hid hE4
  clear hE4
  obtain ⟨E5, hE5⟩ : ∃ r, r = (E0 + (pp - E4)) % pp := ⟨_, rfl⟩
  have lE5 : E5 < pp := hE5 ▸ Nat.mod_lt _ pp_pos
  have HE5 := Lib.hid hE5
  clear hE5
  go_enter Tryd.func20, Tryd.ntmps20
  go_upto_region 1 with fail
  have hB := Below.refl w.heap.size w
  have hS : Facts [] w := Facts.nil
  refine wp_region_seq ?_
  refine wpSeq_wp rfl ?_
  go_simp
  refine (num_w 0 E0 (by decide) HE0.out _).mono ?_
  rintro e v1 ⟨r1, rfl, Hr1, b⟩
  replace hB := hB.trans (b.mono hB.size)
  replace hS := hS.below b
  clear b
  show wpSeq _ _ _ _ _ _
  refine wpSeq_wp rfl ?_
  go_simp
  refine (num_w 121665 E1 (by decide) HE1.out _).mono ?_
  rintro e v2 ⟨r2, rfl, Hr2, b⟩
  replace hB := hB.trans (b.mono hB.size)
  replace hS := hS.below b
  replace Hr1 := Hr1.below b
  clear b
  show wpSeq _ _ _ _ _ _
  refine wpSeq_wp rfl ?_
  go_simp
  refine (num_w 121666 E2 (by decide) HE2.out _).mono ?_
  rintro e v3 ⟨r3, rfl, Hr3, b⟩
  replace hB := hB.trans (b.mono hB.size)
  replace hS := hS.below b
  replace Hr1 := Hr1.below b
  replace Hr2 := Hr2.below b
  clear b
  show wpSeq _ _ _ _ _ _
  refine wpSeq_wp rfl ?_
  go_simp
  refine (rover_v _ E2 E3 _ Hr3 HE3.out).mono ?_
  rintro e v4 ⟨r4, rfl, Hr4, b⟩
  replace hB := hB.trans (b.mono hB.size)
  replace hS := hS.below b
  replace Hr1 := Hr1.below b
  replace Hr2 := Hr2.below b
  replace Hr3 := Hr3.below b
  clear b
  show wpSeq _ _ _ _ _ _
  refine wpSeq_wp rfl ?_
  go_simp
  refine (rmul_v _ _ E1 E3 E4 _ Hr2 Hr4 HE4.out).mono ?_
  rintro e v5 ⟨r5, rfl, Hr5, b⟩
  replace hB := hB.trans (b.mono hB.size)
  replace hS := hS.below b
  replace Hr1 := Hr1.below b
  replace Hr2 := Hr2.below b
  replace Hr3 := Hr3.below b
  replace Hr4 := Hr4.below b
  clear b
  show wpSeq _ _ _ _ _ _
  refine wpSeq_wp rfl ?_
  go_simp
  refine (rsub_v _ _ E0 E4 E5 _ Hr1 Hr5 lE4 HE5.out).mono ?_
  rintro e v6 ⟨r6, rfl, Hr6, b⟩
  replace hB := hB.trans (b.mono hB.size)
  replace hS := hS.below b
  replace Hr1 := Hr1.below b
  replace Hr2 := Hr2.below b
  replace Hr3 := Hr3.below b
  replace Hr4 := Hr4.below b
  replace Hr5 := Hr5.below b
  clear b
  show wpSeq _ _ _ _ _ _
  refine wpSeq_yield (S := Facts []) (yieldsIf_assign rfl _ rfl _ rfl) hS ?_
  simp only [Act.put, List.setIfInBounds_toArray, List.set_cons_zero, List.set_cons_succ]
  refine wpSeq_nil ?_
  have hd : E5 = dN := by
    rw [← dnum E0 E2 E1 HE0.out HE2.out HE1.out]
    unfold fs fm pinv
    rw [← HE3.out, ← HE4.out, ← HE5.out]
  rw [hd] at Hr6
  go_wp2
  refine bodyPost_ret (results_tmp rfl _ _ _) rfl ?_
  exact ⟨r6, rfl, Hr6, hB⟩
set_option maxHeartbeats 4000000 in
set_option maxRecDepth 100000 in
theorem rzero_v (w : World) : Calls Tryd.prog 54 #[] w fun e w' => ∃ r, e = .returned (RW r) ∧ RIs w' r (zero dd) ∧ Below w.heap.size w w' := by
  obtain ⟨E0, hE0⟩ : ∃ r, r = 0 := ⟨_, rfl⟩
  have lE0 : E0 < pp := hE0 ▸ by rw [pp_eq]; decide
  have HE0 := Lib.hid hE0
  clear hE0
  obtain ⟨E1, hE1⟩ : ∃ r, r = 1 := ⟨_, rfl⟩
  have lE1 : E1 < pp := hE1 ▸ by rw [pp_eq]; decide
  have HE1 := Lib.hid hE1
  clear hE1
  go_enter Tryd.func54, Tryd.ntmps54
  go_upto_region 1 with fail
  generalize hW : World.alloc w _ = W
  have hB : Below w.heap.size w W := hW ▸ (Below.refl w.heap.size w).alloc (Nat.le_refl _) _
  have K0 : Blk W (w.heap.size) 42 zR := hW ▸ Blk.new' rfl _ _
  have hS : Facts [] W := Facts.nil
  clear hW
  refine wp_region_seq ?_
  refine wpSeq_wp rfl ?_
  go_simp
  refine (num_w 0 E0 (by decide) HE0.out _).mono ?_
  rintro e v1 ⟨r1, rfl, Hr1, b⟩
  replace hB := hB.trans (b.mono hB.size)
  replace hS := hS.below b
  replace K0 := K0.below' b
  clear b
  show wpSeq _ _ _ _ _ _
  refine wpSeq_wp rfl ?_
  go_simp
  refine (num_w 1 E1 (by decide) HE1.out _).mono ?_
  rintro e v2 ⟨r2, rfl, Hr2, b⟩
  replace hB := hB.trans (b.mono hB.size)
  replace hS := hS.below b
  replace Hr1 := Hr1.below b
  replace K0 := K0.below' b
  clear b
  show wpSeq _ _ _ _ _ _
  refine wpSeq_wp rfl ?_
  go_simp
  refine (num_w 1 E1 (by decide) HE1.out _).mono ?_
  rintro e v3 ⟨r3, rfl, Hr3, b⟩
  replace hB := hB.trans (b.mono hB.size)
  replace hS := hS.below b
  replace Hr1 := Hr1.below b
  replace Hr2 := Hr2.below b
  replace K0 := K0.below' b
  clear b
  show wpSeq _ _ _ _ _ _
  refine wpSeq_yield (S := Facts []) (show YieldsIf _ _ _ _ (RW ⟨r1, r2, r3⟩) _ from yieldsIf_r3 rfl _ _ _ rfl rfl rfl rfl Hr1.sl Hr2.sl Hr3.sl) hS ?_
  simp only [Act.put, List.setIfInBounds_toArray, List.set_cons_zero, List.set_cons_succ]
  refine wpSeq_store_row rfl 42 _ _ rfl (w.heap.size) (Rc ⟨r1, r2, r3⟩) rfl rfl _ _ K0 (info_Rc _) rfl (Rc_one3 Hr1.sl Hr2.sl Hr3.sl) ?_
  try simp only [Act.put, List.setIfInBounds_toArray, List.set_cons_zero, List.set_cons_succ]
  replace Hr1 := Hr1.away K0 zR_not32 (Rc ⟨r1, r2, r3⟩)
  replace Hr2 := Hr2.away K0 zR_not32 (Rc ⟨r1, r2, r3⟩)
  replace Hr3 := Hr3.away K0 zR_not32 (Rc ⟨r1, r2, r3⟩)
  replace hB := below_setRow hB (g := w.heap.size) (by omega) (Rc ⟨r1, r2, r3⟩)
  replace hS : Facts [] _ := Facts.nilB hB
  replace K0 := K0.row (Rc ⟨r1, r2, r3⟩)
  generalize hWn : World.setRow _ _ _ = Wn at *
  clear hWn
  refine wpSeq_nil ?_
  have e0 : E0 = 0 := HE0.out
  have e1 : E1 = 1 := HE1.out
  go_wp2
  exact bodyPost_ret (results_cell_row rfl _ _ _ 42 _ (0, 0) _ rfl K0 Tryd.underlying42 rfl (info_Rc _)) rfl ⟨_, rfl, ⟨E0, E1, E1, Hr1, Hr2, Hr3, by rw [e1]; exact ok.one, by rw [e0, e1]; exact (Fin.mul_zero _).symm, by rw [e1]; exact (Fin.mul_one _).symm⟩, hB⟩
end Go.Proofs.YtjaomgildhiddaaDoor
/- The contract of the reference's Join (printed by gencurve.py). -/
namespace Go.Proofs.YtjaomgildhiddaaDoor
open Go.RowKit

open Ed
set_option maxHeartbeats 4000000 in
set_option maxRecDepth 100000 in
theorem rjoin_v (r s : R3) (P Q : Pt dd) (dv : Value) (w : World) (hr : RIs w r P) (hs : RIs w s Q) (hdv : LongIs w dv dN) :
    Calls Tryd.prog 21 #[RW r, RW s, dv] w fun e w' => ∃ u, e = .returned (RW u) ∧ RIs w' u (add ok P Q) ∧ Below w.heap.size w w' := by
  obtain ⟨X1, Y1, Z1, hx1, hy1, hz1, a0, ax, ay⟩ := hr.ex
  obtain ⟨X2, Y2, Z2, hx2, hy2, hz2, b0, bx, bY⟩ := hs.ex
  clear hr hs
  obtain ⟨E0, hE0⟩ : ∃ r, r = Z1 * Z2 % pp := ⟨_, rfl⟩
  have lE0 : E0 < pp := hE0 ▸ Nat.mod_lt _ pp_pos
  have HE0 := Lib.hid hE0
  clear hE0
  obtain ⟨E1, hE1⟩ : ∃ r, r = E0 * E0 % pp := ⟨_, rfl⟩
  have lE1 : E1 < pp := hE1 ▸ Nat.mod_lt _ pp_pos
  have HE1 := Lib.hid hE1
  clear hE1
  obtain ⟨E2, hE2⟩ : ∃ r, r = X1 * X2 % pp := ⟨_, rfl⟩
  have lE2 : E2 < pp := hE2 ▸ Nat.mod_lt _ pp_pos
  have HE2 := Lib.hid hE2
  clear hE2
  obtain ⟨E3, hE3⟩ : ∃ r, r = Y1 * Y2 % pp := ⟨_, rfl⟩
  have lE3 : E3 < pp := hE3 ▸ Nat.mod_lt _ pp_pos
  have HE3 := Lib.hid hE3
  clear hE3
  obtain ⟨E4, hE4⟩ : ∃ r, r = E2 * E3 % pp := ⟨_, rfl⟩
  have lE4 : E4 < pp := hE4 ▸ Nat.mod_lt _ pp_pos
  have HE4 := Lib.hid hE4
  clear hE4
  obtain ⟨E5, hE5⟩ : ∃ r, r = dN * E4 % pp := ⟨_, rfl⟩
  have lE5 : E5 < pp := hE5 ▸ Nat.mod_lt _ pp_pos
  have HE5 := Lib.hid hE5
  clear hE5
  obtain ⟨E6, hE6⟩ : ∃ r, r = (E1 + (pp - E5)) % pp := ⟨_, rfl⟩
  have lE6 : E6 < pp := hE6 ▸ Nat.mod_lt _ pp_pos
  have HE6 := Lib.hid hE6
  clear hE6
  obtain ⟨E7, hE7⟩ : ∃ r, r = (E1 + E5) % pp := ⟨_, rfl⟩
  have lE7 : E7 < pp := hE7 ▸ Nat.mod_lt _ pp_pos
  have HE7 := Lib.hid hE7
  clear hE7
  obtain ⟨E8, hE8⟩ : ∃ r, r = (X1 + Y1) % pp := ⟨_, rfl⟩
  have lE8 : E8 < pp := hE8 ▸ Nat.mod_lt _ pp_pos
  have HE8 := Lib.hid hE8
  clear hE8
  obtain ⟨E9, hE9⟩ : ∃ r, r = (X2 + Y2) % pp := ⟨_, rfl⟩
  have lE9 : E9 < pp := hE9 ▸ Nat.mod_lt _ pp_pos
  have HE9 := Lib.hid hE9
  clear hE9
  obtain ⟨E10, hE10⟩ : ∃ r, r = E8 * E9 % pp := ⟨_, rfl⟩
  have lE10 : E10 < pp := hE10 ▸ Nat.mod_lt _ pp_pos
  have HE10 := Lib.hid hE10
  clear hE10
  obtain ⟨E11, hE11⟩ : ∃ r, r = (E10 + (pp - E2)) % pp := ⟨_, rfl⟩
  have lE11 : E11 < pp := hE11 ▸ Nat.mod_lt _ pp_pos
  have HE11 := Lib.hid hE11
  clear hE11
  obtain ⟨E12, hE12⟩ : ∃ r, r = (E11 + (pp - E3)) % pp := ⟨_, rfl⟩
  have lE12 : E12 < pp := hE12 ▸ Nat.mod_lt _ pp_pos
  have HE12 := Lib.hid hE12
  clear hE12
  obtain ⟨E13, hE13⟩ : ∃ r, r = E0 * E6 % pp := ⟨_, rfl⟩
  have lE13 : E13 < pp := hE13 ▸ Nat.mod_lt _ pp_pos
  have HE13 := Lib.hid hE13
  clear hE13
  obtain ⟨E14, hE14⟩ : ∃ r, r = E13 * E12 % pp := ⟨_, rfl⟩
  have lE14 : E14 < pp := hE14 ▸ Nat.mod_lt _ pp_pos
  have HE14 := Lib.hid hE14
  clear hE14
  obtain ⟨E15, hE15⟩ : ∃ r, r = E0 * E7 % pp := ⟨_, rfl⟩
  have lE15 : E15 < pp := hE15 ▸ Nat.mod_lt _ pp_pos
  have HE15 := Lib.hid hE15
  clear hE15
  obtain ⟨E16, hE16⟩ : ∃ r, r = (E3 + E2) % pp := ⟨_, rfl⟩
  have lE16 : E16 < pp := hE16 ▸ Nat.mod_lt _ pp_pos
  have HE16 := Lib.hid hE16
  clear hE16
  obtain ⟨E17, hE17⟩ : ∃ r, r = E15 * E16 % pp := ⟨_, rfl⟩
  have lE17 : E17 < pp := hE17 ▸ Nat.mod_lt _ pp_pos
  have HE17 := Lib.hid hE17
  clear hE17
  obtain ⟨E18, hE18⟩ : ∃ r, r = E6 * E7 % pp := ⟨_, rfl⟩
  have lE18 : E18 < pp := hE18 ▸ Nat.mod_lt _ pp_pos
  have HE18 := Lib.hid hE18
  clear hE18
  unfold RW
  go_enter Tryd.func21, Tryd.ntmps21
  go_upto_region 1 with fail
  generalize hW : World.alloc (World.alloc (World.alloc w _) _) _ = W
  have hB : Below w.heap.size w W := hW ▸ (((Below.refl w.heap.size w).alloc (Nat.le_refl _) _).alloc (by simp) _).alloc (by simp; omega) _
  have K0 : Blk W (w.heap.size) 42 (Rc r) := hW ▸ (((Blk.new' (by simp) _ _).alloc _).alloc _)
  have K1 : Blk W (w.heap.size + 1) 42 (Rc s) := hW ▸ ((Blk.new' (by simp) _ _).alloc _)
  have K2 : Blk W (w.heap.size + 1 + 1) 42 zR := hW ▸ (Blk.new' (by simp) _ _)
  have hS : Facts [.blk (w.heap.size) 42 (Rc r), .blk (w.heap.size + 1) 42 (Rc s)] W := Facts.cons (f := .blk (w.heap.size) 42 (Rc r)) K0 (Facts.cons (f := .blk (w.heap.size + 1) 42 (Rc s)) K1 (Facts.nil))
  clear hW K0 K1
  replace hx1 := hx1.below hB
  replace hy1 := hy1.below hB
  replace hz1 := hz1.below hB
  replace hx2 := hx2.below hB
  replace hy2 := hy2.below hB
  replace hz2 := hz2.below hB
  replace hdv := hdv.below hB
  refine wp_region_seq ?_
  refine wpSeq_yield (S := Facts [.blk (w.heap.size) 42 (Rc r), .blk (w.heap.size + 1) 42 (Rc s)]) (show YieldsIf _ _ _ _ (.pointer (some ⟨w.heap.size, 2, none⟩)) _ from yieldsIf_rf2 rfl _ rfl (w.heap.size) rfl) hS ?_
  simp only [Act.put, List.setIfInBounds_toArray, List.set_cons_zero, List.set_cons_succ]
  refine wpSeq_yield (S := Facts [.blk (w.heap.size) 42 (Rc r), .blk (w.heap.size + 1) 42 (Rc s)]) (show YieldsIf _ _ _ _ r.z _ from yieldsIf_rl2 rfl _ rfl (w.heap.size) rfl 42 r (.head _)) hS ?_
  simp only [Act.put, List.setIfInBounds_toArray, List.set_cons_zero, List.set_cons_succ]
  refine wpSeq_yield (S := Facts [.blk (w.heap.size) 42 (Rc r), .blk (w.heap.size + 1) 42 (Rc s)]) (show YieldsIf _ _ _ _ (.pointer (some ⟨w.heap.size + 1, 2, none⟩)) _ from yieldsIf_rf2 rfl _ rfl (w.heap.size + 1) rfl) hS ?_
  simp only [Act.put, List.setIfInBounds_toArray, List.set_cons_zero, List.set_cons_succ]
  refine wpSeq_yield (S := Facts [.blk (w.heap.size) 42 (Rc r), .blk (w.heap.size + 1) 42 (Rc s)]) (show YieldsIf _ _ _ _ s.z _ from yieldsIf_rl2 rfl _ rfl (w.heap.size + 1) rfl 42 s (.tail _ (.head _))) hS ?_
  simp only [Act.put, List.setIfInBounds_toArray, List.set_cons_zero, List.set_cons_succ]
  refine wpSeq_wp rfl ?_
  go_simp
  refine (rmul_v _ _ Z1 Z2 E0 _ hz1 hz2 HE0.out).mono ?_
  rintro e v1 ⟨r1, rfl, Hr1, b⟩
  replace hB := hB.trans (b.mono hB.size)
  replace hS := hS.below b
  replace hx1 := hx1.below b
  replace hy1 := hy1.below b
  replace hz1 := hz1.below b
  replace hx2 := hx2.below b
  replace hy2 := hy2.below b
  replace hz2 := hz2.below b
  replace hdv := hdv.below b
  replace K2 := K2.below' b
  clear b
  show wpSeq _ _ _ _ _ _
  refine wpSeq_yield (S := Facts [.blk (w.heap.size) 42 (Rc r), .blk (w.heap.size + 1) 42 (Rc s)]) (yieldsIf_assign rfl _ rfl _ rfl) hS ?_
  simp only [Act.put, List.setIfInBounds_toArray, List.set_cons_zero, List.set_cons_succ]
  refine wpSeq_nil ?_
  go_upto_region 2 with fail
  refine wp_region_seq ?_
  refine wpSeq_yield (S := Facts [.blk (w.heap.size) 42 (Rc r), .blk (w.heap.size + 1) 42 (Rc s)]) (yieldsIf_move rfl _ rfl _ rfl) hS ?_
  simp only [Act.put, List.setIfInBounds_toArray, List.set_cons_zero, List.set_cons_succ]
  refine wpSeq_yield (S := Facts [.blk (w.heap.size) 42 (Rc r), .blk (w.heap.size + 1) 42 (Rc s)]) (yieldsIf_move rfl _ rfl _ rfl) hS ?_
  simp only [Act.put, List.setIfInBounds_toArray, List.set_cons_zero, List.set_cons_succ]
  refine wpSeq_wp rfl ?_
  go_simp
  refine (rmul_v _ _ E0 E0 E1 _ Hr1 Hr1 HE1.out).mono ?_
  rintro e v2 ⟨r2, rfl, Hr2, b⟩
  replace hB := hB.trans (b.mono hB.size)
  replace hS := hS.below b
  replace hx1 := hx1.below b
  replace hy1 := hy1.below b
  replace hz1 := hz1.below b
  replace hx2 := hx2.below b
  replace hy2 := hy2.below b
  replace hz2 := hz2.below b
  replace hdv := hdv.below b
  replace Hr1 := Hr1.below b
  replace K2 := K2.below' b
  clear b
  show wpSeq _ _ _ _ _ _
  refine wpSeq_yield (S := Facts [.blk (w.heap.size) 42 (Rc r), .blk (w.heap.size + 1) 42 (Rc s)]) (yieldsIf_assign rfl _ rfl _ rfl) hS ?_
  simp only [Act.put, List.setIfInBounds_toArray, List.set_cons_zero, List.set_cons_succ]
  refine wpSeq_nil ?_
  go_upto_region 3 with fail
  refine wp_region_seq ?_
  refine wpSeq_yield (S := Facts [.blk (w.heap.size) 42 (Rc r), .blk (w.heap.size + 1) 42 (Rc s)]) (show YieldsIf _ _ _ _ (.pointer (some ⟨w.heap.size, 0, none⟩)) _ from yieldsIf_rf0 rfl _ rfl (w.heap.size) rfl) hS ?_
  simp only [Act.put, List.setIfInBounds_toArray, List.set_cons_zero, List.set_cons_succ]
  refine wpSeq_yield (S := Facts [.blk (w.heap.size) 42 (Rc r), .blk (w.heap.size + 1) 42 (Rc s)]) (show YieldsIf _ _ _ _ r.x _ from yieldsIf_rl0 rfl _ rfl (w.heap.size) rfl 42 r (.head _)) hS ?_
  simp only [Act.put, List.setIfInBounds_toArray, List.set_cons_zero, List.set_cons_succ]
  refine wpSeq_yield (S := Facts [.blk (w.heap.size) 42 (Rc r), .blk (w.heap.size + 1) 42 (Rc s)]) (show YieldsIf _ _ _ _ (.pointer (some ⟨w.heap.size + 1, 0, none⟩)) _ from yieldsIf_rf0 rfl _ rfl (w.heap.size + 1) rfl) hS ?_
  simp only [Act.put, List.setIfInBounds_toArray, List.set_cons_zero, List.set_cons_succ]
  refine wpSeq_yield (S := Facts [.blk (w.heap.size) 42 (Rc r), .blk (w.heap.size + 1) 42 (Rc s)]) (show YieldsIf _ _ _ _ s.x _ from yieldsIf_rl0 rfl _ rfl (w.heap.size + 1) rfl 42 s (.tail _ (.head _))) hS ?_
  simp only [Act.put, List.setIfInBounds_toArray, List.set_cons_zero, List.set_cons_succ]
  refine wpSeq_wp rfl ?_
  go_simp
  refine (rmul_v _ _ X1 X2 E2 _ hx1 hx2 HE2.out).mono ?_
  rintro e v3 ⟨r3, rfl, Hr3, b⟩
  replace hB := hB.trans (b.mono hB.size)
  replace hS := hS.below b
  replace hx1 := hx1.below b
  replace hy1 := hy1.below b
  replace hz1 := hz1.below b
  replace hx2 := hx2.below b
  replace hy2 := hy2.below b
  replace hz2 := hz2.below b
  replace hdv := hdv.below b
  replace Hr1 := Hr1.below b
  replace Hr2 := Hr2.below b
  replace K2 := K2.below' b
  clear b
  show wpSeq _ _ _ _ _ _
  refine wpSeq_yield (S := Facts [.blk (w.heap.size) 42 (Rc r), .blk (w.heap.size + 1) 42 (Rc s)]) (yieldsIf_assign rfl _ rfl _ rfl) hS ?_
  simp only [Act.put, List.setIfInBounds_toArray, List.set_cons_zero, List.set_cons_succ]
  refine wpSeq_nil ?_
  go_upto_region 4 with fail
  refine wp_region_seq ?_
  refine wpSeq_yield (S := Facts [.blk (w.heap.size) 42 (Rc r), .blk (w.heap.size + 1) 42 (Rc s)]) (show YieldsIf _ _ _ _ (.pointer (some ⟨w.heap.size, 1, none⟩)) _ from yieldsIf_rf1 rfl _ rfl (w.heap.size) rfl) hS ?_
  simp only [Act.put, List.setIfInBounds_toArray, List.set_cons_zero, List.set_cons_succ]
  refine wpSeq_yield (S := Facts [.blk (w.heap.size) 42 (Rc r), .blk (w.heap.size + 1) 42 (Rc s)]) (show YieldsIf _ _ _ _ r.y _ from yieldsIf_rl1 rfl _ rfl (w.heap.size) rfl 42 r (.head _)) hS ?_
  simp only [Act.put, List.setIfInBounds_toArray, List.set_cons_zero, List.set_cons_succ]
  refine wpSeq_yield (S := Facts [.blk (w.heap.size) 42 (Rc r), .blk (w.heap.size + 1) 42 (Rc s)]) (show YieldsIf _ _ _ _ (.pointer (some ⟨w.heap.size + 1, 1, none⟩)) _ from yieldsIf_rf1 rfl _ rfl (w.heap.size + 1) rfl) hS ?_
  simp only [Act.put, List.setIfInBounds_toArray, List.set_cons_zero, List.set_cons_succ]
  refine wpSeq_yield (S := Facts [.blk (w.heap.size) 42 (Rc r), .blk (w.heap.size + 1) 42 (Rc s)]) (show YieldsIf _ _ _ _ s.y _ from yieldsIf_rl1 rfl _ rfl (w.heap.size + 1) rfl 42 s (.tail _ (.head _))) hS ?_
  simp only [Act.put, List.setIfInBounds_toArray, List.set_cons_zero, List.set_cons_succ]
  refine wpSeq_wp rfl ?_
  go_simp
  refine (rmul_v _ _ Y1 Y2 E3 _ hy1 hy2 HE3.out).mono ?_
  rintro e v4 ⟨r4, rfl, Hr4, b⟩
  replace hB := hB.trans (b.mono hB.size)
  replace hS := hS.below b
  replace hx1 := hx1.below b
  replace hy1 := hy1.below b
  replace hz1 := hz1.below b
  replace hx2 := hx2.below b
  replace hy2 := hy2.below b
  replace hz2 := hz2.below b
  replace hdv := hdv.below b
  replace Hr1 := Hr1.below b
  replace Hr2 := Hr2.below b
  replace Hr3 := Hr3.below b
  replace K2 := K2.below' b
  clear b
  show wpSeq _ _ _ _ _ _
  refine wpSeq_yield (S := Facts [.blk (w.heap.size) 42 (Rc r), .blk (w.heap.size + 1) 42 (Rc s)]) (yieldsIf_assign rfl _ rfl _ rfl) hS ?_
  simp only [Act.put, List.setIfInBounds_toArray, List.set_cons_zero, List.set_cons_succ]
  refine wpSeq_nil ?_
  go_upto_region 5 with fail
  refine wp_region_seq ?_
  refine wpSeq_yield (S := Facts [.blk (w.heap.size) 42 (Rc r), .blk (w.heap.size + 1) 42 (Rc s)]) (yieldsIf_move rfl _ rfl _ rfl) hS ?_
  simp only [Act.put, List.setIfInBounds_toArray, List.set_cons_zero, List.set_cons_succ]
  refine wpSeq_yield (S := Facts [.blk (w.heap.size) 42 (Rc r), .blk (w.heap.size + 1) 42 (Rc s)]) (yieldsIf_move rfl _ rfl _ rfl) hS ?_
  simp only [Act.put, List.setIfInBounds_toArray, List.set_cons_zero, List.set_cons_succ]
  refine wpSeq_yield (S := Facts [.blk (w.heap.size) 42 (Rc r), .blk (w.heap.size + 1) 42 (Rc s)]) (yieldsIf_move rfl _ rfl _ rfl) hS ?_
  simp only [Act.put, List.setIfInBounds_toArray, List.set_cons_zero, List.set_cons_succ]
  refine wpSeq_wp rfl ?_
  go_simp
  refine (rmul_v _ _ E2 E3 E4 _ Hr3 Hr4 HE4.out).mono ?_
  rintro e v5 ⟨r5, rfl, Hr5, b⟩
  replace hB := hB.trans (b.mono hB.size)
  replace hS := hS.below b
  replace hx1 := hx1.below b
  replace hy1 := hy1.below b
  replace hz1 := hz1.below b
  replace hx2 := hx2.below b
  replace hy2 := hy2.below b
  replace hz2 := hz2.below b
  replace hdv := hdv.below b
  replace Hr1 := Hr1.below b
  replace Hr2 := Hr2.below b
  replace Hr3 := Hr3.below b
  replace Hr4 := Hr4.below b
  replace K2 := K2.below' b
  clear b
  show wpSeq _ _ _ _ _ _
  refine wpSeq_wp rfl ?_
  go_simp
  refine (rmul_v _ _ dN E4 E5 _ hdv Hr5 HE5.out).mono ?_
  rintro e v6 ⟨r6, rfl, Hr6, b⟩
  replace hB := hB.trans (b.mono hB.size)
  replace hS := hS.below b
  replace hx1 := hx1.below b
  replace hy1 := hy1.below b
  replace hz1 := hz1.below b
  replace hx2 := hx2.below b
  replace hy2 := hy2.below b
  replace hz2 := hz2.below b
  replace hdv := hdv.below b
  replace Hr1 := Hr1.below b
  replace Hr2 := Hr2.below b
  replace Hr3 := Hr3.below b
  replace Hr4 := Hr4.below b
  replace Hr5 := Hr5.below b
  replace K2 := K2.below' b
  clear b
  show wpSeq _ _ _ _ _ _
  refine wpSeq_yield (S := Facts [.blk (w.heap.size) 42 (Rc r), .blk (w.heap.size + 1) 42 (Rc s)]) (yieldsIf_assign rfl _ rfl _ rfl) hS ?_
  simp only [Act.put, List.setIfInBounds_toArray, List.set_cons_zero, List.set_cons_succ]
  refine wpSeq_nil ?_
  go_upto_region 6 with fail
  refine wp_region_seq ?_
  refine wpSeq_yield (S := Facts [.blk (w.heap.size) 42 (Rc r), .blk (w.heap.size + 1) 42 (Rc s)]) (yieldsIf_move rfl _ rfl _ rfl) hS ?_
  simp only [Act.put, List.setIfInBounds_toArray, List.set_cons_zero, List.set_cons_succ]
  refine wpSeq_yield (S := Facts [.blk (w.heap.size) 42 (Rc r), .blk (w.heap.size + 1) 42 (Rc s)]) (yieldsIf_move rfl _ rfl _ rfl) hS ?_
  simp only [Act.put, List.setIfInBounds_toArray, List.set_cons_zero, List.set_cons_succ]
  refine wpSeq_wp rfl ?_
  go_simp
  refine (rsub_v _ _ E1 E5 E6 _ Hr2 Hr6 lE5 HE6.out).mono ?_
  rintro e v7 ⟨r7, rfl, Hr7, b⟩
  replace hB := hB.trans (b.mono hB.size)
  replace hS := hS.below b
  replace hx1 := hx1.below b
  replace hy1 := hy1.below b
  replace hz1 := hz1.below b
  replace hx2 := hx2.below b
  replace hy2 := hy2.below b
  replace hz2 := hz2.below b
  replace hdv := hdv.below b
  replace Hr1 := Hr1.below b
  replace Hr2 := Hr2.below b
  replace Hr3 := Hr3.below b
  replace Hr4 := Hr4.below b
  replace Hr5 := Hr5.below b
  replace Hr6 := Hr6.below b
  replace K2 := K2.below' b
  clear b
  show wpSeq _ _ _ _ _ _
  refine wpSeq_yield (S := Facts [.blk (w.heap.size) 42 (Rc r), .blk (w.heap.size + 1) 42 (Rc s)]) (yieldsIf_move rfl _ rfl _ rfl) hS ?_
  simp only [Act.put, List.setIfInBounds_toArray, List.set_cons_zero, List.set_cons_succ]
  refine wpSeq_yield (S := Facts [.blk (w.heap.size) 42 (Rc r), .blk (w.heap.size + 1) 42 (Rc s)]) (yieldsIf_move rfl _ rfl _ rfl) hS ?_
  simp only [Act.put, List.setIfInBounds_toArray, List.set_cons_zero, List.set_cons_succ]
  refine wpSeq_wp rfl ?_
  go_simp
  refine (radd_v _ _ E1 E5 E7 _ Hr2 Hr6 HE7.out).mono ?_
  rintro e v8 ⟨r8, rfl, Hr8, b⟩
  replace hB := hB.trans (b.mono hB.size)
  replace hS := hS.below b
  replace hx1 := hx1.below b
  replace hy1 := hy1.below b
  replace hz1 := hz1.below b
  replace hx2 := hx2.below b
  replace hy2 := hy2.below b
  replace hz2 := hz2.below b
  replace hdv := hdv.below b
  replace Hr1 := Hr1.below b
  replace Hr2 := Hr2.below b
  replace Hr3 := Hr3.below b
  replace Hr4 := Hr4.below b
  replace Hr5 := Hr5.below b
  replace Hr6 := Hr6.below b
  replace Hr7 := Hr7.below b
  replace K2 := K2.below' b
  clear b
  show wpSeq _ _ _ _ _ _
  refine wpSeq_yield (S := Facts [.blk (w.heap.size) 42 (Rc r), .blk (w.heap.size + 1) 42 (Rc s)]) (yieldsIf_assign rfl _ rfl _ rfl) hS ?_
  simp only [Act.put, List.setIfInBounds_toArray, List.set_cons_zero, List.set_cons_succ]
  refine wpSeq_yield (S := Facts [.blk (w.heap.size) 42 (Rc r), .blk (w.heap.size + 1) 42 (Rc s)]) (yieldsIf_assign rfl _ rfl _ rfl) hS ?_
  simp only [Act.put, List.setIfInBounds_toArray, List.set_cons_zero, List.set_cons_succ]
  refine wpSeq_nil ?_
  go_upto_region 7 with fail
  replace hS := hS.drew
  replace hB := below_drew hB
  replace hx1 := hx1.drew
  replace hy1 := hy1.drew
  replace hz1 := hz1.drew
  replace hx2 := hx2.drew
  replace hy2 := hy2.drew
  replace hz2 := hz2.drew
  replace hdv := hdv.drew
  replace Hr1 := Hr1.drew
  replace Hr2 := Hr2.drew
  replace Hr3 := Hr3.drew
  replace Hr4 := Hr4.drew
  replace Hr5 := Hr5.drew
  replace Hr6 := Hr6.drew
  replace Hr7 := Hr7.drew
  replace Hr8 := Hr8.drew
  replace K2 := K2.drew
  refine wp_region_Z (S := Facts [.blk (w.heap.size) 42 (Rc r), .blk (w.heap.size + 1) 42 (Rc s)]) 15 (by kernel_rfl) ?_
  refine wpAnyZ_takeL 0 rfl (by kernel_rfl) (by kernel_rfl) (by kernel_rfl) (by kernel_rfl) (by kernel_rfl) (fun _ _ _ h => h) (show YieldsIf _ _ _ _ (.pointer (some ⟨w.heap.size, 0, none⟩)) _ from yieldsIf_rf0 rfl _ rfl (w.heap.size) rfl) hS ?_
  simp only [Act.put, List.setIfInBounds_toArray, List.set_cons_zero, List.set_cons_succ]
  refine wpAnyZ_takeL 1 rfl (by kernel_rfl) (by kernel_rfl) (by kernel_rfl) (by kernel_rfl) (by kernel_rfl) (fun _ _ _ h => h) (show YieldsIf _ _ _ _ r.x _ from yieldsIf_rl0 rfl _ rfl (w.heap.size) rfl 42 r (.head _)) hS ?_
  simp only [Act.put, List.setIfInBounds_toArray, List.set_cons_zero, List.set_cons_succ]
  refine wpAnyZ_takeL 2 rfl (by kernel_rfl) (by kernel_rfl) (by kernel_rfl) (by kernel_rfl) (by kernel_rfl) (fun _ _ _ h => h) (show YieldsIf _ _ _ _ (.pointer (some ⟨w.heap.size, 1, none⟩)) _ from yieldsIf_rf1 rfl _ rfl (w.heap.size) rfl) hS ?_
  simp only [Act.put, List.setIfInBounds_toArray, List.set_cons_zero, List.set_cons_succ]
  refine wpAnyZ_takeL 3 rfl (by kernel_rfl) (by kernel_rfl) (by kernel_rfl) (by kernel_rfl) (by kernel_rfl) (fun _ _ _ h => h) (show YieldsIf _ _ _ _ r.y _ from yieldsIf_rl1 rfl _ rfl (w.heap.size) rfl 42 r (.head _)) hS ?_
  simp only [Act.put, List.setIfInBounds_toArray, List.set_cons_zero, List.set_cons_succ]
  refine wpAnyZ_takeL 5 rfl (by kernel_rfl) (by kernel_rfl) (by kernel_rfl) (by kernel_rfl) (by kernel_rfl) (fun _ _ _ h => h) (show YieldsIf _ _ _ _ (.pointer (some ⟨w.heap.size + 1, 0, none⟩)) _ from yieldsIf_rf0 rfl _ rfl (w.heap.size + 1) rfl) hS ?_
  simp only [Act.put, List.setIfInBounds_toArray, List.set_cons_zero, List.set_cons_succ]
  refine wpAnyZ_takeL 6 rfl (by kernel_rfl) (by kernel_rfl) (by kernel_rfl) (by kernel_rfl) (by kernel_rfl) (fun _ _ _ h => h) (show YieldsIf _ _ _ _ s.x _ from yieldsIf_rl0 rfl _ rfl (w.heap.size + 1) rfl 42 s (.tail _ (.head _))) hS ?_
  simp only [Act.put, List.setIfInBounds_toArray, List.set_cons_zero, List.set_cons_succ]
  refine wpAnyZ_takeL 7 rfl (by kernel_rfl) (by kernel_rfl) (by kernel_rfl) (by kernel_rfl) (by kernel_rfl) (fun _ _ _ h => h) (show YieldsIf _ _ _ _ (.pointer (some ⟨w.heap.size + 1, 1, none⟩)) _ from yieldsIf_rf1 rfl _ rfl (w.heap.size + 1) rfl) hS ?_
  simp only [Act.put, List.setIfInBounds_toArray, List.set_cons_zero, List.set_cons_succ]
  refine wpAnyZ_takeL 8 rfl (by kernel_rfl) (by kernel_rfl) (by kernel_rfl) (by kernel_rfl) (by kernel_rfl) (fun _ _ _ h => h) (show YieldsIf _ _ _ _ s.y _ from yieldsIf_rl1 rfl _ rfl (w.heap.size + 1) rfl 42 s (.tail _ (.head _))) hS ?_
  simp only [Act.put, List.setIfInBounds_toArray, List.set_cons_zero, List.set_cons_succ]
  refine wpAnyZ_takeL 11 rfl (by kernel_rfl) (by kernel_rfl) (by kernel_rfl) (by kernel_rfl) (by kernel_rfl) (fun _ _ _ h => h) (yieldsIf_move rfl _ rfl _ rfl) hS ?_
  simp only [Act.put, List.setIfInBounds_toArray, List.set_cons_zero, List.set_cons_succ]
  refine wpAnyZ_takeL 13 rfl (by kernel_rfl) (by kernel_rfl) (by kernel_rfl) (by kernel_rfl) (by kernel_rfl) (fun _ _ _ h => h) (yieldsIf_move rfl _ rfl _ rfl) hS ?_
  simp only [Act.put, List.setIfInBounds_toArray, List.set_cons_zero, List.set_cons_succ]
  refine wpAnyZ_one (i := 4) (by kernel_rfl) ?_
  unfold wpOp
  go_simp
  left
  refine (radd_v _ _ X1 Y1 E8 _ hx1 hy1 HE8.out).mono ?_
  rintro e v9 ⟨r9, rfl, Hr9, b⟩
  replace hB := hB.trans (b.mono hB.size)
  replace hS := hS.below b
  replace hx1 := hx1.below b
  replace hy1 := hy1.below b
  replace hz1 := hz1.below b
  replace hx2 := hx2.below b
  replace hy2 := hy2.below b
  replace hz2 := hz2.below b
  replace hdv := hdv.below b
  replace Hr1 := Hr1.below b
  replace Hr2 := Hr2.below b
  replace Hr3 := Hr3.below b
  replace Hr4 := Hr4.below b
  replace Hr5 := Hr5.below b
  replace Hr6 := Hr6.below b
  replace Hr7 := Hr7.below b
  replace Hr8 := Hr8.below b
  replace K2 := K2.below' b
  clear b
  refine ⟨hS, ?_⟩
  refine wpAnyZ_one (i := 9) (by kernel_rfl) ?_
  unfold wpOp
  go_simp
  left
  refine (radd_v _ _ X2 Y2 E9 _ hx2 hy2 HE9.out).mono ?_
  rintro e v10 ⟨r10, rfl, Hr10, b⟩
  replace hB := hB.trans (b.mono hB.size)
  replace hS := hS.below b
  replace hx1 := hx1.below b
  replace hy1 := hy1.below b
  replace hz1 := hz1.below b
  replace hx2 := hx2.below b
  replace hy2 := hy2.below b
  replace hz2 := hz2.below b
  replace hdv := hdv.below b
  replace Hr1 := Hr1.below b
  replace Hr2 := Hr2.below b
  replace Hr3 := Hr3.below b
  replace Hr4 := Hr4.below b
  replace Hr5 := Hr5.below b
  replace Hr6 := Hr6.below b
  replace Hr7 := Hr7.below b
  replace Hr8 := Hr8.below b
  replace Hr9 := Hr9.below b
  replace K2 := K2.below' b
  clear b
  refine ⟨hS, ?_⟩
  refine wpAnyZ_one (i := 10) (by kernel_rfl) ?_
  unfold wpOp
  go_simp
  left
  refine (rmul_v _ _ E8 E9 E10 _ Hr9 Hr10 HE10.out).mono ?_
  rintro e v11 ⟨r11, rfl, Hr11, b⟩
  replace hB := hB.trans (b.mono hB.size)
  replace hS := hS.below b
  replace hx1 := hx1.below b
  replace hy1 := hy1.below b
  replace hz1 := hz1.below b
  replace hx2 := hx2.below b
  replace hy2 := hy2.below b
  replace hz2 := hz2.below b
  replace hdv := hdv.below b
  replace Hr1 := Hr1.below b
  replace Hr2 := Hr2.below b
  replace Hr3 := Hr3.below b
  replace Hr4 := Hr4.below b
  replace Hr5 := Hr5.below b
  replace Hr6 := Hr6.below b
  replace Hr7 := Hr7.below b
  replace Hr8 := Hr8.below b
  replace Hr9 := Hr9.below b
  replace Hr10 := Hr10.below b
  replace K2 := K2.below' b
  clear b
  refine ⟨hS, ?_⟩
  refine wpAnyZ_one (i := 12) (by kernel_rfl) ?_
  unfold wpOp
  go_simp
  left
  refine (rsub_v _ _ E10 E2 E11 _ Hr11 Hr3 lE2 HE11.out).mono ?_
  rintro e v12 ⟨r12, rfl, Hr12, b⟩
  replace hB := hB.trans (b.mono hB.size)
  replace hS := hS.below b
  replace hx1 := hx1.below b
  replace hy1 := hy1.below b
  replace hz1 := hz1.below b
  replace hx2 := hx2.below b
  replace hy2 := hy2.below b
  replace hz2 := hz2.below b
  replace hdv := hdv.below b
  replace Hr1 := Hr1.below b
  replace Hr2 := Hr2.below b
  replace Hr3 := Hr3.below b
  replace Hr4 := Hr4.below b
  replace Hr5 := Hr5.below b
  replace Hr6 := Hr6.below b
  replace Hr7 := Hr7.below b
  replace Hr8 := Hr8.below b
  replace Hr9 := Hr9.below b
  replace Hr10 := Hr10.below b
  replace Hr11 := Hr11.below b
  replace K2 := K2.below' b
  clear b
  refine ⟨hS, ?_⟩
  refine wpAnyZ_one (i := 14) (by kernel_rfl) ?_
  unfold wpOp
  go_simp
  left
  refine (rsub_v _ _ E11 E3 E12 _ Hr12 Hr4 lE3 HE12.out).mono ?_
  rintro e v13 ⟨r13, rfl, Hr13, b⟩
  replace hB := hB.trans (b.mono hB.size)
  replace hS := hS.below b
  replace hx1 := hx1.below b
  replace hy1 := hy1.below b
  replace hz1 := hz1.below b
  replace hx2 := hx2.below b
  replace hy2 := hy2.below b
  replace hz2 := hz2.below b
  replace hdv := hdv.below b
  replace Hr1 := Hr1.below b
  replace Hr2 := Hr2.below b
  replace Hr3 := Hr3.below b
  replace Hr4 := Hr4.below b
  replace Hr5 := Hr5.below b
  replace Hr6 := Hr6.below b
  replace Hr7 := Hr7.below b
  replace Hr8 := Hr8.below b
  replace Hr9 := Hr9.below b
  replace Hr10 := Hr10.below b
  replace Hr11 := Hr11.below b
  replace Hr12 := Hr12.below b
  replace K2 := K2.below' b
  clear b
  refine ⟨hS, ?_⟩
  refine wpAnyZ_one (i := 15) (by kernel_rfl) ?_
  unfold wpOp
  go_simp
  left
  refine wpAnyZ_done (by kernel_rfl) ?_ _
  go_upto_region 8 with fail
  refine wp_region_seq ?_
  refine wpSeq_yield (S := Facts [.blk (w.heap.size) 42 (Rc r), .blk (w.heap.size + 1) 42 (Rc s)]) (yieldsIf_move rfl _ rfl _ rfl) hS ?_
  simp only [Act.put, List.setIfInBounds_toArray, List.set_cons_zero, List.set_cons_succ]
  refine wpSeq_yield (S := Facts [.blk (w.heap.size) 42 (Rc r), .blk (w.heap.size + 1) 42 (Rc s)]) (yieldsIf_move rfl _ rfl _ rfl) hS ?_
  simp only [Act.put, List.setIfInBounds_toArray, List.set_cons_zero, List.set_cons_succ]
  refine wpSeq_wp rfl ?_
  go_simp
  refine (rmul_v _ _ E0 E6 E13 _ Hr1 Hr7 HE13.out).mono ?_
  rintro e v14 ⟨r14, rfl, Hr14, b⟩
  replace hB := hB.trans (b.mono hB.size)
  replace hS := hS.below b
  replace hx1 := hx1.below b
  replace hy1 := hy1.below b
  replace hz1 := hz1.below b
  replace hx2 := hx2.below b
  replace hy2 := hy2.below b
  replace hz2 := hz2.below b
  replace hdv := hdv.below b
  replace Hr1 := Hr1.below b
  replace Hr2 := Hr2.below b
  replace Hr3 := Hr3.below b
  replace Hr4 := Hr4.below b
  replace Hr5 := Hr5.below b
  replace Hr6 := Hr6.below b
  replace Hr7 := Hr7.below b
  replace Hr8 := Hr8.below b
  replace Hr9 := Hr9.below b
  replace Hr10 := Hr10.below b
  replace Hr11 := Hr11.below b
  replace Hr12 := Hr12.below b
  replace Hr13 := Hr13.below b
  replace K2 := K2.below' b
  clear b
  show wpSeq _ _ _ _ _ _
  refine wpSeq_yield (S := Facts [.blk (w.heap.size) 42 (Rc r), .blk (w.heap.size + 1) 42 (Rc s)]) (yieldsIf_move rfl _ rfl _ rfl) hS ?_
  simp only [Act.put, List.setIfInBounds_toArray, List.set_cons_zero, List.set_cons_succ]
  refine wpSeq_wp rfl ?_
  go_simp
  refine (rmul_v _ _ E13 E12 E14 _ Hr14 Hr13 HE14.out).mono ?_
  rintro e v15 ⟨r15, rfl, Hr15, b⟩
  replace hB := hB.trans (b.mono hB.size)
  replace hS := hS.below b
  replace hx1 := hx1.below b
  replace hy1 := hy1.below b
  replace hz1 := hz1.below b
  replace hx2 := hx2.below b
  replace hy2 := hy2.below b
  replace hz2 := hz2.below b
  replace hdv := hdv.below b
  replace Hr1 := Hr1.below b
  replace Hr2 := Hr2.below b
  replace Hr3 := Hr3.below b
  replace Hr4 := Hr4.below b
  replace Hr5 := Hr5.below b
  replace Hr6 := Hr6.below b
  replace Hr7 := Hr7.below b
  replace Hr8 := Hr8.below b
  replace Hr9 := Hr9.below b
  replace Hr10 := Hr10.below b
  replace Hr11 := Hr11.below b
  replace Hr12 := Hr12.below b
  replace Hr13 := Hr13.below b
  replace Hr14 := Hr14.below b
  replace K2 := K2.below' b
  clear b
  show wpSeq _ _ _ _ _ _
  refine wpSeq_yield (S := Facts [.blk (w.heap.size) 42 (Rc r), .blk (w.heap.size + 1) 42 (Rc s)]) (yieldsIf_move rfl _ rfl _ rfl) hS ?_
  simp only [Act.put, List.setIfInBounds_toArray, List.set_cons_zero, List.set_cons_succ]
  refine wpSeq_yield (S := Facts [.blk (w.heap.size) 42 (Rc r), .blk (w.heap.size + 1) 42 (Rc s)]) (yieldsIf_move rfl _ rfl _ rfl) hS ?_
  simp only [Act.put, List.setIfInBounds_toArray, List.set_cons_zero, List.set_cons_succ]
  refine wpSeq_wp rfl ?_
  go_simp
  refine (rmul_v _ _ E0 E7 E15 _ Hr1 Hr8 HE15.out).mono ?_
  rintro e v16 ⟨r16, rfl, Hr16, b⟩
  replace hB := hB.trans (b.mono hB.size)
  replace hS := hS.below b
  replace hx1 := hx1.below b
  replace hy1 := hy1.below b
  replace hz1 := hz1.below b
  replace hx2 := hx2.below b
  replace hy2 := hy2.below b
  replace hz2 := hz2.below b
  replace hdv := hdv.below b
  replace Hr1 := Hr1.below b
  replace Hr2 := Hr2.below b
  replace Hr3 := Hr3.below b
  replace Hr4 := Hr4.below b
  replace Hr5 := Hr5.below b
  replace Hr6 := Hr6.below b
  replace Hr7 := Hr7.below b
  replace Hr8 := Hr8.below b
  replace Hr9 := Hr9.below b
  replace Hr10 := Hr10.below b
  replace Hr11 := Hr11.below b
  replace Hr12 := Hr12.below b
  replace Hr13 := Hr13.below b
  replace Hr14 := Hr14.below b
  replace Hr15 := Hr15.below b
  replace K2 := K2.below' b
  clear b
  show wpSeq _ _ _ _ _ _
  refine wpSeq_yield (S := Facts [.blk (w.heap.size) 42 (Rc r), .blk (w.heap.size + 1) 42 (Rc s)]) (yieldsIf_move rfl _ rfl _ rfl) hS ?_
  simp only [Act.put, List.setIfInBounds_toArray, List.set_cons_zero, List.set_cons_succ]
  refine wpSeq_yield (S := Facts [.blk (w.heap.size) 42 (Rc r), .blk (w.heap.size + 1) 42 (Rc s)]) (yieldsIf_move rfl _ rfl _ rfl) hS ?_
  simp only [Act.put, List.setIfInBounds_toArray, List.set_cons_zero, List.set_cons_succ]
  refine wpSeq_wp rfl ?_
  go_simp
  refine (radd_v _ _ E3 E2 E16 _ Hr4 Hr3 HE16.out).mono ?_
  rintro e v17 ⟨r17, rfl, Hr17, b⟩
  replace hB := hB.trans (b.mono hB.size)
  replace hS := hS.below b
  replace hx1 := hx1.below b
  replace hy1 := hy1.below b
  replace hz1 := hz1.below b
  replace hx2 := hx2.below b
  replace hy2 := hy2.below b
  replace hz2 := hz2.below b
  replace hdv := hdv.below b
  replace Hr1 := Hr1.below b
  replace Hr2 := Hr2.below b
  replace Hr3 := Hr3.below b
  replace Hr4 := Hr4.below b
  replace Hr5 := Hr5.below b
  replace Hr6 := Hr6.below b
  replace Hr7 := Hr7.below b
  replace Hr8 := Hr8.below b
  replace Hr9 := Hr9.below b
  replace Hr10 := Hr10.below b
  replace Hr11 := Hr11.below b
  replace Hr12 := Hr12.below b
  replace Hr13 := Hr13.below b
  replace Hr14 := Hr14.below b
  replace Hr15 := Hr15.below b
  replace Hr16 := Hr16.below b
  replace K2 := K2.below' b
  clear b
  show wpSeq _ _ _ _ _ _
  refine wpSeq_wp rfl ?_
  go_simp
  refine (rmul_v _ _ E15 E16 E17 _ Hr16 Hr17 HE17.out).mono ?_
  rintro e v18 ⟨r18, rfl, Hr18, b⟩
  replace hB := hB.trans (b.mono hB.size)
  replace hS := hS.below b
  replace hx1 := hx1.below b
  replace hy1 := hy1.below b
  replace hz1 := hz1.below b
  replace hx2 := hx2.below b
  replace hy2 := hy2.below b
  replace hz2 := hz2.below b
  replace hdv := hdv.below b
  replace Hr1 := Hr1.below b
  replace Hr2 := Hr2.below b
  replace Hr3 := Hr3.below b
  replace Hr4 := Hr4.below b
  replace Hr5 := Hr5.below b
  replace Hr6 := Hr6.below b
  replace Hr7 := Hr7.below b
  replace Hr8 := Hr8.below b
  replace Hr9 := Hr9.below b
  replace Hr10 := Hr10.below b
  replace Hr11 := Hr11.below b
  replace Hr12 := Hr12.below b
  replace Hr13 := Hr13.below b
  replace Hr14 := Hr14.below b
  replace Hr15 := Hr15.below b
  replace Hr16 := Hr16.below b
  replace Hr17 := Hr17.below b
  replace K2 := K2.below' b
  clear b
  show wpSeq _ _ _ _ _ _
  refine wpSeq_yield (S := Facts [.blk (w.heap.size) 42 (Rc r), .blk (w.heap.size + 1) 42 (Rc s)]) (yieldsIf_move rfl _ rfl _ rfl) hS ?_
  simp only [Act.put, List.setIfInBounds_toArray, List.set_cons_zero, List.set_cons_succ]
  refine wpSeq_yield (S := Facts [.blk (w.heap.size) 42 (Rc r), .blk (w.heap.size + 1) 42 (Rc s)]) (yieldsIf_move rfl _ rfl _ rfl) hS ?_
  simp only [Act.put, List.setIfInBounds_toArray, List.set_cons_zero, List.set_cons_succ]
  refine wpSeq_wp rfl ?_
  go_simp
  refine (rmul_v _ _ E6 E7 E18 _ Hr7 Hr8 HE18.out).mono ?_
  rintro e v19 ⟨r19, rfl, Hr19, b⟩
  replace hB := hB.trans (b.mono hB.size)
  replace hS := hS.below b
  replace hx1 := hx1.below b
  replace hy1 := hy1.below b
  replace hz1 := hz1.below b
  replace hx2 := hx2.below b
  replace hy2 := hy2.below b
  replace hz2 := hz2.below b
  replace hdv := hdv.below b
  replace Hr1 := Hr1.below b
  replace Hr2 := Hr2.below b
  replace Hr3 := Hr3.below b
  replace Hr4 := Hr4.below b
  replace Hr5 := Hr5.below b
  replace Hr6 := Hr6.below b
  replace Hr7 := Hr7.below b
  replace Hr8 := Hr8.below b
  replace Hr9 := Hr9.below b
  replace Hr10 := Hr10.below b
  replace Hr11 := Hr11.below b
  replace Hr12 := Hr12.below b
  replace Hr13 := Hr13.below b
  replace Hr14 := Hr14.below b
  replace Hr15 := Hr15.below b
  replace Hr16 := Hr16.below b
  replace Hr17 := Hr17.below b
  replace Hr18 := Hr18.below b
  replace K2 := K2.below' b
  clear b
  show wpSeq _ _ _ _ _ _
  refine wpSeq_yield (S := Facts [.blk (w.heap.size) 42 (Rc r), .blk (w.heap.size + 1) 42 (Rc s)]) (show YieldsIf _ _ _ _ (RW ⟨r15, r18, r19⟩) _ from yieldsIf_r3 rfl _ _ _ rfl rfl rfl rfl Hr15.sl Hr18.sl Hr19.sl) hS ?_
  simp only [Act.put, List.setIfInBounds_toArray, List.set_cons_zero, List.set_cons_succ]
  refine wpSeq_store_row rfl 42 _ _ rfl (w.heap.size + 1 + 1) (Rc ⟨r15, r18, r19⟩) rfl rfl _ _ K2 (info_Rc _) rfl (Rc_one3 Hr15.sl Hr18.sl Hr19.sl) ?_
  try simp only [Act.put, List.setIfInBounds_toArray, List.set_cons_zero, List.set_cons_succ]
  replace hx1 := hx1.away K2 zR_not32 (Rc ⟨r15, r18, r19⟩)
  replace hy1 := hy1.away K2 zR_not32 (Rc ⟨r15, r18, r19⟩)
  replace hz1 := hz1.away K2 zR_not32 (Rc ⟨r15, r18, r19⟩)
  replace hx2 := hx2.away K2 zR_not32 (Rc ⟨r15, r18, r19⟩)
  replace hy2 := hy2.away K2 zR_not32 (Rc ⟨r15, r18, r19⟩)
  replace hz2 := hz2.away K2 zR_not32 (Rc ⟨r15, r18, r19⟩)
  replace hdv := hdv.away K2 zR_not32 (Rc ⟨r15, r18, r19⟩)
  replace Hr1 := Hr1.away K2 zR_not32 (Rc ⟨r15, r18, r19⟩)
  replace Hr2 := Hr2.away K2 zR_not32 (Rc ⟨r15, r18, r19⟩)
  replace Hr3 := Hr3.away K2 zR_not32 (Rc ⟨r15, r18, r19⟩)
  replace Hr4 := Hr4.away K2 zR_not32 (Rc ⟨r15, r18, r19⟩)
  replace Hr5 := Hr5.away K2 zR_not32 (Rc ⟨r15, r18, r19⟩)
  replace Hr6 := Hr6.away K2 zR_not32 (Rc ⟨r15, r18, r19⟩)
  replace Hr7 := Hr7.away K2 zR_not32 (Rc ⟨r15, r18, r19⟩)
  replace Hr8 := Hr8.away K2 zR_not32 (Rc ⟨r15, r18, r19⟩)
  replace Hr9 := Hr9.away K2 zR_not32 (Rc ⟨r15, r18, r19⟩)
  replace Hr10 := Hr10.away K2 zR_not32 (Rc ⟨r15, r18, r19⟩)
  replace Hr11 := Hr11.away K2 zR_not32 (Rc ⟨r15, r18, r19⟩)
  replace Hr12 := Hr12.away K2 zR_not32 (Rc ⟨r15, r18, r19⟩)
  replace Hr13 := Hr13.away K2 zR_not32 (Rc ⟨r15, r18, r19⟩)
  replace Hr14 := Hr14.away K2 zR_not32 (Rc ⟨r15, r18, r19⟩)
  replace Hr15 := Hr15.away K2 zR_not32 (Rc ⟨r15, r18, r19⟩)
  replace Hr16 := Hr16.away K2 zR_not32 (Rc ⟨r15, r18, r19⟩)
  replace Hr17 := Hr17.away K2 zR_not32 (Rc ⟨r15, r18, r19⟩)
  replace Hr18 := Hr18.away K2 zR_not32 (Rc ⟨r15, r18, r19⟩)
  replace Hr19 := Hr19.away K2 zR_not32 (Rc ⟨r15, r18, r19⟩)
  replace hB := below_setRow hB (g := w.heap.size + 1 + 1) (by omega) (Rc ⟨r15, r18, r19⟩)
  replace hS : Facts [.blk (w.heap.size) 42 (Rc r), .blk (w.heap.size + 1) 42 (Rc s)] _ := Facts.cons (f := .blk (w.heap.size) 42 (Rc r)) ((hS.blkAt (w.heap.size) 42 (Rc r) (.head _)).rowFar (k := w.heap.size + 1 + 1) (by omega) (Rc ⟨r15, r18, r19⟩)) (Facts.cons (f := .blk (w.heap.size + 1) 42 (Rc s)) ((hS.blkAt (w.heap.size + 1) 42 (Rc s) (.tail _ (.head _))).rowFar (k := w.heap.size + 1 + 1) (by omega) (Rc ⟨r15, r18, r19⟩)) (Facts.nil))
  replace K2 := K2.row (Rc ⟨r15, r18, r19⟩)
  generalize hWn : World.setRow _ _ _ = Wn at *
  clear hWn
  refine wpSeq_nil ?_
  obtain ⟨j0, jx, jy⟩ := join_is a0 ax ay b0 bx bY
  have ez : fm (jF X1 Y1 Z1 X2 Y2 Z2) (jG X1 Y1 Z1 X2 Y2 Z2) = E18 := by simp only [jF, jG, jA, jK, fm, fs, fa, HE0.out, HE1.out, HE2.out, HE3.out, HE4.out, HE5.out, HE6.out, HE7.out, HE8.out, HE9.out, HE10.out, HE11.out, HE12.out, HE13.out, HE14.out, HE15.out, HE16.out, HE17.out, HE18.out]
  have ex : fm (fm (jA Z1 Z2) (jF X1 Y1 Z1 X2 Y2 Z2)) (jH X1 Y1 X2 Y2) = E14 := by simp only [jF, jH, jA, jK, fm, fs, fa, HE0.out, HE1.out, HE2.out, HE3.out, HE4.out, HE5.out, HE6.out, HE7.out, HE8.out, HE9.out, HE10.out, HE11.out, HE12.out, HE13.out, HE14.out, HE15.out, HE16.out, HE17.out, HE18.out]
  have ey : fm (fm (jA Z1 Z2) (jG X1 Y1 Z1 X2 Y2 Z2)) (fa (fm Y1 Y2) (fm X1 X2)) = E17 := by simp only [jG, jA, jK, fm, fs, fa, HE0.out, HE1.out, HE2.out, HE3.out, HE4.out, HE5.out, HE6.out, HE7.out, HE8.out, HE9.out, HE10.out, HE11.out, HE12.out, HE13.out, HE14.out, HE15.out, HE16.out, HE17.out, HE18.out]
  rw [ez] at j0 jx jy
  rw [ex] at jx
  rw [ey] at jy
  go_wp2
  exact bodyPost_ret (results_cell_row rfl _ _ _ 42 _ (0, 0) _ rfl K2 Tryd.underlying42 rfl (info_Rc _)) rfl ⟨_, rfl, ⟨E14, E17, E18, Hr15, Hr18, Hr19, j0, jx, jy⟩, hB⟩
end Go.Proofs.YtjaomgildhiddaaDoor
/- The contract of the reference's Often (printed by gencurve.py). -/
namespace Go.Proofs.YtjaomgildhiddaaDoor
open Go.RowKit

open Ed
theorem byte_and1 (x s : Nat) (hx : x < 256) : bits .and .u8 ((x : Int) / 2 ^ s) 1 = (((x / 2 ^ s % 2 : Nat)) : Int) := by
  have e : (x : Int) / 2 ^ s = ((x / 2 ^ s : Nat) : Int) := by simp
  have := Nat.div_le_self x (2 ^ s)
  rw [e]
  have h := u8_and_nat (x / 2 ^ s) 1 (by omega) (by omega)
  have e1 : (x / 2 ^ s) &&& 1 = (x / 2 ^ s) % 2 := Nat.and_two_pow_sub_one_eq_mod (x / 2 ^ s) 1
  rw [e1] at h
  exact h
set_option maxHeartbeats 8000000 in
set_option maxRecDepth 100000 in
theorem roften_v (N : Nat) (hN : N < p256) (s : R3) (P : Pt dd) (w : World) (Hs : RIs w s P) :
    Calls Tryd.prog 27 #[Key (keyOf N), RW s] w fun e w' => ∃ u, e = .returned (RW u) ∧ RIs w' u (times ok N P) ∧ Below w.heap.size w w' := by
  unfold RW Key
  go_enter Tryd.func27, Tryd.ntmps27
  go_upto_region 1 with fail
  generalize hW : World.alloc (World.alloc (World.alloc w _) _) _ = W
  have hB : Below w.heap.size w W := hW ▸ (((Below.refl w.heap.size w).alloc (Nat.le_refl _) _).alloc (by simp) _).alloc (by simp; omega) _
  have K0 : Blk W (w.heap.size) 23 (Iv .u8 (keyOf N)) := hW ▸ (((Blk.new' (by simp) _ _).alloc _).alloc _)
  have K1 : Blk W (w.heap.size + 1) 42 (Rc s) := hW ▸ ((Blk.new' (by simp) _ _).alloc _)
  have K2 : Blk W (w.heap.size + 1 + 1) 42 zR := hW ▸ (Blk.new' (by simp) _ _)
  have hS : Facts [.blk (w.heap.size) 23 (Iv .u8 (keyOf N)), .blk (w.heap.size + 1) 42 (Rc s)] W := Facts.cons (f := .blk (w.heap.size) 23 (Iv .u8 (keyOf N))) K0 (Facts.cons (f := .blk (w.heap.size + 1) 42 (Rc s)) K1 (Facts.nil))
  clear hW K0 K1
  replace Hs := Hs.below hB
  refine wp_region_seq ?_
  refine wpSeq_wp rfl ?_
  go_simp
  refine (rzero_v _).mono ?_
  rintro e v1 ⟨r1, rfl, Hr1n, b⟩
  replace hB := hB.trans (b.mono hB.size)
  replace hS := hS.below b
  replace Hs := Hs.below b
  replace K2 := K2.below' b
  clear b
  have Hr1 := Hr1n
  clear Hr1n
  show wpSeq _ _ _ _ _ _
  refine wpSeq_allocQ 42 zR rfl (fun W => by go_simp; rfl) ?_
  intro B1 C1 AB1 b mB1
  simp only [Act.put, List.setIfInBounds_toArray, List.set_cons_zero, List.set_cons_succ]
  have hb := b
  clear b
  refine wpSeq_store_row rfl 42 _ _ rfl (B1) (Rc r1) rfl rfl _ _ AB1 (info_Rc _) rfl Hr1.one ?_
  try simp only [Act.put, List.setIfInBounds_toArray, List.set_cons_zero, List.set_cons_succ]
  replace AB1 := AB1.row (Rc r1)
  replace hb := below_setRow hb mB1 (Rc r1)
  generalize hWn : World.setRow _ _ _ = Wn at *
  clear hWn
  have eB1_1 := Nat.lt_of_lt_of_le (hS.blkAt (w.heap.size + 1) 42 (Rc s) (.tail _ (.head _))).lt mB1
  have uB1_K2 := Nat.lt_of_lt_of_le K2.lt mB1
  replace mB1 := Nat.le_trans hB.size mB1
  replace hB := hB.trans (hb.mono hB.size)
  replace hS := hS.below hb
  replace Hs := Hs.below hb
  replace Hr1 := Hr1.below hb
  replace K2 := K2.below' hb
  clear hb
  replace hS : Facts [.blk (B1) 42 (Rc r1), .blk (w.heap.size) 23 (Iv .u8 (keyOf N)), .blk (w.heap.size + 1) 42 (Rc s)] _ := Facts.cons (f := .blk B1 42 (Rc r1)) AB1 hS
  clear AB1
  refine wpSeq_nil ?_
  go_upto_region 2 with fail
  refine wp_region_seq ?_
  refine wpSeq_wp rfl ?_
  go_simp
  refine (rd_v _).mono ?_
  rintro e v2 ⟨r2, rfl, Hr2, b⟩
  replace hB := hB.trans (b.mono hB.size)
  replace hS := hS.below b
  replace Hs := Hs.below b
  replace Hr1 := Hr1.below b
  replace K2 := K2.below' b
  clear b
  show wpSeq _ _ _ _ _ _
  refine wpSeq_yield (S := Facts [.blk (B1) 42 (Rc r1), .blk (w.heap.size) 23 (Iv .u8 (keyOf N)), .blk (w.heap.size + 1) 42 (Rc s)]) (yieldsIf_assign rfl _ rfl r2 rfl) hS ?_
  simp only [Act.put, List.setIfInBounds_toArray, List.set_cons_zero, List.set_cons_succ]
  refine wpSeq_nil ?_
  generalize r2 = dv at *
  have hdv := Hr2
  clear Hr2
  go_upto_region 3 with fail
  go_wp2_with fail
  go_loopw [7] (fun i wr => ∃ k : Nat, k ≤ 256 ∧ i = .int .i64 ((k : Int) - 1) ∧ Below w.heap.size w wr ∧ Blk wr (w.heap.size + 1 + 1) 42 zR ∧ LongIs wr dv dN ∧ RIs wr s P ∧ ∃ r, RIs wr r (times ok (N / 2 ^ k) P) ∧ Facts [.blk (B1) 42 (Rc r), .blk (w.heap.size) 23 (Iv .u8 (keyOf N)), .blk (w.heap.size + 1) 42 (Rc s)] wr) (fun i _ => (intOf i + 1).toNat)
  case atStart => exact ⟨256, by omega, rfl, hB, K2, hdv, Hs, _, by rw [Nat.div_eq_of_lt (by rw [show (2 ^ 256 : Nat) = p256 by decide +kernel]; exact hN)]; exact Hr1, hS⟩
  case round =>
    clear Hr1 hS hB K2 hdv Hs
    obtain ⟨k, hk, rfl, hB, K2, hdv, Hs, r, Hr, hS⟩ := hrel
    by_cases h0 : k = 0
    · subst h0
      rw [Nat.pow_zero, Nat.div_one] at Hr
      go_upto_region 9 with fail
      refine wp_region_seq ?_
      refine wpSeq_yield (S := Facts [.blk (B1) 42 (Rc r), .blk (w.heap.size) 23 (Iv .u8 (keyOf N)), .blk (w.heap.size + 1) 42 (Rc s)]) (show YieldsIf _ _ _ _ (RW r) _ from yieldsIf_load rfl 42 _ rfl (B1) rfl 42 _ _ (.head _) Tryd.underlying42 rfl (info_Rc _)) hS ?_
      simp only [Act.put, List.setIfInBounds_toArray, List.set_cons_zero, List.set_cons_succ]
      refine wpSeq_store_row rfl 42 _ _ rfl (w.heap.size + 1 + 1) (Rc r) rfl rfl _ _ K2 (info_Rc _) rfl Hr.one ?_
      try simp only [Act.put, List.setIfInBounds_toArray, List.set_cons_zero, List.set_cons_succ]
      replace Hr := Hr.away K2 zR_not32 (Rc r)
      replace Hs := Hs.away K2 zR_not32 (Rc r)
      replace hdv := hdv.away K2 zR_not32 (Rc r)
      replace hB := below_setRow hB (g := w.heap.size + 1 + 1) (by omega) (Rc r)
      replace hS : Facts [.blk (B1) 42 (Rc r), .blk (w.heap.size) 23 (Iv .u8 (keyOf N)), .blk (w.heap.size + 1) 42 (Rc s)] _ := Facts.cons (f := .blk (B1) 42 (Rc r)) ((hS.blkAt (B1) 42 (Rc r) (.head _)).rowFar (k := w.heap.size + 1 + 1) (by omega) (Rc r)) (Facts.cons (f := .blk (w.heap.size) 23 (Iv .u8 (keyOf N))) ((hS.blkAt (w.heap.size) 23 (Iv .u8 (keyOf N)) (.tail _ (.head _))).rowFar (k := w.heap.size + 1 + 1) (blk_ne (hS.blkAt (w.heap.size) 23 (Iv .u8 (keyOf N)) (.tail _ (.head _))) K2 (by decide)) (Rc r)) (Facts.cons (f := .blk (w.heap.size + 1) 42 (Rc s)) ((hS.blkAt (w.heap.size + 1) 42 (Rc s) (.tail _ (.tail _ (.head _)))).rowFar (k := w.heap.size + 1 + 1) (by omega) (Rc r)) (Facts.nil)))
      replace K2 := K2.row (Rc r)
      generalize hWn : World.setRow _ _ _ = Wn at *
      clear hWn
      refine wpSeq_nil ?_
      go_wp2
      exact bodyPost_ret (results_cell_row rfl _ _ _ 42 _ (0, 0) _ rfl K2 Tryd.underlying42 rfl (info_Rc _)) rfl ⟨_, rfl, Hr, hB⟩
    · obtain ⟨j, rfl⟩ : ∃ j, k = j + 1 := ⟨k - 1, by omega⟩
      have e0 : ((j + 1 : Nat) : Int) - 1 = (j : Int) := by omega
      rw [e0]
      have hj256 : j < 256 := by omega
      obtain ⟨P2, hP2⟩ : ∃ Q : Pt dd, Q = times ok (N / 2 ^ (j + 1)) P := ⟨_, rfl⟩
      rw [← hP2] at Hr
      have hd2 : N / 2 ^ (j + 1) = N / 2 ^ j / 2 := by rw [Nat.pow_succ, Nat.div_div_eq_div_mul]
      rw [hd2] at hP2
      have hl := keyOf_bytes N
      have hbm := leTo_bit (byteAt N) hl.lt 32 j (by omega)
      rw [leTo_byteAt32 hN] at hbm
      have eb := byte_and1 (byteAt N (j / 8)) (j % 8) (hl.lt _)
      rw [hbm] at eb
      have nOdd : N / 2 ^ j % 2 = 1 → add ok (add ok P2 P2) P = times ok (N / 2 ^ j) P := fun h => by
        rw [hP2, times_even]
        show times ok (2 * (N / 2 ^ j / 2) + 1) P = _
        congr 1
        omega
      have nEven : ¬ N / 2 ^ j % 2 = 1 → add ok P2 P2 = times ok (N / 2 ^ j) P := fun h => by
        rw [hP2, times_even]
        congr 1
        omega
      clear hbm hl hP2 hd2 h0
      have HO := Lib.hid nOdd
      have HE := Lib.hid nEven
      clear nOdd nEven
      have i1 : (0 : Int) ≤ (j : Int) := by omega
      have i2 : (j : Int) < 256 := by omega
      have i3 : (0 : Int) ≤ (j : Int) / 8 := by omega
      have i4 : (j : Int) / 8 < 32 := by omega
      have i5 : ((j : Int) / 8).toNat = j / 8 := by omega
      have i6 : IntKind.i64.wrap ((j : Int) / 8) = (j : Int) / 8 := by rw [IntKind.wrap_i64]; omega
      have i7 : IntKind.i64.wrap ((j : Int) % 8) = (j : Int) % 8 := by rw [IntKind.wrap_i64]; omega
      have i8 : (0 : Int) ≤ (j : Int) % 8 := by omega
      have i9 : ((j : Int)).tmod 8 = (j : Int) % 8 := Int.tmod_eq_emod_of_nonneg i1
      have j1 : ((j : Int) % 8).toNat = j % 8 := by omega
      have j2 : min (j % 8) 8 = j % 8 := by omega
      go_upto_region 6 with fail
      refine wp_region_seq ?_
      refine wpSeq_yield (S := Facts [.blk (B1) 42 (Rc r), .blk (w.heap.size) 23 (Iv .u8 (keyOf N)), .blk (w.heap.size + 1) 42 (Rc s)]) (show YieldsIf _ _ _ _ (RW r) _ from yieldsIf_load rfl 42 _ rfl (B1) rfl 42 _ _ (.head _) Tryd.underlying42 rfl (info_Rc _)) hS ?_
      simp only [Act.put, List.setIfInBounds_toArray, List.set_cons_zero, List.set_cons_succ]
      refine wpSeq_yield (S := Facts [.blk (B1) 42 (Rc r), .blk (w.heap.size) 23 (Iv .u8 (keyOf N)), .blk (w.heap.size + 1) 42 (Rc s)]) (show YieldsIf _ _ _ _ (RW r) _ from yieldsIf_load rfl 42 _ rfl (B1) rfl 42 _ _ (.head _) Tryd.underlying42 rfl (info_Rc _)) hS ?_
      simp only [Act.put, List.setIfInBounds_toArray, List.set_cons_zero, List.set_cons_succ]
      refine wpSeq_yield (S := Facts [.blk (B1) 42 (Rc r), .blk (w.heap.size) 23 (Iv .u8 (keyOf N)), .blk (w.heap.size + 1) 42 (Rc s)]) (yieldsIf_move rfl _ rfl dv rfl) hS ?_
      simp only [Act.put, List.setIfInBounds_toArray, List.set_cons_zero, List.set_cons_succ]
      refine wpSeq_wp rfl ?_
      go_simp
      refine (rjoin_v r r P2 P2 dv _ Hr Hr hdv).mono ?_
      rintro e v3 ⟨r3, rfl, Hr3n, b⟩
      replace hB := hB.trans (b.mono hB.size)
      replace hS := hS.below b
      replace Hr := Hr.below b
      replace Hs := Hs.below b
      replace hdv := hdv.below b
      replace K2 := K2.below' b
      clear b
      have Hr3 := Hr3n
      clear Hr3n
      show wpSeq _ _ _ _ _ _
      refine wpSeq_store_row rfl 42 _ _ rfl (B1) (Rc r3) rfl rfl _ _ (hS.blkAt (B1) 42 (Rc r) (.head _)) (info_Rc _) rfl Hr3.one ?_
      try simp only [Act.put, List.setIfInBounds_toArray, List.set_cons_zero, List.set_cons_succ]
      replace Hr := Hr.away (hS.blkAt (B1) 42 (Rc r) (.head _)) (Rc_not32 Hr.slx) (Rc r3)
      replace Hs := Hs.away (hS.blkAt (B1) 42 (Rc r) (.head _)) (Rc_not32 Hr.slx) (Rc r3)
      replace hdv := hdv.away (hS.blkAt (B1) 42 (Rc r) (.head _)) (Rc_not32 Hr.slx) (Rc r3)
      replace Hr3 := Hr3.away (hS.blkAt (B1) 42 (Rc r) (.head _)) (Rc_not32 Hr.slx) (Rc r3)
      replace K2 := K2.rowFar (k := B1) (by omega) (Rc r3)
      replace hB := below_setRow hB (g := B1) (by omega) (Rc r3)
      replace hS : Facts [.blk (B1) 42 (Rc r3), .blk (w.heap.size) 23 (Iv .u8 (keyOf N)), .blk (w.heap.size + 1) 42 (Rc s)] _ := Facts.cons (f := .blk (B1) 42 (Rc r3)) ((hS.blkAt (B1) 42 (Rc r) (.head _)).row _) (Facts.cons (f := .blk (w.heap.size) 23 (Iv .u8 (keyOf N))) ((hS.blkAt (w.heap.size) 23 (Iv .u8 (keyOf N)) (.tail _ (.head _))).rowFar (k := B1) (blk_ne (hS.blkAt _ _ _ (.tail _ (.head _))) (hS.blkAt _ _ _ (.head _)) (by decide)) _) (Facts.cons (f := .blk (w.heap.size + 1) 42 (Rc s)) ((hS.blkAt (w.heap.size + 1) 42 (Rc s) (.tail _ (.tail _ (.head _)))).rowFar (k := B1) (by first | omega | exact blk_ne (hS.blkAt _ _ _ (.tail _ (.tail _ (.head _)))) (hS.blkAt _ _ _ (.head _)) (by decide)) _) (Facts.nil)))
      generalize hWn : World.setRow _ _ _ = Wn at *
      clear hWn
      refine wpSeq_nil ?_
      have c1 := key_cellj (hS.blkAt (w.heap.size) 23 (Iv .u8 (keyOf N)) (.tail _ (.head _))) (j / 8) (by omega)
      clear Hr
      by_cases b1 : N / 2 ^ j % 2 = 1
      · rw [b1] at eb
        go_upto_region 8 with fail
        clear c1 eb i1 i2 i3 i4 i5 i6 i7 i8 i9 j1 j2
        refine wp_region_seq ?_
        refine wpSeq_yield (S := Facts [.blk (B1) 42 (Rc r3), .blk (w.heap.size) 23 (Iv .u8 (keyOf N)), .blk (w.heap.size + 1) 42 (Rc s)]) (show YieldsIf _ _ _ _ (RW r3) _ from yieldsIf_load rfl 42 _ rfl (B1) rfl 42 _ _ (.head _) Tryd.underlying42 rfl (info_Rc _)) hS ?_
        simp only [Act.put, List.setIfInBounds_toArray, List.set_cons_zero, List.set_cons_succ]
        refine wpSeq_yield (S := Facts [.blk (B1) 42 (Rc r3), .blk (w.heap.size) 23 (Iv .u8 (keyOf N)), .blk (w.heap.size + 1) 42 (Rc s)]) (show YieldsIf _ _ _ _ (RW s) _ from yieldsIf_load rfl 42 _ rfl (w.heap.size + 1) rfl 42 _ _ (.tail _ (.tail _ (.head _))) Tryd.underlying42 rfl (info_Rc _)) hS ?_
        simp only [Act.put, List.setIfInBounds_toArray, List.set_cons_zero, List.set_cons_succ]
        refine wpSeq_yield (S := Facts [.blk (B1) 42 (Rc r3), .blk (w.heap.size) 23 (Iv .u8 (keyOf N)), .blk (w.heap.size + 1) 42 (Rc s)]) (yieldsIf_move rfl _ rfl dv rfl) hS ?_
        simp only [Act.put, List.setIfInBounds_toArray, List.set_cons_zero, List.set_cons_succ]
        refine wpSeq_wp rfl ?_
        go_simp
        refine (rjoin_v r3 s (add ok P2 P2) P dv _ Hr3 Hs hdv).mono ?_
        rintro e v4 ⟨r4, rfl, Hr4n, b⟩
        replace hB := hB.trans (b.mono hB.size)
        replace hS := hS.below b
        replace Hs := Hs.below b
        replace hdv := hdv.below b
        replace Hr3 := Hr3.below b
        replace K2 := K2.below' b
        clear b
        have Hr4 := Hr4n
        clear Hr4n
        show wpSeq _ _ _ _ _ _
        refine wpSeq_store_row rfl 42 _ _ rfl (B1) (Rc r4) rfl rfl _ _ (hS.blkAt (B1) 42 (Rc r3) (.head _)) (info_Rc _) rfl Hr4.one ?_
        try simp only [Act.put, List.setIfInBounds_toArray, List.set_cons_zero, List.set_cons_succ]
        replace Hs := Hs.away (hS.blkAt (B1) 42 (Rc r3) (.head _)) (Rc_not32 Hr3.slx) (Rc r4)
        replace hdv := hdv.away (hS.blkAt (B1) 42 (Rc r3) (.head _)) (Rc_not32 Hr3.slx) (Rc r4)
        replace Hr3 := Hr3.away (hS.blkAt (B1) 42 (Rc r3) (.head _)) (Rc_not32 Hr3.slx) (Rc r4)
        replace Hr4 := Hr4.away (hS.blkAt (B1) 42 (Rc r3) (.head _)) (Rc_not32 Hr3.slx) (Rc r4)
        replace K2 := K2.rowFar (k := B1) (by omega) (Rc r4)
        replace hB := below_setRow hB (g := B1) (by omega) (Rc r4)
        replace hS : Facts [.blk (B1) 42 (Rc r4), .blk (w.heap.size) 23 (Iv .u8 (keyOf N)), .blk (w.heap.size + 1) 42 (Rc s)] _ := Facts.cons (f := .blk (B1) 42 (Rc r4)) ((hS.blkAt (B1) 42 (Rc r3) (.head _)).row _) (Facts.cons (f := .blk (w.heap.size) 23 (Iv .u8 (keyOf N))) ((hS.blkAt (w.heap.size) 23 (Iv .u8 (keyOf N)) (.tail _ (.head _))).rowFar (k := B1) (blk_ne (hS.blkAt _ _ _ (.tail _ (.head _))) (hS.blkAt _ _ _ (.head _)) (by decide)) _) (Facts.cons (f := .blk (w.heap.size + 1) 42 (Rc s)) ((hS.blkAt (w.heap.size + 1) 42 (Rc s) (.tail _ (.tail _ (.head _)))).rowFar (k := B1) (by first | omega | exact blk_ne (hS.blkAt _ _ _ (.tail _ (.tail _ (.head _)))) (hS.blkAt _ _ _ (.head _)) (by decide)) _) (Facts.nil)))
        generalize hWn : World.setRow _ _ _ = Wn at *
        clear hWn
        refine wpSeq_nil ?_
        have hH := Hr4
        rw [HO.out b1] at hH
        go_wp2
        exact ⟨⟨j, by omega, by go_num, hB, K2, hdv, Hs, _, hH, hS⟩, by simp [intOf]⟩
      · have b0 : N / 2 ^ j % 2 = 0 := by omega
        rw [b0] at eb
        have hH := Hr3
        rw [HE.out b1] at hH
        go_wp2
        exact ⟨⟨j, by omega, by go_num, hB, K2, hdv, Hs, _, hH, hS⟩, by simp [intOf]⟩
end Go.Proofs.YtjaomgildhiddaaDoor
/- The contract of the reference's Text (printed by gencurve.py). -/
namespace Go.Proofs.YtjaomgildhiddaaDoor
open Go.RowKit

open Ed
theorem lv_mod (f : Nat → Nat) : ∀ n, lv f (n + 1) % 65536 = f 0 % 65536
  | 0 => by simp [lv]
  | n + 1 => by
    have h := lv_mod f n
    have e : lv f (n + 1 + 1) = lv f (n + 1) + f (n + 1) * 65536 ^ (n + 1) := rfl
    rw [e, Nat.pow_succ, ← Nat.mul_assoc, Nat.add_mul_mod_self_right]
    exact h
theorem rpart0_v (v : Value) (V q : Nat) (w : World) (h : LongIs w v V) (hq : q = V % 65536) : Calls Tryd.prog 30 #[v, .int .i64 0] w fun e w' => e = .returned (.int .u32 (q : Int)) ∧ Below w.heap.size w w' := by
  obtain ⟨g, n, c, f, rfl, h1, h2, h3⟩ := h
  have e : f 0 = q := by
    rw [hq, ← h2]
    cases n with
    | zero => rw [h1.high 0 (Nat.le_refl _)]; rfl
    | succ n =>
      rw [lv_mod, Nat.mod_eq_of_lt (h1.lt 0)]
  have h := part_any g n c f 0 w h1
  rw [e] at h
  refine h.mono ?_
  rintro e w' ⟨rfl, rfl⟩
  exact ⟨rfl, Below.refl _ _⟩
theorem or_0 : ∀ n : Fin 256, bits .or .u8 (n.val : Int) 0 = (n.val : Int) := by decide +kernel
theorem F_inv2 (a : Nat) : F (pinv a) = finv (F a) := by
  have e : pinv a = pinv (a % pp) := by
    unfold pinv
    exact (mpow_mod a _).symm
  rw [e, F_inv _ (Nat.mod_lt _ pp_pos)]
  congr 1
  exact F_mod a
set_option maxHeartbeats 4000000 in
set_option maxRecDepth 100000 in
theorem rtext_odd (r : R3) (X Y Z U NX NY q16 b bv T : Nat) (w : World) (hx : LongIs w r.x X) (hy : LongIs w r.y Y) (hz : LongIs w r.z Z) (hU : U = mpow Z 57896044618658097711785492504343953926634992332820282019728792003956564819947) (hX : NX = X * U % pp) (hY : NY = Y * U % pp) (hq : q16 = NX % 65536) (h4 : bits .and .u32 (q16 : Int) 1 = 1) (hb : byteAt NY 31 = b) (hv : bits .or .u8 (b : Int) 128 = (bv : Int)) (hl : (keyOf NY).set 31 (bv : Int) = keyOf T) :
    Calls Tryd.prog 18 #[RW r] w fun e w' => e = .returned (Key (keyOf T)) ∧ Below w.heap.size w w' := by
  have HU := Lib.hid hU
  have HNX := Lib.hid hX
  have HNY := Lib.hid hY
  have HQ := Lib.hid hq
  have H4 := Lib.hid h4
  have HB := Lib.hid hb
  have HV := Lib.hid hv
  have HL := Lib.hid hl
  clear hU hX hY hq h4 hb hv hl
  unfold RW
  go_enter Tryd.func18, Tryd.ntmps18
  go_upto_region 1 with fail
  generalize hW : World.alloc (World.alloc w _) _ = W
  have hB : Below w.heap.size w W := hW ▸ ((Below.refl w.heap.size w).alloc (Nat.le_refl _) _).alloc (by simp) _
  have K0 : Blk W (w.heap.size) 42 (Rc r) := hW ▸ ((Blk.new' (by simp) _ _).alloc _)
  have K1 : Blk W (w.heap.size + 1) 23 (Iv .u8 (List.replicate 32 0)) := hW ▸ (Blk.new' (by simp) _ _)
  have hS : Facts [.blk (w.heap.size) 42 (Rc r)] W := Facts.cons (f := .blk (w.heap.size) 42 (Rc r)) K0 (Facts.nil)
  clear hW K0
  replace hx := hx.below hB
  replace hy := hy.below hB
  replace hz := hz.below hB
  refine wp_region_seq ?_
  refine wpSeq_yield (S := Facts [.blk (w.heap.size) 42 (Rc r)]) (show YieldsIf _ _ _ _ (.pointer (some ⟨w.heap.size, 2, none⟩)) _ from yieldsIf_rf2 rfl _ rfl (w.heap.size) rfl) hS ?_
  simp only [Act.put, List.setIfInBounds_toArray, List.set_cons_zero, List.set_cons_succ]
  refine wpSeq_yield (S := Facts [.blk (w.heap.size) 42 (Rc r)]) (show YieldsIf _ _ _ _ r.z _ from yieldsIf_rl2 rfl _ rfl (w.heap.size) rfl 42 r (.head _)) hS ?_
  simp only [Act.put, List.setIfInBounds_toArray, List.set_cons_zero, List.set_cons_succ]
  refine wpSeq_wp rfl ?_
  go_simp
  refine (rover_v _ Z U _ hz HU.out).mono ?_
  rintro e v1 ⟨r1, rfl, Hr1, b⟩
  replace hB := hB.trans (b.mono hB.size)
  replace hS := hS.below b
  replace hx := hx.below b
  replace hy := hy.below b
  replace hz := hz.below b
  replace K1 := K1.below' b
  clear b
  show wpSeq _ _ _ _ _ _
  refine wpSeq_yield (S := Facts [.blk (w.heap.size) 42 (Rc r)]) (yieldsIf_assign rfl _ rfl r1 rfl) hS ?_
  simp only [Act.put, List.setIfInBounds_toArray, List.set_cons_zero, List.set_cons_succ]
  refine wpSeq_nil ?_
  go_upto_region 2 with fail
  refine wp_region_seq ?_
  refine wpSeq_yield (S := Facts [.blk (w.heap.size) 42 (Rc r)]) (show YieldsIf _ _ _ _ (.pointer (some ⟨w.heap.size, 0, none⟩)) _ from yieldsIf_rf0 rfl _ rfl (w.heap.size) rfl) hS ?_
  simp only [Act.put, List.setIfInBounds_toArray, List.set_cons_zero, List.set_cons_succ]
  refine wpSeq_yield (S := Facts [.blk (w.heap.size) 42 (Rc r)]) (show YieldsIf _ _ _ _ r.x _ from yieldsIf_rl0 rfl _ rfl (w.heap.size) rfl 42 r (.head _)) hS ?_
  simp only [Act.put, List.setIfInBounds_toArray, List.set_cons_zero, List.set_cons_succ]
  refine wpSeq_yield (S := Facts [.blk (w.heap.size) 42 (Rc r)]) (yieldsIf_move rfl _ rfl r1 rfl) hS ?_
  simp only [Act.put, List.setIfInBounds_toArray, List.set_cons_zero, List.set_cons_succ]
  refine wpSeq_wp rfl ?_
  go_simp
  refine (rmul_v _ _ X U NX _ hx Hr1 HNX.out).mono ?_
  rintro e v2 ⟨r2, rfl, Hr2, b⟩
  replace hB := hB.trans (b.mono hB.size)
  replace hS := hS.below b
  replace hx := hx.below b
  replace hy := hy.below b
  replace hz := hz.below b
  replace Hr1 := Hr1.below b
  replace K1 := K1.below' b
  clear b
  show wpSeq _ _ _ _ _ _
  refine wpSeq_yield (S := Facts [.blk (w.heap.size) 42 (Rc r)]) (yieldsIf_assign rfl _ rfl r2 rfl) hS ?_
  simp only [Act.put, List.setIfInBounds_toArray, List.set_cons_zero, List.set_cons_succ]
  refine wpSeq_nil ?_
  go_upto_region 3 with fail
  refine wp_region_seq ?_
  refine wpSeq_yield (S := Facts [.blk (w.heap.size) 42 (Rc r)]) (show YieldsIf _ _ _ _ (.pointer (some ⟨w.heap.size, 1, none⟩)) _ from yieldsIf_rf1 rfl _ rfl (w.heap.size) rfl) hS ?_
  simp only [Act.put, List.setIfInBounds_toArray, List.set_cons_zero, List.set_cons_succ]
  refine wpSeq_yield (S := Facts [.blk (w.heap.size) 42 (Rc r)]) (show YieldsIf _ _ _ _ r.y _ from yieldsIf_rl1 rfl _ rfl (w.heap.size) rfl 42 r (.head _)) hS ?_
  simp only [Act.put, List.setIfInBounds_toArray, List.set_cons_zero, List.set_cons_succ]
  refine wpSeq_yield (S := Facts [.blk (w.heap.size) 42 (Rc r)]) (yieldsIf_move rfl _ rfl r1 rfl) hS ?_
  simp only [Act.put, List.setIfInBounds_toArray, List.set_cons_zero, List.set_cons_succ]
  refine wpSeq_wp rfl ?_
  go_simp
  refine (rmul_v _ _ Y U NY _ hy Hr1 HNY.out).mono ?_
  rintro e v3 ⟨r3, rfl, Hr3, b⟩
  replace hB := hB.trans (b.mono hB.size)
  replace hS := hS.below b
  replace hx := hx.below b
  replace hy := hy.below b
  replace hz := hz.below b
  replace Hr1 := Hr1.below b
  replace Hr2 := Hr2.below b
  replace K1 := K1.below' b
  clear b
  show wpSeq _ _ _ _ _ _
  refine wpSeq_wp rfl ?_
  go_simp
  refine (rkey_v _ NY _ Hr3).mono ?_
  rintro e v4 ⟨rfl, b⟩
  replace hB := hB.trans (b.mono hB.size)
  replace hS := hS.below b
  replace hx := hx.below b
  replace hy := hy.below b
  replace hz := hz.below b
  replace Hr1 := Hr1.below b
  replace Hr2 := Hr2.below b
  replace Hr3 := Hr3.below b
  replace K1 := K1.below' b
  clear b
  show wpSeq _ _ _ _ _ _
  refine wpSeq_allocQ 23 (Iv .u8 (List.replicate 32 0)) rfl (fun W => by go_simp; rfl) ?_
  intro B1 C1 AB1 b mB1
  simp only [Act.put, List.setIfInBounds_toArray, List.set_cons_zero, List.set_cons_succ]
  have hb := b
  clear b
  refine wpSeq_store_row rfl 23 _ _ rfl (B1) (Iv .u8 (keyOf NY)) rfl rfl _ _ AB1 (info_key _ (keyOf_length _)) (by rw [Iv_size, Iv_size, keyOf_length]; rfl) (Iv_one _ _) ?_
  try simp only [Act.put, List.setIfInBounds_toArray, List.set_cons_zero, List.set_cons_succ]
  replace AB1 := AB1.row (Iv .u8 (keyOf NY))
  replace hb := below_setRow hb mB1 (Iv .u8 (keyOf NY))
  generalize hWn : World.setRow _ _ _ = Wn at *
  clear hWn
  have uB1_K1 := Nat.lt_of_lt_of_le K1.lt mB1
  replace mB1 := Nat.le_trans hB.size mB1
  replace hB := hB.trans (hb.mono hB.size)
  replace hS := hS.below hb
  replace hx := hx.below hb
  replace hy := hy.below hb
  replace hz := hz.below hb
  replace Hr1 := Hr1.below hb
  replace Hr2 := Hr2.below hb
  replace Hr3 := Hr3.below hb
  replace K1 := K1.below' hb
  clear hb
  replace hS : Facts [.blk (B1) 23 (Iv .u8 (keyOf NY)), .blk (w.heap.size) 42 (Rc r)] _ := Facts.cons (f := .blk B1 23 (Iv .u8 (keyOf NY))) AB1 hS
  clear AB1
  refine wpSeq_nil ?_
  clear hx hy hz
  go_upto_region 4 with fail
  replace hS := hS.drew
  replace hB := below_drew hB
  replace Hr2 := Hr2.drew
  replace K1 := K1.drew
  refine wp_region_Z (S := Facts [.blk (B1) 23 (Iv .u8 (keyOf NY)), .blk (w.heap.size) 42 (Rc r)]) 9 (by kernel_rfl) ?_
  refine wpAnyZ_takeL 0 (v := (.pointer (some ⟨B1, 31, none⟩))) rfl (by kernel_rfl) (by kernel_rfl) (by kernel_rfl) (by kernel_rfl) (by kernel_rfl) (fun _ _ _ h => h) (Or.inl ⟨by rfl, ?_⟩) hS ?_
  · intro w' _
    go_simp
  simp only [Act.put, List.setIfInBounds_toArray, List.set_cons_zero, List.set_cons_succ]
  refine wpAnyZ_takeL 1 (v := (.int .u8 (b : Int))) rfl (by kernel_rfl) (by kernel_rfl) (by kernel_rfl) (by kernel_rfl) (by kernel_rfl) (fun _ _ _ h => h) (Or.inl ⟨by rfl, ?_⟩) hS ?_
  · intro w' hw'
    have c := key_cellj (hw'.blkAt (B1) 23 (Iv .u8 (keyOf NY)) (.head _)) 31 (by decide)
    rw [HB.out] at c
    go_simp
  simp only [Act.put, List.setIfInBounds_toArray, List.set_cons_zero, List.set_cons_succ]
  refine wpAnyZ_takeL 2 rfl (by kernel_rfl) (by kernel_rfl) (by kernel_rfl) (by kernel_rfl) (by kernel_rfl) (fun _ _ _ h => h) (yieldsIf_move rfl _ rfl r2 rfl) hS ?_
  simp only [Act.put, List.setIfInBounds_toArray, List.set_cons_zero, List.set_cons_succ]
  refine wpAnyZ_one (i := 3) (by kernel_rfl) ?_
  unfold wpOp
  go_simp
  left
  refine (rpart0_v _ NX q16 _ Hr2 HQ.out).mono ?_
  rintro e v5 ⟨rfl, b⟩
  replace hB := hB.trans (b.mono hB.size)
  replace hS := hS.below b
  replace Hr2 := Hr2.below b
  replace K1 := K1.below' b
  clear b
  refine ⟨hS, ?_⟩
  refine wpAnyZ_takeL 4 (v := (.int .u32 1)) rfl (by kernel_rfl) (by kernel_rfl) (by kernel_rfl) (by kernel_rfl) (by kernel_rfl) (fun _ _ _ h => h) (Or.inl ⟨by rfl, ?_⟩) hS ?_
  · intro w' _
    have c := H4.out
    go_simp
  simp only [Act.put, List.setIfInBounds_toArray, List.set_cons_zero, List.set_cons_succ]
  refine wpAnyZ_takeL 5 (v := (.int .u8 1)) rfl (by kernel_rfl) (by kernel_rfl) (by kernel_rfl) (by kernel_rfl) (by kernel_rfl) (fun _ _ _ h => h) (Or.inl ⟨by rfl, ?_⟩) hS ?_
  · intro w' _
    go_simp
    try rfl
  simp only [Act.put, List.setIfInBounds_toArray, List.set_cons_zero, List.set_cons_succ]
  refine wpAnyZ_takeL 6 (v := (.int .u8 128)) rfl (by kernel_rfl) (by kernel_rfl) (by kernel_rfl) (by kernel_rfl) (by kernel_rfl) (fun _ _ _ h => h) (Or.inl ⟨by rfl, ?_⟩) hS ?_
  · intro w' _
    go_simp
    try rfl
  simp only [Act.put, List.setIfInBounds_toArray, List.set_cons_zero, List.set_cons_succ]
  refine wpAnyZ_takeL 7 (v := (.int .u8 (bv : Int))) rfl (by kernel_rfl) (by kernel_rfl) (by kernel_rfl) (by kernel_rfl) (by kernel_rfl) (fun _ _ _ h => h) (Or.inl ⟨by rfl, ?_⟩) hS ?_
  · intro w' _
    have c := HV.out
    go_simp
  simp only [Act.put, List.setIfInBounds_toArray, List.set_cons_zero, List.set_cons_succ]
  refine wpAnyZ_takeL 8 (v := (.pointer (some ⟨B1, 31, none⟩))) rfl (by kernel_rfl) (by kernel_rfl) (by kernel_rfl) (by kernel_rfl) (by kernel_rfl) (fun _ _ _ h => h) (Or.inl ⟨by rfl, ?_⟩) hS ?_
  · intro w' _
    go_simp
  simp only [Act.put, List.setIfInBounds_toArray, List.set_cons_zero, List.set_cons_succ]
  have KB := hS.blkAt (B1) 23 (Iv .u8 (keyOf NY)) (.head _)
  have c0 := key_cellj KB 31 (by decide)
  have f0 := KB.frozen 31
  refine wpAnyZ_one (i := 9) (by kernel_rfl) ?_
  unfold wpOp
  go_simp
  left
  refine wpAnyZ_done (by kernel_rfl) ?_ _
  replace KB := KB.set 31 (.int .u8 (bv : Int))
  have hlt := K1.lt
  rw [Iv_set, HL.out] at KB
  replace K1 : Blk _ _ _ _ := K1.far (p := ⟨B1, 31, none⟩) (by show w.heap.size + 1 ≠ B1; omega) (.int .u8 (bv : Int))
  replace hB := hB.setCell (p := ⟨B1, 31, none⟩) (by show w.heap.size ≤ B1; omega) (.int .u8 (bv : Int))
  clear hS c0 f0 hlt
  generalize World.setCell _ _ _ = V at *
  go_wp2_with (first | (refine wpList_load_row rfl 23 _ rfl (B1) rfl 23 _ (0, 0) _ KB Tryd.underlying23 rfl (info_key _ (keyOf_length _)) ?_) | (refine wpList_store_row rfl 23 _ _ rfl (w.heap.size + 1) (Iv .u8 (keyOf T)) rfl rfl 23 _ K1 (info_key _ (keyOf_length _)) (by rw [Iv_size, Iv_size, keyOf_length]; rfl) (Iv_one _ _) ?_))
  exact bodyPost_ret (results_cell_row rfl _ _ _ 23 _ (0, 0) _ rfl (K1.row _) Tryd.underlying23 rfl (info_key _ (keyOf_length _))) rfl ⟨rfl, below_setRow hB (by omega) _⟩
set_option maxHeartbeats 4000000 in
set_option maxRecDepth 100000 in
theorem rtext_even (r : R3) (X Y Z U NX NY q16 b bv T : Nat) (w : World) (hx : LongIs w r.x X) (hy : LongIs w r.y Y) (hz : LongIs w r.z Z) (hU : U = mpow Z 57896044618658097711785492504343953926634992332820282019728792003956564819947) (hX : NX = X * U % pp) (hY : NY = Y * U % pp) (hq : q16 = NX % 65536) (h4 : bits .and .u32 (q16 : Int) 1 = 0) (hb : byteAt NY 31 = b) (hv : bits .or .u8 (b : Int) 0 = (bv : Int)) (hl : (keyOf NY).set 31 (bv : Int) = keyOf T) :
    Calls Tryd.prog 18 #[RW r] w fun e w' => e = .returned (Key (keyOf T)) ∧ Below w.heap.size w w' := by
  have HU := Lib.hid hU
  have HNX := Lib.hid hX
  have HNY := Lib.hid hY
  have HQ := Lib.hid hq
  have H4 := Lib.hid h4
  have HB := Lib.hid hb
  have HV := Lib.hid hv
  have HL := Lib.hid hl
  clear hU hX hY hq h4 hb hv hl
  unfold RW
  go_enter Tryd.func18, Tryd.ntmps18
  go_upto_region 1 with fail
  generalize hW : World.alloc (World.alloc w _) _ = W
  have hB : Below w.heap.size w W := hW ▸ ((Below.refl w.heap.size w).alloc (Nat.le_refl _) _).alloc (by simp) _
  have K0 : Blk W (w.heap.size) 42 (Rc r) := hW ▸ ((Blk.new' (by simp) _ _).alloc _)
  have K1 : Blk W (w.heap.size + 1) 23 (Iv .u8 (List.replicate 32 0)) := hW ▸ (Blk.new' (by simp) _ _)
  have hS : Facts [.blk (w.heap.size) 42 (Rc r)] W := Facts.cons (f := .blk (w.heap.size) 42 (Rc r)) K0 (Facts.nil)
  clear hW K0
  replace hx := hx.below hB
  replace hy := hy.below hB
  replace hz := hz.below hB
  refine wp_region_seq ?_
  refine wpSeq_yield (S := Facts [.blk (w.heap.size) 42 (Rc r)]) (show YieldsIf _ _ _ _ (.pointer (some ⟨w.heap.size, 2, none⟩)) _ from yieldsIf_rf2 rfl _ rfl (w.heap.size) rfl) hS ?_
  simp only [Act.put, List.setIfInBounds_toArray, List.set_cons_zero, List.set_cons_succ]
  refine wpSeq_yield (S := Facts [.blk (w.heap.size) 42 (Rc r)]) (show YieldsIf _ _ _ _ r.z _ from yieldsIf_rl2 rfl _ rfl (w.heap.size) rfl 42 r (.head _)) hS ?_
  simp only [Act.put, List.setIfInBounds_toArray, List.set_cons_zero, List.set_cons_succ]
  refine wpSeq_wp rfl ?_
  go_simp
  refine (rover_v _ Z U _ hz HU.out).mono ?_
  rintro e v1 ⟨r1, rfl, Hr1, b⟩
  replace hB := hB.trans (b.mono hB.size)
  replace hS := hS.below b
  replace hx := hx.below b
  replace hy := hy.below b
  replace hz := hz.below b
  replace K1 := K1.below' b
  clear b
  show wpSeq _ _ _ _ _ _
  refine wpSeq_yield (S := Facts [.blk (w.heap.size) 42 (Rc r)]) (yieldsIf_assign rfl _ rfl r1 rfl) hS ?_
  simp only [Act.put, List.setIfInBounds_toArray, List.set_cons_zero, List.set_cons_succ]
  refine wpSeq_nil ?_
  go_upto_region 2 with fail
  refine wp_region_seq ?_
  refine wpSeq_yield (S := Facts [.blk (w.heap.size) 42 (Rc r)]) (show YieldsIf _ _ _ _ (.pointer (some ⟨w.heap.size, 0, none⟩)) _ from yieldsIf_rf0 rfl _ rfl (w.heap.size) rfl) hS ?_
  simp only [Act.put, List.setIfInBounds_toArray, List.set_cons_zero, List.set_cons_succ]
  refine wpSeq_yield (S := Facts [.blk (w.heap.size) 42 (Rc r)]) (show YieldsIf _ _ _ _ r.x _ from yieldsIf_rl0 rfl _ rfl (w.heap.size) rfl 42 r (.head _)) hS ?_
  simp only [Act.put, List.setIfInBounds_toArray, List.set_cons_zero, List.set_cons_succ]
  refine wpSeq_yield (S := Facts [.blk (w.heap.size) 42 (Rc r)]) (yieldsIf_move rfl _ rfl r1 rfl) hS ?_
  simp only [Act.put, List.setIfInBounds_toArray, List.set_cons_zero, List.set_cons_succ]
  refine wpSeq_wp rfl ?_
  go_simp
  refine (rmul_v _ _ X U NX _ hx Hr1 HNX.out).mono ?_
  rintro e v2 ⟨r2, rfl, Hr2, b⟩
  replace hB := hB.trans (b.mono hB.size)
  replace hS := hS.below b
  replace hx := hx.below b
  replace hy := hy.below b
  replace hz := hz.below b
  replace Hr1 := Hr1.below b
  replace K1 := K1.below' b
  clear b
  show wpSeq _ _ _ _ _ _
  refine wpSeq_yield (S := Facts [.blk (w.heap.size) 42 (Rc r)]) (yieldsIf_assign rfl _ rfl r2 rfl) hS ?_
  simp only [Act.put, List.setIfInBounds_toArray, List.set_cons_zero, List.set_cons_succ]
  refine wpSeq_nil ?_
  go_upto_region 3 with fail
  refine wp_region_seq ?_
  refine wpSeq_yield (S := Facts [.blk (w.heap.size) 42 (Rc r)]) (show YieldsIf _ _ _ _ (.pointer (some ⟨w.heap.size, 1, none⟩)) _ from yieldsIf_rf1 rfl _ rfl (w.heap.size) rfl) hS ?_
  simp only [Act.put, List.setIfInBounds_toArray, List.set_cons_zero, List.set_cons_succ]
  refine wpSeq_yield (S := Facts [.blk (w.heap.size) 42 (Rc r)]) (show YieldsIf _ _ _ _ r.y _ from yieldsIf_rl1 rfl _ rfl (w.heap.size) rfl 42 r (.head _)) hS ?_
  simp only [Act.put, List.setIfInBounds_toArray, List.set_cons_zero, List.set_cons_succ]
  refine wpSeq_yield (S := Facts [.blk (w.heap.size) 42 (Rc r)]) (yieldsIf_move rfl _ rfl r1 rfl) hS ?_
  simp only [Act.put, List.setIfInBounds_toArray, List.set_cons_zero, List.set_cons_succ]
  refine wpSeq_wp rfl ?_
  go_simp
  refine (rmul_v _ _ Y U NY _ hy Hr1 HNY.out).mono ?_
  rintro e v3 ⟨r3, rfl, Hr3, b⟩
  replace hB := hB.trans (b.mono hB.size)
  replace hS := hS.below b
  replace hx := hx.below b
  replace hy := hy.below b
  replace hz := hz.below b
  replace Hr1 := Hr1.below b
  replace Hr2 := Hr2.below b
  replace K1 := K1.below' b
  clear b
  show wpSeq _ _ _ _ _ _
  refine wpSeq_wp rfl ?_
  go_simp
  refine (rkey_v _ NY _ Hr3).mono ?_
  rintro e v4 ⟨rfl, b⟩
  replace hB := hB.trans (b.mono hB.size)
  replace hS := hS.below b
  replace hx := hx.below b
  replace hy := hy.below b
  replace hz := hz.below b
  replace Hr1 := Hr1.below b
  replace Hr2 := Hr2.below b
  replace Hr3 := Hr3.below b
  replace K1 := K1.below' b
  clear b
  show wpSeq _ _ _ _ _ _
  refine wpSeq_allocQ 23 (Iv .u8 (List.replicate 32 0)) rfl (fun W => by go_simp; rfl) ?_
  intro B1 C1 AB1 b mB1
  simp only [Act.put, List.setIfInBounds_toArray, List.set_cons_zero, List.set_cons_succ]
  have hb := b
  clear b
  refine wpSeq_store_row rfl 23 _ _ rfl (B1) (Iv .u8 (keyOf NY)) rfl rfl _ _ AB1 (info_key _ (keyOf_length _)) (by rw [Iv_size, Iv_size, keyOf_length]; rfl) (Iv_one _ _) ?_
  try simp only [Act.put, List.setIfInBounds_toArray, List.set_cons_zero, List.set_cons_succ]
  replace AB1 := AB1.row (Iv .u8 (keyOf NY))
  replace hb := below_setRow hb mB1 (Iv .u8 (keyOf NY))
  generalize hWn : World.setRow _ _ _ = Wn at *
  clear hWn
  have uB1_K1 := Nat.lt_of_lt_of_le K1.lt mB1
  replace mB1 := Nat.le_trans hB.size mB1
  replace hB := hB.trans (hb.mono hB.size)
  replace hS := hS.below hb
  replace hx := hx.below hb
  replace hy := hy.below hb
  replace hz := hz.below hb
  replace Hr1 := Hr1.below hb
  replace Hr2 := Hr2.below hb
  replace Hr3 := Hr3.below hb
  replace K1 := K1.below' hb
  clear hb
  replace hS : Facts [.blk (B1) 23 (Iv .u8 (keyOf NY)), .blk (w.heap.size) 42 (Rc r)] _ := Facts.cons (f := .blk B1 23 (Iv .u8 (keyOf NY))) AB1 hS
  clear AB1
  refine wpSeq_nil ?_
  clear hx hy hz
  go_upto_region 4 with fail
  replace hS := hS.drew
  replace hB := below_drew hB
  replace Hr2 := Hr2.drew
  replace K1 := K1.drew
  refine wp_region_Z (S := Facts [.blk (B1) 23 (Iv .u8 (keyOf NY)), .blk (w.heap.size) 42 (Rc r)]) 9 (by kernel_rfl) ?_
  refine wpAnyZ_takeL 0 (v := (.pointer (some ⟨B1, 31, none⟩))) rfl (by kernel_rfl) (by kernel_rfl) (by kernel_rfl) (by kernel_rfl) (by kernel_rfl) (fun _ _ _ h => h) (Or.inl ⟨by rfl, ?_⟩) hS ?_
  · intro w' _
    go_simp
  simp only [Act.put, List.setIfInBounds_toArray, List.set_cons_zero, List.set_cons_succ]
  refine wpAnyZ_takeL 1 (v := (.int .u8 (b : Int))) rfl (by kernel_rfl) (by kernel_rfl) (by kernel_rfl) (by kernel_rfl) (by kernel_rfl) (fun _ _ _ h => h) (Or.inl ⟨by rfl, ?_⟩) hS ?_
  · intro w' hw'
    have c := key_cellj (hw'.blkAt (B1) 23 (Iv .u8 (keyOf NY)) (.head _)) 31 (by decide)
    rw [HB.out] at c
    go_simp
  simp only [Act.put, List.setIfInBounds_toArray, List.set_cons_zero, List.set_cons_succ]
  refine wpAnyZ_takeL 2 rfl (by kernel_rfl) (by kernel_rfl) (by kernel_rfl) (by kernel_rfl) (by kernel_rfl) (fun _ _ _ h => h) (yieldsIf_move rfl _ rfl r2 rfl) hS ?_
  simp only [Act.put, List.setIfInBounds_toArray, List.set_cons_zero, List.set_cons_succ]
  refine wpAnyZ_one (i := 3) (by kernel_rfl) ?_
  unfold wpOp
  go_simp
  left
  refine (rpart0_v _ NX q16 _ Hr2 HQ.out).mono ?_
  rintro e v5 ⟨rfl, b⟩
  replace hB := hB.trans (b.mono hB.size)
  replace hS := hS.below b
  replace Hr2 := Hr2.below b
  replace K1 := K1.below' b
  clear b
  refine ⟨hS, ?_⟩
  refine wpAnyZ_takeL 4 (v := (.int .u32 0)) rfl (by kernel_rfl) (by kernel_rfl) (by kernel_rfl) (by kernel_rfl) (by kernel_rfl) (fun _ _ _ h => h) (Or.inl ⟨by rfl, ?_⟩) hS ?_
  · intro w' _
    have c := H4.out
    go_simp
  simp only [Act.put, List.setIfInBounds_toArray, List.set_cons_zero, List.set_cons_succ]
  refine wpAnyZ_takeL 5 (v := (.int .u8 0)) rfl (by kernel_rfl) (by kernel_rfl) (by kernel_rfl) (by kernel_rfl) (by kernel_rfl) (fun _ _ _ h => h) (Or.inl ⟨by rfl, ?_⟩) hS ?_
  · intro w' _
    go_simp
    try rfl
  simp only [Act.put, List.setIfInBounds_toArray, List.set_cons_zero, List.set_cons_succ]
  refine wpAnyZ_takeL 6 (v := (.int .u8 0)) rfl (by kernel_rfl) (by kernel_rfl) (by kernel_rfl) (by kernel_rfl) (by kernel_rfl) (fun _ _ _ h => h) (Or.inl ⟨by rfl, ?_⟩) hS ?_
  · intro w' _
    go_simp
    try rfl
  simp only [Act.put, List.setIfInBounds_toArray, List.set_cons_zero, List.set_cons_succ]
  refine wpAnyZ_takeL 7 (v := (.int .u8 (bv : Int))) rfl (by kernel_rfl) (by kernel_rfl) (by kernel_rfl) (by kernel_rfl) (by kernel_rfl) (fun _ _ _ h => h) (Or.inl ⟨by rfl, ?_⟩) hS ?_
  · intro w' _
    have c := HV.out
    go_simp
  simp only [Act.put, List.setIfInBounds_toArray, List.set_cons_zero, List.set_cons_succ]
  refine wpAnyZ_takeL 8 (v := (.pointer (some ⟨B1, 31, none⟩))) rfl (by kernel_rfl) (by kernel_rfl) (by kernel_rfl) (by kernel_rfl) (by kernel_rfl) (fun _ _ _ h => h) (Or.inl ⟨by rfl, ?_⟩) hS ?_
  · intro w' _
    go_simp
  simp only [Act.put, List.setIfInBounds_toArray, List.set_cons_zero, List.set_cons_succ]
  have KB := hS.blkAt (B1) 23 (Iv .u8 (keyOf NY)) (.head _)
  have c0 := key_cellj KB 31 (by decide)
  have f0 := KB.frozen 31
  refine wpAnyZ_one (i := 9) (by kernel_rfl) ?_
  unfold wpOp
  go_simp
  left
  refine wpAnyZ_done (by kernel_rfl) ?_ _
  replace KB := KB.set 31 (.int .u8 (bv : Int))
  have hlt := K1.lt
  rw [Iv_set, HL.out] at KB
  replace K1 : Blk _ _ _ _ := K1.far (p := ⟨B1, 31, none⟩) (by show w.heap.size + 1 ≠ B1; omega) (.int .u8 (bv : Int))
  replace hB := hB.setCell (p := ⟨B1, 31, none⟩) (by show w.heap.size ≤ B1; omega) (.int .u8 (bv : Int))
  clear hS c0 f0 hlt
  generalize World.setCell _ _ _ = V at *
  go_wp2_with (first | (refine wpList_load_row rfl 23 _ rfl (B1) rfl 23 _ (0, 0) _ KB Tryd.underlying23 rfl (info_key _ (keyOf_length _)) ?_) | (refine wpList_store_row rfl 23 _ _ rfl (w.heap.size + 1) (Iv .u8 (keyOf T)) rfl rfl 23 _ K1 (info_key _ (keyOf_length _)) (by rw [Iv_size, Iv_size, keyOf_length]; rfl) (Iv_one _ _) ?_))
  exact bodyPost_ret (results_cell_row rfl _ _ _ 23 _ (0, 0) _ rfl (K1.row _) Tryd.underlying23 rfl (info_key _ (keyOf_length _))) rfl ⟨rfl, below_setRow hB (by omega) _⟩
theorem rtext_v (r : R3) (P : Pt dd) (N : Nat) (w : World) (Hr : RIs w r P) (hN : N = textN P) :
    Calls Tryd.prog 18 #[RW r] w fun e w' => e = .returned (Key (keyOf N)) ∧ Below w.heap.size w w' := by
  obtain ⟨X, Y, Z, hx, hy, hz, z0, ax, ay⟩ := Hr.ex
  have hi := finv_mul _ z0
  have eX : P.x.val = X * pinv Z % pp := by
    have e : F (fm X (pinv Z)) = P.x := by
      rw [F_fm, F_inv2, ax]
      exact inv_of hi
    have := congrArg Fin.val e
    rw [F_val (fm_lt _ _)] at this
    exact this.symm
  have eY : P.y.val = Y * pinv Z % pp := by
    have e : F (fm Y (pinv Z)) = P.y := by
      rw [F_fm, F_inv2, ay]
      exact inv_of hi
    have := congrArg Fin.val e
    rw [F_val (fm_lt _ _)] at this
    exact this.symm
  have lY : P.y.val < 57896044618658097711785492504343953926634992332820282019728792003956564819968 := Nat.lt_trans P.y.isLt pp_255
  have hb2 : byteAt P.y.val 31 < 128 := byteAt_small _ lY
  have h2 : bits .and .u32 ((P.x.val % 65536 : Nat) : Int) 1 = ((P.x.val % 2 : Nat) : Int) := by
    rw [and1_32 _ (by omega) (by omega)]
    omega
  obtain ⟨U, hU⟩ : ∃ U, U = pinv Z := ⟨_, rfl⟩
  rw [← hU] at eX eY
  by_cases ho : P.x.val % 2 = 1
  · have hlay := key_lay P.y.val 1 lY (by decide)
    have hor := or_128 ⟨byteAt P.y.val 31, hb2⟩
    simp only [Nat.one_mul] at hlay hor
    rw [ho] at h2
    have e : N = P.y.val + 57896044618658097711785492504343953926634992332820282019728792003956564819968 := by
      rw [hN]
      unfold textN
      rw [ho, Nat.one_mul]
    rw [e]
    exact rtext_odd r X Y Z U P.x.val P.y.val _ _ _ _ w hx hy hz (by rw [hU]; rfl) eX eY rfl h2 rfl hor hlay
  · have h0 : P.x.val % 2 = 0 := by omega
    have hlay := key_lay P.y.val 0 lY (by decide)
    have hor := or_0 ⟨byteAt P.y.val 31, by omega⟩
    simp only [Nat.zero_mul, Nat.add_zero] at hlay hor
    rw [h0] at h2
    have e : N = P.y.val := by
      rw [hN]
      unfold textN
      rw [h0, Nat.zero_mul, Nat.add_zero]
    rw [e]
    exact rtext_even r X Y Z U P.x.val P.y.val _ _ _ _ w hx hy hz (by rw [hU]; rfl) eX eY rfl h2 rfl hor hlay
end Go.Proofs.YtjaomgildhiddaaDoor
