/- The contract of the reference's Rest, modulo the order. -/
import Derived.Test.YtnglancehmdlpaaRn
import Derived.Test.YtnglancehmdlpaaSh
namespace Go.Proofs.Ytnglancehmdlpaa
open Go.RowKit

/-- What Rest answers. -/
def RetR (w : World) (V : Nat) (e : Ending) (w' : World) : Prop := ∃ g c f, e = .returned (SlV g 17 c) ∧ Sl w' g 17 f ∧ lv f 17 = V ∧ Below w.heap.size w w'

structure RestW (ga na gm g : Nat) (fa f : Nat → Nat) (v : Nat) (w wr : World) : Prop where
  a : Sl wr ga na fa
  m : Sl wr gm 16 (dAt LL)
  o : Sl wr g 17 f
  v : lv f 17 = v
  k : Below w.heap.size w wr
theorem RestW.below {ga na gm g : Nat} {fa f : Nat → Nat} {v : Nat} {w wr w1 : World} (h : RestW ga na gm g fa f v w wr) (hb : Below wr.heap.size wr w1) : RestW ga na gm g fa f v w w1 := ⟨h.a.below hb, h.m.below hb, h.o.below hb, h.v, h.k.trans (hb.mono h.k.size)⟩

set_option maxHeartbeats 2000000 in
set_option maxRecDepth 100000 in
theorem rest_any (ga na ca gm cm : Nat) (fa : Nat → Nat) (w : World) (ha : Sl w ga na fa) (hm : Sl w gm 16 (dAt LL)) (hna : na ≤ 1048576) :
    Calls Try.prog 21 #[SlV ga na ca, SlV gm 16 cm] w (RetR w (lv fa na % LL)) := by
  have hmk : ∀ (g : Nat → Int) w, (Instr.makeSlice 30 (.int .i64 17) (.int .i64 17)).run Try.prog w = .ok (.slice (some ⟨w.heap.size, 0, none⟩) 17 17) (w.alloc (.cells (Iv .u32 (fill 17 g 0)) 37)) := fun g w => make32 17 (by decide) g w
  have hmk1 := hmk (fun _ => 0) w
  clear hmk
  obtain ⟨V, hV⟩ : ∃ V, V = lv fa na := ⟨_, rfl⟩
  have lV : V < 2 ^ (16 * na) := by
    rw [hV, Nat.pow_mul]
    exact lv_lt fa ha.lt na
  rw [← hV]
  unfold SlV
  go_enter Try.func21, Try.ntmps21
  go_wp2
  generalize hW : World.alloc w _ = W
  have F0 : RestW ga na gm w.heap.size fa (fun _ => 0) (V / 2 ^ (16 * na) % LL) w W := by
    subst hW
    have hb : Below w.heap.size w (w.alloc (.cells (Iv .u32 (fill 17 (fun _ => 0) 0)) 37)) := (Below.refl _ _).alloc (Nat.le_refl _) _
    refine ⟨ha.below hb, hm.below hb, Sl.of_blk (t := 37) ?_ (fun _ => by decide) (fun _ _ => rfl), ?_, hb⟩
    · exact Blk.new _ _ _
    · rw [Nat.div_eq_of_lt lV, Nat.zero_mod]
      simp [lv]
  clear hW hmk1
  have HVV := Lib.hid hV
  clear hV
  have i0 : IntKind.i64.wrap (16 * (na : Int)) = 16 * (na : Int) := by rw [IntKind.wrap_i64]; omega
  have i1 : IntKind.i64.wrap (16 * (na : Int) - 1) = 16 * (na : Int) - 1 := by rw [IntKind.wrap_i64]; omega
  go_wp2_with fail
  go_loopw [5, 6] (fun out i wr => ∃ (k g c : Nat) (f : Nat → Nat), k ≤ 16 * na ∧ i = .int .i64 ((k : Int) - 1) ∧ out = .slice (some ⟨g, 0, none⟩) 17 c ∧ RestW ga na gm g fa f (V / 2 ^ k % LL) w wr) (fun _ i _ => (intOf i + 1).toNat)
  case atStart => exact ⟨16 * na, w.heap.size, 17, fun _ => 0, Nat.le_refl _, by simp, rfl, F0⟩
  case round =>
    obtain ⟨k, g, c, f, hk, rfl, rfl, F⟩ := hrel
    clear F0
    by_cases hlt : 0 < k
    · obtain ⟨j, rfl⟩ : ∃ j, k = j + 1 := ⟨k - 1, by omega⟩
      have e0 : ((j + 1 : Nat) : Int) - 1 = (j : Int) := by omega
      rw [e0]
      have jlt : j / 16 < na := by omega
      have ce : wr.cell? ⟨ga, j / 16, none⟩ = some (.int .u32 ((fa (j / 16) : Nat) : Int)) := F.a.cell _ jlt
      have hb := lv_bit fa ha.lt na ha.high j
      have eb := rbit (fa (j / 16)) (j % 16) (ha.lt _)
      rw [hb, ← HVV.out] at eb
      clear hb
      have hdn := bit_down V j
      obtain ⟨bt, hbt⟩ : ∃ x, x = V / 2 ^ j % 2 := ⟨_, rfl⟩
      have lbt : bt ≤ 1 := by omega
      rw [← hbt] at eb hdn
      obtain ⟨v, hv⟩ : ∃ x, x = V / 2 ^ (j + 1) % LL := ⟨_, rfl⟩
      have lv0 : v < LL := hv ▸ Nat.mod_lt _ LL_pos
      have hnew : V / 2 ^ j % LL = (2 * v + bt) % LL := by
        rw [hdn, hv]
        conv => lhs; rw [Nat.add_mod, Nat.mul_mod, ← Nat.mod_mod (V / 2 ^ (j + 1)) LL]
        rw [← Nat.mul_mod, ← Nat.add_mod]
      rw [← hv] at F
      clear hv hdn hbt
      have hT := F.v
      have tv := twF_val f bt 17 17 (Nat.le_refl _)
      rw [hT] at tv
      have tc := twC_le f F.o.lt bt lbt 17
      have tv2 : lv (twF 17 f bt) 17 = 2 * v + bt := by
        have h17 : (65536 : Nat) ^ 17 = 7588550360256754183279148073529370729071901715047420004889892225542594864082845696 := by decide
        rw [h17] at tv
        rw [LL_eq] at lv0
        omega
      clear tv tc hT
      have cT := fun W (h : Sl W g 17 f) => twice_any g 17 c bt f W h (by decide) lbt
      have CT := Lib.hid cT
      have HN := Lib.hid hnew
      have TV := Lib.hid tv2
      clear cT hnew tv2
      have lL : lv (dAt LL) 16 = LL := d_val LL LL_lt
      have LV := Lib.hid lL
      clear lL
      unfold SlV at CT
      go_wp2_with fail
      refine (CT.out _ F.o).mono ?_
      rintro e w3 ⟨g3, c3, rfl, S3, _, b3⟩
      have F3 := F.below b3
      clear b3 F ce eb
      unfold SlV
      have cL := less_any g3 17 c3 gm 16 cm _ _ w3 S3 F3.m (by decide) (by decide)
      rw [TV.out, LV.out] at cL
      by_cases hlt2 : 2 * v + bt < LL
      · rw [decide_eq_true hlt2] at cL
        have CL := Lib.hid cL
        clear cL
        unfold SlV at CL
        go_wp2_with fail
        refine CL.out.mono ?_
        rintro e w4 ⟨rfl, rfl⟩
        go_wp2
        exact ⟨⟨j, g3, c3, twF 17 f bt, by omega, rfl, rfl, F3.a, F3.m, S3, by rw [TV.out, HN.out, Nat.mod_eq_of_lt hlt2], F3.k⟩, by simp [intOf]⟩
      · rw [decide_eq_false hlt2] at cL
        have CL := Lib.hid cL
        clear cL
        unfold SlV at CL
        go_wp2_with fail
        refine CL.out.mono ?_
        rintro e w4 ⟨rfl, rfl⟩
        go_wp2_with fail
        have hsub := sub_val (twF 17 f bt) (dAt LL) 17 16 S3.lt F3.m.lt F3.m.high (by decide) (by rw [TV.out, LV.out]; omega)
        rw [TV.out, LV.out] at hsub
        have HS := Lib.hid hsub
        clear hsub
        refine (minus_any g3 17 c3 gm 16 cm _ _ _ S3 F3.m (by decide)).mono ?_
        rintro e w5 ⟨g5, c5, rfl, S5, _, b5⟩
        have F5 := F3.below b5
        clear b5 F3
        unfold SlV
        go_wp2
        refine ⟨⟨j, g5, c5, _, by omega, rfl, rfl, F5.a, F5.m, S5, ?_, F5.k⟩, by simp [intOf]⟩
        rw [HS.out, HN.out]
        have : 2 * v + bt < 2 * LL := by omega
        rw [Nat.mod_eq_sub_mod (by omega), Nat.mod_eq_of_lt (by omega)]
    · obtain rfl : k = 0 := by omega
      have hT := F.v
      have e0 : (((0 : Nat) : Int)) - 1 = -1 := by omega
      rw [e0]
      rw [Nat.pow_zero, Nat.div_one] at hT
      have HT := Lib.hid hT
      clear hT
      go_wp2
      go_ret
      exact ⟨g, c, f, rfl, F.o, HT.out, F.k⟩
end Go.Proofs.Ytnglancehmdlpaa
