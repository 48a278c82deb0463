/- The program's product of polynomials: its contract. The program's sum over blocks: its contract. -/
import Derived.Test.YtpihgljdbpnehaaDoorQd0Wd
import Derived.Test.YtpihgljdbpnehaaDoorLq0Nb
import Derived.Test.YtpihgljdbpnehaaDoorGb0Va
import Derived.Test.YtpihgljdbpnehaaDoorPg
import Derived.Laws.CopyOwn
namespace Go.Proofs.YtpihgljdbpnehaaDoor
open Go.RowKit
/-- Bit i of a block. -/
def bitF (a : Nat → Nat) (i : Nat) : Nat := a (i / 8) / 2 ^ (7 - i % 8) % 2
theorem bitF_lt (a : Nat → Nat) (i : Nat) : bitF a i < 2 := Nat.mod_lt _ (by decide)
theorem gp_step {a b : Nat → Nat} (hb : ∀ i, b i < 256) (o i : Nat) : wB (gpF a b (i + 1)) o 8 = wB (gpF a b i) o 8 ^^^ wB (gbF b i) o 8 * bitF a i := by
 by_cases h : a (i / 8) / 2 ^ (7 - i % 8) % 2 = 1
 ·
  have e : gpF a b (i + 1) = fun k => gpF a b i k ^^^ gbF b i k := by
   funext k
   show (if a (i / 8) / 2 ^ (7 - i % 8) % 2 = 1 then gpF a b i k ^^^ gbF b i k else gpF a b i k) = _
   rw [if_pos h]
  rw [e, wB_xor (gpF_lt hb i) (gbF_lt hb i)]
  unfold bitF
  rw [h, Nat.mul_one]
 ·
  have e : gpF a b (i + 1) = gpF a b i := by
   funext k
   show (if a (i / 8) / 2 ^ (7 - i % 8) % 2 = 1 then gpF a b i k ^^^ gbF b i k else gpF a b i k) = _
   rw [if_neg h]
  rw [e]
  unfold bitF
  rw [show a (i / 8) / 2 ^ (7 - i % 8) % 2 = 0 by omega, Nat.mul_zero, Nat.xor_zero]
theorem bit_word {a : Nat → Nat} (ha : ∀ i, a i < 256) (h k : Nat) (hk : k < 64) : wB a (8 * h) 8 / 2 ^ (63 - k) % 2 = bitF a (64 * h + k) := by
 rw [wB_bit ha _ k hk]
 unfold bitF
 rw [show (64 * h + k) / 8 = 8 * h + k / 8 by omega, show (64 * h + k) % 8 = k % 8 by omega]
/-- What stands in times. -/
structure TM (w0 : World) (p0 p1 q0 q1 x0 x1 : Nat) (w : World) : Prop where
 p : PB w w0.heap.size p0 p1
 q : PB w (w0.heap.size + 1) q0 q1
 r : PB w (w0.heap.size + 1 + 1) 0 0
 x : PB w (w0.heap.size + 1 + 1 + 1) x0 x1
 bel : Below w0.heap.size w0 w
section
variable {w0 w w1 : World} {p0 p1 q0 q1 x0 x1 : Nat}
theorem TM.below (h : TM w0 p0 p1 q0 q1 x0 x1 w) (c : Below w.heap.size w w1) : TM w0 p0 p1 q0 q1 x0 x1 w1 := ⟨Blk.below' h.p c, Blk.below' h.q c, Blk.below' h.r c, Blk.below' h.x c, h.bel.trans (c.mono h.bel.size)⟩
theorem TM.setX (h : TM w0 p0 p1 q0 q1 x0 x1 w) (y0 y1 : Nat) : TM w0 p0 p1 q0 q1 y0 y1 (w.setRow (w0.heap.size + 1 + 1 + 1) (pc y0 y1)) := ⟨Blk.rowFar h.p (by omega) _, Blk.rowFar h.q (by omega) _, Blk.rowFar h.r (by omega) _, Blk.row h.x _, below_setRow h.bel (by omega) _⟩
theorem TM.setQ (h : TM w0 p0 p1 q0 q1 x0 x1 w) (y0 y1 : Nat) : TM w0 p0 p1 y0 y1 x0 x1 (w.setRow (w0.heap.size + 1) (pc y0 y1)) := ⟨Blk.rowFar h.p (by omega) _, Blk.row h.q _, Blk.rowFar h.r (by omega) _, Blk.rowFar h.x (by omega) _, below_setRow h.bel (by omega) _⟩
end
set_option maxHeartbeats 4000000 in
set_option maxRecDepth 100000 in
theorem times_w (a b : Nat → Nat) (ha : ∀ i, a i < 256) (hb : ∀ i, b i < 256) (w : World) :
  Calls Tryd.prog 71 #[.agg (pc (wB a 0 8) (wB a 8 8)), .agg (pc (wB b 0 8) (wB b 8 8))] w fun e w' => e = .returned (.agg (pc (wB (timesF a b) 0 8) (wB (timesF a b) 8 8))) ∧ Below w.heap.size w w' := by
 have hX : ∀ i o, wB (gpF a b i) o 8 < 18446744073709551616 := fun i o => wB_lt8 (gpF_lt hb i) o
 have hQ : ∀ i o, wB (gbF b i) o 8 < 18446744073709551616 := fun i o => wB_lt8 (gbF_lt hb i) o
 have hz : ∀ o, wB (gpF a b 0) o 8 = 0 := fun o => wB_zero o 8
 have hbit := fun h k hk => bit_word (a := a) ha h k hk
 have lp0 := wB_lt8 ha 0
 have lp1 := wB_lt8 ha 8
 go_enter Tryd.func71, Tryd.ntmps71
 go_upto_region 2 with fail
 generalize hW : World.alloc (World.alloc (World.alloc (World.alloc w _) _) _) _ = W
 have hM : TM w (wB a 0 8) (wB a 8 8) (wB (gbF b 0) 0 8) (wB (gbF b 0) 8 8) (wB (gpF a b 0) 0 8) (wB (gpF a b 0) 8 8) W := by
  rw [hz, hz]
  exact ⟨hW ▸ (((Blk.new w 119 (pc _ _)).alloc _).alloc _).alloc _, hW ▸ ((Blk.new' (by simp) _ (pc _ _)).alloc _).alloc _, hW ▸ (Blk.new' (by simp) _ (pc 0 0)).alloc _, hW ▸ Blk.new' (by simp) _ (pc 0 0), hW ▸ ((((Below.refl w.heap.size w).alloc (Nat.le_refl _) _).alloc (by simp) _).alloc (by simp; omega) _).alloc (by simp; omega) _⟩
 have c0 := hM.p.c0
 have c1 := hM.p.c1
 clear hW
 go_upto_region 3 with fail
 clear c0 c1
 go_loopw [15] (fun t wr => ∃ h : Nat, h ≤ 2 ∧ t = .int .i64 (h : Int) ∧ TM w (wB a 0 8) (wB a 8 8) (wB (gbF b (64 * h)) 0 8) (wB (gbF b (64 * h)) 8 8) (wB (gpF a b (64 * h)) 0 8) (wB (gpF a b (64 * h)) 8 8) wr) (fun t _ => (2 - intOf t).toNat)
 case atStart => exact ⟨0, by omega, rfl, hM⟩
 case round =>
  clear hM
  obtain ⟨h, hh, rfl, hM⟩ := hrel
  have : h = 0 ∨ h = 1 ∨ h = 2 := by omega
  rcases this with rfl | rfl | rfl
  ·
   have ix : ∀ (P0 P1 : Nat) (w : World), (Instr.index 133 (.agg #[.int .u64 (P0 : Int), .int .u64 (P1 : Int)]) (.int .i64 0)).run Tryd.prog w = .ok (.int .u64 (P0 : Int)) w := fun _ _ _ => by kernel_rfl
   go_upto_region 6 with fail
   have hb1 : ∀ k, k < 64 → wB a 0 8 / 2 ^ (63 - k) % 2 = bitF a (64 * 0 + k) := fun k hk => hbit 0 k hk
   generalize hH : wB a 0 8 = H at *
   rw [show ((0 : Nat) : Int) = 0 from rfl]
   go_loopw [18] (fun t wr => ∃ k : Nat, k ≤ 64 ∧ t = .int .i64 (k : Int) ∧ TM w (wB a 0 8) (wB a 8 8) (wB (gbF b (64 * 0 + k)) 0 8) (wB (gbF b (64 * 0 + k)) 8 8) (wB (gpF a b (64 * 0 + k)) 0 8) (wB (gpF a b (64 * 0 + k)) 8 8) wr) (fun t _ => (64 - intOf t).toNat)
   case atStart => exact ⟨0, by omega, rfl, by first | exact hM | (rw [hH]; exact hM) | (rw [← hH] at hM; exact hM)⟩
   case round =>
    clear hM
    obtain ⟨k, hk, rfl, hM⟩ := hrel
    by_cases h64 : k = 64
    ·
     subst h64
     clear hX hQ hb1
     subst hH
     go_wp2
     exact ⟨⟨0 + 1, by omega, rfl, hM⟩, by simp only [intOf]; omega⟩
    ·
     have k1 : (k : Int) < 64 := by omega
     have hbt := hb1 k (by omega)
     have ln := bitF_lt a (64 * 0 + k)
     have nx0 := gp_step (a := a) hb 0 (64 * 0 + k)
     have nx8 := gp_step (a := a) hb 8 (64 * 0 + k)
     have nq0 := turn_one (gbF_lt hb (64 * 0 + k))
     have nq8 := turn_two (gbF_lt hb (64 * 0 + k))
     have lx0 := hX (64 * 0 + k) 0
     have lx8 := hX (64 * 0 + k) 8
     have lq0 := hQ (64 * 0 + k) 0
     have lq8 := hQ (64 * 0 + k) 8
     rw [show gturnF (gbF b (64 * 0 + k)) = gbF b (64 * 0 + (k + 1)) from rfl] at nq0 nq8
     rw [show 64 * 0 + k + 1 = 64 * 0 + (k + 1) from rfl] at nx0 nx8
     generalize bitF a (64 * 0 + k) = o at *
     generalize wB (gpF a b (64 * 0 + k)) 0 8 = x0 at *
     generalize wB (gpF a b (64 * 0 + k)) 8 8 = x1 at *
     generalize wB (gbF b (64 * 0 + k)) 0 8 = q0 at *
     generalize wB (gbF b (64 * 0 + k)) 8 8 = q1 at *
     obtain ⟨r, hr⟩ : ∃ r, r = 63 - k := ⟨_, rfl⟩
     rw [← hr] at hbt
     obtain ⟨z, hz⟩ : ∃ z, z = H / 2 ^ r := ⟨_, rfl⟩
     rw [← hz] at hbt
     have lz : z < 18446744073709551616 := Nat.lt_of_le_of_lt (hz ▸ Nat.div_le_self _ _) (by omega)
     have e1 : IntKind.i64.wrap (63 - (k : Int)) = (r : Int) := by rw [IntKind.wrap_i64]; omega
     have e2 : (0 : Int) ≤ (r : Int) := by omega
     have e3 : min r 64 = r := by omega
     have e4 : (H : Int) / 2 ^ r = (z : Int) := by rw [hz]; simp
     have e5 : bits .and .u64 (z : Int) 1 = (o : Int) := by
      have h := u64_and_nat z 1 lz (by decide)
      rw [show z &&& 1 = z % 2 from Nat.and_two_pow_sub_one_eq_mod _ 1, hbt] at h
      exact h
     obtain ⟨m0, hm0⟩ : ∃ m0, m0 = q0 * o := ⟨_, rfl⟩
     obtain ⟨m1, hm1⟩ : ∃ m1, m1 = q1 * o := ⟨_, rfl⟩
     have lm0 : m0 < 18446744073709551616 := by
      have : o = 0 ∨ o = 1 := by omega
      rcases this with h | h <;> rw [hm0, h] <;> omega
     have lm1 : m1 < 18446744073709551616 := by
      have : o = 0 ∨ o = 1 := by omega
      rcases this with h | h <;> rw [hm1, h] <;> omega
     have e6 : IntKind.u64.wrap ((q0 : Int) * (o : Int)) = (m0 : Int) := by
      rw [← Int.natCast_mul, ← hm0, IntKind.wrap_u64]; omega
     have e7 : IntKind.u64.wrap ((q1 : Int) * (o : Int)) = (m1 : Int) := by
      rw [← Int.natCast_mul, ← hm1, IntKind.wrap_u64]; omega
     rw [← hm0] at nx0
     rw [← hm1] at nx8
     have C1 := Lib.hid (fun W => plus_w x0 x1 m0 m1 lx0 lx8 lm0 lm1 W)
     have C2 := Lib.hid (fun W => timesX_w q0 q1 lq0 lq8 W)
     rw [← nx0, ← nx8] at C1
     rw [← nq0, ← nq8] at C2
     have NX := Lib.hid (And.intro nx0 (And.intro nx8 (And.intro nq0 nq8)))
     clear nx0 nx8 nq0 nq8 hr hz hm0 hm1 hbt lz lm0 lm1 hb1 hX hQ
     generalize h1 : wB (gpF a b (64 * 0 + (k + 1))) 0 8 = y0 at *
     generalize h2 : wB (gpF a b (64 * 0 + (k + 1))) 8 8 = y1 at *
     generalize h3 : wB (gbF b (64 * 0 + (k + 1))) 0 8 = r0 at *
     generalize h4 : wB (gbF b (64 * 0 + (k + 1))) 8 8 = r1 at *
     have H1 := Lib.hid h1
     have H2 := Lib.hid h2
     have H3 := Lib.hid h3
     have H4 := Lib.hid h4
     clear h1 h2 h3 h4 NX
     have c0 := hM.q.c0
     have c1 := hM.q.c1
     go_wp2_with (refine wpList_load_row rfl 119 _ rfl (w.heap.size + 1 + 1 + 1) rfl 119 _ (0, 0) _ hM.x Tryd.underlying119 rfl (info_pc _ _) ?_)
     refine (C1.out _).mono ?_
     rintro _ w1 ⟨rfl, b1⟩
     replace hM := hM.below b1
     clear b1 c0 c1 C1
     go_wp2_with (first | (refine wpList_load_row rfl 119 _ rfl (w.heap.size + 1) rfl 119 _ (0, 0) _ (hM.setX y0 y1).q Tryd.underlying119 rfl (info_pc _ _) ?_) | (refine wpList_store_row rfl 119 _ _ rfl (w.heap.size + 1 + 1 + 1) (pc y0 y1) rfl rfl 119 _ hM.x (info_pc _ _) rfl (pc_one _ _) ?_))
     replace hM := hM.setX y0 y1
     generalize World.setRow _ _ _ = w2 at *
     refine (C2.out _).mono ?_
     rintro _ w3 ⟨rfl, b3⟩
     replace hM := hM.below b3
     clear b3 C2
     go_wp2_with (refine wpList_store_row rfl 119 _ _ rfl (w.heap.size + 1) (pc r0 r1) rfl rfl 119 _ hM.q (info_pc _ _) rfl (pc_one _ _) ?_)
     go_wp2
     exact ⟨⟨k + 1, by omega, rfl, by rw [H1.out, H2.out, H3.out, H4.out]; exact hM.setQ r0 r1⟩, by simp only [intOf]; omega⟩
  ·
   have ix : ∀ (P0 P1 : Nat) (w : World), (Instr.index 133 (.agg #[.int .u64 (P0 : Int), .int .u64 (P1 : Int)]) (.int .i64 1)).run Tryd.prog w = .ok (.int .u64 (P1 : Int)) w := fun _ _ _ => by kernel_rfl
   go_upto_region 6 with fail
   have hb1 : ∀ k, k < 64 → wB a 8 8 / 2 ^ (63 - k) % 2 = bitF a (64 * 1 + k) := fun k hk => hbit 1 k hk
   generalize hH : wB a 8 8 = H at *
   rw [show ((1 : Nat) : Int) = 1 from rfl]
   go_loopw [18] (fun t wr => ∃ k : Nat, k ≤ 64 ∧ t = .int .i64 (k : Int) ∧ TM w (wB a 0 8) (wB a 8 8) (wB (gbF b (64 * 1 + k)) 0 8) (wB (gbF b (64 * 1 + k)) 8 8) (wB (gpF a b (64 * 1 + k)) 0 8) (wB (gpF a b (64 * 1 + k)) 8 8) wr) (fun t _ => (64 - intOf t).toNat)
   case atStart => exact ⟨0, by omega, rfl, by first | exact hM | (rw [hH]; exact hM) | (rw [← hH] at hM; exact hM)⟩
   case round =>
    clear hM
    obtain ⟨k, hk, rfl, hM⟩ := hrel
    by_cases h64 : k = 64
    ·
     subst h64
     clear hX hQ hb1
     subst hH
     go_wp2
     exact ⟨⟨1 + 1, by omega, rfl, hM⟩, by simp only [intOf]; omega⟩
    ·
     have k1 : (k : Int) < 64 := by omega
     have hbt := hb1 k (by omega)
     have ln := bitF_lt a (64 * 1 + k)
     have nx0 := gp_step (a := a) hb 0 (64 * 1 + k)
     have nx8 := gp_step (a := a) hb 8 (64 * 1 + k)
     have nq0 := turn_one (gbF_lt hb (64 * 1 + k))
     have nq8 := turn_two (gbF_lt hb (64 * 1 + k))
     have lx0 := hX (64 * 1 + k) 0
     have lx8 := hX (64 * 1 + k) 8
     have lq0 := hQ (64 * 1 + k) 0
     have lq8 := hQ (64 * 1 + k) 8
     rw [show gturnF (gbF b (64 * 1 + k)) = gbF b (64 * 1 + (k + 1)) from rfl] at nq0 nq8
     rw [show 64 * 1 + k + 1 = 64 * 1 + (k + 1) from rfl] at nx0 nx8
     generalize bitF a (64 * 1 + k) = o at *
     generalize wB (gpF a b (64 * 1 + k)) 0 8 = x0 at *
     generalize wB (gpF a b (64 * 1 + k)) 8 8 = x1 at *
     generalize wB (gbF b (64 * 1 + k)) 0 8 = q0 at *
     generalize wB (gbF b (64 * 1 + k)) 8 8 = q1 at *
     obtain ⟨r, hr⟩ : ∃ r, r = 63 - k := ⟨_, rfl⟩
     rw [← hr] at hbt
     obtain ⟨z, hz⟩ : ∃ z, z = H / 2 ^ r := ⟨_, rfl⟩
     rw [← hz] at hbt
     have lz : z < 18446744073709551616 := Nat.lt_of_le_of_lt (hz ▸ Nat.div_le_self _ _) (by omega)
     have e1 : IntKind.i64.wrap (63 - (k : Int)) = (r : Int) := by rw [IntKind.wrap_i64]; omega
     have e2 : (0 : Int) ≤ (r : Int) := by omega
     have e3 : min r 64 = r := by omega
     have e4 : (H : Int) / 2 ^ r = (z : Int) := by rw [hz]; simp
     have e5 : bits .and .u64 (z : Int) 1 = (o : Int) := by
      have h := u64_and_nat z 1 lz (by decide)
      rw [show z &&& 1 = z % 2 from Nat.and_two_pow_sub_one_eq_mod _ 1, hbt] at h
      exact h
     obtain ⟨m0, hm0⟩ : ∃ m0, m0 = q0 * o := ⟨_, rfl⟩
     obtain ⟨m1, hm1⟩ : ∃ m1, m1 = q1 * o := ⟨_, rfl⟩
     have lm0 : m0 < 18446744073709551616 := by
      have : o = 0 ∨ o = 1 := by omega
      rcases this with h | h <;> rw [hm0, h] <;> omega
     have lm1 : m1 < 18446744073709551616 := by
      have : o = 0 ∨ o = 1 := by omega
      rcases this with h | h <;> rw [hm1, h] <;> omega
     have e6 : IntKind.u64.wrap ((q0 : Int) * (o : Int)) = (m0 : Int) := by
      rw [← Int.natCast_mul, ← hm0, IntKind.wrap_u64]; omega
     have e7 : IntKind.u64.wrap ((q1 : Int) * (o : Int)) = (m1 : Int) := by
      rw [← Int.natCast_mul, ← hm1, IntKind.wrap_u64]; omega
     rw [← hm0] at nx0
     rw [← hm1] at nx8
     have C1 := Lib.hid (fun W => plus_w x0 x1 m0 m1 lx0 lx8 lm0 lm1 W)
     have C2 := Lib.hid (fun W => timesX_w q0 q1 lq0 lq8 W)
     rw [← nx0, ← nx8] at C1
     rw [← nq0, ← nq8] at C2
     have NX := Lib.hid (And.intro nx0 (And.intro nx8 (And.intro nq0 nq8)))
     clear nx0 nx8 nq0 nq8 hr hz hm0 hm1 hbt lz lm0 lm1 hb1 hX hQ
     generalize h1 : wB (gpF a b (64 * 1 + (k + 1))) 0 8 = y0 at *
     generalize h2 : wB (gpF a b (64 * 1 + (k + 1))) 8 8 = y1 at *
     generalize h3 : wB (gbF b (64 * 1 + (k + 1))) 0 8 = r0 at *
     generalize h4 : wB (gbF b (64 * 1 + (k + 1))) 8 8 = r1 at *
     have H1 := Lib.hid h1
     have H2 := Lib.hid h2
     have H3 := Lib.hid h3
     have H4 := Lib.hid h4
     clear h1 h2 h3 h4 NX
     have c0 := hM.q.c0
     have c1 := hM.q.c1
     go_wp2_with (refine wpList_load_row rfl 119 _ rfl (w.heap.size + 1 + 1 + 1) rfl 119 _ (0, 0) _ hM.x Tryd.underlying119 rfl (info_pc _ _) ?_)
     refine (C1.out _).mono ?_
     rintro _ w1 ⟨rfl, b1⟩
     replace hM := hM.below b1
     clear b1 c0 c1 C1
     go_wp2_with (first | (refine wpList_load_row rfl 119 _ rfl (w.heap.size + 1) rfl 119 _ (0, 0) _ (hM.setX y0 y1).q Tryd.underlying119 rfl (info_pc _ _) ?_) | (refine wpList_store_row rfl 119 _ _ rfl (w.heap.size + 1 + 1 + 1) (pc y0 y1) rfl rfl 119 _ hM.x (info_pc _ _) rfl (pc_one _ _) ?_))
     replace hM := hM.setX y0 y1
     generalize World.setRow _ _ _ = w2 at *
     refine (C2.out _).mono ?_
     rintro _ w3 ⟨rfl, b3⟩
     replace hM := hM.below b3
     clear b3 C2
     go_wp2_with (refine wpList_store_row rfl 119 _ _ rfl (w.heap.size + 1) (pc r0 r1) rfl rfl 119 _ hM.q (info_pc _ _) rfl (pc_one _ _) ?_)
     go_wp2
     exact ⟨⟨k + 1, by omega, rfl, by rw [H1.out, H2.out, H3.out, H4.out]; exact hM.setQ r0 r1⟩, by simp only [intOf]; omega⟩
  ·
   clear hX hQ hbit
   go_wp2_with (first | (refine wpList_load_row rfl 119 _ rfl (w.heap.size + 1 + 1 + 1) rfl 119 _ (0, 0) _ hM.x Tryd.underlying119 rfl (info_pc _ _) ?_) | (refine wpList_store_row rfl 119 _ _ rfl (w.heap.size + 1 + 1) (pc (wB (gpF a b 128) 0 8) (wB (gpF a b 128) 8 8)) rfl rfl 119 _ hM.r (info_pc _ _) rfl (pc_one _ _) ?_))
   exact bodyPost_ret (results_cell_row rfl _ _ _ 119 _ (0, 0) _ rfl (Blk.row hM.r (pc (wB (gpF a b 128) 0 8) (wB (gpF a b 128) 8 8))) Tryd.underlying119 rfl (info_pc _ _)) rfl ⟨rfl, below_setRow hM.bel (by omega) _⟩
end Go.Proofs.YtpihgljdbpnehaaDoor
namespace Go.Proofs.YtpihgljdbpnehaaDoor
open Go.RowKit
/-- What the parts' blocks come to, as far as i of them have come. -/
def partF (h : Nat → Nat) (ls : List (List Nat)) : Nat → Nat → Nat
 | 0 => fun _ => 0
 | i + 1 => hashL (partF h ls i) h (ls.getD i [])
theorem partF_lt {h : Nat → Nat} (hh : ∀ i, h i < 256) (ls : List (List Nat)) : ∀ i k, partF h ls i k < 256
 | 0, _ => by show 0 < 256; decide
 | i + 1, k => hashL_lt (partF_lt hh ls i) hh k
/-- What stands in sum. -/
structure UM (w0 : World) (h y : Nat → Nat) (w : World) : Prop where
 f : PB w w0.heap.size (wB h 0 8) (wB h 8 8)
 r : PB w (w0.heap.size + 1) 0 0
 y : PB w (w0.heap.size + 1 + 1) (wB y 0 8) (wB y 8 8)
 bel : Below w0.heap.size w0 w
section
variable {w0 w w1 : World} {h y : Nat → Nat}
theorem UM.below (H : UM w0 h y w) (c : Below w.heap.size w w1) : UM w0 h y w1 := ⟨Blk.below' H.f c, Blk.below' H.r c, Blk.below' H.y c, H.bel.trans (c.mono H.bel.size)⟩
theorem UM.upto {G : Nat} (H : UM w0 h y w) (c : Below G w w1) (hG : w0.heap.size + 1 + 1 < G) : UM w0 h y w1 := ⟨Eq.trans (c.block _ (by omega)) H.f, Eq.trans (c.block _ (by omega)) H.r, Eq.trans (c.block _ (by omega)) H.y, H.bel.trans (c.mono (by omega))⟩
theorem UM.drew (H : UM w0 h y w) : UM w0 h y w.drew := ⟨H.f.drew, H.r.drew, H.y.drew, below_drew H.bel⟩
theorem UM.setY (H : UM w0 h y w) (z : Nat → Nat) : UM w0 h z (w.setRow (w0.heap.size + 1 + 1) (pc (wB z 0 8) (wB z 8 8))) := ⟨Blk.rowFar H.f (by omega) _, Blk.rowFar H.r (by omega) _, Blk.row H.y _, below_setRow H.bel (by omega) _⟩
theorem UM.lt (H : UM w0 h y w) : w0.heap.size + 1 + 1 < w.heap.size := Blk.lt H.y
end
/-- A slice's length. -/
def slen : Value → Nat
 | .slice _ n _ => n
 | _ => 0
/-- With the next block. -/
structure UN (w0 : World) (h y nx : Nat → Nat) (G : Nat) (w : World) : Prop where
 m : UM w0 h y w
 n : BB w G nx
section
variable {w0 w w1 : World} {h y nx : Nat → Nat} {G : Nat}
theorem UN.below (H : UN w0 h y nx G w) (c : Below w.heap.size w w1) : UN w0 h y nx G w1 := ⟨H.m.below c, H.n.below c⟩
theorem UN.drew (H : UN w0 h y nx G w) : UN w0 h y nx G w.drew := ⟨H.m.drew, H.n.of_block rfl⟩
end
theorem copy16 (l : List Nat) : (splice (Iv .u8 (NI (LB fun _ => 0))).toList 0 ((l.take 16).map fun x => Value.int .u8 ((x : Nat) : Int))).toArray = Iv .u8 (NI (LB fun t => l.getD t 0)) := by
 have e : (Iv .u8 (NI (LB fun t => l.getD t 0))) = ((Iv .u8 (NI (LB fun t => l.getD t 0))).toList).toArray := by simp
 rw [e]
 congr 1
 apply List.ext_getElem
 ·
  rw [length_splice _ _ _ (by simp [Iv_size, NI_length, LB_length]; omega)]
  simp [Iv_size, NI_length, LB_length]
 ·
  intro i h1 h2
  have hi : i < 16 := by simpa [Iv_size, NI_length, LB_length] using h2
  simp only [splice, List.take_zero, List.nil_append]
  by_cases h : i < l.length
  ·
   rw [List.getElem_append_left (by simp; omega)]
   simp [Iv, NI, LB, h]
  ·
   rw [List.getElem_append_right (by simp; omega)]
   simp [Iv, NI, LB, List.getElem?_eq_none (show l.length ≤ i by omega)]
theorem hashF_su (y h : Nat → Nat) (l : List Nat) (j : Nat) : hashF y h l (j + 1) = timesF (joinF (hashF y h l j) l j) h := rfl
theorem SP.two {w : World} {G : Nat} {u v : Value} {a b : List Nat} (h : Blk w G 24 #[u, v]) (hu : SB w u a) (hv : SB w v b) : SP w (.slice (some ⟨G, 0, none⟩) 2 2) [a, b] := by
 refine ⟨_, 2, rfl, Nat.le_refl _, Or.inr ⟨G, 0, rfl, h.lt, fun i hi => ?_⟩⟩
 have : i = 0 ∨ i = 1 := by simp at hi; omega
 rcases this with rfl | rfl
 · exact ⟨u, Blk.cell h 0, hu⟩
 · exact ⟨v, Blk.cell h 1, hv⟩
set_option maxHeartbeats 4000000 in
set_option maxRecDepth 100000 in
theorem sum_w (h : Nat → Nat) (hh : ∀ i, h i < 256) (ls : List (List Nat)) (bl : ∀ l ∈ ls, ∀ x ∈ l, x < 256) (ll : ∀ l ∈ ls, l.length ≤ 1000000) (v : Value) (hn : ls.length ≤ 1000) (w : World) (hv : SP w v ls) :
  Calls Tryd.prog 68 #[.agg (pc (wB h 0 8) (wB h 8 8)), v] w fun e w' => e = .returned (.agg (pc (wB (partF h ls ls.length) 0 8) (wB (partF h ls ls.length) 8 8))) ∧ Below w.heap.size w w' := by
 obtain ⟨pp, cc, rfl, hc, hcell⟩ := hv
 have HX := Lib.hid hcell
 clear hcell
 obtain ⟨n, hn'⟩ : ∃ n, n = ls.length := ⟨_, rfl⟩
 rw [← hn'] at hn hc ⊢
 have HN := Lib.hid hn'
 clear hn'
 have z0 : ∀ o, wB (partF h ls 0) o 8 = 0 := fun o => wB_zero o 8
 go_enter Tryd.func68, Tryd.ntmps68
 go_upto_region 2 with fail
 generalize hW : World.alloc (World.alloc (World.alloc w _) _) _ = W
 have hM : UM w h (partF h ls 0) W := by
  refine ⟨hW ▸ ((Blk.new w _ (pc _ _)).alloc _).alloc _, hW ▸ (Blk.new' (by simp) _ (pc 0 0)).alloc _, ?_, hW ▸ (((Below.refl w.heap.size w).alloc (Nat.le_refl _) _).alloc (by simp) _).alloc (by simp; omega) _⟩
  rw [z0, z0]
  exact hW ▸ Blk.new' (by simp) _ (pc 0 0)
 clear hW z0
 go_upto_region 3 with fail
 go_loopw [11] (fun t wr => ∃ i : Nat, i ≤ n ∧ t = .int .i64 (i : Int) ∧ UM w h (partF h ls i) wr) (fun t _ => (n - intOf t).toNat)
 case atStart => exact ⟨0, by omega, rfl, hM⟩
 case round =>
  clear hM
  obtain ⟨i, hi, rfl, hM⟩ := hrel
  by_cases hin : i = n
  ·
   subst hin
   clear HX hh bl ll
   go_wp2_with (first | (refine wpList_load_row rfl 119 _ rfl (w.heap.size + 1 + 1) rfl 119 _ (0, 0) _ hM.y Tryd.underlying119 rfl (info_pc _ _) ?_) | (refine wpList_store_row rfl 119 _ _ rfl (w.heap.size + 1) (pc (wB (partF h ls i) 0 8) (wB (partF h ls i) 8 8)) rfl rfl 119 _ hM.r (info_pc _ _) rfl (pc_one _ _) ?_))
   exact bodyPost_ret (results_cell_row rfl _ _ _ 119 _ (0, 0) _ rfl (Blk.row hM.r (pc (wB (partF h ls i) 0 8) (wB (partF h ls i) 8 8))) Tryd.underlying119 rfl (info_pc _ _)) rfl ⟨rfl, below_setRow hM.bel (by omega) _⟩
  ·
   have i1 : (i : Int) < (n : Int) := by omega
   have hil : i < ls.length := by rw [← HN.out]; omega
   obtain ⟨g, o, rfl, hlt, hcl⟩ : ∃ g o, pp = some ⟨g, o, none⟩ ∧ g < w.heap.size ∧ ∀ (i : Nat) (h : i < ls.length), ∃ u, w.cell? ⟨g, o + i, none⟩ = some u ∧ SB w u ls[i] := by
    rcases HX.out with h0 | h0
    ·
     rw [h0] at hil
     exact absurd hil (by simp)
    · exact h0
   obtain ⟨u, l, cu, su, bli, lli, hPn⟩ : ∃ u l, w.cell? ⟨g, o + i, none⟩ = some u ∧ SB w u l ∧ (∀ x ∈ l, x < 256) ∧ l.length ≤ 1000000 ∧ partF h ls (i + 1) = hashL (partF h ls i) h l := by
    obtain ⟨u, hu, su⟩ := hcl i hil
    exact ⟨u, ls[i], hu, su, bl _ (List.getElem_mem hil), ll _ (List.getElem_mem hil), by
     show hashL (partF h ls i) h (ls.getD i []) = _
     rw [show ls.getD i [] = ls[i] by simp [hil]]⟩
   replace cu : wr.cell? ⟨g, o + i, none⟩ = some u := (hM.bel.cell (p := ⟨g, o + i, none⟩) hlt).trans cu
   have su' := su
   have hY := partF_lt hh ls i
   have HPN := Lib.hid hPn
   clear hPn hcl su hil
   generalize partF h ls i = Y at *
   obtain ⟨pu, c1, rfl, hcu, hau⟩ := su'
   have su' : SB w (.slice pu l.length c1) l := ⟨pu, c1, rfl, hcu, hau⟩
   clear hau
   go_upto_region 5 with fail
   go_loopw [7] (fun t wr => ∃ j : Nat, j ≤ (l.length + 15) / 16 ∧ SB w t (l.drop (16 * j)) ∧ UM w h (hashF Y h l j) wr) (fun t _ => slen t)
   case atStart => exact ⟨0, by omega, su', hM⟩
   case round =>
    clear hM su' cu
    obtain ⟨j, hj, hs, hM⟩ := hrel
    obtain ⟨m, hm⟩ : ∃ m, m = (l.drop (16 * j)).length := ⟨_, rfl⟩
    have hm' := hm
    rw [List.length_drop] at hm'
    obtain ⟨pv, c2, rfl, hc2, hav⟩ := hs
    rw [← hm] at hc2 ⊢
    by_cases m0 : m = 0
    ·
     have ej : j = (l.length + 15) / 16 := by omega
     have eh : hashF Y h l j = partF h ls (i + 1) := by
      rw [HPN.out, ej]
      rfl
     rw [eh] at hM
     clear hm hm' hj hav ej eh HPN hcu lli hc2
     rw [m0]
     go_wp2
     exact ⟨⟨i + 1, by omega, rfl, hM⟩, by simp only [intOf]; omega⟩
    ·
     obtain ⟨g2, o2, rfl, hA⟩ : ∃ g o, pv = some ⟨g, o, none⟩ ∧ BA w g o (l.drop (16 * j)) := by
      rcases hav with h0 | h0
      ·
       rw [h0] at hm
       exact absurd hm m0
      · exact h0
     have m1 : 0 < m := by omega
     have m2 : (m : Int) > 0 := by omega
     have m3 : (0 : Int) < (m : Int) := by omega
     obtain ⟨nx, hnx⟩ : ∃ nx : Nat → Nat, nx = fun t => (l.drop (16 * j)).getD t 0 := ⟨_, rfl⟩
     have lnx : ∀ t, nx t < 256 := fun t => by rw [hnx]; exact Bytes.getD (Bytes.drop bli _) t
     have hYj := hashF_lt (l := l) hY hh j
     have ej : (fun t => hashF Y h l j t ^^^ nx t) = joinF (hashF Y h l j) l j := by
      funext t
      rw [hnx]
      show _ ^^^ (l.drop (16 * j)).getD t 0 = _ ^^^ _
      rw [List.getD_eq_getElem?_getD, List.getElem?_drop, ← List.getD_eq_getElem?_getD]
     have ejo : ∀ o, wB (hashF Y h l j) o 8 ^^^ wB nx o 8 = wB (joinF (hashF Y h l j) l j) o 8 := fun o => by rw [← ej, wB_xor hYj lnx]
     have C1 := Lib.hid (fun W => read_w nx lnx W)
     have C2 := fun W => plus_w (wB (hashF Y h l j) 0 8) (wB (hashF Y h l j) 8 8) (wB nx 0 8) (wB nx 8 8) (wB_lt8 hYj 0) (wB_lt8 hYj 8) (wB_lt8 lnx 0) (wB_lt8 lnx 8) W
     rw [ejo, ejo] at C2
     have C3 := fun W => times_w (joinF (hashF Y h l j) l j) h (joinF_lt hYj bli j) hh W
     rw [← hashF_su] at C3
     generalize joinF (hashF Y h l j) l j = J at *
     have K2 := Lib.hid C2
     have K3 := Lib.hid C3
     clear C2 C3 ej ejo
     have hjm : j + 1 ≤ (l.length + 15) / 16 := by omega
     obtain ⟨k, hk⟩ : ∃ k, k = min 16 m := ⟨_, rfl⟩
     have hsz := hM.lt
     go_upto_region 7 with fail
     change Code.wp _ _ _ _ (World.alloc wr (.cells (Iv .u8 (NI (LB fun _ => 0))) 27))
     have hN : BB (World.alloc wr (.cells (Iv .u8 (NI (LB fun _ => 0))) 27)) wr.heap.size (fun _ => 0) := Blk.new wr _ _
     have b1 := (Below.refl wr.heap.size wr).alloc (Nat.le_refl _) (.cells (Iv .u8 (NI (LB fun _ => 0))) 27)
     replace hM := hM.below b1
     clear b1
     generalize World.alloc wr _ = W1 at *
     generalize wr.heap.size = G at *
     obtain ⟨cs, hcs⟩ : ∃ cs, cs = ((l.drop (16 * j)).take 16).map fun x => Value.int .u8 ((x : Nat) : Int) := ⟨_, rfl⟩
     have lcs : cs.length = k := by
      rw [hcs, List.length_map, List.length_take, ← hm, hk]
     have k16 : k ≤ 16 := by omega
     have km : k ≤ m := by omega
     have acs : ∀ j v, cs[j]? = some v → W1.cell? ((⟨g2, o2, none⟩ : Addr).add j) = some v := by
      rw [hcs]
      exact cells_at ((hA.below hM.bel).take 16)
     have ocs : ∀ v ∈ cs, v.oneCell' = true := by
      rw [hcs]
      exact one_at _
     have hsp : (splice (Iv .u8 (NI (LB fun _ => 0))).toList 0 cs).toArray = Iv .u8 (NI (LB nx)) := by
      rw [hcs, hnx]
      exact copy16 _
     have lk : cs.length = Nat.min m 16 := by rw [lcs, hk]; exact Nat.min_comm _ _
     have hsb : SB w (.slice (some ⟨g2, o2, none⟩) m c2) (l.drop (16 * j)) := SB.of_ba' hA hm (by omega)
     have edr : (l.drop (16 * j)).drop k = l.drop (16 * (j + 1)) := by
      rw [List.drop_drop]
      by_cases h16 : 16 ≤ m
      · rw [show 16 * j + k = 16 * (j + 1) by omega]
      · rw [List.drop_of_length_le (by omega), List.drop_of_length_le (by omega)]
     have HS := Lib.hid hsp
     have HD := Lib.hid edr
     have hmk : m - k < m := by omega
     clear hcs hsp hm hm' hnx edr hk
     go_wp2_with (refine wpList_copy_splice rfl _ _ _ _ rfl 5 Tryd.underlying24 (by kernel_rfl) _ _ 16 16 m c2 rfl rfl G 0 (Iv .u8 (NI (LB fun _ => 0))).toList 27 (by simpa [BB, Blk] using hN) cs lk (fun _ => ⟨rfl, _, rfl, acs⟩) (by rw [lcs]; simp [Iv_size, NI_length, LB_length]; omega) ocs G W1 (Below.refl _ _) (by have := hN.lt; omega) ?_)
     intro w2 HG b2

     have hN2 : BB w2 G nx := by
      have := HG.out
      rw [HS.out] at this
      exact this
     have hU : UN w h (hashF Y h l j) nx G w2 := ⟨hM.upto b2 hsz, hN2⟩
     have hs2 : SB w (.slice (tailP (some ⟨g2, o2, none⟩) c2 k) (m - k) (c2 - k)) (l.drop (16 * (j + 1))) := by
      have := hsb.tail k km
      rw [HD.out] at this
      exact this
     clear hN2 HG HS acs ocs lcs lk hsb hA hN hM b2
     refine wpList_yield (S := fun _ => True) (yieldsIf_tail rfl _ _ rfl (some ⟨g2, o2, none⟩) m c2 k rfl rfl km hc2) trivial ?_
     obtain ⟨pt, hpt⟩ : ∃ pt, pt = tailP (some ⟨g2, o2, none⟩) c2 k := ⟨_, rfl⟩
     rw [← hpt] at hs2 ⊢
     obtain ⟨mk, hmk'⟩ : ∃ mk, mk = m - k := ⟨_, rfl⟩
     rw [← hmk'] at hs2 hmk ⊢
     obtain ⟨ck, hck'⟩ : ∃ ck, ck = c2 - k := ⟨_, rfl⟩
     rw [← hck'] at hs2 ⊢
     simp only [Act.put, List.setIfInBounds_toArray, List.set_cons_zero, List.set_cons_succ]
     clear hpt hmk' hck' hc2 k16 km
     go_upto_region 8 with fail
     refine wp_region_Z (S := UN w h (hashF Y h l j) nx G) 6 (by kernel_rfl) ?_
     replace hU := hU.drew
     generalize w2.drew = V at hU ⊢
     have hS := hU
     refine wpAnyZ_takeL 0 rfl (by kernel_rfl) (by kernel_rfl) (by kernel_rfl) (by kernel_rfl) (by kernel_rfl) (fun _ _ _ H => H) (show YieldsIf _ _ _ _ (Value.agg (pc (wB (hashF Y h l j) 0 8) (wB (hashF Y h l j) 8 8))) _ from yieldsIf_row_wanted rfl 119 _ rfl (w.heap.size + 1 + 1) rfl 119 _ _ (fun _ H => H.m.y) Tryd.underlying119 rfl (info_pc _ _)) hS ?_
     simp only [Act.put, List.setIfInBounds_toArray, List.set_cons_zero, List.set_cons_succ]
     refine wpAnyZ_takeL 1 rfl (by kernel_rfl) (by kernel_rfl) (by kernel_rfl) (by kernel_rfl) (by kernel_rfl) (fun _ _ _ H => H) (show YieldsIf _ _ _ _ (Value.agg (Iv .u8 (NI (LB (nx))))) _ from yieldsIf_row_wanted rfl 27 _ rfl (G) rfl 27 _ _ (fun _ H => H.n) Tryd.underlying27 rfl (info_bl _)) hS ?_
     simp only [Act.put, List.setIfInBounds_toArray, List.set_cons_zero, List.set_cons_succ]
     refine wpAnyZ_takeL 4 rfl (by kernel_rfl) (by kernel_rfl) (by kernel_rfl) (by kernel_rfl) (by kernel_rfl) (fun _ _ _ H => H) (show YieldsIf _ _ _ _ (Value.agg (pc (wB h 0 8) (wB h 8 8))) _ from yieldsIf_row_wanted rfl 119 _ rfl (w.heap.size) rfl 119 _ _ (fun _ H => H.m.f) Tryd.underlying119 rfl (info_pc _ _)) hS ?_
     simp only [Act.put, List.setIfInBounds_toArray, List.set_cons_zero, List.set_cons_succ]
     refine zstep 2 rfl rfl (by kernel_rfl) ?_
     unfold Oper.wp execOp
     go_simp
     refine (C1.out _).mono ?_
     rintro _ w4 ⟨rfl, b4⟩
     replace hU := hU.below b4
     clear hS b4 C1
     refine ⟨hU, ?_⟩
     have hS := hU
     refine zstep 3 rfl rfl (by kernel_rfl) ?_
     unfold Oper.wp execOp
     go_simp
     refine (K2.out _).mono ?_
     rintro _ w5 ⟨rfl, b5⟩
     replace hU := hU.below b5
     clear hS b5 K2
     refine ⟨hU, ?_⟩
     have hS := hU
     refine zstep 5 rfl rfl (by kernel_rfl) ?_
     unfold Oper.wp execOp
     go_simp
     refine (K3.out _).mono ?_
     rintro _ w6 ⟨rfl, b6⟩
     replace hU := hU.below b6
     clear hS b6 K3
     refine ⟨hU, ?_⟩
     refine zstep 6 rfl rfl (by kernel_rfl) ?_
     refine wp_store_row 119 _ _ rfl (w.heap.size + 1 + 1) (pc (wB (hashF Y h l (j + 1)) 0 8) (wB (hashF Y h l (j + 1)) 8 8)) rfl rfl 119 _ hU.m.y (info_pc _ _) rfl (pc_one _ _) ?_
     refine ⟨fun e => Bool.noConfusion ((e.symm.trans (show _ = true from rfl) : false = true)), ?_⟩
     refine wpAnyZ_done (by kernel_rfl) ?_ _
     have hM := hU.m.setY (hashF Y h l (j + 1))
     clear hU
     generalize World.setRow _ _ _ = U at *
     simp only [Act.put]
     go_wp2
     exact ⟨⟨j + 1, hjm, hs2, hM⟩, hmk⟩
end Go.Proofs.YtpihgljdbpnehaaDoor
