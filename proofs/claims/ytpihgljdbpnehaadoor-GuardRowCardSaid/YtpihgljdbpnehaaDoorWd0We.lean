/- The program's block: a polynomial as a block; its contract. The program's product of polynomials: its contract. -/
import Derived.Test.YtpihgljdbpnehaaDoorWc
namespace Go.Proofs.YtpihgljdbpnehaaDoor
open Go.RowKit
/-- Bytes put in from the front of both halves. -/
def M2 (f : Nat → Nat) (k i : Nat) : Nat := if i < k ∨ 8 ≤ i ∧ i < 8 + k then f i else 0
def M3 (f : Nat → Nat) (k i : Nat) : Nat := if i < k + 1 ∨ 8 ≤ i ∧ i < 8 + k then f i else 0
theorem word_byte {f : Nat → Nat} (fa : ∀ i, f i < 256) (o k : Nat) (hk : k < 8) : ((wB f o 8 : Nat) : Int) / 2 ^ (8 * (7 - k)) % 256 = ((f (o + k) : Nat) : Int) := by
  have h := wB_byte fa o 8 k hk
  rw [← h, show (256 : Nat) ^ (8 - 1 - k) = 2 ^ (8 * (7 - k)) by rw [Nat.pow_mul]]
  simp
set_option maxHeartbeats 4000000 in
set_option maxRecDepth 100000 in
theorem block_w (f : Nat → Nat) (fa : ∀ i, f i < 256) (w : World) :
    Calls Tryd.prog 72 #[.agg (pc (wB f 0 8) (wB f 8 8))] w fun e w' => e = .returned (.agg (Iv .u8 (NI (LB f)))) ∧ Below w.heap.size w w' := by
  have wx := wB_lt8 fa 0
  have wy := wB_lt8 fa 8
  have bx := fun k hk => word_byte fa 0 k hk
  have byy := fun k hk => word_byte fa 8 k hk
  generalize wB f 0 8 = x at *
  generalize wB f 8 8 = y at *
  go_enter Tryd.func72, Tryd.ntmps72
  go_upto_region 3 with fail
  generalize hW : World.alloc (World.alloc (World.alloc w _) _) _ = W
  have B0 : Below w.heap.size w W := hW ▸ (((Below.refl w.heap.size w).alloc (Nat.le_refl _) _).alloc (by simp) _).alloc (by simp; omega) _
  have K0 : PB W w.heap.size x y := hW ▸ ((Blk.new w 119 (pc x y)).alloc _).alloc _
  have K1 : BB W (w.heap.size + 1) (fun _ => 0) := hW ▸ (Blk.new' (by simp) _ (Iv .u8 (NI (LB fun _ => 0)))).alloc _
  have K2 : BB W (w.heap.size + 1 + 1) (M2 f 0) := by
    have h : BB W (w.heap.size + 1 + 1) (fun _ => 0) := hW ▸ Blk.new' (by simp) _ (Iv .u8 (NI (LB fun _ => 0)))
    exact h.congr fun i hi => (if_neg (by omega)).symm
  clear hW
  go_loopw [6] (fun i wr => ∃ k : Nat, k ≤ 8 ∧ i = .int .i64 (k : Int) ∧ PB wr w.heap.size x y ∧ BB wr (w.heap.size + 1) (fun _ => 0) ∧ BB wr (w.heap.size + 1 + 1) (M2 f k) ∧ Below w.heap.size w wr) (fun i _ => (8 - intOf i).toNat)
  case atStart => exact ⟨0, by omega, rfl, K0, K1, K2, B0⟩
  case round =>
    clear K0 K1 K2 B0
    obtain ⟨k, hk, rfl, K0, K1, K2, hB⟩ := hrel
    by_cases h8 : k = 8
    · subst h8
      replace K2 := K2.congr (f' := f) fun i hi => if_pos (by omega)
      go_wp2_with (first | (refine wpList_load_row rfl 27 _ rfl (w.heap.size + 1 + 1) rfl 27 _ (0, 0) _ K2 Tryd.underlying27 rfl (info_bl _) ?_) | (refine wpList_store_row rfl 27 _ _ rfl (w.heap.size + 1) (Iv .u8 (NI (LB f))) rfl rfl 27 _ K1 (info_bl _) (by rw [Iv_size, Iv_size, NI_length, NI_length, LB_length, LB_length]) (Iv_one _ _) ?_))
      exact bodyPost_ret (results_cell_row rfl _ _ _ 27 _ (0, 0) _ rfl (Blk.row K1 (Iv .u8 (NI (LB f)))) Tryd.underlying27 rfl (info_bl _)) rfl ⟨rfl, below_setRow hB (by omega) _⟩
    · have i1 : (k : Int) < 8 := by omega
      have i0 : (0 : Int) ≤ (k : Int) := by omega
      have i2 : (k : Int) < 16 := by omega
      have q1 := bx k (by omega)
      have q2 := byy k (by omega)
      rw [Nat.zero_add] at q1
      clear bx byy
      obtain ⟨r, hr⟩ : ∃ r, r = 7 - k := ⟨_, rfl⟩
      obtain ⟨s, hs⟩ : ∃ s, s = 8 * r := ⟨_, rfl⟩
      rw [← hr, ← hs] at q1 q2
      have r1 : IntKind.i64.wrap (7 - (k : Int)) = (r : Int) := by rw [IntKind.wrap_i64]; omega
      have r2 : IntKind.i64.wrap (8 * (r : Int)) = (s : Int) := by rw [IntKind.wrap_i64]; omega
      have s0 : (0 : Int) ≤ (s : Int) := by omega
      have s1 : min s 64 = s := by omega
      have j1 : IntKind.i64.wrap (8 + (k : Int)) = ((8 + k : Nat) : Int) := by rw [IntKind.wrap_i64]; omega
      have j2 : ((8 + k : Nat) : Int) < 16 := by omega
      have j3 : (0 : Int) ≤ ((8 + k : Nat) : Int) := by omega
      have cx := K0.c0
      have cy := K0.c1
      have c1 := K2.cell k (by omega)
      have f1 := Blk.frozen K2 k
      have K2' := K2.set k (M3 f k) (fun i hi => by
        unfold M2 M3
        by_cases h : i < k
        · rw [if_pos (by omega), if_pos (by omega)]
        · by_cases h2 : 8 ≤ i ∧ i < 8 + k
          · rw [if_pos (by omega), if_pos (by omega)]
          · rw [if_neg (by omega), if_neg (by omega)])
      rw [show M3 f k k = f k from if_pos (by omega)] at K2'
      have K0' : PB (wr.setCell ⟨w.heap.size + 1 + 1, k, none⟩ (.int .u8 ((f k : Nat) : Int))) _ _ _ := Blk.far (p := ⟨w.heap.size + 1 + 1, k, none⟩) K0 (by dsimp only; omega) _
      have cy' := K0'.c1
      have c2 := K2'.cell (8 + k) (by omega)
      have f2 := Blk.frozen K2' (8 + k)
      have K0'' : PB ((wr.setCell ⟨w.heap.size + 1 + 1, k, none⟩ (.int .u8 ((f k : Nat) : Int))).setCell ⟨w.heap.size + 1 + 1, 8 + k, none⟩ (.int .u8 ((f (8 + k) : Nat) : Int))) _ _ _ := Blk.far (p := ⟨w.heap.size + 1 + 1, 8 + k, none⟩) K0' (by dsimp only; omega) _
      have K1'' : BB ((wr.setCell ⟨w.heap.size + 1 + 1, k, none⟩ (.int .u8 ((f k : Nat) : Int))).setCell ⟨w.heap.size + 1 + 1, 8 + k, none⟩ (.int .u8 ((f (8 + k) : Nat) : Int))) _ _ := Blk.far (p := ⟨w.heap.size + 1 + 1, 8 + k, none⟩) (Blk.far (p := ⟨w.heap.size + 1 + 1, k, none⟩) K1 (by dsimp only; omega) _) (by dsimp only; omega) _
      have hB'' : Below w.heap.size w ((wr.setCell ⟨w.heap.size + 1 + 1, k, none⟩ (.int .u8 ((f k : Nat) : Int))).setCell ⟨w.heap.size + 1 + 1, 8 + k, none⟩ (.int .u8 ((f (8 + k) : Nat) : Int))) := (hB.setCell (p := ⟨w.heap.size + 1 + 1, k, none⟩) (by dsimp only; omega) _).setCell (p := ⟨w.heap.size + 1 + 1, 8 + k, none⟩) (by dsimp only; omega) _
      have K2'' := K2'.set (8 + k) (M2 f (k + 1)) (fun i hi => by
        unfold M2 M3
        by_cases h : i < k + 1
        · rw [if_pos (by omega), if_pos (by omega)]
        · by_cases h2 : 8 ≤ i ∧ i < 8 + k
          · rw [if_pos (by omega), if_pos (by omega)]
          · rw [if_neg (by omega), if_neg (by omega)])
      rw [show M2 f (k + 1) (8 + k) = f (8 + k) from if_pos (by omega)] at K2''
      clear hr hs K0 K1 K2 K0' K2' hB
      go_wp2
      exact ⟨⟨k + 1, by omega, rfl, K0'', K1'', K2'', hB''⟩, by simp only [intOf]; omega⟩
end Go.Proofs.YtpihgljdbpnehaaDoor
namespace Go.Proofs.YtpihgljdbpnehaaDoor
open Go.RowKit
/-- Bit i of a block. -/
def bitF (a : Nat → Nat) (i : Nat) : Nat := a (i / 8) / 2 ^ (7 - i % 8) % 2
theorem bitF_lt (a : Nat → Nat) (i : Nat) : bitF a i < 2 := Nat.mod_lt _ (by decide)
theorem gp_step {a b : Nat → Nat} (hb : ∀ i, b i < 256) (o i : Nat) : wB (gpF a b (i + 1)) o 8 = wB (gpF a b i) o 8 ^^^ wB (gbF b i) o 8 * bitF a i := by
  by_cases h : a (i / 8) / 2 ^ (7 - i % 8) % 2 = 1
  · have e : gpF a b (i + 1) = fun k => gpF a b i k ^^^ gbF b i k := by
      funext k
      show (if a (i / 8) / 2 ^ (7 - i % 8) % 2 = 1 then gpF a b i k ^^^ gbF b i k else gpF a b i k) = _
      rw [if_pos h]
    rw [e, wB_xor (gpF_lt hb i) (gbF_lt hb i)]
    unfold bitF
    rw [h, Nat.mul_one]
  · have e : gpF a b (i + 1) = gpF a b i := by
      funext k
      show (if a (i / 8) / 2 ^ (7 - i % 8) % 2 = 1 then gpF a b i k ^^^ gbF b i k else gpF a b i k) = _
      rw [if_neg h]
    rw [e]
    unfold bitF
    rw [show a (i / 8) / 2 ^ (7 - i % 8) % 2 = 0 by omega, Nat.mul_zero, Nat.xor_zero]
theorem bit_word {a : Nat → Nat} (ha : ∀ i, a i < 256) (h k : Nat) (hk : k < 64) : wB a (8 * h) 8 / 2 ^ (63 - k) % 2 = bitF a (64 * h + k) := by
  rw [wB_bit ha _ k hk]
  unfold bitF
  rw [show (64 * h + k) / 8 = 8 * h + k / 8 by omega, show (64 * h + k) % 8 = k % 8 by omega]
/-- What stands in times. -/
structure TM (w0 : World) (p0 p1 q0 q1 x0 x1 : Nat) (w : World) : Prop where
  p : PB w w0.heap.size p0 p1
  q : PB w (w0.heap.size + 1) q0 q1
  r : PB w (w0.heap.size + 1 + 1) 0 0
  x : PB w (w0.heap.size + 1 + 1 + 1) x0 x1
  bel : Below w0.heap.size w0 w
section
variable {w0 w w1 : World} {p0 p1 q0 q1 x0 x1 : Nat}
theorem TM.below (h : TM w0 p0 p1 q0 q1 x0 x1 w) (c : Below w.heap.size w w1) : TM w0 p0 p1 q0 q1 x0 x1 w1 := ⟨Blk.below' h.p c, Blk.below' h.q c, Blk.below' h.r c, Blk.below' h.x c, h.bel.trans (c.mono h.bel.size)⟩
theorem TM.setX (h : TM w0 p0 p1 q0 q1 x0 x1 w) (y0 y1 : Nat) : TM w0 p0 p1 q0 q1 y0 y1 (w.setRow (w0.heap.size + 1 + 1 + 1) (pc y0 y1)) := ⟨Blk.rowFar h.p (by omega) _, Blk.rowFar h.q (by omega) _, Blk.rowFar h.r (by omega) _, Blk.row h.x _, below_setRow h.bel (by omega) _⟩
theorem TM.setQ (h : TM w0 p0 p1 q0 q1 x0 x1 w) (y0 y1 : Nat) : TM w0 p0 p1 y0 y1 x0 x1 (w.setRow (w0.heap.size + 1) (pc y0 y1)) := ⟨Blk.rowFar h.p (by omega) _, Blk.row h.q _, Blk.rowFar h.r (by omega) _, Blk.rowFar h.x (by omega) _, below_setRow h.bel (by omega) _⟩
end
set_option maxHeartbeats 4000000 in
set_option maxRecDepth 100000 in
theorem times_w (a b : Nat → Nat) (ha : ∀ i, a i < 256) (hb : ∀ i, b i < 256) (w : World) :
    Calls Tryd.prog 71 #[.agg (pc (wB a 0 8) (wB a 8 8)), .agg (pc (wB b 0 8) (wB b 8 8))] w fun e w' => e = .returned (.agg (pc (wB (timesF a b) 0 8) (wB (timesF a b) 8 8))) ∧ Below w.heap.size w w' := by
  have hX : ∀ i o, wB (gpF a b i) o 8 < 18446744073709551616 := fun i o => wB_lt8 (gpF_lt hb i) o
  have hQ : ∀ i o, wB (gbF b i) o 8 < 18446744073709551616 := fun i o => wB_lt8 (gbF_lt hb i) o
  have hz : ∀ o, wB (gpF a b 0) o 8 = 0 := fun o => wB_zero o 8
  have hbit := fun h k hk => bit_word (a := a) ha h k hk
  have lp0 := wB_lt8 ha 0
  have lp1 := wB_lt8 ha 8
  go_enter Tryd.func71, Tryd.ntmps71
  go_upto_region 2 with fail
  generalize hW : World.alloc (World.alloc (World.alloc (World.alloc w _) _) _) _ = W
  have hM : TM w (wB a 0 8) (wB a 8 8) (wB (gbF b 0) 0 8) (wB (gbF b 0) 8 8) (wB (gpF a b 0) 0 8) (wB (gpF a b 0) 8 8) W := by
    rw [hz, hz]
    exact ⟨hW ▸ (((Blk.new w 119 (pc _ _)).alloc _).alloc _).alloc _, hW ▸ ((Blk.new' (by simp) _ (pc _ _)).alloc _).alloc _, hW ▸ (Blk.new' (by simp) _ (pc 0 0)).alloc _, hW ▸ Blk.new' (by simp) _ (pc 0 0), hW ▸ ((((Below.refl w.heap.size w).alloc (Nat.le_refl _) _).alloc (by simp) _).alloc (by simp; omega) _).alloc (by simp; omega) _⟩
  have c0 := hM.p.c0
  have c1 := hM.p.c1
  clear hW
  go_upto_region 3 with fail
  clear c0 c1
  go_loopw [15] (fun t wr => ∃ h : Nat, h ≤ 2 ∧ t = .int .i64 (h : Int) ∧ TM w (wB a 0 8) (wB a 8 8) (wB (gbF b (64 * h)) 0 8) (wB (gbF b (64 * h)) 8 8) (wB (gpF a b (64 * h)) 0 8) (wB (gpF a b (64 * h)) 8 8) wr) (fun t _ => (2 - intOf t).toNat)
  case atStart => exact ⟨0, by omega, rfl, hM⟩
  case round =>
    clear hM
    obtain ⟨h, hh, rfl, hM⟩ := hrel
    have : h = 0 ∨ h = 1 ∨ h = 2 := by omega
    rcases this with rfl | rfl | rfl
    · have ix : ∀ (P0 P1 : Nat) (w : World), (Instr.index 133 (.agg #[.int .u64 (P0 : Int), .int .u64 (P1 : Int)]) (.int .i64 0)).run Tryd.prog w = .ok (.int .u64 (P0 : Int)) w := fun _ _ _ => by kernel_rfl
      go_upto_region 6 with fail
      have hb1 : ∀ k, k < 64 → wB a 0 8 / 2 ^ (63 - k) % 2 = bitF a (64 * 0 + k) := fun k hk => hbit 0 k hk
      generalize hH : wB a 0 8 = H at *
      rw [show ((0 : Nat) : Int) = 0 from rfl]
      go_loopw [18] (fun t wr => ∃ k : Nat, k ≤ 64 ∧ t = .int .i64 (k : Int) ∧ TM w (wB a 0 8) (wB a 8 8) (wB (gbF b (64 * 0 + k)) 0 8) (wB (gbF b (64 * 0 + k)) 8 8) (wB (gpF a b (64 * 0 + k)) 0 8) (wB (gpF a b (64 * 0 + k)) 8 8) wr) (fun t _ => (64 - intOf t).toNat)
      case atStart => exact ⟨0, by omega, rfl, by first | exact hM | (rw [hH]; exact hM) | (rw [← hH] at hM; exact hM)⟩
      case round =>
        clear hM
        obtain ⟨k, hk, rfl, hM⟩ := hrel
        by_cases h64 : k = 64
        · subst h64
          clear hX hQ hb1
          subst hH
          go_wp2
          exact ⟨⟨0 + 1, by omega, rfl, hM⟩, by simp only [intOf]; omega⟩
        · have k1 : (k : Int) < 64 := by omega
          have hbt := hb1 k (by omega)
          have ln := bitF_lt a (64 * 0 + k)
          have nx0 := gp_step (a := a) hb 0 (64 * 0 + k)
          have nx8 := gp_step (a := a) hb 8 (64 * 0 + k)
          have nq0 := turn_one (gbF_lt hb (64 * 0 + k))
          have nq8 := turn_two (gbF_lt hb (64 * 0 + k))
          have lx0 := hX (64 * 0 + k) 0
          have lx8 := hX (64 * 0 + k) 8
          have lq0 := hQ (64 * 0 + k) 0
          have lq8 := hQ (64 * 0 + k) 8
          rw [show gturnF (gbF b (64 * 0 + k)) = gbF b (64 * 0 + (k + 1)) from rfl] at nq0 nq8
          rw [show 64 * 0 + k + 1 = 64 * 0 + (k + 1) from rfl] at nx0 nx8
          generalize bitF a (64 * 0 + k) = o at *
          generalize wB (gpF a b (64 * 0 + k)) 0 8 = x0 at *
          generalize wB (gpF a b (64 * 0 + k)) 8 8 = x1 at *
          generalize wB (gbF b (64 * 0 + k)) 0 8 = q0 at *
          generalize wB (gbF b (64 * 0 + k)) 8 8 = q1 at *
          obtain ⟨r, hr⟩ : ∃ r, r = 63 - k := ⟨_, rfl⟩
          rw [← hr] at hbt
          obtain ⟨z, hz⟩ : ∃ z, z = H / 2 ^ r := ⟨_, rfl⟩
          rw [← hz] at hbt
          have lz : z < 18446744073709551616 := Nat.lt_of_le_of_lt (hz ▸ Nat.div_le_self _ _) (by omega)
          have e1 : IntKind.i64.wrap (63 - (k : Int)) = (r : Int) := by rw [IntKind.wrap_i64]; omega
          have e2 : (0 : Int) ≤ (r : Int) := by omega
          have e3 : min r 64 = r := by omega
          have e4 : (H : Int) / 2 ^ r = (z : Int) := by rw [hz]; simp
          have e5 : bits .and .u64 (z : Int) 1 = (o : Int) := by
            have h := u64_and_nat z 1 lz (by decide)
            rw [show z &&& 1 = z % 2 from Nat.and_two_pow_sub_one_eq_mod _ 1, hbt] at h
            exact h
          obtain ⟨m0, hm0⟩ : ∃ m0, m0 = q0 * o := ⟨_, rfl⟩
          obtain ⟨m1, hm1⟩ : ∃ m1, m1 = q1 * o := ⟨_, rfl⟩
          have lm0 : m0 < 18446744073709551616 := by
            have : o = 0 ∨ o = 1 := by omega
            rcases this with h | h <;> rw [hm0, h] <;> omega
          have lm1 : m1 < 18446744073709551616 := by
            have : o = 0 ∨ o = 1 := by omega
            rcases this with h | h <;> rw [hm1, h] <;> omega
          have e6 : IntKind.u64.wrap ((q0 : Int) * (o : Int)) = (m0 : Int) := by
            rw [← Int.natCast_mul, ← hm0, IntKind.wrap_u64]; omega
          have e7 : IntKind.u64.wrap ((q1 : Int) * (o : Int)) = (m1 : Int) := by
            rw [← Int.natCast_mul, ← hm1, IntKind.wrap_u64]; omega
          rw [← hm0] at nx0
          rw [← hm1] at nx8
          have C1 := Lib.hid (fun W => plus_w x0 x1 m0 m1 lx0 lx8 lm0 lm1 W)
          have C2 := Lib.hid (fun W => timesX_w q0 q1 lq0 lq8 W)
          rw [← nx0, ← nx8] at C1
          rw [← nq0, ← nq8] at C2
          have NX := Lib.hid (And.intro nx0 (And.intro nx8 (And.intro nq0 nq8)))
          clear nx0 nx8 nq0 nq8 hr hz hm0 hm1 hbt lz lm0 lm1 hb1 hX hQ
          generalize h1 : wB (gpF a b (64 * 0 + (k + 1))) 0 8 = y0 at *
          generalize h2 : wB (gpF a b (64 * 0 + (k + 1))) 8 8 = y1 at *
          generalize h3 : wB (gbF b (64 * 0 + (k + 1))) 0 8 = r0 at *
          generalize h4 : wB (gbF b (64 * 0 + (k + 1))) 8 8 = r1 at *
          have H1 := Lib.hid h1
          have H2 := Lib.hid h2
          have H3 := Lib.hid h3
          have H4 := Lib.hid h4
          clear h1 h2 h3 h4 NX
          have c0 := hM.q.c0
          have c1 := hM.q.c1
          go_wp2_with (refine wpList_load_row rfl 119 _ rfl (w.heap.size + 1 + 1 + 1) rfl 119 _ (0, 0) _ hM.x Tryd.underlying119 rfl (info_pc _ _) ?_)
          refine (C1.out _).mono ?_
          rintro _ w1 ⟨rfl, b1⟩
          replace hM := hM.below b1
          clear b1 c0 c1 C1
          go_wp2_with (first | (refine wpList_load_row rfl 119 _ rfl (w.heap.size + 1) rfl 119 _ (0, 0) _ (hM.setX y0 y1).q Tryd.underlying119 rfl (info_pc _ _) ?_) | (refine wpList_store_row rfl 119 _ _ rfl (w.heap.size + 1 + 1 + 1) (pc y0 y1) rfl rfl 119 _ hM.x (info_pc _ _) rfl (pc_one _ _) ?_))
          replace hM := hM.setX y0 y1
          generalize World.setRow _ _ _ = w2 at *
          refine (C2.out _).mono ?_
          rintro _ w3 ⟨rfl, b3⟩
          replace hM := hM.below b3
          clear b3 C2
          go_wp2_with (refine wpList_store_row rfl 119 _ _ rfl (w.heap.size + 1) (pc r0 r1) rfl rfl 119 _ hM.q (info_pc _ _) rfl (pc_one _ _) ?_)
          go_wp2
          exact ⟨⟨k + 1, by omega, rfl, by rw [H1.out, H2.out, H3.out, H4.out]; exact hM.setQ r0 r1⟩, by simp only [intOf]; omega⟩
    · have ix : ∀ (P0 P1 : Nat) (w : World), (Instr.index 133 (.agg #[.int .u64 (P0 : Int), .int .u64 (P1 : Int)]) (.int .i64 1)).run Tryd.prog w = .ok (.int .u64 (P1 : Int)) w := fun _ _ _ => by kernel_rfl
      go_upto_region 6 with fail
      have hb1 : ∀ k, k < 64 → wB a 8 8 / 2 ^ (63 - k) % 2 = bitF a (64 * 1 + k) := fun k hk => hbit 1 k hk
      generalize hH : wB a 8 8 = H at *
      rw [show ((1 : Nat) : Int) = 1 from rfl]
      go_loopw [18] (fun t wr => ∃ k : Nat, k ≤ 64 ∧ t = .int .i64 (k : Int) ∧ TM w (wB a 0 8) (wB a 8 8) (wB (gbF b (64 * 1 + k)) 0 8) (wB (gbF b (64 * 1 + k)) 8 8) (wB (gpF a b (64 * 1 + k)) 0 8) (wB (gpF a b (64 * 1 + k)) 8 8) wr) (fun t _ => (64 - intOf t).toNat)
      case atStart => exact ⟨0, by omega, rfl, by first | exact hM | (rw [hH]; exact hM) | (rw [← hH] at hM; exact hM)⟩
      case round =>
        clear hM
        obtain ⟨k, hk, rfl, hM⟩ := hrel
        by_cases h64 : k = 64
        · subst h64
          clear hX hQ hb1
          subst hH
          go_wp2
          exact ⟨⟨1 + 1, by omega, rfl, hM⟩, by simp only [intOf]; omega⟩
        · have k1 : (k : Int) < 64 := by omega
          have hbt := hb1 k (by omega)
          have ln := bitF_lt a (64 * 1 + k)
          have nx0 := gp_step (a := a) hb 0 (64 * 1 + k)
          have nx8 := gp_step (a := a) hb 8 (64 * 1 + k)
          have nq0 := turn_one (gbF_lt hb (64 * 1 + k))
          have nq8 := turn_two (gbF_lt hb (64 * 1 + k))
          have lx0 := hX (64 * 1 + k) 0
          have lx8 := hX (64 * 1 + k) 8
          have lq0 := hQ (64 * 1 + k) 0
          have lq8 := hQ (64 * 1 + k) 8
          rw [show gturnF (gbF b (64 * 1 + k)) = gbF b (64 * 1 + (k + 1)) from rfl] at nq0 nq8
          rw [show 64 * 1 + k + 1 = 64 * 1 + (k + 1) from rfl] at nx0 nx8
          generalize bitF a (64 * 1 + k) = o at *
          generalize wB (gpF a b (64 * 1 + k)) 0 8 = x0 at *
          generalize wB (gpF a b (64 * 1 + k)) 8 8 = x1 at *
          generalize wB (gbF b (64 * 1 + k)) 0 8 = q0 at *
          generalize wB (gbF b (64 * 1 + k)) 8 8 = q1 at *
          obtain ⟨r, hr⟩ : ∃ r, r = 63 - k := ⟨_, rfl⟩
          rw [← hr] at hbt
          obtain ⟨z, hz⟩ : ∃ z, z = H / 2 ^ r := ⟨_, rfl⟩
          rw [← hz] at hbt
          have lz : z < 18446744073709551616 := Nat.lt_of_le_of_lt (hz ▸ Nat.div_le_self _ _) (by omega)
          have e1 : IntKind.i64.wrap (63 - (k : Int)) = (r : Int) := by rw [IntKind.wrap_i64]; omega
          have e2 : (0 : Int) ≤ (r : Int) := by omega
          have e3 : min r 64 = r := by omega
          have e4 : (H : Int) / 2 ^ r = (z : Int) := by rw [hz]; simp
          have e5 : bits .and .u64 (z : Int) 1 = (o : Int) := by
            have h := u64_and_nat z 1 lz (by decide)
            rw [show z &&& 1 = z % 2 from Nat.and_two_pow_sub_one_eq_mod _ 1, hbt] at h
            exact h
          obtain ⟨m0, hm0⟩ : ∃ m0, m0 = q0 * o := ⟨_, rfl⟩
          obtain ⟨m1, hm1⟩ : ∃ m1, m1 = q1 * o := ⟨_, rfl⟩
          have lm0 : m0 < 18446744073709551616 := by
            have : o = 0 ∨ o = 1 := by omega
            rcases this with h | h <;> rw [hm0, h] <;> omega
          have lm1 : m1 < 18446744073709551616 := by
            have : o = 0 ∨ o = 1 := by omega
            rcases this with h | h <;> rw [hm1, h] <;> omega
          have e6 : IntKind.u64.wrap ((q0 : Int) * (o : Int)) = (m0 : Int) := by
            rw [← Int.natCast_mul, ← hm0, IntKind.wrap_u64]; omega
          have e7 : IntKind.u64.wrap ((q1 : Int) * (o : Int)) = (m1 : Int) := by
            rw [← Int.natCast_mul, ← hm1, IntKind.wrap_u64]; omega
          rw [← hm0] at nx0
          rw [← hm1] at nx8
          have C1 := Lib.hid (fun W => plus_w x0 x1 m0 m1 lx0 lx8 lm0 lm1 W)
          have C2 := Lib.hid (fun W => timesX_w q0 q1 lq0 lq8 W)
          rw [← nx0, ← nx8] at C1
          rw [← nq0, ← nq8] at C2
          have NX := Lib.hid (And.intro nx0 (And.intro nx8 (And.intro nq0 nq8)))
          clear nx0 nx8 nq0 nq8 hr hz hm0 hm1 hbt lz lm0 lm1 hb1 hX hQ
          generalize h1 : wB (gpF a b (64 * 1 + (k + 1))) 0 8 = y0 at *
          generalize h2 : wB (gpF a b (64 * 1 + (k + 1))) 8 8 = y1 at *
          generalize h3 : wB (gbF b (64 * 1 + (k + 1))) 0 8 = r0 at *
          generalize h4 : wB (gbF b (64 * 1 + (k + 1))) 8 8 = r1 at *
          have H1 := Lib.hid h1
          have H2 := Lib.hid h2
          have H3 := Lib.hid h3
          have H4 := Lib.hid h4
          clear h1 h2 h3 h4 NX
          have c0 := hM.q.c0
          have c1 := hM.q.c1
          go_wp2_with (refine wpList_load_row rfl 119 _ rfl (w.heap.size + 1 + 1 + 1) rfl 119 _ (0, 0) _ hM.x Tryd.underlying119 rfl (info_pc _ _) ?_)
          refine (C1.out _).mono ?_
          rintro _ w1 ⟨rfl, b1⟩
          replace hM := hM.below b1
          clear b1 c0 c1 C1
          go_wp2_with (first | (refine wpList_load_row rfl 119 _ rfl (w.heap.size + 1) rfl 119 _ (0, 0) _ (hM.setX y0 y1).q Tryd.underlying119 rfl (info_pc _ _) ?_) | (refine wpList_store_row rfl 119 _ _ rfl (w.heap.size + 1 + 1 + 1) (pc y0 y1) rfl rfl 119 _ hM.x (info_pc _ _) rfl (pc_one _ _) ?_))
          replace hM := hM.setX y0 y1
          generalize World.setRow _ _ _ = w2 at *
          refine (C2.out _).mono ?_
          rintro _ w3 ⟨rfl, b3⟩
          replace hM := hM.below b3
          clear b3 C2
          go_wp2_with (refine wpList_store_row rfl 119 _ _ rfl (w.heap.size + 1) (pc r0 r1) rfl rfl 119 _ hM.q (info_pc _ _) rfl (pc_one _ _) ?_)
          go_wp2
          exact ⟨⟨k + 1, by omega, rfl, by rw [H1.out, H2.out, H3.out, H4.out]; exact hM.setQ r0 r1⟩, by simp only [intOf]; omega⟩
    · clear hX hQ hbit
      go_wp2_with (first | (refine wpList_load_row rfl 119 _ rfl (w.heap.size + 1 + 1 + 1) rfl 119 _ (0, 0) _ hM.x Tryd.underlying119 rfl (info_pc _ _) ?_) | (refine wpList_store_row rfl 119 _ _ rfl (w.heap.size + 1 + 1) (pc (wB (gpF a b 128) 0 8) (wB (gpF a b 128) 8 8)) rfl rfl 119 _ hM.r (info_pc _ _) rfl (pc_one _ _) ?_))
      exact bodyPost_ret (results_cell_row rfl _ _ _ 119 _ (0, 0) _ rfl (Blk.row hM.r (pc (wB (gpF a b 128) 0 8) (wB (gpF a b 128) 8 8))) Tryd.underlying119 rfl (info_pc _ _)) rfl ⟨rfl, below_setRow hM.bel (by omega) _⟩
end Go.Proofs.YtpihgljdbpnehaaDoor
