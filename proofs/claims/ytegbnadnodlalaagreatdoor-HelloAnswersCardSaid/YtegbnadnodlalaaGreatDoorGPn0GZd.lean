/- Contracts on points by letters; Awake (printed by gencurve.py). The mathematics of a signature: the second half is known by the point's equation. Clamp: its contract, by number. Keys and 64 bytes as lists; the sum as a number. What the walks of sign's functions take: a key copied into a block, slices of slices built, 64 bytes held against each other. -/
import Derived.Test.YtegbnadnodlalaaGreatDoorGPf0GPk
import Derived.Test.YtegbnadnodlalaaGreatDoorGPj
import Derived.Test.YtegbnadnodlalaaGreatDoorGJm0GCh
import Derived.Deep.MidRow
import Derived.Test.YtegbnadnodlalaaGreatDoorGHi0GSa
import Derived.Test.YtegbnadnodlalaaGreatDoorGSh0GCa
import Derived.Laws.CopyOwn
import Derived.Test.YtegbnadnodlalaaGreatDoorLl0GHa
namespace Go.Proofs.YtegbnadnodlalaaGreatDoor
open Go.RowKit
open Ed
theorem pmul_is256 (N : Nat) (hN : N < p256) {p : P4} {P : Pt dd} (hp : p.Is P) : (pmul N p 256).Is (times ok N P) := by
 have h := pmul_is N (by rw [show (2 ^ 256 : Nat) = p256 by decide +kernel]; exact hN) hp 256 (Nat.le_refl _)
 rw [Nat.sub_self, Nat.pow_zero, Nat.div_one] at h
 exact h
theorem psum2 {p q : P4} {P Q : Pt dd} (hp : p.Is P) (hq : q.Is Q) : (psum [p, q]).Is (add ok P Q) := by
 have h := padd_is (padd_is pzero_is hp) hq
 rw [Ed.zero_add] at h
 exact h
theorem mul_d (N : Nat) (p q : P4) (hN : N < p256) (hp : p.Ok) (hq : q = pmul N p 256) (w : World) (GD : Rng w 3 (Iv .u8 (keyOf dN))) :
  Calls Tryz.prog 53 #[Key (keyOf N), PV p] w fun e w' => e = .returned (PV q) ∧ Below w.heap.size w w' := hq ▸ cmul N p hN hp w GD
theorem neg_d (p q : P4) (hp : p.Ok) (hq : q = pneg p) (w : World) : Calls Tryz.prog 55 #[PV p] w fun e w' => e = .returned (PV q) ∧ Below w.heap.size w w' := hq ▸ cneg p hp w
theorem add_d2 (p q s : P4) (hp : p.Ok) (hq : q.Ok) (g : Nat) (w : World) (hg : Blk w g 85 (Pl [p, q])) (GD : Rng w 3 (Iv .u8 (keyOf dN))) (hs : s = psum [p, q]) :
  Calls Tryz.prog 54 #[.slice (some ⟨g, 0, none⟩) 2 2] w fun e w' => e = .returned (PV s) ∧ Below w.heap.size w w' :=
 hs ▸ cadd [p, q] (fun r hr => by
  rcases List.mem_cons.1 hr with rfl | hr
  · exact hp
  · rw [List.mem_singleton.1 hr]; exact hq) 2 g rfl (by decide) w hg GD
end Go.Proofs.YtegbnadnodlalaaGreatDoor
namespace Go.Proofs.YtegbnadnodlalaaGreatDoor
open Go.RowKit Ed
theorem times_mod (m : Nat) : times ok (m % ell) bb = times ok m bb := by
 have h := times_plus ok (m % ell) bb (ell * (m / ell))
 rw [Nat.mod_add_div] at h
 rw [h, times_dvd bb ell (ell * (m / ell)) (Nat.dvd_mul_right _ _) times_ell, add_zero]
theorem bb_inj_le (a b : Nat) (hab : a ≤ b) (hb : b < ell) (h : times ok a bb = times ok b bb) : a = b := by
 have h1 := times_inj bb a b hab h
 have h2 : ell ∣ b - a := Decidable.byContradiction fun hn => times_ne (b - a) hn h1
 have h3 := Nat.eq_zero_of_dvd_of_lt h2 (by omega)
 omega
theorem bb_inj (a b : Nat) (ha : a < ell) (hb : b < ell) (h : times ok a bb = times ok b bb) : a = b := by
 rcases Nat.le_total a b with hab | hab
 · exact bb_inj_le a b hab hb h
 · exact (bb_inj_le b a hab ha h.symm).symm
theorem add_neg_r (X Y : Pt dd) : add ok (add ok X (neg Y)) Y = X := by
 rw [add_assoc, add_comm ok (neg Y) Y, add_neg, add_zero]
theorem add_r_neg (X Y : Pt dd) : add ok (add ok X Y) (neg Y) = X := by
 rw [add_assoc, add_neg, add_zero]
theorem sign_math (S r k a : Nat) (hS : S < ell) :
  textN (add ok (times ok S bb) (neg (times ok k (times ok a bb)))) = textN (times ok r bb) ↔ S = (k * a + r) % ell := by
 have e1 : times ok k (times ok a bb) = times ok (k * a) bb := by rw [Nat.mul_comm, times_times]
 have e2 : add ok (times ok r bb) (times ok (k * a) bb) = times ok ((k * a + r) % ell) bb := by
  rw [times_mod, Nat.add_comm, times_plus]
 constructor
 ·
  intro h
  have h1 := textN_inj _ _ h
  have h2 := add_neg_r (times ok S bb) (times ok k (times ok a bb))
  rw [h1, e1, e2] at h2
  exact (bb_inj _ _ (Nat.mod_lt _ (by decide)) hS h2).symm
 ·
  intro h
  have h2 := add_r_neg (times ok r bb) (times ok (k * a) bb)
  rw [e2, ← h, ← e1] at h2
  rw [h2]
end Go.Proofs.YtegbnadnodlalaaGreatDoor
namespace Go.Proofs.YtegbnadnodlalaaGreatDoor
open Go.RowKit
/-- A secret's bytes as they are used. -/
def clF (f : Nat → Nat) (i : Nat) : Nat := if i = 0 then f 0 / 8 * 8 else if i = 31 then f 31 % 64 + 64 else f i
def clL (l : List Int) (f : Nat → Nat) : List Int := (l.set 0 ((f 0 / 8 * 8 : Nat) : Int)).set 31 ((f 31 % 64 + 64 : Nat) : Int)
theorem clL_bytes {l : List Int} {f : Nat → Nat} (hl : Bytes32 l f) : Bytes32 (clL l f) (clF f) := by
 refine ⟨by simp [clL, hl.len], fun i h => ?_, fun i => ?_⟩
 ·
  have h32 : 31 < l.length := by rw [hl.len]; decide
  have h0 : 0 < l.length := by rw [hl.len]; decide
  unfold clF clL
  by_cases e : i = 0
  ·
   subst e
   simp [List.getD, h0]
  ·
   by_cases e2 : i = 31
   ·
    subst e2
    simp [List.getD, h32]
   ·
    rw [if_neg e, if_neg e2, ← hl.get i h]
    simp [List.getD, show ¬ 31 = i from fun x => e2 x.symm, show ¬ 0 = i from fun x => e x.symm]
 ·
  unfold clF
  have := hl.lt i
  have := hl.lt 0
  have := hl.lt 31
  split
  · omega
  · split <;> omega
theorem byte_248 : ∀ n : Fin 256, bits .and .u8 (n.val : Int) 248 = ((n.val / 8 * 8 : Nat) : Int) := by decide +kernel
theorem byte_127_64 : ∀ n : Fin 256, bits .or .u8 (bits .and .u8 (n.val : Int) 127) 64 = ((n.val % 64 + 64 : Nat) : Int) := by decide +kernel
set_option maxHeartbeats 2000000 in
set_option maxRecDepth 100000 in
theorem clamp_any (l : List Int) (f : Nat → Nat) (hl : Bytes32 l f) (w : World) :
  Calls Tryz.prog 57 #[Key l] w fun e w' => e = .returned (Key (clL l f)) ∧ Below w.heap.size w w' := by
 have l0 := hl.lt 0
 have l31 := hl.lt 31
 have lc := (clL_bytes hl).len
 obtain ⟨v0, h0⟩ : ∃ v : Nat, v = f 0 / 8 * 8 := ⟨_, rfl⟩
 obtain ⟨v1, h1⟩ : ∃ v : Nat, v = f 31 % 64 + 64 := ⟨_, rfl⟩
 have e0 := byte_248 ⟨f 0, l0⟩
 simp only [← h0] at e0
 have e1 := byte_127_64 ⟨f 31, l31⟩
 simp only [← h1] at e1
 unfold clL at lc ⊢
 unfold Key
 rw [← h0, ← h1] at lc ⊢
 clear h0 h1
 go_enter Tryz.func57, Tryz.ntmps57
 go_upto_region 1 with fail
 generalize hW : World.alloc (World.alloc w _) _ = W
 have B0 : Below w.heap.size w W := hW ▸ ((Below.refl w.heap.size w).alloc (Nat.le_refl _) _).alloc (by simp) _
 have K0 : Blk W w.heap.size 23 (Iv .u8 l) := hW ▸ (Blk.new w _ _).alloc _
 have R0 : Blk W (w.heap.size + 1) 23 (Iv .u8 (List.replicate 32 0)) := hW ▸ Blk.new' (by simp) _ _
 clear hW
 have c0 : W.cell? ⟨w.heap.size, 0, none⟩ = some (.int .u8 ((f 0 : Nat) : Int)) := by
  rw [K0.cell, Iv_get _ _ _ (by rw [hl.len]; decide), hl.get 0 (by decide)]
 have f0 := K0.frozen 0
 go_upto_region 2 with fail
 have K1 := K0.set 0 (.int .u8 (v0 : Int))
 rw [Iv_set] at K1
 have R1 : Blk _ _ _ _ := R0.far (p := ⟨w.heap.size, 0, none⟩) (by simp) (.int .u8 (v0 : Int))
 have B1 := B0.setCell (p := ⟨w.heap.size, 0, none⟩) (Nat.le_refl _) (.int .u8 (v0 : Int))
 generalize W.setCell _ _ = V at *
 clear K0 R0 B0 c0 f0 e0
 have c1 : V.cell? ⟨w.heap.size, 31, none⟩ = some (.int .u8 ((f 31 : Nat) : Int)) := by
  rw [K1.cell, Iv_get _ _ _ (by rw [List.length_set, hl.len]; decide), ← hl.get 31 (by decide)]
  simp [List.getD]
 have f1 := K1.frozen 31
 go_upto_region 3 with fail
 have K2 := K1.set 31 (.int .u8 (v1 : Int))
 rw [Iv_set] at K2
 have R2 : Blk _ _ _ _ := R1.far (p := ⟨w.heap.size, 31, none⟩) (by simp) (.int .u8 (v1 : Int))
 have B2 := B1.setCell (p := ⟨w.heap.size, 31, none⟩) (Nat.le_refl _) (.int .u8 (v1 : Int))
 generalize V.setCell _ _ = U at *
 clear K1 R1 B1 c1 f1 e1
 go_wp2_with (first | (refine wpList_load_row rfl 23 _ rfl w.heap.size rfl 23 _ (0, 0) _ K2 Tryz.underlying23 rfl (info_key _ lc) ?_) | (refine wpList_store_row rfl 23 _ _ rfl (w.heap.size + 1) (Iv .u8 ((l.set 0 (v0 : Int)).set 31 (v1 : Int))) rfl rfl 23 _ R2 (info_key _ lc) (by rw [Iv_size, Iv_size, lc]; rfl) (Iv_one _ _) ?_))
 exact bodyPost_ret (results_cell_row rfl _ _ _ 23 _ (0, 0) _ rfl (R2.row _) Tryz.underlying23 rfl (info_key _ lc)) rfl ⟨rfl, below_setRow B2 (by omega) _⟩
/-- A secret as it is used, as a number. -/
def clN (n : Nat) : Nat := leTo (clF (byteAt n)) 32
theorem clF_lt {f : Nat → Nat} (hf : ∀ i, f i < 256) (i : Nat) : clF f i < 256 := by
 have := hf i
 have := hf 0
 have := hf 31
 unfold clF
 split
 · omega
 · split <;> omega
theorem clN_lt (n : Nat) : clN n < p256 := leTo_lt256 (clF_lt fun i => Nat.mod_lt _ (by decide))
theorem clamp_n (A : Nat) (w : World) : Calls Tryz.prog 57 #[Key (keyOf A)] w fun e w' => e = .returned (Key (keyOf (clN A))) ∧ Below w.heap.size w w' := by
 have h := clamp_any _ _ (keyOf_bytes A) w
 rw [key_of_bytes (clL_bytes (keyOf_bytes A))] at h
 exact h
end Go.Proofs.YtegbnadnodlalaaGreatDoor
namespace Go.Proofs.YtegbnadnodlalaaGreatDoor
open Go.RowKit Ed
open H5 (NI NI_length NI_inj Bytes BA SB SP sha sha_length sha_bytes sum512_l)
theorem leTo_congr {f g : Nat → Nat} : ∀ (k : Nat), (∀ i, i < k → f i = g i) → leTo f k = leTo g k
 | 0, _ => rfl
 | k + 1, h => by
  unfold leTo
  rw [leTo_congr k (fun i hi => h i (by omega)), h k (by omega)]
/-- A number's 32 bytes. -/
def kb (n : Nat) : List Nat := (List.range 32).map (byteAt n)
theorem kb_length (n : Nat) : (kb n).length = 32 := by simp [kb]
theorem kb_bytes (n : Nat) : Bytes (kb n) := fun x h => by
 unfold kb at h
 obtain ⟨i, _, rfl⟩ := List.mem_map.1 h
 exact Nat.mod_lt _ (by decide)
theorem NI_kb (n : Nat) : NI (kb n) = keyOf n := by
 unfold NI kb keyOf
 rw [List.map_map]
 rfl
/-- The first 32 of 64 bytes, the last. -/
def lo (l : List Nat) : Nat := leTo (fun i => l.getD i 0) 32
def hi (l : List Nat) : Nat := leTo (fun i => (l.drop 32).getD i 0) 32
theorem NI_get' (l : List Nat) (i : Nat) : (NI l).getD i 0 = ((l.getD i 0 : Nat) : Int) := by
 unfold NI
 simp only [List.getD_eq_getElem?_getD, List.getElem?_map]
 cases l[i]? <;> rfl
theorem key_of_list (l : List Nat) (hb : Bytes l) (hl : l.length = 32) : NI l = keyOf (leTo (fun i => l.getD i 0) 32) :=
 key_of_bytes ⟨by rw [NI_length, hl], fun i _ => NI_get' l i, fun i => hb.getD i⟩
theorem two_keys (l : List Nat) (hb : Bytes l) (hl : l.length = 64) : NI l = keyOf (lo l) ++ keyOf (hi l) := by
 have e : NI l = NI (l.take 32) ++ NI (l.drop 32) := by
  unfold NI
  rw [← List.map_append, List.take_append_drop]
 rw [e, key_of_list (l.take 32) (hb.take 32) (by rw [List.length_take, hl]; rfl), key_of_list (l.drop 32) (hb.drop 32) (by rw [List.length_drop, hl])]
 unfold lo hi
 congr 2
 exact leTo_congr 32 fun i h => by
  rw [List.getD_eq_getElem?_getD, List.getD_eq_getElem?_getD, List.getElem?_take, if_pos h]
theorem lo_lt {l : List Nat} (hb : Bytes l) : lo l < p256 := leTo_lt256 fun i => hb.getD i
theorem hi_lt {l : List Nat} (hb : Bytes l) : hi l < p256 := leTo_lt256 fun i => (hb.drop 32).getD i
/-- A sum as a number below the order. -/
def redN (l : List Nat) : Nat := leTo (fun i => l.getD i 0) 64 % ell
theorem ell_p256 : ell < p256 := by decide
theorem redN_lt (l : List Nat) : redN l < ell := Nat.mod_lt _ (by decide)
theorem redN_p (l : List Nat) : redN l < p256 := Nat.lt_trans (redN_lt l) ell_p256
theorem pw4_p256 : Sc.pw 4 = p256 := by decide
theorem reduce_l (g : Nat) (t : TypeId) (l : List Nat) (hl : l.length = 64) (hb : Bytes l) (w : World) (h : Blk w g t (Iv .u8 (NI l))) :
  Calls Tryz.prog 68 #[.slice (some ⟨g, 0, none⟩) 64 64] w fun e w' => e = .returned (Key (keyOf (redN l))) ∧ Below w.heap.size w w' :=
 Sc.reduce_any g 0 64 64 (fun i => l.getD i 0) w ⟨fun i hi => by
  rw [h.cell, Nat.zero_add, Iv_get _ _ _ (by rw [NI_length, hl]; exact hi), NI_get'], fun i => hb.getD i, h.lt⟩ (by decide) (by decide)
theorem muladd_n (a b c r : Nat) (ha : a < p256) (hb : b < p256) (hc : c < p256) (hr : r = (a * b + c) % ell) (w : World) :
  Calls Tryz.prog 48 #[Key (keyOf a), Key (keyOf b), Key (keyOf c)] w fun e w' => e = .returned (Key (keyOf r)) ∧ Below w.heap.size w w' :=
 Sc.muladd_n a b c r (pw4_p256 ▸ ha) (pw4_p256 ▸ hb) (pw4_p256 ▸ hc) hr w
theorem check_n (a : Nat) (ha : a < ell) (w : World) : Calls Tryz.prog 52 #[Key (keyOf a)] w fun e w' => e = .returned (.bool true) ∧ Below w.heap.size w w' :=
 Sc.check_n a true (pw4_p256 ▸ Nat.lt_trans ha ell_p256) (decide_eq_true ha) w
/-- Two keys, one behind the other, as a row of cells. -/
def Sg (a b : Nat) : List Int := keyOf a ++ keyOf b
theorem Sg_length (a b : Nat) : (Sg a b).length = 64 := by simp [Sg, keyOf_length]
theorem info_Sg (a b : Nat) : (Tryz.prog.info? 48).map (·.size) = some (Iv .u8 (Sg a b)).size := by
 rw [Iv_size, Sg_length]
 kernel_rfl
/-- A key's cells, one by one. -/
def kcs (n : Nat) : List Value := (keyOf n).map (Value.int .u8)
theorem kcs_length (n : Nat) : (kcs n).length = 32 := by simp [kcs, keyOf_length]
theorem kcs_one (n : Nat) : ∀ v ∈ kcs n, v.oneCell' = true := fun v h => by
 obtain ⟨x, _, rfl⟩ := List.mem_map.1 h
 rfl
theorem kcs_get (n j : Nat) (v : Value) (h : (kcs n)[j]? = some v) : j < 32 ∧ v = .int .u8 ((keyOf n).getD j 0) := by
 have hj : j < 32 := by
  have := (List.getElem?_eq_some_iff.1 h).1
  rwa [kcs_length] at this
 refine ⟨hj, ?_⟩
 unfold kcs at h
 rw [List.getElem?_map, List.getElem?_eq_getElem (by rw [keyOf_length]; exact hj)] at h
 simp only [Option.map_some, Option.some.injEq] at h
 rw [← h, List.getD_eq_getElem?_getD, List.getElem?_eq_getElem (by rw [keyOf_length]; exact hj)]
 rfl
/-- The cells of a key, in its own block. -/
theorem kcs_key {w : World} {g : Nat} {t : TypeId} {n : Nat} (h : Blk w g t (Iv .u8 (keyOf n))) (j : Nat) (v : Value) (hj : (kcs n)[j]? = some v) : w.cell? ((⟨g, 0, none⟩ : Addr).add j) = some v := by
 obtain ⟨h1, rfl⟩ := kcs_get n j v hj
 rw [Addr.add_lit, Nat.zero_add, h.cell, Iv_get _ _ _ (by rw [keyOf_length]; exact h1)]
theorem kcs_lo {w : World} {g : Nat} {t : TypeId} {a b : Nat} (h : Blk w g t (Iv .u8 (Sg a b))) (j : Nat) (v : Value) (hj : (kcs a)[j]? = some v) : w.cell? ((⟨g, 0, none⟩ : Addr).add j) = some v := by
 obtain ⟨h1, rfl⟩ := kcs_get a j v hj
 rw [Addr.add_lit, Nat.zero_add, h.cell, Iv_get _ _ _ (by rw [Sg_length]; omega)]
 unfold Sg
 rw [List.getD_eq_getElem?_getD, List.getElem?_append_left (by rw [keyOf_length]; exact h1), List.getD_eq_getElem?_getD]
theorem kcs_hi {w : World} {g : Nat} {t : TypeId} {a b : Nat} (h : Blk w g t (Iv .u8 (Sg a b))) (j : Nat) (v : Value) (hj : (kcs b)[j]? = some v) : w.cell? ((⟨g, 32, none⟩ : Addr).add j) = some v := by
 obtain ⟨h1, rfl⟩ := kcs_get b j v hj
 rw [Addr.add_lit, h.cell, Iv_get _ _ _ (by rw [Sg_length]; omega)]
 unfold Sg
 rw [List.getD_eq_getElem?_getD, List.getElem?_append_right (by rw [keyOf_length]; omega), List.getD_eq_getElem?_getD, keyOf_length, Nat.add_sub_cancel_left]
/-- What a key's row, or 64 bytes, are behind a copy of a key. -/
theorem copy_key (n : Nat) : ((Iv .u8 (List.replicate 32 0)).toList.take 0 ++ (kcs n ++ (Iv .u8 (List.replicate 32 0)).toList.drop (0 + (kcs n).length))).toArray = Iv .u8 (keyOf n) := by
 rw [kcs_length]
 simp [Iv, kcs]
theorem Sg_zero : List.replicate 64 (0 : Int) = Sg 0 0 := by decide
theorem copy_lo (n a b : Nat) : ((Iv .u8 (Sg a b)).toList.take 0 ++ (kcs n ++ (Iv .u8 (Sg a b)).toList.drop (0 + (kcs n).length))).toArray = Iv .u8 (Sg n b) := by
 rw [kcs_length]
 unfold Iv Sg kcs
 simp only [List.toList_toArray, List.take_zero, List.nil_append, Nat.zero_add, List.map_append]
 rw [List.drop_append_of_le_length (by simp [keyOf_length]), List.drop_of_length_le (by simp [keyOf_length]), List.nil_append]
theorem copy_hi (n a b : Nat) : ((Iv .u8 (Sg a b)).toList.take 32 ++ (kcs n ++ (Iv .u8 (Sg a b)).toList.drop (32 + (kcs n).length))).toArray = Iv .u8 (Sg a n) := by
 rw [kcs_length]
 unfold Iv Sg kcs
 simp only [List.toList_toArray, List.map_append]
 rw [List.take_append_of_le_length (by simp [keyOf_length]), List.take_of_length_le (by simp [keyOf_length]), List.drop_of_length_le (by simp [keyOf_length]), List.append_nil]
end Go.Proofs.YtegbnadnodlalaaGreatDoor
namespace Go.Proofs.YtegbnadnodlalaaGreatDoor
open Go.RowKit Ed
open H5 (NI NI_length NI_inj Bytes BA SB SP sha sha_length sha_bytes sum512_l Tab Sq)
theorem wp_copy_own {P : Program} {w : World} {o : Oper} {a : Act} {K : Act → World → Prop} {Q : Exit → Act → World → Prop} (d s : Operand) (dT sT : TypeId)
  (ho : o.op = .call { callee := .builtin .copy, args := #[d, s], argTypes := #[dT, sT] }) (elem : TypeId) (hu : P.underlying dT = some (.slice elem)) (hsz : (P.info? elem).map (·.size) = some 1)
  (g off dLen dCap : Nat) (ad : Addr) (sLen sCap : Nat) (hd : a.eval d = .slice (some ⟨g, off, none⟩) dLen dCap) (hs : a.eval s = .slice (some ad) sLen sCap)
  (cur : Array Value) (t : TypeId) (hg : w.heap[g]? = some (.cells cur t (0, 0))) (cs : List Value) (hn : cs.length = Nat.min sLen dLen)
  (hsrc : ∀ j v, cs[j]? = some v → w.cell? (ad.add j) = some v) (hfit : off + cs.length ≤ cur.size) (h1 : ∀ v ∈ cs, v.oneCell' = true)
  (h : K (a.put o.dst (goInt cs.length)) (w.setRow g (cur.toList.take off ++ cs ++ cur.toList.drop (off + cs.length)).toArray)) : o.wp P a w K Q := by
 have hrun := run_copy_row (P := P) w dT sT o.type elem g off dLen dCap ad sLen sCap cur t cs hu hsz hg hn hsrc hfit h1
 unfold Oper.wp
 simp only [execOp, ho, resolve, invoke, builtin, Sem.run_bind, Sem.run_pure, Result.andThen_ok, List.map_toArray, List.map_cons, List.map_nil, hd, hs, hrun]
 exact h
/-- A copy as a drawn region's last operation: the block's new row by name. -/
theorem wpAnyZ_copy_end {P : Program} {md : Region.Mode} {ops : Array Oper} {Q : Exit → Act → World → Prop} {S : World → Prop} {z fuel : Nat} {listed : Array Bool} {a : Act} {w : World} (i : Nat) {oi : Oper} (hi : ops.toList[i]? = some oi) (hr : Region.ready md ops listed = [i]) (hgd : oi.guard = none)
  (d s : Operand) (dT sT : TypeId)
  (ho : oi.op = .call { callee := .builtin .copy, args := #[d, s], argTypes := #[dT, sT] }) (elem : TypeId) (hu : P.underlying dT = some (.slice elem)) (hsz : (P.info? elem).map (·.size) = some 1)
  (g off dLen dCap : Nat) (ad : Addr) (sLen sCap : Nat) (hd : a.eval d = .slice (some ⟨g, off, none⟩) dLen dCap) (hs : a.eval s = .slice (some ad) sLen sCap)
  (cur : Array Value) (t : TypeId) (hg : Blk w g t cur) (cs : List Value) (hn : cs.length = Nat.min sLen dLen)
  (hsrc : ∀ j v, cs[j]? = some v → w.cell? (ad.add j) = some v) (hfit : off + cs.length ≤ cur.size) (h1 : ∀ v ∈ cs, v.oneCell' = true)
  (new : Array Value) (hnew : (cur.toList.take off ++ (cs ++ cur.toList.drop (off + cs.length))).toArray = new) (hz : (listed.setIfInBounds i true).getD z true = true)
  (hend : Region.ready md ops (listed.setIfInBounds i true) = [])
  (h : Q .normal (a.put oi.dst (goInt cs.length)) (w.setRow g new)) : wpAnyZ P md ops Q S z (fuel + 1) listed a w := by
 refine wpAnyZ_one hr ?_
 unfold wpOp
 rw [← Array.getElem?_toList, hi]
 have hw : Region.wanted oi (yielded ops a.tmps) = true := by simp [Region.wanted, hgd]
 simp only [hw, if_true]
 left
 refine wp_copy_own d s dT sT ho elem hu hsz g off dLen dCap ad sLen sCap hd hs cur t hg cs hn hsrc hfit h1 ?_
 rw [List.append_assoc, hnew]
 exact ⟨fun e => (by rw [hz] at e; cases e), wpAnyZ_done hend h _⟩
/-! Slices of slices. -/
theorem sp_one {w : World} {v : Value} {l : List Nat} (t : TypeId) (h : SB w v l) : SP (w.alloc (.cells #[v] t)) (.slice (some ⟨w.heap.size, 0, none⟩) 1 1) [l] := by
 refine ⟨_, 1, rfl, Nat.le_refl _, Or.inr ⟨w.heap.size, 0, rfl, by simp, fun i hi => ?_⟩⟩
 obtain rfl : i = 0 := by simp at hi; exact hi
 exact ⟨v, by rw [(Blk.new w t #[v]).cell]; rfl, h.below ((Below.refl _ _).alloc (Nat.le_refl _) _)⟩
theorem sp_two {w : World} {u v : Value} {l m : List Nat} (t : TypeId) (h : SB w u l) (k : SB w v m) : SP (w.alloc (.cells #[u, v] t)) (.slice (some ⟨w.heap.size, 0, none⟩) 2 2) [l, m] := by
 have b := (Below.refl w.heap.size w).alloc (Nat.le_refl _) (.cells #[u, v] t)
 refine ⟨_, 2, rfl, Nat.le_refl _, Or.inr ⟨w.heap.size, 0, rfl, by simp, fun i hi => ?_⟩⟩
 have hb := (Blk.new w t #[u, v]).cell i
 rw [Nat.zero_add]
 match i, hi with
 | 0, _ => exact ⟨u, hb, h.below b⟩
 | 1, _ => exact ⟨v, hb, k.below b⟩
theorem sp_three {w : World} {u v x : Value} {l m n : List Nat} (t : TypeId) (h : SB w u l) (k : SB w v m) (j : SB w x n) : SP (w.alloc (.cells #[u, v, x] t)) (.slice (some ⟨w.heap.size, 0, none⟩) 3 3) [l, m, n] := by
 have b := (Below.refl w.heap.size w).alloc (Nat.le_refl _) (.cells #[u, v, x] t)
 refine ⟨_, 3, rfl, Nat.le_refl _, Or.inr ⟨w.heap.size, 0, rfl, by simp, fun i hi => ?_⟩⟩
 have hb := (Blk.new w t #[u, v, x]).cell i
 rw [Nat.zero_add]
 match i, hi with
 | 0, _ => exact ⟨u, hb, h.below b⟩
 | 1, _ => exact ⟨v, hb, k.below b⟩
 | 2, _ => exact ⟨x, hb, j.below b⟩
theorem SB.cells {w : World} {v : Value} {l : List Nat} (h : SB w v l) : v.cells = #[v] := by
 obtain ⟨p, c, rfl, _⟩ := h
 rfl
theorem info_sl : (Tryz.prog.info? 29).map (·.size) = some 1 := by kernel_rfl
theorem zero_sl : ((Tryz.prog.info? 29).bind (·.zero)).isSome = true := by kernel_rfl
theorem under_sls : Tryz.prog.underlying 41 = some (.slice 29) := by kernel_rfl
theorem flat_ones : ∀ (vs : List Value), (∀ v ∈ vs, v.cells = #[v]) → (vs.flatMap fun v => v.cells.toList) = vs
 | [], _ => rfl
 | v :: vs, h => by rw [List.flatMap_cons, h v (by simp), flat_ones vs fun x hx => h x (by simp [hx])]; rfl
theorem run_lists (n : Nat) (parts : Array (Nat × Value)) (vs : List Value) (hp : parts.toList = (vs.zipIdx 0).map fun x => (x.2, x.1)) (hn : vs.length = n) (hpos : 0 < n) (hs : n ≤ 1000) (hc : ∀ v ∈ vs, v.cells = #[v]) (w : World) :
  (Instr.buildSlice 41 n parts).run Tryz.prog w = .ok (.slice (some ⟨w.heap.size, 0, none⟩) n n) (w.alloc (.cells vs.toArray 29)) := by
 have h1 := info_sl
 have h2 := zero_sl
 cases hie : Tryz.prog.info? 29 with
 | none => rw [hie] at h1; cases h1
 | some ie =>
  simp only [hie, Option.map_some, Option.some.injEq, Option.bind_some] at h1 h2
  obtain ⟨z, hz⟩ := Option.isSome_iff_exists.1 h2
  refine run_buildSlice w _ _ n parts _ ie z under_sls hie hz (by rw [h1]; omega) (by rw [h1]; omega) ?_
  rw [hp, h1]
  refine (Go.Great.fill_whole (show 0 < 1 by decide) vs _ (fun v hv => by rw [hc v hv]; rfl) (by simp [hn])).trans ?_
  rw [flat_ones vs hc]
theorem wp_lists {o : Oper} {a : Act} {w : World} {K : Act → World → Prop} {Q : Exit → Act → World → Prop} (n : Nat) (parts : Array (Nat × Operand)) (ho : o.op = .buildSlice 41 n parts)
  (vs : List Value) (hp : (parts.map fun (i, x) => (i, a.eval x)).toList = (vs.zipIdx 0).map fun x => (x.2, x.1)) (hn : vs.length = n) (hpos : 0 < n) (hs : n ≤ 1000) (hc : ∀ v ∈ vs, v.cells = #[v])
  (h : K (a.put o.dst (.slice (some ⟨w.heap.size, 0, none⟩) n n)) (w.alloc (.cells vs.toArray 29))) : o.wp Tryz.prog a w K Q := by
 unfold Oper.wp execOp
 simp only [ho, Sem.run_bind, run_lists n _ vs hp hn hpos hs hc w, Result.andThen_ok]
 exact h
/-- One slice, two, three, in the text's order. -/
theorem wpSeq_list1 {ops : Array Oper} {Q : Exit → Act → World → Prop} {o : Oper} {rest : List Oper} {a : Act} {w : World} (hw : Region.wanted o (yielded ops a.tmps) = true) (x0 : Operand) (ho : o.op = .buildSlice 41 1 #[(0, x0)])
  (v0 : Value) (l0 : List Nat) (h0 : a.eval x0 = v0) (s0 : SB w v0 l0)
  (h : ∀ v W, SP W v [l0] → Below w.heap.size w W → wpSeq Tryz.prog ops Q rest (a.put o.dst v) W) : wpSeq Tryz.prog ops Q (o :: rest) a w := by
 refine wpSeq_wp hw ?_
 refine wp_lists 1 _ ho [v0] (by simp [h0]) rfl (by decide) (by decide) (by intro v hv; rw [List.mem_singleton.1 hv]; exact SB.cells s0) ?_
 exact h _ _ (sp_one _ s0) ((Below.refl _ _).alloc (Nat.le_refl _) _)
theorem wpSeq_list2 {ops : Array Oper} {Q : Exit → Act → World → Prop} {o : Oper} {rest : List Oper} {a : Act} {w : World} (hw : Region.wanted o (yielded ops a.tmps) = true) (x0 x1 : Operand) (ho : o.op = .buildSlice 41 2 #[(0, x0), (1, x1)])
  (v0 v1 : Value) (l0 l1 : List Nat) (h0 : a.eval x0 = v0) (h1 : a.eval x1 = v1) (s0 : SB w v0 l0) (s1 : SB w v1 l1)
  (h : ∀ v W, SP W v [l0, l1] → Below w.heap.size w W → wpSeq Tryz.prog ops Q rest (a.put o.dst v) W) : wpSeq Tryz.prog ops Q (o :: rest) a w := by
 refine wpSeq_wp hw ?_
 refine wp_lists 2 _ ho [v0, v1] (by simp [h0, h1]) rfl (by decide) (by decide) (by
  intro v hv
  rcases List.mem_cons.1 hv with rfl | hv
  · exact SB.cells s0
  · rw [List.mem_singleton.1 hv]; exact SB.cells s1) ?_
 exact h _ _ (sp_two _ s0 s1) ((Below.refl _ _).alloc (Nat.le_refl _) _)
theorem wpAnyZ_list3 {md : Region.Mode} {ops : Array Oper} {Q : Exit → Act → World → Prop} {S : World → Prop} {z fuel : Nat} {listed : Array Bool} {a : Act} {w : World} (i : Nat) {oi : Oper} (hi : ops.toList[i]? = some oi) (hr : Region.ready md ops listed = [i]) (hgd : Region.wanted oi (yielded ops a.tmps) = true)
  (x0 x1 x2 : Operand) (ho : oi.op = .buildSlice 41 3 #[(0, x0), (1, x1), (2, x2)])
  (v0 v1 v2 : Value) (l0 l1 l2 : List Nat) (h0 : a.eval x0 = v0) (h1 : a.eval x1 = v1) (h2 : a.eval x2 = v2) (s0 : SB w v0 l0) (s1 : SB w v1 l1) (s2 : SB w v2 l2)
  (hS : ∀ W, Below w.heap.size w W → S W)
  (h : ∀ v W, SP W v [l0, l1, l2] → Below w.heap.size w W → wpAnyZ Tryz.prog md ops Q S z fuel (listed.setIfInBounds i true) (a.put oi.dst v) W) : wpAnyZ Tryz.prog md ops Q S z (fuel + 1) listed a w := by
 refine wpAnyZ_one hr ?_
 unfold wpOp
 rw [← Array.getElem?_toList, hi]
 simp only [hgd, if_true]
 left
 have b := (Below.refl w.heap.size w).alloc (Nat.le_refl _) (.cells #[v0, v1, v2] 29)
 exact wp_lists 3 _ ho [v0, v1, v2] (by simp [h0, h1, h2]) rfl (by decide) (by decide) (by
  intro v hv
  rcases List.mem_cons.1 hv with rfl | hv
  · exact SB.cells s0
  rcases List.mem_cons.1 hv with rfl | hv
  · exact SB.cells s1
  · rw [List.mem_singleton.1 hv]; exact SB.cells s2) ⟨fun _ => hS _ b, h _ _ (sp_three _ s0 s1 s2) b⟩
/-- A whole key, sliced. -/
theorem sb_key {w : World} {g : Nat} {t : TypeId} {n : Nat} (h : Blk w g t (Iv .u8 (keyOf n))) : SB w (.slice (some ⟨g, 0, none⟩) 32 32) (kb n) :=
 SB.of_ba' (BA.of_blk (t := t) (by rw [NI_kb]; exact h)) (kb_length n).symm (by rw [kb_length]; exact Nat.le_refl _)
/-! 64 bytes held against each other. -/
end Go.Proofs.YtegbnadnodlalaaGreatDoor
