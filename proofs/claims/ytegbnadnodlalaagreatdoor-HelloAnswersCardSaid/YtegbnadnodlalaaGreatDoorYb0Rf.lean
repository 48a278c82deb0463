/- Slices of words of 64 bits: read, owned, appended to. The program's Put: what is asked of it. -/
import Derived.Test.YtegbnadnodlalaaGreatDoorE2a0E1a
import Derived.Test.YtegbnadnodlalaaGreatDoorE2b0Rc
namespace Go.Proofs.YtegbnadnodlalaaGreatDoor
open Go.RowKit
/-- The words l lie in block g, from cell o on. -/
structure UA (w : World) (g o : Nat) (l : List Nat) : Prop where
 cell : ∀ (i : Nat) (h : i < l.length), w.cell? ⟨g, o + i, none⟩ = some (.int .u64 ((l[i] : Nat) : Int))
 blk : g < w.heap.size
theorem UA.below {w w1 : World} {g o : Nat} {l : List Nat} (h : UA w g o l) (hb : Below w.heap.size w w1) : UA w1 g o l :=
 ⟨fun i hi => (hb.cell (p := ⟨g, o + i, none⟩) h.blk).trans (h.cell i hi), Nat.lt_of_lt_of_le h.blk hb.size⟩
theorem UA.of_block {w w1 : World} {g o : Nat} {l : List Nat} (h : UA w g o l) (hb : w1.heap[g]? = w.heap[g]?) : UA w1 g o l := by
 have hlt : g < w1.heap.size := by
  rcases Nat.lt_or_ge g w1.heap.size with h1 | h1
  · exact h1
  ·
   rw [Array.getElem?_eq_none h1, Array.getElem?_eq_getElem h.blk] at hb
   cases hb
 exact ⟨fun i hi => (cell_congr hb).trans (h.cell i hi), hlt⟩
/-- A slice that reads as the words l; an empty one may be nil. -/
def SU (w : World) (v : Value) (l : List Nat) : Prop := ∃ p c, v = .slice p l.length c ∧ l.length ≤ c ∧ (l = [] ∨ ∃ g o, p = some ⟨g, o, none⟩ ∧ UA w g o l)
theorem SU.below {w w1 : World} {v : Value} {l : List Nat} (h : SU w v l) (hb : Below w.heap.size w w1) : SU w1 v l := by
 obtain ⟨p, c, h1, h2, h3⟩ := h
 refine ⟨p, c, h1, h2, ?_⟩
 rcases h3 with h3 | ⟨g, o, h4, h5⟩
 · exact Or.inl h3
 · exact Or.inr ⟨g, o, h4, h5.below hb⟩
theorem SU.drew {w : World} {v : Value} {l : List Nat} (h : SU w v l) : SU w.drew v l := h.below (below_drew (Below.refl _ _))
theorem SU.nil (w : World) (p : Option Addr) (c : Nat) : SU w (.slice p 0 c) [] := ⟨p, c, rfl, Nat.zero_le _, Or.inl rfl⟩
theorem SU.len {w : World} {p : Option Addr} {n c : Nat} {l : List Nat} (h : SU w (.slice p n c) l) : n = l.length ∧ l.length ≤ c := by
 obtain ⟨q, d, e, hc, h1⟩ := h
 simp only [Value.slice.injEq] at e
 obtain ⟨rfl, rfl, rfl⟩ := e
 exact ⟨rfl, hc⟩
theorem SU.at_ {w : World} {p : Option Addr} {n c : Nat} {l : List Nat} (h : SU w (.slice p n c) l) : n = 0 ∨ ∃ g o, p = some ⟨g, o, none⟩ ∧ UA w g o l := by
 obtain ⟨q, d, e, hc, h1⟩ := h
 simp only [Value.slice.injEq] at e
 obtain ⟨rfl, rfl, rfl⟩ := e
 rcases h1 with h1 | h1
 · exact Or.inl (by rw [h1]; rfl)
 · exact Or.inr h1
def valu (l : List Nat) : List Value := l.map fun x => .int .u64 ((x : Nat) : Int)
/-- The words l in a row of the call's own, at block B or behind it; nil where there is none. -/
def OwU (B : Nat) (w : World) (v : Value) (l : List Nat) : Prop := w.ownsRow B 26 1 v l.length (valu l)
theorem OwU.nil (B : Nat) (w : World) : OwU B w (.slice none 0 0) [] := ⟨rfl, .inl ⟨rfl, rfl⟩⟩
theorem OwU.row {B : Nat} {w : World} {v : Value} {l : List Nat} (h : OwU B w v l) : (v = .slice none 0 0 ∧ l = []) ∨ ∃ g cap, v = .slice (some ⟨g, 0, none⟩) l.length cap ∧ B ≤ g ∧ l.length ≤ cap ∧ cap ≤ maxLen ∧ UA w g 0 l := by
 obtain ⟨hl, hr⟩ := h
 rcases hr with ⟨rfl, h0⟩ | ⟨g, cap, cur, rfl, hB, hg, hnc, hcm, hcs, htake⟩
 · exact Or.inl ⟨rfl, List.eq_nil_of_length_eq_zero h0⟩
 ·
  refine Or.inr ⟨g, cap, rfl, hB, hnc, hcm, fun i hi => ?_, ?_⟩
  ·
   rw [Nat.zero_add, cell_of_row w g i cur _ _ hg, ← Array.getElem?_toList]
   have := List.getElem?_take (l := cur.toList) (i := l.length * 1) (j := i)
   rw [htake, if_pos (by omega)] at this
   rw [← this]
   simp [valu, hi]
  ·
   rcases Nat.lt_or_ge g w.heap.size with h | h
   · exact h
   ·
    rw [Array.getElem?_eq_none h] at hg
    cases hg
theorem OwU.su {B : Nat} {w : World} {v : Value} {l : List Nat} (h : OwU B w v l) : SU w v l := by
 rcases h.row with ⟨rfl, rfl⟩ | ⟨g, cap, rfl, _, hc, _, hb⟩
 · exact SU.nil w none 0
 · exact ⟨_, cap, rfl, hc, Or.inr ⟨g, 0, rfl, hb⟩⟩
theorem OwU.of_block {B : Nat} {w w' : World} {v : Value} {l : List Nat} (h : OwU B w v l) (hb : ∀ g, v.ownBlock = some g → w'.heap[g]? = w.heap[g]?) : OwU B w' v l := by
 obtain ⟨hl, hr⟩ := h
 refine ⟨hl, ?_⟩
 rcases hr with h | ⟨g, cap, cur, rfl, hB, hg, hnc, hcm, hcs, htake⟩
 · exact Or.inl h
 · exact Or.inr ⟨g, cap, cur, rfl, hB, (hb g rfl).trans hg, hnc, hcm, hcs, htake⟩
theorem OwU.lt {B : Nat} {w : World} {v : Value} {l : List Nat} (h : OwU B w v l) (g : Nat) (hg : v.ownBlock = some g) : B ≤ g ∧ g < w.heap.size := by
 rcases h.row with ⟨rfl, _⟩ | ⟨g', cap, rfl, hB, _, _, hb⟩
 · cases hg
 ·
  simp only [Value.ownBlock, Option.some.injEq] at hg
  exact ⟨by omega, by have := hb.blk; omega⟩
theorem OwU.below {B : Nat} {w w' : World} {v : Value} {l : List Nat} (h : OwU B w v l) (hb : Below w.heap.size w w') : OwU B w' v l :=
 h.of_block fun g hg => hb.block g (h.lt g hg).2
theorem OwU.shape {B : Nat} {w : World} {v : Value} {l : List Nat} (h : OwU B w v l) : ∃ p c, v = .slice p l.length c := by
 rcases h.row with ⟨rfl, rfl⟩ | ⟨g, c, rfl, _⟩
 · exact ⟨none, 0, rfl⟩
 · exact ⟨_, c, rfl⟩
end Go.Proofs.YtegbnadnodlalaaGreatDoor
namespace Go.Proofs.YtegbnadnodlalaaGreatDoor
open Go.RowKit
/-- Numbers behind bytes, if none is too great. -/
def putO (b l : List Nat) : Option (List Nat) := if l.all (fun n => decide (n < 4611686018427387904)) then some (b ++ vputs l) else none
theorem putO_some {b l : List Nat} (h : ∀ n ∈ l, n < 4611686018427387904) : putO b l = some (b ++ vputs l) := if_pos (List.all_eq_true.2 fun n hn => decide_eq_true (h n hn))
theorem putO_none {b l : List Nat} (i : Nat) (hi : i < l.length) (h : ¬ l[i] < 4611686018427387904) : putO b l = none := if_neg fun e => h (by
 have := List.all_eq_true.1 e l[i] (List.getElem_mem hi)
 exact of_decide_eq_true this)
/-- What the program's Put is asked to answer: the bytes and the numbers behind them, in new memory; ErrRange and nothing, if one is too great. -/
def PutC : Prop := ∀ (b l : List Nat) (o : Option (List Nat)) (pb pl : Option Addr) (nb nl cb cl : Nat), (∀ x ∈ b, x < 256) → (∀ x ∈ l, x < 18446744073709551616) → nb ≤ 2000 → nl ≤ 1000 → o = putO b l →
 ∀ W, SB W (.slice pb nb cb) b → SU W (.slice pl nl cl) l → Calls Tryz.prog 22 #[.slice pb nb cb, .slice pl nl cl] W fun e w' => ∃ v, e = .returned (.tuple #[v, .int .i64 (if o.isSome then 0 else 2)]) ∧ OwL W.heap.size w' v (o.getD []) ∧ Below W.heap.size W w'
namespace To
theorem beL_take (m : Nat) : ∀ s j, j < s → (beL m s).take (j + 1) = (beL m s).take j ++ [m / 256 ^ (s - 1 - j) % 256]
 | 0, j, h => absurd h (Nat.not_lt_zero _)
 | s + 1, 0, _ => rfl
 | s + 1, j + 1, h => by
  show m / 256 ^ s % 256 :: (beL m s).take (j + 1) = m / 256 ^ s % 256 :: ((beL m s).take j ++ _)
  rw [beL_take m s j (by omega), show s + 1 - 1 - (j + 1) = s - 1 - j by omega]
theorem four {a b c d x y z u : Nat} (h0 : a = x) (h1 : b = y) (h2 : c = z) (h3 : d = u) : [a, b, c, d] = [x, y, z, u] := by rw [h0, h1, h2, h3]
/-- The number with its kind ahead, byte by byte. -/
theorem beL_or {k s r : Nat} (q : Q4 k s r) (n : Nat) (hk : vtop n = k) (hn : n < 2 ^ r) : beL (n + k * 2 ^ r) s = vput n := by
 show _ = wide n (vtop n)
 rw [hk]
 rcases q with ⟨rfl, rfl, rfl⟩ | ⟨rfl, rfl, rfl⟩ | ⟨rfl, rfl, rfl⟩ | ⟨rfl, rfl, rfl⟩
 ·
  replace hn : n < 64 := hn
  show [(n + 0 * 64) / 1 % 256] = [n / 1 % 256 + 64 * 0]
  congr 1
 ·
  replace hn : n < 16384 := hn
  show [(n + 1 * 16384) / 256 % 256, (n + 1 * 16384) / 1 % 256] = [n / 256 % 256 + 64 * 1, n / 1 % 256]
  congr 1
  · omega
  ·
   congr 1
   omega
 ·
  replace hn : n < 1073741824 := hn
  show [(n + 2 * 1073741824) / 16777216 % 256, (n + 2 * 1073741824) / 65536 % 256, (n + 2 * 1073741824) / 256 % 256, (n + 2 * 1073741824) / 1 % 256] = [n / 16777216 % 256 + 64 * 2, n / 65536 % 256, n / 256 % 256, n / 1 % 256]
  exact four (by omega) (by omega) (by omega) (by omega)
 ·
  replace hn : n < 4611686018427387904 := hn
  show [(n + 3 * 4611686018427387904) / 72057594037927936 % 256, (n + 3 * 4611686018427387904) / 281474976710656 % 256, (n + 3 * 4611686018427387904) / 1099511627776 % 256, (n + 3 * 4611686018427387904) / 4294967296 % 256] ++ [(n + 3 * 4611686018427387904) / 16777216 % 256, (n + 3 * 4611686018427387904) / 65536 % 256, (n + 3 * 4611686018427387904) / 256 % 256, (n + 3 * 4611686018427387904) / 1 % 256] = [n / 72057594037927936 % 256 + 64 * 3, n / 281474976710656 % 256, n / 1099511627776 % 256, n / 4294967296 % 256] ++ [n / 16777216 % 256, n / 65536 % 256, n / 256 % 256, n / 1 % 256]
  exact congr (congrArg (· ++ ·) (four (by omega) (by omega) (by omega) (by omega))) (four (by omega) (by omega) (by omega) (by omega))
theorem fwraps_u64 (n : Int) (h₀ : 0 ≤ n) (h₁ : n < 2 ^ 64) : IntKind.u64.wrap n = n := by rw [IntKind.wrap_u64]; omega
theorem or_low (i : Nat) (y x : Int) (h0 : 0 ≤ y) (h1 : y < 2 ^ i) (hi : (2 : Int) ^ i ≤ 2 ^ 64) (hx0 : 0 ≤ x) (hx : x % 2 ^ i = 0) (hx1 : x < 2 ^ 64) : bits .or .u64 y x = y + x :=
 by
 obtain ⟨a, rfl⟩ := Int.eq_ofNat_of_zero_le h0
 obtain ⟨b, rfl⟩ := Int.eq_ofNat_of_zero_le hx0
 have ha : a < 2 ^ 64 := by exact_mod_cast (show ((a : Nat) : Int) < 2 ^ 64 by omega)
 have hb : b < 2 ^ 64 := by exact_mod_cast hx1
 have e := bits_join .u64 64 (by decide) fwraps_u64 i (b : Int) (a : Int) hx0 hx hx1 h0 h1 (by omega)
 rw [(bits_nat .u64 64 (by decide) fwraps_u64 b a hb ha).2] at e
 rw [(bits_nat .u64 64 (by decide) fwraps_u64 a b ha hb).2, Nat.or_comm, e]
 omega
theorem vtop_room {k s r : Nat} (q : Q4 k s r) (n : Nat) (hn : n < 4611686018427387904) : (k < vtop n → 2 ^ r ≤ n) ∧ (k = vtop n → n < 2 ^ r) := by
 unfold vtop
 rcases q with ⟨rfl, rfl, rfl⟩ | ⟨rfl, rfl, rfl⟩ | ⟨rfl, rfl, rfl⟩ | ⟨rfl, rfl, rfl⟩
 ·
  show (_ → 64 ≤ n) ∧ (_ → n < 64)
  split <;> (try split) <;> (try split) <;> omega
 ·
  show (_ → 16384 ≤ n) ∧ (_ → n < 16384)
  split <;> (try split) <;> (try split) <;> omega
 ·
  show (_ → 1073741824 ≤ n) ∧ (_ → n < 1073741824)
  split <;> (try split) <;> (try split) <;> omega
 ·
  show (_ → 4611686018427387904 ≤ n) ∧ (_ → n < 4611686018427387904)
  split <;> (try split) <;> (try split) <;> omega
set_option maxHeartbeats 2000000 in
set_option maxRecDepth 100000 in
theorem add_m (B : Nat) (bv : Value) (A : List Nat) (n : Nat) (hn : n < 4611686018427387904) (lA : A.length ≤ 100000) (W : World) (hO : OwL B W bv A) (hB : B ≤ W.heap.size) :
  Calls Tryz.prog 43 #[bv, .int .u64 (n : Int)] W fun e w' => ∃ v', e = .returned v' ∧ OwL B w' v' (A ++ vput n) ∧ Below B W w' := by
 have k3 := vtop_le n
 obtain ⟨K, hK⟩ : ∃ K, vtop n = K := ⟨_, rfl⟩
 have K3 : K ≤ 3 := by omega
 have q := Q4.of K (by omega)
 have CR : ∀ k : Nat, k ≤ 3 → ∃ r : Nat, (∀ W, Calls Tryz.prog 66 #[.int .i64 (k : Int)] W fun e w' => e = .returned (.int .i64 (r : Int)) ∧ w' = W) ∧ Q4 k (2 ^ k) r ∧ (k < K → 2 ^ r ≤ n) ∧ (k = K → n < 2 ^ r) := fun k hk => by
  have qk := Q4.of k hk
  refine ⟨_, room_c qk, qk, ?_⟩
  rw [← hK]
  exact vtop_room qk n hn
 replace CR := Lib.hid CR
 have CS := Lib.hid (size_c q)
 have fits := (vtop_room q n hn).2 hK.symm
 have CK := room_c q
 have VP := beL_or q n hK fits
 generalize 2 ^ K = s at *
 generalize 8 * s - 2 = r at *
 rw [← VP]
 clear VP
 have QQ := Lib.hid q
 have s8 : 1 ≤ s ∧ s ≤ 8 := by
  rcases q with ⟨rfl, rfl, rfl⟩ | ⟨rfl, rfl, rfl⟩ | ⟨rfl, rfl, rfl⟩ | ⟨rfl, rfl, rfl⟩ <;> decide
 obtain ⟨M, hM⟩ : ∃ M, K * 2 ^ r = M := ⟨_, rfl⟩
 rw [hM]
 have m64 : n + M < 18446744073709551616 := by
  rcases q with ⟨rfl, rfl, rfl⟩ | ⟨rfl, rfl, rfl⟩ | ⟨rfl, rfl, rfl⟩ | ⟨rfl, rfl, rfl⟩
  ·
   replace hM : 0 * 64 = M := hM
   omega
  ·
   replace hM : 1 * 16384 = M := hM
   omega
  ·
   replace hM : 2 * 1073741824 = M := hM
   omega
  ·
   replace hM : 3 * 4611686018427387904 = M := hM
   omega
 have OR : bits BinOp.or IntKind.u64 (n : Int) (M : Int) = ((n + M : Nat) : Int) := by
  rw [or_low r (n : Int) (M : Int) (by omega) (by exact_mod_cast fits) (by
   have h62 : r ≤ 62 := by rcases q with ⟨_, _, rfl⟩ | ⟨_, _, rfl⟩ | ⟨_, _, rfl⟩ | ⟨_, _, rfl⟩ <;> decide
   exact_mod_cast Nat.pow_le_pow_right (show 0 < 2 by decide) (show r ≤ 64 by omega)) (by omega) (by
   rw [← hM]
   have : ((K * 2 ^ r : Nat) : Int) = (K : Int) * (2 : Int) ^ r := by simp
   rw [this]
   exact Int.mul_emod_left _ _) (by omega)]
  omega
 have SH : (K = 0 ∧ (r : Int) = 6 ∧ M = 0) ∨ (K = 1 ∧ (r : Int) = 14 ∧ M = 16384) ∨ (K = 2 ∧ (r : Int) = 30 ∧ M = 2147483648) ∨ (K = 3 ∧ (r : Int) = 62 ∧ M = 13835058055282163712) := by
  rcases q with ⟨rfl, rfl, rfl⟩ | ⟨rfl, rfl, rfl⟩ | ⟨rfl, rfl, rfl⟩ | ⟨rfl, rfl, rfl⟩
  · exact Or.inl ⟨rfl, rfl, hM.symm⟩
  · exact Or.inr (Or.inl ⟨rfl, rfl, hM.symm⟩)
  · exact Or.inr (Or.inr (Or.inl ⟨rfl, rfl, hM.symm⟩))
  · exact Or.inr (Or.inr (Or.inr ⟨rfl, rfl, hM.symm⟩))
 obtain ⟨m, hm⟩ : ∃ m, n + M = m := ⟨_, rfl⟩
 rw [hm] at m64 OR ⊢
 have K64 : IntKind.u64.wrap (K : Int) = (K : Int) := by rw [IntKind.wrap_u64]; omega
 have S64 : wrap64 ((s : Int) - 1) = (s : Int) - 1 := by
  unfold wrap64
  omega
 have S65 : IntKind.i64.wrap ((s : Int) - 1) = (s : Int) - 1 := by rw [IntKind.wrap_i64]; omega
 clear hM hm fits hK q
 go_enter Tryz.func43, Tryz.ntmps43
 go_upto_region 2 with fail
 go_loopw [5] (fun t wr => ∃ k : Nat, k ≤ K ∧ t = .int .i64 (k : Int) ∧ wr = W) (fun t _ => (K - intOf t).toNat)
 case atStart => exact ⟨0, by omega, rfl, rfl⟩
 case round =>
  obtain ⟨k, hk, rfl, hw⟩ := hrel
  subst wr
  by_cases hkK : k = K
  ·
   obtain ⟨r0, C0, q0, _, fits⟩ := CR.out k (by omega)
   have fits0 := fits hkK
   clear fits
   have er : r0 = r := by
    subst hkK
    have qq := QQ.out
    unfold Q4 at q0 qq
    omega
   subst er
   subst k
   obtain ⟨ρ, hρ⟩ : ∃ ρ : Int, ((r0 : Nat) : Int) = ρ := ⟨_, rfl⟩
   rw [hρ] at C0
   rw [hρ] at CK SH
   have C0' := Lib.hid C0
   have Z : (ρ = 6 ∧ (n : Int) / 64 = 0) ∨ (ρ = 14 ∧ (n : Int) / 16384 = 0) ∨ (ρ = 30 ∧ (n : Int) / 1073741824 = 0) ∨ (ρ = 62 ∧ (n : Int) / 4611686018427387904 = 0) := by
    have q1 := q0
    unfold Q4 at q1
    have r4 : r0 = 6 ∨ r0 = 14 ∨ r0 = 30 ∨ r0 = 62 := by omega
    rcases r4 with rfl | rfl | rfl | rfl
    ·
     replace fits : n < 64 := fits0
     omega
    ·
     replace fits : n < 16384 := fits0
     omega
    ·
     replace fits : n < 1073741824 := fits0
     omega
    · omega
   replace Z := Lib.hid Z
   replace SH := Lib.hid SH
   replace CK := Lib.hid CK
   clear q0 C0 CR hk fits0 hρ
   go_upto_region 2 with fail
   rename_i aK
   refine wp_region_seq ?_
   refine smv (.int .u64 (n : Int)) rfl rfl rfl ?_
   simp only [AP]
   refine smv (.int .i64 (K : Int)) rfl rfl rfl ?_
   simp only [AP]
   refine wpSeq_wp rfl ?_
   unfold Oper.wp execOp
   go_simp
   refine (C0'.out _).mono ?_
   rintro _ w1 ⟨rfl, hw⟩
   subst w1
   go_simp
   refine svl (.int .u64 0) (.inl ⟨by rfl, fun w' _ => by (rcases Z.out with ⟨rfl, z⟩ | ⟨rfl, z⟩ | ⟨rfl, z⟩ | ⟨rfl, z⟩ <;> go_simp)⟩) ?_
   simp only [AP]
   refine svl (.bool false) (.inl ⟨by rfl, fun w' _ => by go_simp⟩) ?_
   simp only [AP]
   refine wpSeq_nil ?_
   refine aK _ _ ?_
   clear aK C0' Z
   go_upto_region 4 with fail
   rename_i aK
   refine wp_region_seq ?_
   refine smv (.int .u64 (n : Int)) rfl rfl rfl ?_
   simp only [AP]
   refine smv (.int .i64 (K : Int)) rfl rfl rfl ?_
   simp only [AP]
   refine svl (.int .u64 (K : Int)) (.inl ⟨by rfl, fun w' _ => by go_simp⟩) ?_
   simp only [AP]
   refine smv (.int .i64 (K : Int)) rfl rfl rfl ?_
   simp only [AP]
   refine wpSeq_wp rfl ?_
   unfold Oper.wp execOp
   go_simp
   refine (CK.out _).mono ?_
   rintro _ w2 ⟨rfl, hw⟩
   subst w2
   go_simp
   refine svl (.int .u64 (M : Int)) (.inl ⟨by rfl, fun w' _ => by (rcases SH.out with ⟨rfl, rfl, rfl⟩ | ⟨rfl, rfl, rfl⟩ | ⟨rfl, rfl, rfl⟩ | ⟨rfl, rfl, rfl⟩ <;> (go_simp; try decide))⟩) ?_
   simp only [AP]
   refine svl (.int .u64 (m : Int)) (.inl ⟨by rfl, fun w' _ => by go_simp⟩) ?_
   simp only [AP]
   refine sas (.int .u64 (m : Int)) rfl rfl rfl ?_
   simp only [AP]
   refine wpSeq_nil ?_
   refine aK _ _ ?_
   clear aK OR SH K64 CK
   go_upto_region 5 with fail
   rename_i aK
   refine wp_region_seq ?_
   refine smv (.int .i64 (K : Int)) rfl rfl rfl ?_
   simp only [AP]
   refine wpSeq_wp rfl ?_
   unfold Oper.wp execOp
   go_simp
   refine (CS.out _).mono ?_
   rintro _ w3 ⟨rfl, hw⟩
   subst w3
   go_simp
   refine svl (.int .i64 ((s : Int) - 1)) (.inl ⟨by rfl, fun w' _ => by go_simp⟩) ?_
   simp only [AP]
   refine sas (.int .i64 ((s : Int) - 1)) rfl rfl rfl ?_
   simp only [AP]
   refine wpSeq_nil ?_
   refine aK _ _ ?_
   clear aK CS S64 S65 QQ
   go_upto_region 6 with fail
   go_loopw [0, 6] (fun v t wr => ∃ j : Nat, j ≤ s ∧ t = .int .i64 ((s : Int) - 1 - (j : Int)) ∧ OwL B wr v (A ++ (beL m s).take j) ∧ Below B W wr) (fun _ t _ => (intOf t + 1).toNat)
   case atStart => exact ⟨0, by omega, by show Value.int .i64 _ = Value.int .i64 ((s : Int) - 1 - 0); rw [Int.sub_zero], by rw [List.take_zero, List.append_nil]; exact hO, Below.refl _ _⟩
   case round =>
    clear hO
    obtain ⟨j, hj, rfl, hO, b1⟩ := hrel
    by_cases hjs : j = s
    ·
     subst j
     have ei : (s : Int) - 1 - (s : Int) = -1 := by omega
     rw [ei]
     rw [List.take_of_length_le (by rw [beL_length]; exact Nat.le_refl _)] at hO
     clear ei hj
     go_wp2
     go_ret
     exact ⟨_, rfl, hO, b1⟩
    ·
     obtain ⟨i, hi⟩ : ∃ i : Nat, i = s - 1 - j := ⟨_, rfl⟩
     have ei : (s : Int) - 1 - (j : Int) = (i : Int) := by omega
     rw [ei]
     obtain ⟨X, hX⟩ : ∃ X, m / 256 ^ i = X := ⟨_, rfl⟩
     obtain ⟨Y, hY⟩ : ∃ Y, X % 256 = Y := ⟨_, rfl⟩
     have q8 : (i = 0 ∧ X = m) ∨ (i = 1 ∧ X = m / 256) ∨ (i = 2 ∧ X = m / 65536) ∨ (i = 3 ∧ X = m / 16777216) ∨ (i = 4 ∧ X = m / 4294967296) ∨ (i = 5 ∧ X = m / 1099511627776) ∨ (i = 6 ∧ X = m / 281474976710656) ∨ (i = 7 ∧ X = m / 72057594037927936) := by
      have i8 : i = 0 ∨ i = 1 ∨ i = 2 ∨ i = 3 ∨ i = 4 ∨ i = 5 ∨ i = 6 ∨ i = 7 := by omega
      rcases i8 with h | h | h | h | h | h | h | h <;> (rw [h] at hX; rw [h, ← hX])
      · exact Or.inl ⟨rfl, by rw [Nat.pow_zero, Nat.div_one]⟩
      · exact Or.inr (Or.inl ⟨rfl, rfl⟩)
      · exact Or.inr (Or.inr (Or.inl ⟨rfl, rfl⟩))
      · exact Or.inr (Or.inr (Or.inr (Or.inl ⟨rfl, rfl⟩)))
      · exact Or.inr (Or.inr (Or.inr (Or.inr (Or.inl ⟨rfl, rfl⟩))))
      · exact Or.inr (Or.inr (Or.inr (Or.inr (Or.inr (Or.inl ⟨rfl, rfl⟩)))))
      · exact Or.inr (Or.inr (Or.inr (Or.inr (Or.inr (Or.inr (Or.inl ⟨rfl, rfl⟩))))))
      · exact Or.inr (Or.inr (Or.inr (Or.inr (Or.inr (Or.inr (Or.inr ⟨rfl, rfl⟩))))))
     have bt := beL_take m s j (by omega)
     rw [← hi, hX, hY] at bt
     have fy : IntKind.u8.wrap (X : Int) = (Y : Int) := by rw [IntKind.wrap_u8]; omega
     have d8 : IntKind.i64.wrap (8 * (i : Int)) = 8 * (i : Int) := by rw [IntKind.wrap_i64]; omega
     have i0 : (0 : Int) ≤ (i : Int) := by omega
     have i7 : (i : Int) ≤ 7 := by omega
     have d9 : wrap64 ((i : Int) - 1) = (i : Int) - 1 := by
      unfold wrap64
      omega
     have Q8 := Lib.hid q8
     have BT := Lib.hid bt
     have HI := Lib.hid hi
     clear q8 bt hX hY hi ei
     obtain ⟨v2, w2, hr2, O2, b2⟩ := append_new wr B 29 u0 _ [Y] hO (by simp only [List.length_cons, List.length_nil, List.length_append, List.length_take, beL_length]; omega) (Nat.le_trans hB b1.size) W b1
     rw [List.append_assoc, ← BT.out] at O2
     go_upto_region 8 with fail
     rename_i aK
     refine wp_region_seq ?_
     refine smv (u0) rfl rfl rfl ?_
     simp only [AP]
     refine smv (.int .u64 (m : Int)) rfl rfl rfl ?_
     simp only [AP]
     refine smv (.int .i64 (i : Int)) rfl rfl rfl ?_
     simp only [AP]
     refine svl (.int .i64 (8 * (i : Int))) (.inl ⟨by rfl, fun w' _ => by go_simp⟩) ?_
     simp only [AP]
     refine svl (.int .u64 (X : Int)) (.inl ⟨by rfl, fun w' _ => by (rcases Q8.out with ⟨rfl, rfl⟩ | ⟨rfl, rfl⟩ | ⟨rfl, rfl⟩ | ⟨rfl, rfl⟩ | ⟨rfl, rfl⟩ | ⟨rfl, rfl⟩ | ⟨rfl, rfl⟩ | ⟨rfl, rfl⟩ <;> (go_simp; try decide))⟩) ?_
     simp only [AP]
     refine svl (.int .u8 (Y : Int)) (.inl ⟨by rfl, fun w' _ => by go_simp⟩) ?_
     simp only [AP]
     refine wpSeq_wp rfl ?_
     unfold Oper.wp execOp
     go_simp
     refine wpSeq_wp rfl (wp_append_run _ _ _ _ rfl _ _ rfl rfl v2 w2 hr2 ?_)
     simp only [AP]
     refine sas (v2) rfl rfl rfl ?_
     simp only [Act.put, List.setIfInBounds_toArray, List.set_cons_zero]
     refine wpSeq_nil ?_
     refine aK _ _ ?_
     clear aK hr2 hO fy d8 b1
     go_wp2
     exact ⟨⟨j + 1, by omega, by have := HI.out; congr 1; omega, O2, b2⟩, by simp only [intOf]; omega⟩
  ·
   obtain ⟨r0, C0, q0, low, _⟩ := CR.out k (by omega)
   obtain ⟨ρ, hρ⟩ : ∃ ρ : Int, ((r0 : Nat) : Int) = ρ := ⟨_, rfl⟩
   rw [hρ] at C0
   have C0' := Lib.hid C0
   have low := low (by omega)
   have q1 := q0
   unfold Q4 at q1
   have r4 : r0 = 6 ∨ r0 = 14 ∨ r0 = 30 ∨ r0 = 62 := by omega
   obtain ⟨X, hX, X0⟩ : ∃ X : Nat, ((ρ = 6 ∧ X = n / 64) ∨ (ρ = 14 ∧ X = n / 16384) ∨ (ρ = 30 ∧ X = n / 1073741824) ∨ (ρ = 62 ∧ X = n / 4611686018427387904)) ∧ (0 : Int) < (X : Int) := by
    rcases r4 with rfl | rfl | rfl | rfl
    ·
     replace low : 64 ≤ n := low
     exact ⟨_, Or.inl ⟨hρ.symm, rfl⟩, by omega⟩
    ·
     replace low : 16384 ≤ n := low
     exact ⟨_, Or.inr (Or.inl ⟨hρ.symm, rfl⟩), by omega⟩
    ·
     replace low : 1073741824 ≤ n := low
     exact ⟨_, Or.inr (Or.inr (Or.inl ⟨hρ.symm, rfl⟩)), by omega⟩
    ·
     replace low : 4611686018427387904 ≤ n := low
     omega
   replace hX := Lib.hid hX
   have X1 : 0 < X := by omega
   have d9 : wrap64 ((k : Int) + 1) = (k : Int) + 1 := by
    unfold wrap64
    omega
   clear q0 q1 C0 r4 low hρ CR
   go_upto_region 2 with fail
   rename_i aK
   refine wp_region_seq ?_
   refine smv (.int .u64 (n : Int)) rfl rfl rfl ?_
   simp only [AP]
   refine smv (.int .i64 (k : Int)) rfl rfl rfl ?_
   simp only [AP]
   refine wpSeq_wp rfl ?_
   unfold Oper.wp execOp
   go_simp
   refine (C0'.out _).mono ?_
   rintro _ w1 ⟨rfl, hw⟩
   subst w1
   go_simp
   refine svl (.int .u64 (X : Int)) (.inl ⟨by rfl, fun w' _ => by (rcases hX.out with ⟨rfl, rfl⟩ | ⟨rfl, rfl⟩ | ⟨rfl, rfl⟩ | ⟨rfl, rfl⟩ <;> (go_simp; try decide))⟩) ?_
   simp only [AP]
   refine svl (.bool true) (.inl ⟨by rfl, fun w' _ => by go_simp⟩) ?_
   simp only [AP]
   refine wpSeq_nil ?_
   refine aK _ _ ?_
   clear aK C0' hX X0 X1 OR SH S64 S65 K64 CS CK QQ hO m64 s8 hn lA k3 hB
   go_wp2
   exact ⟨⟨k + 1, by omega, rfl, trivial⟩, by simp only [intOf]; omega⟩
theorem vsize_le : ∀ m : List Nat, (vputs m).length ≤ 8 * m.length
 | [] => Nat.le_refl _
 | n :: m => by
  have := vsize_le m
  have h8 : 2 ^ vtop n ≤ 2 ^ 3 := Nat.pow_le_pow_right (by decide) (vtop_le n)
  rw [vputs_cons, List.length_append, List.length_cons, vput_length]
  have h9 : 2 ^ vtop n ≤ 8 := h8
  omega
set_option maxHeartbeats 4000000 in
set_option maxRecDepth 100000 in
theorem put_m : PutC := by
 intro b l o pb pl nb nl cb cl bb bl hnb hnl ho W sb su
 have EB := Lib.hid sb.len.1
 have EL := Lib.hid su.len.1
 have CC := Lib.hid (clone_c b pb nb cb (by omega) W sb)
 replace ho := Lib.hid ho
 have SU0 := Lib.hid su
 clear su bb bl sb
 go_enter Tryz.func22, Tryz.ntmps22
 go_wp2_with fail
 refine CC.out.mono ?_
 rintro _ w1 ⟨v1, rfl, O1, b1⟩
 clear CC
 go_upto_region 3 with fail
 go_loopw [6, 13] (fun v t wr => ∃ i : Nat, i ≤ nl ∧ t = .int .i64 (i : Int) ∧ (∀ n ∈ l.take i, n < 4611686018427387904) ∧ OwL W.heap.size wr v (b ++ vputs (l.take i)) ∧ Below W.heap.size W wr) (fun _ t _ => (nl - intOf t).toNat)
 case atStart => exact ⟨0, by omega, rfl, (fun n h => by cases h), by rw [List.take_zero]; show OwL _ _ _ (b ++ []); rw [List.append_nil]; exact O1, b1⟩
 case round =>
  clear O1 b1
  obtain ⟨i, hi, rfl, hm, hO, hB⟩ := hrel
  by_cases hin : i = nl
  ·
   subst i
   rw [List.take_of_length_le (by rw [EL.out]; exact Nat.le_refl _)] at hm hO
   have ho := ho.out
   rw [putO_some hm] at ho
   subst ho
   clear hi hm SU0
   go_wp2
   refine bodyPost_ret (results_tmp2 rfl _ _ _) rfl ?_
   exact ⟨_, rfl, hO, hB⟩
  ·
   have i1 : (i : Int) < (nl : Int) := by omega
   have i0 : (0 : Int) ≤ (i : Int) := by omega
   have il : i < l.length := by rw [← EL.out]; omega
   obtain ⟨g, oo, rfl, hA⟩ : ∃ g o, pl = some ⟨g, o, none⟩ ∧ UA W g o l := by
    rcases SU0.out.at_ with h0 | h0
    · omega
    · exact h0
   have cx := (hA.below hB).cell i il
   by_cases hx : l[i] < 4611686018427387904
   ·
    have hm' : ∀ n ∈ l.take (i + 1), n < 4611686018427387904 := fun n hn => by
     rw [List.take_add_one, List.getElem?_eq_getElem il] at hn
     rcases List.mem_append.1 hn with h | h
     · exact hm n h
     ·
      simp at h
      rw [h]
      exact hx
    have g1 : ¬ (4611686018427387903 : Int) < ((l[i] : Nat) : Int) := by omega
    have ev : b ++ vputs (l.take i) ++ vput l[i] = b ++ vputs (l.take (i + 1)) := by
     rw [List.append_assoc]
     congr 1
     rw [List.take_add_one, List.getElem?_eq_getElem il, vputs_append]
     show _ = vputs (l.take i) ++ vputs [l[i]]
     rw [vputs_one]
    have lA : (b ++ vputs (l.take i)).length ≤ 100000 := by
     have := vsize_le (l.take i)
     have := EB.out
     rw [List.length_append]
     rw [List.length_take] at *
     omega
    have HM := Lib.hid hm'
    have AM := Lib.hid (add_m W.heap.size u6 _ l[i] hx lA wr hO hB.size)
    rw [ev] at AM
    clear hm' hm hA hx SU0 ev lA hO
    generalize l[i] = x at *
    go_wp2_with fail
    refine AM.out.mono ?_
    rintro _ w2 ⟨v2, rfl, O2, b2⟩
    clear AM cx g1
    go_wp2
    exact ⟨⟨i + 1, by omega, rfl, HM.out, O2, hB.trans b2⟩, by simp only [intOf]; omega⟩
   ·
    have ho := ho.out
    rw [putO_none i il hx] at ho
    subst ho
    have g1 : (4611686018427387903 : Int) < ((l[i] : Nat) : Int) := by omega
    clear hm hA hx SU0 hO
    generalize l[i] = x at *
    go_wp2
    refine bodyPost_ret (results_tmp2 rfl _ _ _) rfl ?_
    exact ⟨_, rfl, OwL.nil _ _, hB⟩
end To
end Go.Proofs.YtegbnadnodlalaaGreatDoor
