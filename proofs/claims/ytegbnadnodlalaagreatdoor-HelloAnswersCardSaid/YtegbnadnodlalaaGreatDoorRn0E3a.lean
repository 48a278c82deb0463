/- The program's Readers: Num; what is asked of a Reader. The program's Readers: End, Byte, of a nil one, too. Strings as bytes, back and forth; certificates in memory. -/
import Derived.Test.YtegbnadnodlalaaGreatDoorE2b0Rc
import Derived.Laws.BitsLemmas
import Derived.Lib.ConvBytes
import Derived.Deep.MidRow
import Derived.Laws.Tables
namespace Go.Proofs.YtegbnadnodlalaaGreatDoor
open Go.RowKit
theorem rwraps_u64 (n : Int) (h₀ : 0 ≤ n) (h₁ : n < 2 ^ 64) : IntKind.u64.wrap n = n := by rw [IntKind.wrap_u64]; omega
/-- 'x | y' where y stands below all of x's bits. -/
theorem ror64 (i : Nat) (x y : Int) (hx0 : 0 ≤ x) (hx : x % 2 ^ i = 0) (hx1 : x < 2 ^ 64) (h0 : 0 ≤ y) (h1 : y < 2 ^ i) (hi : (2 : Int) ^ i ≤ 2 ^ 64) : bits .or .u64 x y = x + y :=
 bits_join .u64 64 (by decide) rwraps_u64 i x y hx0 hx hx1 h0 h1 (by omega)
theorem beN_append (y : Nat) : ∀ (l : List Nat) (a : Nat), beN a (l ++ [y]) = beN a l * 256 + y
 | [], _ => rfl
 | x :: l, a => beN_append y l (a * 256 + x)
theorem beN_lt : ∀ (l : List Nat) (a b : Nat), (∀ x ∈ l, x < 256) → a < b → beN a l < b * 256 ^ l.length
 | [], a, b, _, h => by
  show a < b * 1
  omega
 | x :: l, a, b, hx, h => by
  have h1 := hx x (by simp)
  have := beN_lt l (a * 256 + x) (b * 256) (fun y hy => hx y (by simp [hy])) (by omega)
  show beN (a * 256 + x) l < b * 256 ^ (l.length + 1)
  rw [Nat.pow_succ, Nat.mul_comm (256 ^ l.length), ← Nat.mul_assoc]
  exact this
theorem beN_split : ∀ (m : List Nat) (a : Nat), beN a m = a * 256 ^ m.length + beN 0 m
 | [], a => by
  show a = a * 1 + 0
  omega
 | x :: m, a => by
  show beN (a * 256 + x) m = a * 256 ^ (m.length + 1) + beN (0 * 256 + x) m
  rw [Nat.zero_mul, Nat.zero_add, beN_split m (a * 256 + x), beN_split m x, Nat.pow_succ, Nat.add_mul, Nat.mul_assoc, Nat.mul_comm 256 (256 ^ m.length)]
  omega
/-- Bytes as a number, without the first one's two highest bits. -/
theorem beN_mod (x : Nat) (m : List Nat) (hm : ∀ y ∈ m, y < 256) : beN 0 (x :: m) % (64 * 256 ^ m.length) = beN (x % 64) m := by
 show beN (0 * 256 + x) m % _ = _
 rw [Nat.zero_mul, Nat.zero_add, beN_split m x, beN_split m (x % 64)]
 have hb := beN_lt m 0 1 hm (by decide)
 generalize beN 0 m = b at *
 rw [Nat.one_mul] at hb
 generalize 256 ^ m.length = P at *
 have e : x * P + b = (x % 64) * P + b + (64 * P) * (x / 64) := by
  have h1 := Nat.div_add_mod x 64
  calc x * P + b = (64 * (x / 64) + x % 64) * P + b := by rw [h1]
   _ = _ := by rw [Nat.add_mul, Nat.mul_assoc 64, Nat.mul_assoc 64, Nat.mul_comm P]; omega
 rw [e, Nat.add_mul_mod_self_left]
 refine Nat.mod_eq_of_lt ?_
 have h2 : x % 64 + 1 ≤ 64 := by omega
 have h3 := Nat.mul_le_mul_right P h2
 rw [Nat.add_mul] at h3
 omega
theorem mask64 (i n : Nat) (hi : i ≤ 62) (hn : n < 18446744073709551616) : bits BinOp.and IntKind.u64 (n : Int) ((2 : Int) ^ i - 1) = (n : Int) % 2 ^ i :=
 bits_mask .u64 64 (by decide) rwraps_u64 i (by omega) (n : Int) (by omega) (by omega)
theorem ones_of {k s r : Nat} (q : Q4 k s r) : (64 * 256 ^ (s - 1) : Nat) = 2 ^ r ∧ r ≤ 62 := by
 rcases q with ⟨rfl, rfl, rfl⟩ | ⟨rfl, rfl, rfl⟩ | ⟨rfl, rfl, rfl⟩ | ⟨rfl, rfl, rfl⟩ <;> decide
set_option maxHeartbeats 4000000 in
set_option maxRecDepth 100000 in
theorem num_none (B : Nat) (p : Option Addr) (l : List Nat) (c c' : Nat) (W : World) (h : RM B W p l c) (hB : B ≤ W.heap.size) {k s r : Nat} (q : Q4 k s r) (hk : l.getD 0 0 / 64 = k)
  (TK : ∀ W, RM B W p l c → B ≤ W.heap.size → Calls Tryz.prog 40 #[.pointer p, .int .u64 (s : Int)] W fun e w' => e = .returned (.slice none 0 0) ∧ RM B w' p l c' ∧ W.grownBy w' (some B)) :
  Calls Tryz.prog 44 #[.pointer p] W fun e w' => e = .returned (.int .u64 0) ∧ RM B w' p l c' ∧ W.grownBy w' (some B) := by
 have CL := Lib.hid (left_m B p l c W h hB)
 have CS := Lib.hid (size_c q)
 have CR := Lib.hid (room_c q)
 have T := Lib.hid TK
 have ws : IntKind.u64.wrap (s : Int) = (s : Int) := by
  rcases q with ⟨rfl, rfl, rfl⟩ | ⟨rfl, rfl, rfl⟩ | ⟨rfl, rfl, rfl⟩ | ⟨rfl, rfl, rfl⟩ <;> decide
 have QQ := Lib.hid q
 clear h TK q
 cases l with
 | nil =>
  have hk0 : k = 0 := hk.symm
  subst hk0
  clear hk
  go_enter Tryz.func44, Tryz.ntmps44
  go_wp2_with fail
  refine CL.out.mono ?_
  rintro _ w1 ⟨rfl, h1, b1⟩
  clear CL
  replace h1 := Lib.hid h1
  go_wp2_with fail
  refine (CS.out _).mono ?_
  rintro _ w2 ⟨rfl, hw⟩
  subst hw
  go_wp2_with fail
  refine (T.out _ h1.out (Nat.le_trans hB b1.size)).mono ?_
  rintro _ w3 ⟨rfl, h3, b3⟩
  replace b1 := b1.trans b3
  clear T h1 b3 CS
  go_upto_region 6 with fail
  go_loopw [4, 24] (fun v t wr => v = .int .u64 0 ∧ t = .int .i64 0 ∧ wr = w3) (fun _ _ _ => 0)
  case atStart => exact ⟨rfl, rfl, rfl⟩
  case round =>
  obtain ⟨rfl, rfl, hw⟩ := hrel
  subst hw
  go_wp2_with fail
  refine (CR.out _).mono ?_
  rintro _ w4 ⟨rfl, hw⟩
  subst hw
  clear CR
  rcases QQ.out with ⟨h0, rfl, rfl⟩ | ⟨h0, rfl, rfl⟩ | ⟨h0, rfl, rfl⟩ | ⟨h0, rfl, rfl⟩ <;> cases h0
  clear QQ
  go_wp2
  go_ret
  exact ⟨rfl, h3, b1⟩
 | cons x t =>
  replace hk : x / 64 = k := hk
  go_enter Tryz.func44, Tryz.ntmps44
  go_wp2_with fail
  refine CL.out.mono ?_
  rintro _ w1 ⟨rfl, h1, b1⟩
  have H1 := Lib.hid h1
  obtain ⟨g, pb, cb, rfl, hg, K, S, ne, bb, ll⟩ := h1
  have c0 : w1.cell? ⟨g, 0, none⟩ = some (.slice pb (t.length + 1) cb) := K.cell 0
  have x256 : x < 256 := bb x (by simp)
  obtain ⟨gb, ob, rfl, cx⟩ : ∃ gb ob, pb = some ⟨gb, ob, none⟩ ∧ w1.cell? ⟨gb, ob, none⟩ = some (.int .u8 (x : Int)) := by
   rcases S.at_ with h0 | ⟨gb, ob, e, A⟩
   · simp at h0
   ·
    have := A.cell 0 (by simp)
    rw [Nat.add_zero] at this
    exact ⟨gb, ob, e, this⟩
  have xk : (x : Int) / 64 = (k : Int) := by omega
  have wk : IntKind.i64.wrap (k : Int) = (k : Int) := by rw [IntKind.wrap_i64]; omega
  clear K S ne bb CL ll
  obtain ⟨n, hn⟩ : ∃ n, t.length + 1 = n := ⟨_, rfl⟩
  have n0 : (0 : Int) < (n : Int) := by omega
  have n1 : ¬ (n : Int) = 0 := by omega
  rw [show (x :: t).length = n from hn]
  rw [hn] at c0
  clear hn hk
  go_upto_region 3 with fail
  rename_i aK _
  refine wp_region_seq ?_
  refine smv (.pointer (some ⟨g, 0, none⟩)) rfl rfl rfl ?_
  simp only [AP]
  refine svl (.pointer (some ⟨g, 0, none⟩)) (.inl ⟨by rfl, fun w' _ => by go_simp⟩) ?_
  simp only [AP]
  refine svl (.pointer (some ⟨g, 0, none⟩)) (.inl ⟨by rfl, fun w' _ => by go_simp⟩) ?_
  simp only [AP]
  refine wpSeq_yield (S := fun w' => w' = w1) (v := .slice (some ⟨gb, ob, none⟩) n cb) (Or.inl ⟨by rfl, fun w' hw' => by (rw [hw']; go_simp)⟩) rfl ?_
  simp only [AP]
  refine svl (.pointer (some ⟨gb, ob, none⟩)) (.inl ⟨by rfl, fun w' _ => by (go_simp; try exact fun h => absurd h (by omega))⟩) ?_
  simp only [AP]
  refine wpSeq_yield (S := fun w' => w' = w1) (v := .int .u8 (x : Int)) (Or.inl ⟨by rfl, fun w' hw' => by (rw [hw']; go_simp)⟩) rfl ?_
  simp only [AP]
  refine svl (.int .u8 (k : Int)) (.inl ⟨by rfl, fun w' _ => by go_simp⟩) ?_
  simp only [AP]
  refine svl (.int .i64 (k : Int)) (.inl ⟨by rfl, fun w' _ => by go_simp⟩) ?_
  simp only [AP]
  refine sas (.int .i64 (k : Int)) rfl rfl rfl ?_
  simp only [AP]
  refine wpSeq_nil ?_
  refine aK _ _ ?_
  clear aK c0 cx x256 xk wk n0 n1
  go_wp2_with fail
  refine (CS.out _).mono ?_
  rintro _ w2 ⟨rfl, hw⟩
  subst hw
  go_wp2_with fail
  refine (T.out _ H1.out (Nat.le_trans hB b1.size)).mono ?_
  rintro _ w3 ⟨rfl, h3, b3⟩
  replace b1 := b1.trans b3
  clear T H1 b3 CS
  go_upto_region 6 with fail
  go_loopw [4, 24] (fun v t wr => v = .int .u64 0 ∧ t = .int .i64 0 ∧ wr = w3) (fun _ _ _ => 0)
  case atStart => exact ⟨rfl, rfl, rfl⟩
  case round =>
  obtain ⟨rfl, rfl, hw⟩ := hrel
  subst hw
  go_wp2_with fail
  refine (CR.out _).mono ?_
  rintro _ w4 ⟨rfl, hw⟩
  subst hw
  clear CR
  rcases QQ.out with ⟨h0, rfl, rfl⟩ | ⟨h0, rfl, rfl⟩ | ⟨h0, rfl, rfl⟩ | ⟨h0, rfl, rfl⟩ <;>
  ·
   subst h0
   clear QQ
   go_wp2
   go_ret
   exact ⟨rfl, h3, b1⟩
set_option maxHeartbeats 4000000 in
set_option maxRecDepth 100000 in
theorem num_some (B : Nat) (p : Option Addr) (x : Nat) (t : List Nat) (W : World) (h : RM B W p (x :: t) 0) (hB : B ≤ W.heap.size) {k s r : Nat} (q : Q4 k s r) (hk : x / 64 = k) (hs : s ≤ t.length + 1) :
  Calls Tryz.prog 44 #[.pointer p] W fun e w' => e = .returned (.int .u64 ((beN (x % 64) (t.take (s - 1)) : Nat) : Int)) ∧ RM B w' p (t.drop (s - 1)) 0 ∧ W.grownBy w' (some B) := by
 have s1 : 1 ≤ s ∧ s ≤ 8 := by
  rcases q with ⟨rfl, rfl, rfl⟩ | ⟨rfl, rfl, rfl⟩ | ⟨rfl, rfl, rfl⟩ | ⟨rfl, rfl, rfl⟩ <;> decide
 have DR : (x :: t).drop s = t.drop (s - 1) := by
  obtain ⟨j, hj⟩ : ∃ j, s = j + 1 := ⟨s - 1, by omega⟩
  rw [hj]
  rfl
 have TA : (x :: t).take s = x :: t.take (s - 1) := by
  obtain ⟨j, hj⟩ : ∃ j, s = j + 1 := ⟨s - 1, by omega⟩
  rw [hj]
  rfl
 have bb0 : ∀ y ∈ x :: t, y < 256 := by
  obtain ⟨g, pb, cb, rfl, hg, K, S, ne, bb, ll⟩ := h
  exact bb
 have CL := Lib.hid (left_m B p (x :: t) 0 W h hB)
 have CS := Lib.hid (size_c q)
 have CR := Lib.hid (room_c q)
 have T := Lib.hid (fun W h1 h2 => take_in B p (x :: t) s W h1 h2 hs)
 rw [DR, TA] at T
 have ws : IntKind.u64.wrap (s : Int) = (s : Int) := by rw [IntKind.wrap_u64]; omega
 have QQ := Lib.hid q
 have MB : ∀ y ∈ t.take (s - 1), y < 256 := fun y hy => bb0 y (by simp [List.mem_of_mem_take hy])
 have ML : (t.take (s - 1)).length = s - 1 := by rw [List.length_take]; omega
 have VAL : beN 0 (x :: t.take (s - 1)) % 2 ^ r = beN (x % 64) (t.take (s - 1)) := by
  have := beN_mod x (t.take (s - 1)) MB
  rw [ML, (ones_of q).1] at this
  exact this
 obtain ⟨V, hV⟩ : ∃ V, beN (x % 64) (t.take (s - 1)) = V := ⟨_, rfl⟩
 rw [hV] at VAL ⊢
 clear hV
 replace VAL := Lib.hid VAL
 have AB : ∀ y ∈ x :: t.take (s - 1), y < 256 := fun y hy => by
  rcases List.mem_cons.1 hy with rfl | hy
  · exact bb0 _ (by simp)
  · exact MB y hy
 have AL : (x :: t.take (s - 1)).length = s := by rw [List.length_cons, ML]; omega
 clear h q DR TA MB ML
 go_enter Tryz.func44, Tryz.ntmps44
 go_wp2_with fail
 refine CL.out.mono ?_
 rintro _ w1 ⟨rfl, h1, b1⟩
 have H1 := Lib.hid h1
 obtain ⟨g, pb, cb, rfl, hg, K, S, ne, bb, ll⟩ := h1
 have c0 : w1.cell? ⟨g, 0, none⟩ = some (.slice pb (t.length + 1) cb) := K.cell 0
 have x256 : x < 256 := bb x (by simp)
 obtain ⟨gb, ob, rfl, cx⟩ : ∃ gb ob, pb = some ⟨gb, ob, none⟩ ∧ w1.cell? ⟨gb, ob, none⟩ = some (.int .u8 (x : Int)) := by
  rcases S.at_ with h0 | ⟨gb, ob, e, A⟩
  · simp at h0
  ·
   have := A.cell 0 (by simp)
   rw [Nat.add_zero] at this
   exact ⟨gb, ob, e, this⟩
 have xk : (x : Int) / 64 = (k : Int) := by omega
 have wk : IntKind.i64.wrap (k : Int) = (k : Int) := by rw [IntKind.wrap_i64]; omega
 clear K S ne bb CL ll
 obtain ⟨n, hn⟩ : ∃ n, t.length + 1 = n := ⟨_, rfl⟩
 have n0 : (0 : Int) < (n : Int) := by omega
 have n1 : ¬ (n : Int) = 0 := by omega
 rw [show (x :: t).length = n from hn]
 rw [hn] at c0
 clear hn hk hs
 go_upto_region 3 with fail
 rename_i aK _
 refine wp_region_seq ?_
 refine smv (.pointer (some ⟨g, 0, none⟩)) rfl rfl rfl ?_
 simp only [AP]
 refine svl (.pointer (some ⟨g, 0, none⟩)) (.inl ⟨by rfl, fun w' _ => by go_simp⟩) ?_
 simp only [AP]
 refine svl (.pointer (some ⟨g, 0, none⟩)) (.inl ⟨by rfl, fun w' _ => by go_simp⟩) ?_
 simp only [AP]
 refine wpSeq_yield (S := fun w' => w' = w1) (v := .slice (some ⟨gb, ob, none⟩) n cb) (Or.inl ⟨by rfl, fun w' hw' => by (rw [hw']; go_simp)⟩) rfl ?_
 simp only [AP]
 refine svl (.pointer (some ⟨gb, ob, none⟩)) (.inl ⟨by rfl, fun w' _ => by (go_simp; try exact fun h => absurd h (by omega))⟩) ?_
 simp only [AP]
 refine wpSeq_yield (S := fun w' => w' = w1) (v := .int .u8 (x : Int)) (Or.inl ⟨by rfl, fun w' hw' => by (rw [hw']; go_simp)⟩) rfl ?_
 simp only [AP]
 refine svl (.int .u8 (k : Int)) (.inl ⟨by rfl, fun w' _ => by go_simp⟩) ?_
 simp only [AP]
 refine svl (.int .i64 (k : Int)) (.inl ⟨by rfl, fun w' _ => by go_simp⟩) ?_
 simp only [AP]
 refine sas (.int .i64 (k : Int)) rfl rfl rfl ?_
 simp only [AP]
 refine wpSeq_nil ?_
 refine aK _ _ ?_
 clear aK c0 cx x256 xk wk n0 n1
 go_wp2_with fail
 refine (CS.out _).mono ?_
 rintro _ w2 ⟨rfl, hw⟩
 subst hw
 go_wp2_with fail
 refine (T.out _ H1.out (Nat.le_trans hB b1.size)).mono ?_
 rintro _ w3 ⟨⟨q, c, rfl, S3⟩, h3, b3⟩
 replace b1 := b1.trans b3
 replace h3 := Lib.hid h3
 clear T H1 b3 CS
 generalize x :: t.take (s - 1) = L at *
 replace AL := Lib.hid AL
 go_upto_region 6 with fail
 go_loopw [4, 24] (fun v t wr => ∃ j : Nat, j ≤ s ∧ t = .int .i64 (j : Int) ∧ v = .int .u64 ((beN 0 (L.take j) : Nat) : Int) ∧ wr = w3) (fun _ t _ => (s - intOf t).toNat)
 case atStart => exact ⟨0, by omega, rfl, rfl, rfl⟩
 case round =>
  obtain ⟨j, hj, rfl, rfl, hw⟩ := hrel
  subst hw
  by_cases hjn : j = s
  ·
   subst j
   rw [List.take_of_length_le (by rw [AL.out]; exact Nat.le_refl _)]
   go_wp2_with fail
   refine (CR.out _).mono ?_
   rintro _ w4 ⟨rfl, hw⟩
   subst hw
   clear CR
   have N64 : beN 0 L < 18446744073709551616 := by
    have := beN_lt L 0 1 AB (by decide)
    rw [AL.out, Nat.one_mul] at this
    have h8 : 256 ^ s ≤ 256 ^ 8 := Nat.pow_le_pow_right (by decide) s1.2
    have : 256 ^ 8 = 18446744073709551616 := rfl
    omega
   have VAL := VAL.out
   clear AB AL S3
   generalize beN 0 L = N at *
   have MK := mask64 r N
   rcases QQ.out with ⟨rfl, rfl, rfl⟩ | ⟨rfl, rfl, rfl⟩ | ⟨rfl, rfl, rfl⟩ | ⟨rfl, rfl, rfl⟩ <;>
   ·
    clear QQ
    replace MK : bits BinOp.and IntKind.u64 (N : Int) _ = (V : Int) := (MK (by decide) N64).trans (by rw [← VAL]; rfl)
    clear VAL
    first | rw [show ((2 : Int) ^ 6 - 1) = 63 from rfl] at MK | rw [show ((2 : Int) ^ 14 - 1) = 16383 from rfl] at MK | rw [show ((2 : Int) ^ 30 - 1) = 1073741823 from rfl] at MK | rw [show ((2 : Int) ^ 62 - 1) = 4611686018427387903 from rfl] at MK
    have h3 := h3.out
    go_wp2
    go_ret
    exact ⟨rfl, h3, b1⟩
  ·
   have j1 : (j : Int) < (s : Int) := by omega
   have j0 : (0 : Int) ≤ (j : Int) := by omega
   have jm : j < L.length := by rw [AL.out]; omega
   obtain ⟨g3, o3, rfl, A⟩ : ∃ g3 o3, q = some ⟨g3, o3, none⟩ ∧ BA wr g3 o3 L := by
    rcases S3.at_ with h0 | h0
    · omega
    · exact h0
   have cy := A.cell j jm
   have y256 := AB _ (List.getElem_mem jm)
   have EA : beN 0 (L.take (j + 1)) = beN 0 (L.take j) * 256 + L[j] := by
    rw [List.take_add_one, List.getElem?_eq_getElem jm]
    exact beN_append _ _ _
   have ab := beN_lt (L.take j) 0 1 (fun y hy => AB y (List.mem_of_mem_take hy)) (by decide)
   have a56 : beN 0 (L.take j) < 72057594037927936 := by
    rw [List.length_take, Nat.min_eq_left (by omega), Nat.one_mul] at ab
    have : 256 ^ j ≤ 256 ^ 7 := Nat.pow_le_pow_right (by decide) (by omega)
    have : 256 ^ 7 = 72057594037927936 := rfl
    omega
   replace EA := Lib.hid EA
   clear ab A S3 AB
   generalize L[j] = y at *
   obtain ⟨acc, hacc⟩ : ∃ acc, beN 0 (L.take j) = acc := ⟨_, rfl⟩
   rw [hacc] at EA a56 ⊢
   clear hacc
   obtain ⟨D, hD⟩ : ∃ D, acc * 256 = D := ⟨_, rfl⟩
   obtain ⟨F, hF⟩ : ∃ F, D + y = F := ⟨_, rfl⟩
   have e1 : IntKind.u64.wrap ((acc : Int) * 256) = (D : Int) := by rw [IntKind.wrap_u64]; omega
   have e2 : bits BinOp.or IntKind.u64 (D : Int) (y : Int) = (F : Int) := by
    rw [ror64 8 (D : Int) (y : Int) (by omega) (by omega) (by omega) (by omega) (by omega) (by decide)]
    rw [← hF]
    rfl
   have EF : ((beN 0 (L.take (j + 1)) : Nat) : Int) = (F : Int) := by rw [EA.out, hD, hF]
   replace EF := Lib.hid EF
   clear EA hD hF
   go_upto_region 8 with fail
   rename_i aK
   refine wp_region_seq ?_
   refine smv (.int .u64 (acc : Int)) rfl rfl rfl ?_
   simp only [AP]
   refine svl (.int .u64 (D : Int)) (.inl ⟨by rfl, fun w' _ => by go_simp⟩) ?_
   simp only [AP]
   refine smv (.int .u8 (y : Int)) rfl rfl rfl ?_
   simp only [AP]
   refine svl (.int .u64 (y : Int)) (.inl ⟨by rfl, fun w' _ => by (go_simp; try (rw [IntKind.wrap_u64]; omega))⟩) ?_
   simp only [AP]
   refine svl (.int .u64 (F : Int)) (.inl ⟨by rfl, fun w' _ => by go_simp⟩) ?_
   simp only [AP]
   refine sas (.int .u64 (F : Int)) rfl rfl rfl ?_
   simp only [AP]
   refine wpSeq_nil ?_
   refine aK _ _ ?_
   clear aK e1 e2 cy
   go_wp2
   exact ⟨⟨j + 1, by omega, rfl, by rw [EF.out], by trivial⟩, by simp only [intOf]; omega⟩
theorem num_m (B : Nat) (p : Option Addr) (l : List Nat) (c : Nat) (W : World) (h : RM B W p l c) (hB : B ≤ W.heap.size) : Calls Tryz.prog 44 #[.pointer p] W fun e w' => e = .returned (.int .u64 ((numS l c).1 : Int)) ∧ RM B w' p (numS l c).2.1 (numS l c).2.2 ∧ W.grownBy w' (some B) := by
 have lb : ∀ y ∈ l, y < 256 := by
  obtain ⟨g, pb, cb, rfl, hg, K, S, ne, bb, ll⟩ := h
  exact bb
 have k3 : l.getD 0 0 / 64 ≤ 3 := by
  cases l with
  | nil => show 0 / 64 ≤ 3; decide
  | cons x t =>
   have := lb x (by simp)
   show x / 64 ≤ 3
   omega
 have q := Q4.of _ k3
 by_cases hc : c = 0
 ·
  subst hc
  cases l with
  | nil => exact num_none B p [] 0 3 W h hB q rfl (fun W h1 h2 => take_out B p [] _ W h1 h2 (by show 0 < 2 ^ (0 / 64); decide))
  | cons x t =>
   by_cases hs : t.length + 1 < 2 ^ (x / 64)
   ·
    rw [numS_none (x :: t) (if_pos hs)]
    exact num_none B p (x :: t) 0 3 W h hB q rfl (fun W h1 h2 => take_out B p (x :: t) _ W h1 h2 hs)
   ·
    have NS : numS (x :: t) 0 = (beN (x % 64) (t.take (2 ^ (x / 64) - 1)), t.drop (2 ^ (x / 64) - 1), 0) := by
     unfold numS
     rw [if_neg (by decide), show takeV (x :: t) = some (beN (x % 64) (t.take (2 ^ (x / 64) - 1)), t.drop (2 ^ (x / 64) - 1)) from if_neg hs]
    rw [NS]
    exact num_some B p x t W h hB q rfl (by omega)
 ·
  rw [numS_fault l c hc]
  exact num_none B p l c c W h hB q rfl (fun W h1 h2 => take_fault B p l _ c W h1 h2 hc)
end Go.Proofs.YtegbnadnodlalaaGreatDoor
namespace Go.Proofs.YtegbnadnodlalaaGreatDoor
open Go.RowKit
set_option maxHeartbeats 4000000 in
theorem fin_m (B : Nat) (p : Option Addr) (l : List Nat) (c : Nat) (W : World) (h : RM B W p l c) (hB : B ≤ W.heap.size) : Calls Tryz.prog 42 #[.pointer p] W fun e w' => e = .returned (.int .i64 ((if l ≠ [] ∧ c = 0 then 4 else c : Nat) : Int)) ∧ RM B w' p l (if l ≠ [] ∧ c = 0 then 4 else c) ∧ W.grownBy w' (some B) := by
 have CL := Lib.hid (left_m B p l c W h hB)
 have CF := Lib.hid (fail_m B p l c 4)
 have CC := Lib.hid (code_m B p l)
 clear h
 by_cases h0 : l = []
 ·
  rw [if_neg (fun e => e.1 h0)]
  subst h0
  clear CF
  go_enter Tryz.func42, Tryz.ntmps42
  go_wp2_with fail
  refine CL.out.mono ?_
  rintro _ w1 ⟨rfl, h1, b1⟩
  clear CL
  go_wp2_with fail
  refine (CC.out _ _ h1 (Nat.le_trans hB b1.size)).mono ?_
  rintro _ w2 ⟨rfl, h2, b2⟩
  clear CC h1
  go_wp2
  go_ret
  exact ⟨rfl, h2, b1.trans b2⟩
 ·
  have e : (if l ≠ [] ∧ c = 0 then 4 else c) = (if c = 0 then 4 else c) := by
   by_cases hc : c = 0
   · rw [if_pos ⟨h0, hc⟩, if_pos hc]
   · rw [if_neg (fun e => hc e.2), if_neg hc]
  rw [e]
  have lp : (0 : Int) < (l.length : Int) := by
   have := List.length_pos_iff.2 h0
   omega
  generalize (if c = 0 then 4 else c) = d at *
  clear e
  go_enter Tryz.func42, Tryz.ntmps42
  go_wp2_with fail
  refine CL.out.mono ?_
  rintro _ w1 ⟨rfl, h1, b1⟩
  clear CL
  go_wp2_with fail
  refine (CF.out _ h1 (Nat.le_trans hB b1.size)).mono ?_
  rintro _ w2 ⟨⟨v, rfl⟩, h2, b2⟩
  clear CF h1
  replace b1 := b1.trans b2
  go_wp2_with fail
  refine (CC.out _ _ h2 (Nat.le_trans hB b1.size)).mono ?_
  rintro _ w3 ⟨rfl, h3, b3⟩
  clear CC h2
  go_wp2
  go_ret
  exact ⟨rfl, h3, b1.trans b3⟩
set_option maxHeartbeats 4000000 in
set_option maxRecDepth 100000 in
theorem byte_m (B : Nat) (p : Option Addr) (l : List Nat) (c : Nat) (W : World) (h : RM B W p l c) (hB : B ≤ W.heap.size) : Calls Tryz.prog 19 #[.pointer p] W fun e w' => e = .returned (.int .u8 (((tookS 1 l c).1.getD 0 0 : Nat) : Int)) ∧ RM B w' p (tookS 1 l c).2.1 (tookS 1 l c).2.2 ∧ W.grownBy w' (some B) := by
 have T := Lib.hid (take_m B p l 1 c W h hB)
 obtain ⟨y, hy⟩ : ∃ y, (tookS 1 l c).1.getD 0 0 = y := ⟨_, rfl⟩
 rw [hy]
 have HY := Lib.hid hy
 clear h hy
 go_enter Tryz.func19, Tryz.ntmps19
 go_wp2_with fail
 refine T.out.mono ?_
 rintro _ w1 ⟨⟨v1, rfl, s1⟩, h1, b1⟩
 have h1 := Lib.hid h1
 clear T
 generalize (tookS 1 l c).1 = t at *
 obtain ⟨q, d, hv, hd, h0 | ⟨g, o, rfl, A⟩⟩ := s1
 ·
  subst hv
  subst h0
  go_wp2
  go_ret
  exact ⟨by rw [← HY.out]; rfl, h1.out, b1⟩
 ·
  cases t with
  | nil =>
   subst hv
   go_wp2
   go_ret
   exact ⟨by rw [← HY.out]; rfl, h1.out, b1⟩
  | cons x r =>
   subst hv
   have cx := A.cell 0 (by simp)
   rw [Nat.add_zero] at cx
   replace cx : w1.cell? ⟨g, o, none⟩ = some (.int .u8 (x : Int)) := cx
   obtain ⟨m, hm⟩ : ∃ m, (x :: r).length = m := ⟨_, rfl⟩
   have m0 : ¬ (m : Int) = 0 := by simp only [List.length_cons] at hm; omega
   have m1 : (0 : Int) < (m : Int) := by omega
   have m2 : ¬ m = 0 := by omega
   have m3 : 0 < m := by omega
   rw [hm]
   clear A hd hm
   go_wp2
   go_ret
   exact ⟨by rw [← HY.out]; rfl, h1.out, b1⟩
end Go.Proofs.YtegbnadnodlalaaGreatDoor
namespace Go.Proofs.YtegbnadnodlalaaGreatDoor
open Go.RowKit
/-- A string's bytes. -/
def bL (s : ByteArray) : List Nat := s.data.toList.map UInt8.toNat
theorem bL_length (s : ByteArray) : (bL s).length = s.size := by
 rw [bL, List.length_map, Array.length_toList]
 rfl
theorem bL_bytes (s : ByteArray) : Bytes (bL s) := fun x hx => by
 obtain ⟨b, _, rfl⟩ := List.mem_map.1 hx
 exact b.toNat_lt
theorem conv_str (w : World) (s : ByteArray) : ∃ v w', (convert 9 29 (.string s)).run Tryz.prog w = .ok v w' ∧ SB w' v (bL s) ∧ Below w.heap.size w w' := by
 refine ⟨_, _, Lib.run_convert_string_bytes w 9 29 5 s Tryz.underlying9 Tryz.underlying29 Tryz.underlying5, ?_, ?_⟩
 ·
  refine SB.of_ba' ⟨fun i hi => ?_, ?_⟩ (bL_length s).symm ?_
  ·
   rw [bL_length] at hi
   rw [Nat.zero_add, Lib.bytesWorld_cell _ _ _ _ hi]
   simp [bL, hi]
  ·
   rw [Lib.bytesWorld_size]
   omega
  ·
   rw [bL_length]
   exact grownCap_ge _ _ _ _
 · exact ⟨rfl, rfl, rfl, by rw [Lib.bytesWorld_size]; omega, fun k hk => Lib.bytesWorld_at_old _ _ _ k hk⟩
/-! Cells put into a row from a place on. -/
def setV : List Value → Nat → List Value → List Value
 | l, _, [] => l
 | l, o, v :: r => setV (l.set o v) (o + 1) r
theorem setV_split : ∀ (R A X B : List Value) (o : Nat), A.length = o → X.length = R.length → setV (A ++ (X ++ B)) o R = A ++ (R ++ B)
 | [], A, X, B, o, _, hx => by
  obtain rfl := List.length_eq_zero_iff.1 hx
  rfl
 | v :: r, A, [], B, o, _, hx => by cases hx
 | v :: r, A, x :: xs, B, o, ha, hx => by
  have e : (A ++ (x :: xs ++ B)).set o v = (A ++ [v]) ++ (xs ++ B) := by
   rw [← ha, List.set_append_right _ _ (Nat.le_refl _), Nat.sub_self]
   simp
  show setV ((A ++ (x :: xs ++ B)).set o v) (o + 1) r = _
  rw [e, setV_split r (A ++ [v]) xs B (o + 1) (by simp [ha]) (by simpa using hx)]
  simp
theorem blk_setV {t : TypeId} {g : Nat} : ∀ (vs l : List Value) (o : Nat) (w : World), Blk w g t l.toArray → Blk (w.setCells g o vs) g t (setV l o vs).toArray
 | [], _, _, _, h => h
 | v :: r, l, o, w, h => by
  show Blk ((w.setCell ⟨g, o, none⟩ v).setCells g (o + 1) r) g t (setV (l.set o v) (o + 1) r).toArray
  refine blk_setV r _ _ _ ?_
  have h1 := Blk.set h o v
  rwa [List.setIfInBounds_toArray] at h1
theorem blk_setV_far {t : TypeId} {g k : Nat} {cs : Array Value} (hk : k ≠ g) : ∀ (vs : List Value) (o : Nat) (w : World), Blk w k t cs → Blk (w.setCells g o vs) k t cs
 | [], _, _, h => h
 | v :: r, o, w, h => blk_setV_far hk r (o + 1) _ (Blk.far (p := ⟨g, o, none⟩) h hk v)
theorem below_setV {B g : Nat} {w0 : World} (hg : B ≤ g) : ∀ (vs : List Value) (o : Nat) (w : World), Below B w0 w → Below B w0 (w.setCells g o vs)
 | [], _, _, h => h
 | v :: r, o, w, h => below_setV hg r (o + 1) _ (h.setCell (p := ⟨g, o, none⟩) hg v)
theorem fold_setV : ∀ (vs l : List Value) (off j : Nat), (vs.zipIdx j).foldl (fun cs (p : Value × Nat) => cs.setIfInBounds (off + p.2) p.1) l.toArray = (setV l (off + j) vs).toArray
 | [], _, _, _ => rfl
 | v :: r, l, off, j => by
  show (r.zipIdx (j + 1)).foldl _ (l.toArray.setIfInBounds (off + j) v) = _
  rw [List.setIfInBounds_toArray, fold_setV r _ off (j + 1)]
  rfl
/-! Certificates. -/
def z64 : List Nat := List.replicate 64 0
theorem z32_length : z32.length = 32 := List.length_replicate
theorem z64_length : z64.length = 64 := List.length_replicate
theorem vals_iv (l : List Nat) : Iv .u8 (NI l) = (vals l).toArray := by simp [Iv, NI, vals]
theorem vals_one' (l : List Nat) : ∀ v ∈ vals l, v.oneCell' = true := one_at l
def cerL (t : ByteArray) (k s : List Nat) : List Value := [Value.string t] ++ (vals k ++ (vals s ++ []))
def cerV (t : ByteArray) (k s : List Nat) : Array Value := (cerL t k s).toArray
theorem cerL_length (t : ByteArray) {k s : List Nat} (hk : k.length = 32) (hs : s.length = 64) : (cerL t k s).length = 97 := by simp [cerL, vals_length, hk, hs]
theorem cerV_size (t : ByteArray) {k s : List Nat} (hk : k.length = 32) (hs : s.length = 64) : (cerV t k s).size = 97 := by rw [cerV, List.size_toArray, cerL_length t hk hs]
theorem cerV_one (t : ByteArray) (k s : List Nat) : (cerV t k s).all (·.oneCell') = true := all_oneCell_toArray fun v hv => by
 simp only [cerL, List.append_nil, List.mem_append, List.mem_singleton] at hv
 rcases hv with rfl | h | h
 · rfl
 · exact vals_one' _ _ h
 · exact vals_one' _ _ h
theorem info_cert : (Tryz.prog.info? 50).map (·.size) = some 97 := by kernel_rfl
theorem info_cerV (t : ByteArray) {k s : List Nat} (hk : k.length = 32) (hs : s.length = 64) : (Tryz.prog.info? 50).map (·.size) = some (cerV t k s).size := by rw [cerV_size t hk hs]; exact info_cert
theorem cert_zero : (Tryz.prog.info? 50).bind (fun i => i.zero) = some (.agg (cerV ⟨#[]⟩ z32 z64)) := by kernel_rfl
theorem cert_places : (match Tryz.prog.underlying 50 with | some (.struct fields) => fields.toList.mapM (fun f => (Tryz.prog.info? f.type).map fun i => (f.offset, i.size)) | _ => none) = some [(0, 1), (1, 32), (33, 64)] := by kernel_rfl
theorem cert_und : ∃ fields, Tryz.prog.underlying 50 = some (.struct fields) := ⟨_, Tryz.underlying50⟩
theorem run_cert (w : World) (t : ByteArray) (k : List Nat) (lk : k.length = 32) : (Instr.build 50 #[(0, .string t), (1, .agg (Iv .u8 (NI k)))]).run Tryz.prog w = .ok (.agg (cerV t k z64)) w := by
 refine run_build w 50 _ _ ?_
 unfold Program.built
 have h1 := cert_zero
 have h2 := cert_places
 obtain ⟨fields, hu⟩ := cert_und
 rw [hu] at h2 ⊢
 simp only at h2
 cases hi : Tryz.prog.info? 50 with
 | none => rw [hi] at h1; cases h1
 | some it =>
  rw [hi] at h1
  simp only [Option.bind_some] at h1
  simp only [h1, h2]
  have e1 : setV (cerL ⟨#[]⟩ z32 z64) (0 + 0) [.string t] = cerL t z32 z64 := setV_split [.string t] [] [.string ⟨#[]⟩] _ 0 rfl rfl
  have e2 : setV (cerL t z32 z64) (1 + 0) (vals k) = cerL t k z64 := setV_split (vals k) [.string t] (vals z32) _ 1 rfl (by rw [vals_length, vals_length, lk, z32_length])
  have f1 := fold_setV [.string t] (cerL ⟨#[]⟩ z32 z64) 0 0
  have f2 := fold_setV (vals k) (cerL t z32 z64) 1 0
  rw [e1] at f1
  rw [e2] at f2
  have hsz : (vals k).length = 32 := by rw [vals_length, lk]
  have s1 : (cerL ⟨#[]⟩ z32 z64).length = 97 := cerL_length _ z32_length z64_length
  have s2 : (cerL t z32 z64).length = 97 := cerL_length _ z32_length z64_length
  rw [vals_iv]
  unfold cerV
  have ez1 : (#[Value.string t] : Array Value).zipIdx = (([Value.string t] : List Value).zipIdx 0).toArray := by simp
  have ez2 : (vals k).toArray.zipIdx = ((vals k).zipIdx 0).toArray := by simp
  have g1 : Array.foldl (fun (cs : Array Value) (p : Value × Nat) => cs.setIfInBounds (0 + p.2) p.1) (cerL ⟨#[]⟩ z32 z64).toArray (#[Value.string t] : Array Value).zipIdx = (cerL t z32 z64).toArray := by
   rw [ez1, List.foldl_toArray]
   exact f1
  have g2 : Array.foldl (fun (cs : Array Value) (p : Value × Nat) => cs.setIfInBounds (1 + p.2) p.1) (cerL t z32 z64).toArray (vals k).toArray.zipIdx = (cerL t k z64).toArray := by
   rw [ez2, List.foldl_toArray]
   exact f2
  simp only [Instr.fill, Value.cells, List.getElem?_toArray, List.getElem?_cons_succ, List.getElem?_cons_zero, List.size_toArray, hsz, s1]
  rw [g1, g2]
  simp only [List.size_toArray, s2]
  rfl
/-- A certificate's parts where it lies. -/
theorem cert_name {w : World} {g : Nat} {t : ByteArray} {k s : List Nat} (h : Blk w g 50 (cerV t k s)) : w.cell? ⟨g, 0, none⟩ = some (.string t) := h.cell 0
theorem cert_range (A X B : List Value) {w : World} {g : Nat} {ty : TypeId} (h : Blk w g ty (A ++ (X ++ B)).toArray) (o : Nat) (ho : A.length = o) : w.rangeAt g o X := fun j v hv => by
 have hj : j < X.length := (List.getElem?_eq_some_iff.1 hv).1
 rw [h.cell, List.getElem?_toArray, List.getElem?_append_right (by omega), List.getElem?_append_left (by omega), ← hv]
 congr 1
 omega
theorem ba_range {w : World} {g o : Nat} {l : List Nat} (h : w.rangeAt g o (vals l)) (hg : g < w.heap.size) : BA w g o l := ⟨fun i hi => h i _ (by simp [vals, hi]), hg⟩
theorem cert_key {w : World} {g : Nat} {t : ByteArray} {k s : List Nat} (h : Blk w g 50 (cerV t k s)) : w.rangeAt g 1 (vals k) := cert_range [.string t] (vals k) (vals s ++ []) h 1 rfl
theorem cert_sig {w : World} {g : Nat} {t : ByteArray} {k s : List Nat} (hk : k.length = 32) (h : Blk w g 50 (cerV t k s)) : w.rangeAt g 33 (vals s) := by
 have e : cerL t k s = ([.string t] ++ vals k) ++ (vals s ++ []) := by simp [cerL]
 unfold cerV at h
 rw [e] at h
 exact cert_range _ _ _ h 33 (by simp [vals_length, hk])
theorem row_there {w : World} {g : Nat} {ty : TypeId} {cs : Array Value} (h : Blk w g ty cs) (o n : Nat) (hn : o + n ≤ cs.size) : w.there g o n := fun j hj => by
 refine ⟨?_, h.frozen _⟩
 rw [h.cell, Array.getElem?_eq_getElem (by omega)]
 rfl
theorem cert_put {w : World} {g : Nat} {t : ByteArray} {k s : List Nat} (hk : k.length = 32) (hs : s.length = 64) (h : Blk w g 50 (cerV t k s)) (r : List Nat) (hr : r.length = 64) : Blk (w.setCells g 33 (vals r)) g 50 (cerV t k r) := by
 have e : ∀ s, cerL t k s = ([.string t] ++ vals k) ++ (vals s ++ []) := fun s => by simp [cerL]
 have h1 := blk_setV (vals r) (cerL t k s) 33 w h
 rw [e s, setV_split (vals r) _ (vals s) [] 33 (by simp [vals_length, hk]) (by rw [vals_length, vals_length, hs, hr]), ← e r] at h1
 exact h1
end Go.Proofs.YtegbnadnodlalaaGreatDoor
