/- The program's Readers: Num; what is asked of a Reader. -/
import Derived.Test.YtfhiflakglhneaaRc
import Derived.Test.YtfhiflakglhneaaRe
namespace Go.Proofs.Ytfhiflakglhneaa
open Go.RowKit

theorem wraps_u64 (n : Int) (h₀ : 0 ≤ n) (h₁ : n < 2 ^ 64) : IntKind.u64.wrap n = n := by rw [IntKind.wrap_u64]; omega
/-- 'x | y' where y stands below all of x's bits. -/
theorem or64 (i : Nat) (x y : Int) (hx0 : 0 ≤ x) (hx : x % 2 ^ i = 0) (hx1 : x < 2 ^ 64) (h0 : 0 ≤ y) (h1 : y < 2 ^ i) (hi : (2 : Int) ^ i ≤ 2 ^ 64) : bits .or .u64 x y = x + y :=
  bits_join .u64 64 (by decide) wraps_u64 i x y hx0 hx hx1 h0 h1 (by omega)
theorem beN_append (y : Nat) : ∀ (l : List Nat) (a : Nat), beN a (l ++ [y]) = beN a l * 256 + y
  | [], _ => rfl
  | x :: l, a => beN_append y l (a * 256 + x)
theorem beN_lt : ∀ (l : List Nat) (a b : Nat), (∀ x ∈ l, x < 256) → a < b → beN a l < b * 256 ^ l.length
  | [], a, b, _, h => by
    show a < b * 1
    omega
  | x :: l, a, b, hx, h => by
    have h1 := hx x (by simp)
    have := beN_lt l (a * 256 + x) (b * 256) (fun y hy => hx y (by simp [hy])) (by omega)
    show beN (a * 256 + x) l < b * 256 ^ (l.length + 1)
    rw [Nat.pow_succ, Nat.mul_comm (256 ^ l.length), ← Nat.mul_assoc]
    exact this
theorem beN_split : ∀ (m : List Nat) (a : Nat), beN a m = a * 256 ^ m.length + beN 0 m
  | [], a => by
    show a = a * 1 + 0
    omega
  | x :: m, a => by
    show beN (a * 256 + x) m = a * 256 ^ (m.length + 1) + beN (0 * 256 + x) m
    rw [Nat.zero_mul, Nat.zero_add, beN_split m (a * 256 + x), beN_split m x, Nat.pow_succ, Nat.add_mul, Nat.mul_assoc, Nat.mul_comm 256 (256 ^ m.length)]
    omega
/-- Bytes as a number, without the first one's two highest bits. -/
theorem beN_mod (x : Nat) (m : List Nat) (hm : ∀ y ∈ m, y < 256) : beN 0 (x :: m) % (64 * 256 ^ m.length) = beN (x % 64) m := by
  show beN (0 * 256 + x) m % _ = _
  rw [Nat.zero_mul, Nat.zero_add, beN_split m x, beN_split m (x % 64)]
  have hb := beN_lt m 0 1 hm (by decide)
  generalize beN 0 m = b at *
  rw [Nat.one_mul] at hb
  generalize 256 ^ m.length = P at *
  have e : x * P + b = (x % 64) * P + b + (64 * P) * (x / 64) := by
    have h1 := Nat.div_add_mod x 64
    calc x * P + b = (64 * (x / 64) + x % 64) * P + b := by rw [h1]
      _ = _ := by rw [Nat.add_mul, Nat.mul_assoc 64, Nat.mul_assoc 64, Nat.mul_comm P]; omega
  rw [e, Nat.add_mul_mod_self_left]
  refine Nat.mod_eq_of_lt ?_
  have h2 : x % 64 + 1 ≤ 64 := by omega
  have h3 := Nat.mul_le_mul_right P h2
  rw [Nat.add_mul] at h3
  omega
theorem mask64 (i n : Nat) (hi : i ≤ 62) (hn : n < 18446744073709551616) : bits BinOp.and IntKind.u64 (n : Int) ((2 : Int) ^ i - 1) = (n : Int) % 2 ^ i :=
  bits_mask .u64 64 (by decide) wraps_u64 i (by omega) (n : Int) (by omega) (by omega)
theorem ones_of {k s r : Nat} (q : Q4 k s r) : (64 * 256 ^ (s - 1) : Nat) = 2 ^ r ∧ r ≤ 62 := by
  rcases q with ⟨rfl, rfl, rfl⟩ | ⟨rfl, rfl, rfl⟩ | ⟨rfl, rfl, rfl⟩ | ⟨rfl, rfl, rfl⟩ <;> decide
set_option maxHeartbeats 4000000 in
set_option maxRecDepth 100000 in
theorem num_none (B : Nat) (p : Option Addr) (l : List Nat) (c c' : Nat) (W : World) (h : RM B W p l c) (hB : B ≤ W.heap.size) {k s r : Nat} (q : Q4 k s r) (hk : l.getD 0 0 / 64 = k)
    (TK : ∀ W, RM B W p l c → B ≤ W.heap.size → Calls Try.prog 30 #[.pointer p, .int .u64 (s : Int)] W fun e w' => e = .returned (.slice none 0 0) ∧ RM B w' p l c' ∧ W.grownBy w' (some B)) :
    Calls Try.prog 31 #[.pointer p] W fun e w' => e = .returned (.int .u64 0) ∧ RM B w' p l c' ∧ W.grownBy w' (some B) := by
  have CL := Lib.hid (left_m B p l c W h hB)
  have CS := Lib.hid (size_c q)
  have CR := Lib.hid (room_c q)
  have T := Lib.hid TK
  have ws : IntKind.u64.wrap (s : Int) = (s : Int) := by
    rcases q with ⟨rfl, rfl, rfl⟩ | ⟨rfl, rfl, rfl⟩ | ⟨rfl, rfl, rfl⟩ | ⟨rfl, rfl, rfl⟩ <;> decide
  have QQ := Lib.hid q
  clear h TK q
  cases l with
  | nil =>
    have hk0 : k = 0 := hk.symm
    subst hk0
    clear hk
    go_enter Try.func31, Try.ntmps31
    go_wp2_with fail
    refine CL.out.mono ?_
    rintro _ w1 ⟨rfl, h1, b1⟩
    clear CL
    replace h1 := Lib.hid h1
    go_wp2_with fail
    refine (CS.out _).mono ?_
    rintro _ w2 ⟨rfl, hw⟩
    subst hw
    go_wp2_with fail
    refine (T.out _ h1.out (Nat.le_trans hB b1.size)).mono ?_
    rintro _ w3 ⟨rfl, h3, b3⟩
    replace b1 := b1.trans b3
    clear T h1 b3 CS
    go_upto_region 6 with fail
    go_loopw [4, 24] (fun v t wr => v = .int .u64 0 ∧ t = .int .i64 0 ∧ wr = w3) (fun _ _ _ => 0)
    case atStart => exact ⟨rfl, rfl, rfl⟩
    case round =>
    obtain ⟨rfl, rfl, hw⟩ := hrel
    subst hw
    go_wp2_with fail
    refine (CR.out _).mono ?_
    rintro _ w4 ⟨rfl, hw⟩
    subst hw
    clear CR
    rcases QQ.out with ⟨h0, rfl, rfl⟩ | ⟨h0, rfl, rfl⟩ | ⟨h0, rfl, rfl⟩ | ⟨h0, rfl, rfl⟩ <;> cases h0
    clear QQ
    go_wp2
    go_ret
    exact ⟨rfl, h3, b1⟩
  | cons x t =>
    replace hk : x / 64 = k := hk
    go_enter Try.func31, Try.ntmps31
    go_wp2_with fail
    refine CL.out.mono ?_
    rintro _ w1 ⟨rfl, h1, b1⟩
    have H1 := Lib.hid h1
    obtain ⟨g, pb, cb, rfl, hg, K, S, ne, bb, ll⟩ := h1
    have c0 : w1.cell? ⟨g, 0, none⟩ = some (.slice pb (t.length + 1) cb) := K.cell 0
    have x256 : x < 256 := bb x (by simp)
    obtain ⟨gb, ob, rfl, cx⟩ : ∃ gb ob, pb = some ⟨gb, ob, none⟩ ∧ w1.cell? ⟨gb, ob, none⟩ = some (.int .u8 (x : Int)) := by
      rcases S.at_ with h0 | ⟨gb, ob, e, A⟩
      · simp at h0
      · have := A.cell 0 (by simp)
        rw [Nat.add_zero] at this
        exact ⟨gb, ob, e, this⟩
    have xk : (x : Int) / 64 = (k : Int) := by omega
    have wk : IntKind.i64.wrap (k : Int) = (k : Int) := by rw [IntKind.wrap_i64]; omega
    clear K S ne bb CL ll
    obtain ⟨n, hn⟩ : ∃ n, t.length + 1 = n := ⟨_, rfl⟩
    have n0 : (0 : Int) < (n : Int) := by omega
    have n1 : ¬ (n : Int) = 0 := by omega
    rw [show (x :: t).length = n from hn]
    rw [hn] at c0
    clear hn hk
    go_upto_region 3 with fail
    rename_i aK _
    refine wp_region_seq ?_
    refine wpSeq_yield (S := fun _ => True) (yieldsIf_move rfl _ rfl (.pointer (some ⟨g, 0, none⟩)) rfl) trivial ?_
    simp only [AP]
    refine wpSeq_yield (S := fun _ => True) (v := .pointer (some ⟨g, 0, none⟩)) (Or.inl ⟨by rfl, fun w' hw' => by go_simp⟩) trivial ?_
    simp only [AP]
    refine wpSeq_yield (S := fun _ => True) (v := .pointer (some ⟨g, 0, none⟩)) (Or.inl ⟨by rfl, fun w' hw' => by go_simp⟩) trivial ?_
    simp only [AP]
    refine wpSeq_yield (S := fun w' => w' = w1) (v := .slice (some ⟨gb, ob, none⟩) n cb) (Or.inl ⟨by rfl, fun w' hw' => by (rw [hw']; go_simp)⟩) rfl ?_
    simp only [AP]
    refine wpSeq_yield (S := fun _ => True) (v := .pointer (some ⟨gb, ob, none⟩)) (Or.inl ⟨by rfl, fun w' hw' => by (go_simp; try exact fun h => absurd h (by omega))⟩) trivial ?_
    simp only [AP]
    refine wpSeq_yield (S := fun w' => w' = w1) (v := .int .u8 (x : Int)) (Or.inl ⟨by rfl, fun w' hw' => by (rw [hw']; go_simp)⟩) rfl ?_
    simp only [AP]
    refine wpSeq_yield (S := fun _ => True) (v := .int .u8 (k : Int)) (Or.inl ⟨by rfl, fun w' hw' => by go_simp⟩) trivial ?_
    simp only [AP]
    refine wpSeq_yield (S := fun _ => True) (v := .int .i64 (k : Int)) (Or.inl ⟨by rfl, fun w' hw' => by go_simp⟩) trivial ?_
    simp only [AP]
    refine wpSeq_yield (S := fun _ => True) (yieldsIf_assign rfl _ rfl (.int .i64 (k : Int)) rfl) trivial ?_
    simp only [AP]
    refine wpSeq_nil ?_
    refine aK _ _ ?_
    clear aK c0 cx x256 xk wk n0 n1
    go_wp2_with fail
    refine (CS.out _).mono ?_
    rintro _ w2 ⟨rfl, hw⟩
    subst hw
    go_wp2_with fail
    refine (T.out _ H1.out (Nat.le_trans hB b1.size)).mono ?_
    rintro _ w3 ⟨rfl, h3, b3⟩
    replace b1 := b1.trans b3
    clear T H1 b3 CS
    go_upto_region 6 with fail
    go_loopw [4, 24] (fun v t wr => v = .int .u64 0 ∧ t = .int .i64 0 ∧ wr = w3) (fun _ _ _ => 0)
    case atStart => exact ⟨rfl, rfl, rfl⟩
    case round =>
    obtain ⟨rfl, rfl, hw⟩ := hrel
    subst hw
    go_wp2_with fail
    refine (CR.out _).mono ?_
    rintro _ w4 ⟨rfl, hw⟩
    subst hw
    clear CR
    rcases QQ.out with ⟨h0, rfl, rfl⟩ | ⟨h0, rfl, rfl⟩ | ⟨h0, rfl, rfl⟩ | ⟨h0, rfl, rfl⟩ <;>
    · subst h0
      clear QQ
      go_wp2
      go_ret
      exact ⟨rfl, h3, b1⟩
set_option maxHeartbeats 4000000 in
set_option maxRecDepth 100000 in
theorem num_some (B : Nat) (p : Option Addr) (x : Nat) (t : List Nat) (W : World) (h : RM B W p (x :: t) 0) (hB : B ≤ W.heap.size) {k s r : Nat} (q : Q4 k s r) (hk : x / 64 = k) (hs : s ≤ t.length + 1) :
    Calls Try.prog 31 #[.pointer p] W fun e w' => e = .returned (.int .u64 ((beN (x % 64) (t.take (s - 1)) : Nat) : Int)) ∧ RM B w' p (t.drop (s - 1)) 0 ∧ W.grownBy w' (some B) := by
  have s1 : 1 ≤ s ∧ s ≤ 8 := by
    rcases q with ⟨rfl, rfl, rfl⟩ | ⟨rfl, rfl, rfl⟩ | ⟨rfl, rfl, rfl⟩ | ⟨rfl, rfl, rfl⟩ <;> decide
  have DR : (x :: t).drop s = t.drop (s - 1) := by
    obtain ⟨j, hj⟩ : ∃ j, s = j + 1 := ⟨s - 1, by omega⟩
    rw [hj]
    rfl
  have TA : (x :: t).take s = x :: t.take (s - 1) := by
    obtain ⟨j, hj⟩ : ∃ j, s = j + 1 := ⟨s - 1, by omega⟩
    rw [hj]
    rfl
  have bb0 : ∀ y ∈ x :: t, y < 256 := by
    obtain ⟨g, pb, cb, rfl, hg, K, S, ne, bb, ll⟩ := h
    exact bb
  have CL := Lib.hid (left_m B p (x :: t) 0 W h hB)
  have CS := Lib.hid (size_c q)
  have CR := Lib.hid (room_c q)
  have T := Lib.hid (fun W h1 h2 => take_in B p (x :: t) s W h1 h2 hs)
  rw [DR, TA] at T
  have ws : IntKind.u64.wrap (s : Int) = (s : Int) := by rw [IntKind.wrap_u64]; omega
  have QQ := Lib.hid q
  have MB : ∀ y ∈ t.take (s - 1), y < 256 := fun y hy => bb0 y (by simp [List.mem_of_mem_take hy])
  have ML : (t.take (s - 1)).length = s - 1 := by rw [List.length_take]; omega
  have VAL : beN 0 (x :: t.take (s - 1)) % 2 ^ r = beN (x % 64) (t.take (s - 1)) := by
    have := beN_mod x (t.take (s - 1)) MB
    rw [ML, (ones_of q).1] at this
    exact this
  obtain ⟨V, hV⟩ : ∃ V, beN (x % 64) (t.take (s - 1)) = V := ⟨_, rfl⟩
  rw [hV] at VAL ⊢
  clear hV
  replace VAL := Lib.hid VAL
  have AB : ∀ y ∈ x :: t.take (s - 1), y < 256 := fun y hy => by
    rcases List.mem_cons.1 hy with rfl | hy
    · exact bb0 _ (by simp)
    · exact MB y hy
  have AL : (x :: t.take (s - 1)).length = s := by rw [List.length_cons, ML]; omega
  clear h q DR TA MB ML
  go_enter Try.func31, Try.ntmps31
  go_wp2_with fail
  refine CL.out.mono ?_
  rintro _ w1 ⟨rfl, h1, b1⟩
  have H1 := Lib.hid h1
  obtain ⟨g, pb, cb, rfl, hg, K, S, ne, bb, ll⟩ := h1
  have c0 : w1.cell? ⟨g, 0, none⟩ = some (.slice pb (t.length + 1) cb) := K.cell 0
  have x256 : x < 256 := bb x (by simp)
  obtain ⟨gb, ob, rfl, cx⟩ : ∃ gb ob, pb = some ⟨gb, ob, none⟩ ∧ w1.cell? ⟨gb, ob, none⟩ = some (.int .u8 (x : Int)) := by
    rcases S.at_ with h0 | ⟨gb, ob, e, A⟩
    · simp at h0
    · have := A.cell 0 (by simp)
      rw [Nat.add_zero] at this
      exact ⟨gb, ob, e, this⟩
  have xk : (x : Int) / 64 = (k : Int) := by omega
  have wk : IntKind.i64.wrap (k : Int) = (k : Int) := by rw [IntKind.wrap_i64]; omega
  clear K S ne bb CL ll
  obtain ⟨n, hn⟩ : ∃ n, t.length + 1 = n := ⟨_, rfl⟩
  have n0 : (0 : Int) < (n : Int) := by omega
  have n1 : ¬ (n : Int) = 0 := by omega
  rw [show (x :: t).length = n from hn]
  rw [hn] at c0
  clear hn hk hs
  go_upto_region 3 with fail
  rename_i aK _
  refine wp_region_seq ?_
  refine wpSeq_yield (S := fun _ => True) (yieldsIf_move rfl _ rfl (.pointer (some ⟨g, 0, none⟩)) rfl) trivial ?_
  simp only [AP]
  refine wpSeq_yield (S := fun _ => True) (v := .pointer (some ⟨g, 0, none⟩)) (Or.inl ⟨by rfl, fun w' hw' => by go_simp⟩) trivial ?_
  simp only [AP]
  refine wpSeq_yield (S := fun _ => True) (v := .pointer (some ⟨g, 0, none⟩)) (Or.inl ⟨by rfl, fun w' hw' => by go_simp⟩) trivial ?_
  simp only [AP]
  refine wpSeq_yield (S := fun w' => w' = w1) (v := .slice (some ⟨gb, ob, none⟩) n cb) (Or.inl ⟨by rfl, fun w' hw' => by (rw [hw']; go_simp)⟩) rfl ?_
  simp only [AP]
  refine wpSeq_yield (S := fun _ => True) (v := .pointer (some ⟨gb, ob, none⟩)) (Or.inl ⟨by rfl, fun w' hw' => by (go_simp; try exact fun h => absurd h (by omega))⟩) trivial ?_
  simp only [AP]
  refine wpSeq_yield (S := fun w' => w' = w1) (v := .int .u8 (x : Int)) (Or.inl ⟨by rfl, fun w' hw' => by (rw [hw']; go_simp)⟩) rfl ?_
  simp only [AP]
  refine wpSeq_yield (S := fun _ => True) (v := .int .u8 (k : Int)) (Or.inl ⟨by rfl, fun w' hw' => by go_simp⟩) trivial ?_
  simp only [AP]
  refine wpSeq_yield (S := fun _ => True) (v := .int .i64 (k : Int)) (Or.inl ⟨by rfl, fun w' hw' => by go_simp⟩) trivial ?_
  simp only [AP]
  refine wpSeq_yield (S := fun _ => True) (yieldsIf_assign rfl _ rfl (.int .i64 (k : Int)) rfl) trivial ?_
  simp only [AP]
  refine wpSeq_nil ?_
  refine aK _ _ ?_
  clear aK c0 cx x256 xk wk n0 n1
  go_wp2_with fail
  refine (CS.out _).mono ?_
  rintro _ w2 ⟨rfl, hw⟩
  subst hw
  go_wp2_with fail
  refine (T.out _ H1.out (Nat.le_trans hB b1.size)).mono ?_
  rintro _ w3 ⟨⟨q, c, rfl, S3⟩, h3, b3⟩
  replace b1 := b1.trans b3
  replace h3 := Lib.hid h3
  clear T H1 b3 CS
  generalize x :: t.take (s - 1) = L at *
  replace AL := Lib.hid AL
  go_upto_region 6 with fail
  go_loopw [4, 24] (fun v t wr => ∃ j : Nat, j ≤ s ∧ t = .int .i64 (j : Int) ∧ v = .int .u64 ((beN 0 (L.take j) : Nat) : Int) ∧ wr = w3) (fun _ t _ => (s - intOf t).toNat)
  case atStart => exact ⟨0, by omega, rfl, rfl, rfl⟩
  case round =>
    obtain ⟨j, hj, rfl, rfl, hw⟩ := hrel
    subst hw
    by_cases hjn : j = s
    · subst j
      rw [List.take_of_length_le (by rw [AL.out]; exact Nat.le_refl _)]
      go_wp2_with fail
      refine (CR.out _).mono ?_
      rintro _ w4 ⟨rfl, hw⟩
      subst hw
      clear CR
      have N64 : beN 0 L < 18446744073709551616 := by
        have := beN_lt L 0 1 AB (by decide)
        rw [AL.out, Nat.one_mul] at this
        have h8 : 256 ^ s ≤ 256 ^ 8 := Nat.pow_le_pow_right (by decide) s1.2
        have : 256 ^ 8 = 18446744073709551616 := rfl
        omega
      have VAL := VAL.out
      clear AB AL S3
      generalize beN 0 L = N at *
      have MK := mask64 r N
      rcases QQ.out with ⟨rfl, rfl, rfl⟩ | ⟨rfl, rfl, rfl⟩ | ⟨rfl, rfl, rfl⟩ | ⟨rfl, rfl, rfl⟩ <;>
      · clear QQ
        replace MK : bits BinOp.and IntKind.u64 (N : Int) _ = (V : Int) := (MK (by decide) N64).trans (by rw [← VAL]; rfl)
        clear VAL
        first | rw [show ((2 : Int) ^ 6 - 1) = 63 from rfl] at MK | rw [show ((2 : Int) ^ 14 - 1) = 16383 from rfl] at MK | rw [show ((2 : Int) ^ 30 - 1) = 1073741823 from rfl] at MK | rw [show ((2 : Int) ^ 62 - 1) = 4611686018427387903 from rfl] at MK
        have h3 := h3.out
        go_wp2
        go_ret
        exact ⟨rfl, h3, b1⟩
    · have j1 : (j : Int) < (s : Int) := by omega
      have j0 : (0 : Int) ≤ (j : Int) := by omega
      have jm : j < L.length := by rw [AL.out]; omega
      obtain ⟨g3, o3, rfl, A⟩ : ∃ g3 o3, q = some ⟨g3, o3, none⟩ ∧ BA wr g3 o3 L := by
        rcases S3.at_ with h0 | h0
        · omega
        · exact h0
      have cy := A.cell j jm
      have y256 := AB _ (List.getElem_mem jm)
      have EA : beN 0 (L.take (j + 1)) = beN 0 (L.take j) * 256 + L[j] := by
        rw [List.take_add_one, List.getElem?_eq_getElem jm]
        exact beN_append _ _ _
      have ab := beN_lt (L.take j) 0 1 (fun y hy => AB y (List.mem_of_mem_take hy)) (by decide)
      have a56 : beN 0 (L.take j) < 72057594037927936 := by
        rw [List.length_take, Nat.min_eq_left (by omega), Nat.one_mul] at ab
        have : 256 ^ j ≤ 256 ^ 7 := Nat.pow_le_pow_right (by decide) (by omega)
        have : 256 ^ 7 = 72057594037927936 := rfl
        omega
      replace EA := Lib.hid EA
      clear ab A S3 AB
      generalize L[j] = y at *
      obtain ⟨acc, hacc⟩ : ∃ acc, beN 0 (L.take j) = acc := ⟨_, rfl⟩
      rw [hacc] at EA a56 ⊢
      clear hacc
      obtain ⟨D, hD⟩ : ∃ D, acc * 256 = D := ⟨_, rfl⟩
      obtain ⟨F, hF⟩ : ∃ F, D + y = F := ⟨_, rfl⟩
      have e1 : IntKind.u64.wrap ((acc : Int) * 256) = (D : Int) := by rw [IntKind.wrap_u64]; omega
      have e2 : bits BinOp.or IntKind.u64 (D : Int) (y : Int) = (F : Int) := by
        rw [or64 8 (D : Int) (y : Int) (by omega) (by omega) (by omega) (by omega) (by omega) (by decide)]
        rw [← hF]
        rfl
      have EF : ((beN 0 (L.take (j + 1)) : Nat) : Int) = (F : Int) := by rw [EA.out, hD, hF]
      replace EF := Lib.hid EF
      clear EA hD hF
      go_upto_region 8 with fail
      rename_i aK
      refine wp_region_seq ?_
      refine wpSeq_yield (S := fun _ => True) (yieldsIf_move rfl _ rfl (.int .u64 (acc : Int)) rfl) trivial ?_
      simp only [AP]
      refine wpSeq_yield (S := fun _ => True) (v := .int .u64 (D : Int)) (Or.inl ⟨by rfl, fun w' hw' => by go_simp⟩) trivial ?_
      simp only [AP]
      refine wpSeq_yield (S := fun _ => True) (yieldsIf_move rfl _ rfl (.int .u8 (y : Int)) rfl) trivial ?_
      simp only [AP]
      refine wpSeq_yield (S := fun _ => True) (v := .int .u64 (y : Int)) (Or.inl ⟨by rfl, fun w' hw' => by (go_simp; try (rw [IntKind.wrap_u64]; omega))⟩) trivial ?_
      simp only [AP]
      refine wpSeq_yield (S := fun _ => True) (v := .int .u64 (F : Int)) (Or.inl ⟨by rfl, fun w' hw' => by go_simp⟩) trivial ?_
      simp only [AP]
      refine wpSeq_yield (S := fun _ => True) (yieldsIf_assign rfl _ rfl (.int .u64 (F : Int)) rfl) trivial ?_
      simp only [AP]
      refine wpSeq_nil ?_
      refine aK _ _ ?_
      clear aK e1 e2 cy
      go_wp2
      exact ⟨⟨j + 1, by omega, rfl, by rw [EF.out], by trivial⟩, by simp only [intOf]; omega⟩
theorem num_m (B : Nat) (p : Option Addr) (l : List Nat) (c : Nat) (W : World) (h : RM B W p l c) (hB : B ≤ W.heap.size) : Calls Try.prog 31 #[.pointer p] W fun e w' => e = .returned (.int .u64 ((numS l c).1 : Int)) ∧ RM B w' p (numS l c).2.1 (numS l c).2.2 ∧ W.grownBy w' (some B) := by
  have lb : ∀ y ∈ l, y < 256 := by
    obtain ⟨g, pb, cb, rfl, hg, K, S, ne, bb, ll⟩ := h
    exact bb
  have k3 : l.getD 0 0 / 64 ≤ 3 := by
    cases l with
    | nil => show 0 / 64 ≤ 3; decide
    | cons x t =>
      have := lb x (by simp)
      show x / 64 ≤ 3
      omega
  have q := Q4.of _ k3
  by_cases hc : c = 0
  · subst hc
    cases l with
    | nil => exact num_none B p [] 0 3 W h hB q rfl (fun W h1 h2 => take_out B p [] _ W h1 h2 (by show 0 < 2 ^ (0 / 64); decide))
    | cons x t =>
      by_cases hs : t.length + 1 < 2 ^ (x / 64)
      · rw [numS_none (x :: t) (if_pos hs)]
        exact num_none B p (x :: t) 0 3 W h hB q rfl (fun W h1 h2 => take_out B p (x :: t) _ W h1 h2 hs)
      · have NS : numS (x :: t) 0 = (beN (x % 64) (t.take (2 ^ (x / 64) - 1)), t.drop (2 ^ (x / 64) - 1), 0) := by
          unfold numS
          rw [if_neg (by decide), show takeV (x :: t) = some (beN (x % 64) (t.take (2 ^ (x / 64) - 1)), t.drop (2 ^ (x / 64) - 1)) from if_neg hs]
        rw [NS]
        exact num_some B p x t W h hB q rfl (by omega)
  · rw [numS_fault l c hc]
    exact num_none B p l c c W h hB q rfl (fun W h1 h2 => take_fault B p l _ c W h1 h2 hc)
end Go.Proofs.Ytfhiflakglhneaa
