/- Plain reckoning modulo the prime; keys as numbers. The curve over the numbers modulo 2^255 - 19: what the ladder answers, as a multiple of a point; the base's order. The base, its order; what two, and three, share. Every point, eight times and as often as the order says, is nothing: the points are fewer than twice the prime, and a base of 8 times the order divides them. Points as the program keeps them (x, y, z, t): their sums and multiples as plain reckoning, and as points of the curve; a point's 32 bytes as a number. -/
import Derived.Test.YtegbnadnodlalaaGreatDoorGFn
import Derived.Test.YtegbnadnodlalaaGreatDoorGSh0GCa
import Derived.Test.YtegbnadnodlalaaGreatDoorGNb0GNc
namespace Go.Proofs.YtegbnadnodlalaaGreatDoor
open Go.RowKit
def fa (a b : Nat) : Nat := (a + b) % pp
def fs (a b : Nat) : Nat := (a + (pp - b)) % pp
def fm (a b : Nat) : Nat := a * b % pp
theorem fs_lt (a b : Nat) : fs a b < pp := Nat.mod_lt _ pp_pos
theorem fm_lt (a b : Nat) : fm a b < pp := Nat.mod_lt _ pp_pos
/-- x2, z2, x3, z3. -/
structure Lst where
 a : Nat
 b : Nat
 c : Nat
 d : Nat
structure Lst.Ok (s : Lst) : Prop where
 a : s.a < pp
 b : s.b < pp
 c : s.c < pp
 d : s.d < pp
def lAA (a b : Nat) : Nat := fm (fa a b) (fa a b)
def lBB (a b : Nat) : Nat := fm (fs a b) (fs a b)
def lE (a b : Nat) : Nat := fs (lAA a b) (lBB a b)
def lx2 (a b : Nat) : Nat := fm (lAA a b) (lBB a b)
def lz2 (a b : Nat) : Nat := fm (lE a b) (fa (lAA a b) (fm 121665 (lE a b)))
def lDA (a b c d : Nat) : Nat := fm (fs c d) (fa a b)
def lCB (a b c d : Nat) : Nat := fm (fa c d) (fs a b)
def lSum (a b c d : Nat) : Nat := fa (lDA a b c d) (lCB a b c d)
def lDif (a b c d : Nat) : Nat := fs (lDA a b c d) (lCB a b c d)
def lx3 (a b c d : Nat) : Nat := fm (lSum a b c d) (lSum a b c d)
def lz3 (x a b c d : Nat) : Nat := fm x (fm (lDif a b c d) (lDif a b c d))
/-- One step of the ladder. -/
def lstep (x : Nat) (s : Lst) : Lst := ⟨lx2 s.a s.b, lz2 s.a s.b, lx3 s.a s.b s.c s.d, lz3 x s.a s.b s.c s.d⟩
def lswap (bit : Nat) (s : Lst) : Lst := ⟨swapped bit s.a s.c, swapped bit s.b s.d, swapped bit s.c s.a, swapped bit s.d s.b⟩
def lad (v x : Nat) : Nat → Lst
 | 0 => ⟨1, 0, x, 1⟩
 | k + 1 => lswap (v / 2 ^ (254 - k)) (lstep x (lswap (v / 2 ^ (254 - k)) (lad v x k)))
theorem lstep_ok (x : Nat) (s : Lst) : (lstep x s).Ok := ⟨fm_lt _ _, fm_lt _ _, fm_lt _ _, fm_lt _ _⟩
theorem lswap_ok (bit : Nat) (s : Lst) (h : s.Ok) : (lswap bit s).Ok := ⟨swapped_lt _ _ _ h.a h.c, swapped_lt _ _ _ h.b h.d, swapped_lt _ _ _ h.c h.a, swapped_lt _ _ _ h.d h.b⟩
theorem lad_ok (v x : Nat) (hx : x < pp) : ∀ k, (lad v x k).Ok
 | 0 => ⟨by rw [pp_eq]; show 1 < _; decide, pp_pos, hx, by rw [pp_eq]; show 1 < _; decide⟩
 | _ + 1 => lswap_ok _ _ (lstep_ok _ _)
/-- 2^256. -/
def p256 : Nat := 115792089237316195423570985008687907853269984665640564039457584007913129639936
theorem p256_eq : p256 = 256 ^ 32 := by decide
theorem pp_lt256 : pp < p256 := by rw [pp_eq]; decide
theorem leTo_lt256 {f : Nat → Nat} (hf : ∀ i, f i < 256) : leTo f 32 < p256 := by rw [p256_eq]; exact leTo_lt f hf 32
theorem leTo_byteAt32 {n : Nat} (h : n < p256) : leTo (byteAt n) 32 = n := by
 rw [leTo_byteAt, ← p256_eq]
 exact Nat.mod_eq_of_lt h
theorem keyOf_inj {a b : Nat} (ha : a < p256) (hb : b < p256) (h : keyOf a = keyOf b) : a = b := by
 have hb2 : ∀ i, i < 32 → byteAt a i = byteAt b i := fun i hi => by
  have h1 := congrArg (fun l : List Int => l.getD i 0) h
  simp only [keyOf, List.getD, List.getElem?_map, List.getElem?_range hi, Option.map_some, Option.getD_some] at h1
  omega
 have hsame : ∀ k, k ≤ 32 → leTo (byteAt a) k = leTo (byteAt b) k := by
  intro k
  induction k with
  | zero => intro _; rfl
  | succ k ih => intro hk; unfold leTo; rw [ih (by omega), hb2 k (by omega)]
 have h2 := hsame 32 (Nat.le_refl _)
 rw [leTo_byteAt32 ha, leTo_byteAt32 hb] at h2
 exact h2
theorem neq_keys (a b : Nat) (ha : a < p256) (hb : b < p256) (w : World) :
  (binOp .neq 23 (.agg (Iv .u8 (keyOf a))) (.agg (Iv .u8 (keyOf b)))).run Tryz.prog w = .ok (.bool (!decide (a = b))) w := by
 have h := eq_keys _ _ (keyOf_length a) (keyOf_length b) w
 have hd : decide (keyOf a = keyOf b) = decide (a = b) := decide_eq_decide.2 ⟨keyOf_inj ha hb, fun h => by rw [h]⟩
 rw [hd] at h
 rw [run_neq_struct, h]
 rfl
theorem eql_keyN (a b : Nat) (ha : a < p256) (hb : b < p256) (w : World) :
  (binOp .eql 23 (.agg (Iv .u8 (keyOf a))) (.agg (Iv .u8 (keyOf b)))).run Tryz.prog w = .ok (.bool (decide (a = b))) w := by
 rw [eql_keys _ _ (keyOf_length a) (keyOf_length b), decide_eq_decide.2 ⟨keyOf_inj ha hb, fun h => by rw [h]⟩]
theorem yieldsIf_neqk {ops : Array Oper} {S : World → Prop} {o : Oper} {a : Act} (hgd : Region.wanted o (yielded ops a.tmps) = true) (x y : Operand) (ho : o.op = .binOp .neq 23 x y 23) (A B : Nat) (hx : a.eval x = Key (keyOf A)) (hy : a.eval y = Key (keyOf B))
  (c : Bool) (ha : A < p256) (hb : B < p256) (hc : (!decide (A = B)) = c) : YieldsIf Tryz.prog ops S o (.bool c) a := by
 refine Or.inl ⟨hgd, fun w _ => ?_⟩
 unfold Key at hx hy
 simp only [execOp, ho, hx, hy, Sem.run_bind, Sem.run_pure, Result.andThen_ok, run_eqGuard_agg (hm := eqg_api_Key), neq_keys A B ha hb, hc]
theorem yieldsIf_eqlk {ops : Array Oper} {S : World → Prop} {o : Oper} {a : Act} (hgd : Region.wanted o (yielded ops a.tmps) = true) (x y : Operand) (ho : o.op = .binOp .eql 23 x y 23) (A B : Nat) (hx : a.eval x = Key (keyOf A)) (hy : a.eval y = Key (keyOf B))
  (c : Bool) (ha : A < p256) (hb : B < p256) (hc : decide (A = B) = c) : YieldsIf Tryz.prog ops S o (.bool c) a := by
 refine Or.inl ⟨hgd, fun w _ => ?_⟩
 unfold Key at hx hy
 simp only [execOp, ho, hx, hy, Sem.run_bind, Sem.run_pure, Result.andThen_ok, run_eqGuard_agg (hm := eqg_api_Key), eql_keyN A B ha hb, hc]
end Go.Proofs.YtegbnadnodlalaaGreatDoor
namespace Go.Proofs.YtegbnadnodlalaaGreatDoor
open Go.RowKit Ed
instance pp_nz : NeZero pp := ⟨by rw [pp_eq]; decide⟩
def dd : Fin pp := ⟨37095705934669439343138083508754565189542113879843219016388785533085940283555, by rw [pp_eq]; decide +kernel⟩
def ii : Fin pp := ⟨19681161376707505956807079304988542015446066515923890162744021073123829784752, by rw [pp_eq]; decide +kernel⟩
def pinv (x : Nat) : Nat := mpow x 57896044618658097711785492504343953926634992332820282019728792003956564819947
theorem pinv_mul (x : Nat) (h : ¬ x = 0) (hlt : x < pp) : x * pinv x % pp = 1 := by
 unfold pinv
 exact inv_mul x h hlt
theorem pinv_lt (x : Nat) : pinv x < pp := by
 unfold pinv
 exact mpow_lt _ _
def finv (a : Fin pp) : Fin pp := ⟨pinv a.val, pinv_lt _⟩
theorem finv_val (a : Fin pp) : (finv a).val = pinv a.val := by
 unfold finv
 dsimp only
theorem one_mod : (1 : Fin pp).val = 1 := by
 show 1 % pp = 1
 rw [pp_eq]
theorem finv_mul (a : Fin pp) (h : a ≠ 0) : a * finv a = 1 := by
 have h0 : ¬ a.val = 0 := fun e => h (Fin.ext e)
 have h1 := pinv_mul a.val h0 a.isLt
 apply Fin.ext
 rw [Fin.val_mul, finv_val, h1, one_mod]
theorem clm_e : Nt.clm 57896044618658097711785492504343953926634992332820282019728792003956564819949 20800338683988658368647408995589388737092878452977063003340006470870624536394 28948022309329048855892746252171976963317496166410141009864396001978282409974 255 255 = 57896044618658097711785492504343953926634992332820282019728792003956564819948 := by decide +kernel
theorem pow_e : ∀ H, H = 28948022309329048855892746252171976963317496166410141009864396001978282409974 → 20800338683988658368647408995589388737092878452977063003340006470870624536394 ^ H % 57896044618658097711785492504343953926634992332820282019728792003956564819949 = 57896044618658097711785492504343953926634992332820282019728792003956564819948 := fun H hH => by
 rw [Nt.clm_all 57896044618658097711785492504343953926634992332820282019728792003956564819949 20800338683988658368647408995589388737092878452977063003340006470870624536394 H 255 (by rw [hH]; decide +kernel), hH]
 exact clm_e
theorem no_sq (t : Fin pp) : t*t + dd ≠ 0 := fun e => by
 have e1 : (t.val * t.val + 37095705934669439343138083508754565189542113879843219016388785533085940283555) % pp = 0 := by
  have := congrArg Fin.val e
  rw [Fin.val_add, Fin.val_mul] at this
  have e2 : dd.val = 37095705934669439343138083508754565189542113879843219016388785533085940283555 := rfl
  rw [e2, Nat.mod_add_mod] at this
  exact this
 have e3 : t.val * t.val % pp = 20800338683988658368647408995589388737092878452977063003340006470870624536394 := by
  have hp := pp_eq
  have := Nat.mod_lt (t.val * t.val) pp_pos
  rw [← Nat.mod_add_mod] at e1
  generalize t.val * t.val % pp = z at *
  rw [hp] at e1 this
  omega
 obtain ⟨H, hH⟩ : ∃ H, H = 28948022309329048855892746252171976963317496166410141009864396001978282409974 := ⟨_, rfl⟩
 have h2 : pp - 1 = 2 * H := by rw [hH, pp_eq]
 have h3 := pow_e H hH
 rw [← pp_eq, ← e3, ← Nat.pow_mod, Nat.mul_pow, ← Nat.pow_add, show H + H = pp - 1 by omega] at h3
 have h4 : ¬ pp ∣ t.val := fun hd => by
  have : t.val * t.val % pp = 0 := Nat.mod_eq_zero_of_dvd (Nat.dvd_trans hd (Nat.dvd_mul_right _ _))
  rw [this] at e3
  exact absurd e3 (by decide)
 rw [Nt.pp_prime.fermat _ h4] at h3
 exact absurd h3 (by decide)
theorem ok : Ok pp dd ii finv where
 hi := by decide +kernel
 hinv := finv_mul
 nsq := no_sq
 two := by decide +kernel
def cc : Fin pp := ⟨121665, by rw [pp_eq]; decide⟩
theorem cc_dd : (cc + 1)*dd + cc = 0 := by decide +kernel
theorem cc_one : cc + 1 ≠ 0 := by decide +kernel
/-- A number, modulo the prime. -/
def F (a : Nat) : Fin pp := ⟨a % pp, Nat.mod_lt _ pp_pos⟩
theorem F_val {a : Nat} (h : a < pp) : (F a).val = a := Nat.mod_eq_of_lt h
theorem F_fa (a b : Nat) : F (fa a b) = F a + F b := Fin.ext (by
 rw [Fin.val_add]
 show (a + b) % pp % pp = (a % pp + b % pp) % pp
 rw [Nat.mod_mod, Nat.add_mod])
theorem F_fm (a b : Nat) : F (fm a b) = F a * F b := Fin.ext (by
 rw [Fin.val_mul]
 show a * b % pp % pp = (a % pp) * (b % pp) % pp
 rw [Nat.mod_mod, Nat.mul_mod])
theorem F_fs (a b : Nat) (h : b < pp) : F (fs a b) = F a - F b := Fin.ext (by
 rw [Fin.sub_def]
 show (a + (pp - b)) % pp % pp = (pp - b % pp + a % pp) % pp
 rw [Nat.mod_mod, Nat.mod_eq_of_lt h, Nat.add_comm, Nat.add_mod_mod])
theorem F_inv (a : Nat) (h : a < pp) : F (pinv a) = finv (F a) := by
 apply Fin.ext
 rw [F_val (pinv_lt a), finv_val, F_val h]
theorem F_c : F 121665 = cc := by decide +kernel
theorem F_zero : F 0 = 0 := rfl
theorem F_one : F 1 = 1 := rfl
/-- Twice and both, at once. -/
theorem rep_step (x : Nat) (s : Lst) (hs : s.Ok) (P Q P0 : Pt dd) (h1 : Rep (F s.a) (F s.b) P) (h2 : Rep (F s.c) (F s.d) Q)
  (hd : P0.y*(1 + dd*P.x*Q.x*P.y*Q.y) = P.y*Q.y - P.x*Q.x) (hu : F x*(1 - P0.y) = 1 + P0.y) (n1 : 1 - P0.y ≠ 0) (n2 : 1 + P0.y ≠ 0) :
  Rep (F (lstep x s).a) (F (lstep x s).b) (add ok P P) ∧ Rep (F (lstep x s).c) (F (lstep x s).d) (add ok P Q) := by
 have a1 := rep_dbl ok cc_dd cc_one h1
 have a2 := rep_add ok h1 h2 hd hu n1 n2
 have eAA : F (lAA s.a s.b) = (F s.a + F s.b)*(F s.a + F s.b) := by unfold lAA; rw [F_fm, F_fa]
 have eBB : F (lBB s.a s.b) = (F s.a - F s.b)*(F s.a - F s.b) := by unfold lBB; rw [F_fm, F_fs _ _ hs.b]
 have eE : F (lE s.a s.b) = (F s.a + F s.b)*(F s.a + F s.b) - (F s.a - F s.b)*(F s.a - F s.b) := by
  unfold lE
  rw [F_fs _ _ (show lBB _ _ < pp from fm_lt _ _), eBB, eAA]
 have eDA : F (lDA s.a s.b s.c s.d) = (F s.c - F s.d)*(F s.a + F s.b) := by unfold lDA; rw [F_fm, F_fs _ _ hs.d, F_fa]
 have eCB : F (lCB s.a s.b s.c s.d) = (F s.c + F s.d)*(F s.a - F s.b) := by unfold lCB; rw [F_fm, F_fs _ _ hs.b, F_fa]
 constructor
 ·
  show Rep (F (lx2 s.a s.b)) (F (lz2 s.a s.b)) _
  unfold lx2 lz2
  rw [F_fm, F_fm, F_fa, F_fm, eE, eAA, eBB, F_c]
  exact a1
 ·
  show Rep (F (lx3 s.a s.b s.c s.d)) (F (lz3 x s.a s.b s.c s.d)) _
  unfold lx3 lz3 lSum lDif
  rw [F_fm, F_fm, F_fm, F_fa, F_fs _ _ (show lCB _ _ _ _ < pp from fm_lt _ _), eDA, eCB]
  exact a2
theorem times_even (m : Nat) (P : Pt dd) : add ok (times ok m P) (times ok m P) = times ok (2 * m) P := by rw [← times_plus]; congr 1; omega
theorem diff_y (P Q P0 : Pt dd) (h : add ok Q (neg P) = P0) : P0.y*(1 + dd*P.x*Q.x*P.y*Q.y) = P.y*Q.y - P.x*Q.x := by
 have := add_y ok Q (neg P)
 rw [h] at this
 have x0 : (neg P).x = -P.x := rfl
 have y0 : (neg P).y = P.y := rfl
 rw [x0, y0] at this
 exact diff_sym this
theorem sub_neg (A B : Pt dd) : add ok (add ok A B) (neg A) = B := by rw [add_comm ok A B, add_assoc, add_neg, add_zero]
theorem neg_y (A : Pt dd) : (neg A).y = A.y := rfl
theorem diff_y' (P Q P0 : Pt dd) (h : add ok P (neg Q) = P0) : P0.y*(1 + dd*P.x*Q.x*P.y*Q.y) = P.y*Q.y - P.x*Q.x := by
 have h1 : add ok Q (neg P) = neg P0 := by
  refine cancel_add ok (R := P0) ?_
  rw [add_comm ok (neg P0) P0, add_neg, ← h, add_assoc, ← add_assoc ok (neg P) P, add_comm ok (neg P) P, add_neg, zero_add, add_neg]
 exact neg_y P0 ▸ diff_y P Q (neg P0) h1
theorem rep_swap (b : Nat) {s : Lst} {P Q : Pt dd} (h1 : Rep (F s.a) (F s.b) P) (h2 : Rep (F s.c) (F s.d) Q) :
  Rep (F (lswap b s).a) (F (lswap b s).b) (if b % 2 = 1 then Q else P) ∧ Rep (F (lswap b s).c) (F (lswap b s).d) (if b % 2 = 1 then P else Q) := by
 unfold lswap swapped
 split
 · exact ⟨h2, h1⟩
 · exact ⟨h1, h2⟩
theorem half_next (V k : Nat) (hk : k < 255) : V / 2 ^ (254 - k) = 2 * (V / 2 ^ (255 - k)) + V / 2 ^ (254 - k) % 2 := by
 have e : 2 ^ (255 - k) = 2 ^ (254 - k) * 2 := by rw [← Nat.pow_succ]; congr 1; omega
 rw [e, ← Nat.div_div_eq_div_mul]
 omega
/-- What the ladder has reckoned behind k bits: two multiples, one behind the other. -/
theorem lad_rep (V x : Nat) (hx : x < pp) (hV : V < 2 ^ 255) (P0 : Pt dd) (hu : F x*(1 - P0.y) = 1 + P0.y) (n1 : 1 - P0.y ≠ 0) (n2 : 1 + P0.y ≠ 0) :
  ∀ k, k ≤ 255 → Rep (F (lad V x k).a) (F (lad V x k).b) (times ok (V / 2 ^ (255 - k)) P0) ∧ Rep (F (lad V x k).c) (F (lad V x k).d) (times ok (V / 2 ^ (255 - k) + 1) P0)
 | 0, _ => by
  rw [Nat.sub_zero, Nat.div_eq_of_lt hV]
  constructor
  ·
   refine ⟨finv (1 + 1), ?_, ?_, ?_⟩
   ·
    intro e
    have := finv_mul (1 + 1) ok.two
    rw [e, Fin.mul_zero] at this
    exact ok.one this.symm
   ·
    have := finv_mul (1 + 1) ok.two
    show (1 : Fin pp) = finv (1 + 1) * (1 + 1)
    rw [Fin.mul_comm]
    exact this.symm
   ·
    show (0 : Fin pp) = finv (1 + 1) * (1 - 1)
    rw [Fin.sub_self, Fin.mul_zero]
  ·
   rw [Nat.zero_add, times_one]
   refine ⟨finv (1 - P0.y), ?_, ?_, ?_⟩
   ·
    intro e
    have := finv_mul _ n1
    rw [e, Fin.mul_zero] at this
    exact ok.one this.symm
   ·
    show F x = _
    have := finv_mul _ n1
    rw [← hu, Fin.mul_comm (F x), ← Fin.mul_assoc, Fin.mul_comm (finv _), this, Fin.one_mul]
   ·
    show (1 : Fin pp) = _
    rw [Fin.mul_comm]
    exact (finv_mul _ n1).symm
 | k + 1, hk => by
  obtain ⟨r1, r2⟩ := lad_rep V x hx hV P0 hu n1 n2 k (by omega)
  have hn := half_next V k (by omega)
  have he : 255 - (k + 1) = 254 - k := by omega
  rw [he]
  have hok := lad_ok V x hx k
  show Rep (F (lswap (V / 2 ^ (254 - k)) (lstep x (lswap (V / 2 ^ (254 - k)) (lad V x k)))).a) (F (lswap (V / 2 ^ (254 - k)) (lstep x (lswap (V / 2 ^ (254 - k)) (lad V x k)))).b) _ ∧ Rep (F (lswap (V / 2 ^ (254 - k)) (lstep x (lswap (V / 2 ^ (254 - k)) (lad V x k)))).c) (F (lswap (V / 2 ^ (254 - k)) (lstep x (lswap (V / 2 ^ (254 - k)) (lad V x k)))).d) _
  generalize V / 2 ^ (254 - k) = b at *
  generalize V / 2 ^ (255 - k) = m at *
  generalize lad V x k = s at *
  obtain ⟨s1, s2⟩ := rep_swap b r1 r2
  have e1 : times ok (m + 1) P0 = add ok (times ok m P0) P0 := rfl
  by_cases hb : b % 2 = 1
  ·
   rw [if_pos hb] at s1 s2
   obtain ⟨t1, t2⟩ := rep_step x (lswap b s) (lswap_ok b s hok) _ _ P0 s1 s2 (diff_y' _ _ P0 (by rw [e1, sub_neg])) hu n1 n2
   obtain ⟨u1, u2⟩ := rep_swap b t1 t2
   rw [if_pos hb] at u1 u2
   constructor
   ·
    have : add ok (times ok (m + 1) P0) (times ok m P0) = times ok b P0 := by rw [← times_plus]; congr 1; omega
    rw [this] at u1
    exact u1
   ·
    have : add ok (times ok (m + 1) P0) (times ok (m + 1) P0) = times ok (b + 1) P0 := by rw [← times_plus]; congr 1; omega
    rw [this] at u2
    exact u2
  ·
   rw [if_neg hb] at s1 s2
   obtain ⟨t1, t2⟩ := rep_step x (lswap b s) (lswap_ok b s hok) _ _ P0 s1 s2 (diff_y _ _ P0 (by rw [e1, sub_neg])) hu n1 n2
   obtain ⟨u1, u2⟩ := rep_swap b t1 t2
   rw [if_neg hb] at u1 u2
   constructor
   ·
    have : add ok (times ok m P0) (times ok m P0) = times ok b P0 := by rw [← times_plus]; congr 1; omega
    rw [this] at u1
    exact u1
   ·
    have : add ok (times ok m P0) (times ok (m + 1) P0) = times ok (b + 1) P0 := by rw [← times_plus]; congr 1; omega
    rw [this] at u2
    exact u2
end Go.Proofs.YtegbnadnodlalaaGreatDoor
namespace Go.Proofs.YtegbnadnodlalaaGreatDoor
open Go.RowKit Ed
def bx : Fin pp := ⟨15112221349535400772501151409588531511454012693041857206046113283949847762202, by rw [pp_eq]; decide +kernel⟩
def bY : Fin pp := ⟨46316835694926478169428394003475163141307993866256225615783033603165251855960, by rw [pp_eq]; decide +kernel⟩
def bb : Pt dd := ⟨bx, bY, by unfold On; decide +kernel⟩
def ell : Nat := 7237005577332262213973186563042994240857116359379907606001950938285454250989
theorem ell_pr : Nt.Pr ell := Nt.ell_prime
theorem base_u : F 9*(1 - bb.y) = 1 + bb.y := by decide +kernel
theorem base_n1 : 1 - bb.y ≠ 0 := by decide +kernel
theorem base_n2 : 1 + bb.y ≠ 0 := by decide +kernel
theorem nine_lt : 9 < pp := by rw [pp_eq]; decide
theorem one_lt : 1 < pp := by rw [pp_eq]; decide
theorem lad_ell : (lad ell 9 255).b = 0 := by decide +kernel
theorem dd_one : 1 + dd ≠ 0 := by decide +kernel
theorem sq0 {x e : Fin pp} (h : Ok pp dd ii finv) (y : Fin pp) (ho : On dd x y) (hy : y*y = 1) : x = 0 := by
 have e1 : x*x*(1 + dd) = 0 := by
  unfold On at ho
  generalize dd = d at *
  clear h
  grind
 rcases h.dom e1 with h2 | h2
 · exact (h.dom h2).elim id id
 · exact absurd h2 dd_one
theorem pt_one (P : Pt dd) (h : 1 - P.y = 0) : P = zero dd := by
 have hy : P.y = 1 := by
  generalize P.y = y at *
  grind
 refine Pt.same (sq0 (e := 0) ok P.y P.on ?_) hy
 rw [hy]
 exact Fin.mul_one _
theorem times_ell : times ok ell bb = zero dd := by
 obtain ⟨⟨l, hl, _, eb⟩, _⟩ := lad_rep ell 9 nine_lt (by decide +kernel) bb base_u base_n1 base_n2 255 (Nat.le_refl _)
 rw [Nat.sub_self, Nat.pow_zero, Nat.div_one, lad_ell] at eb
 refine pt_one _ ?_
 exact (ok.dom eb.symm).elim (fun e => absurd e hl) id
theorem bb_ne : bb ≠ zero dd := fun e => by
 have := congrArg Pt.y e
 exact absurd this (by decide +kernel)
theorem times_ne (m : Nat) (h : ¬ ell ∣ m) : times ok m bb ≠ zero dd := fun e => by
 have h1 := times_gcd ok bb ell m times_ell e
 have h2 : Nat.gcd ell m = 1 := Nt.Pr.coprime ell_pr h
 rw [h2, times_one] at h1
 exact bb_ne h1
end Go.Proofs.YtegbnadnodlalaaGreatDoor
namespace Go.Proofs.YtegbnadnodlalaaGreatDoor
open Go.RowKit Ed
def tx : Fin pp := ⟨14399317868200118260347934320527232580618823971194345261214217575416788799818, by rw [pp_eq]; decide +kernel⟩
def tY : Fin pp := ⟨55188659117513257062467267217118295137698188065244968500265048394206261417927, by rw [pp_eq]; decide +kernel⟩
def t8 : Pt dd := ⟨tx, tY, by unfold On; decide +kernel⟩
def t4 : Pt dd := ⟨-ii, 0, by unfold On; decide +kernel⟩
def t2 : Pt dd := ⟨0, -1, by unfold On; decide +kernel⟩
/-- A point of order 8 times ell. -/
def gg : Pt dd := add ok bb t8
theorem times_dvd (P : Pt dd) (a b : Nat) (h : a ∣ b) (ha : times ok a P = zero dd) : times ok b P = zero dd := by
 obtain ⟨c, rfl⟩ := h
 rw [times_times, ha, times_zero]
theorem times_inj (P : Pt dd) (a b : Nat) (hab : a ≤ b) (h : times ok a P = times ok b P) : times ok (b - a) P = zero dd := by
 have e : b = (b - a) + a := by omega
 rw [e, times_plus] at h
 exact (cancel_add ok ((Ed.zero_add ok _).trans h)).symm
namespace Ed
section
variable {n : Nat} [NeZero n]
theorem sq_diff {x y : Fin n} (h : x*x = y*y) : (x - y)*(x + y) = 0 := by grind
theorem dif0 {x y : Fin n} (h : x - y = 0) : x = y := by grind
theorem sum0 {x y : Fin n} (h : x + y = 0) : x = -y := by grind
theorem den_sq {x y d : Fin n} (ho : y*y - x*x = 1 + d*x*x*y*y) (e : 1 + d*y*y = 0) : y*y = 1 := by grind
theorem same_sq {x x' y d : Fin n} (hp : y*y - x*x = 1 + d*x*x*y*y) (hq : y*y - x'*x' = 1 + d*x'*x'*y*y) : x*x*(1 + d*y*y) = x'*x'*(1 + d*y*y) := by grind
end
end Ed
/-- A point as a number. -/
def code (P : Pt dd) : Nat := 2 * P.y.val + P.x.val % 2
theorem sq_eq {x y : Fin pp} (h : x*x = y*y) : x = y ∨ x = -y := by
 have e : (x - y)*(x + y) = 0 := sq_diff h
 rcases ok.dom e with h1 | h1
 · exact Or.inl (dif0 h1)
 · exact Or.inr (sum0 h1)
theorem neg_val (x : Fin pp) (h : x.val ≠ 0) : (-x).val = pp - x.val := by
 rw [Fin.neg_def]
 show (pp - x.val) % pp = _
 exact Nat.mod_eq_of_lt (by have := x.isLt; omega)
theorem pp_odd : pp % 2 = 1 := by rw [pp_eq]
theorem den_ne (P : Pt dd) : 1 + dd*P.y*P.y ≠ 0 := fun e => by
 have h1 := ok.hi
 have ho := P.on
 unfold On at ho
 have h2 : P.y*P.y = 1 := den_sq ho e
 have h3 : 1 + dd = 0 := by
  have : dd*P.y*P.y = dd := by rw [Fin.mul_assoc, h2, Fin.mul_one]
  rw [this] at e
  exact e
 exact dd_one h3
theorem code_inj (P Q : Pt dd) (h : code P = code Q) : P = Q := by
 unfold code at h
 have hy : P.y.val = Q.y.val := by omega
 have hx : P.x.val % 2 = Q.x.val % 2 := by omega
 have ey : P.y = Q.y := Fin.ext hy
 have hp := P.on
 have hq := Q.on
 unfold On at hp hq
 rw [← ey] at hq
 have e1 : P.x*P.x = Q.x*Q.x := ok.cancel (den_ne P) (same_sq hp hq)
 rcases sq_eq e1 with h1 | h1
 · exact Pt.same h1 ey
 ·
  by_cases z : Q.x.val = 0
  ·
   have : Q.x = 0 := Fin.ext z
   refine Pt.same ?_ ey
   rw [h1, this]
   decide +kernel
  ·
   rw [h1, neg_val _ z] at hx
   have := Q.x.isLt
   have := pp_odd
   omega
end Go.Proofs.YtegbnadnodlalaaGreatDoor
namespace Go.Proofs.YtegbnadnodlalaaGreatDoor
namespace Ed
set_option maxHeartbeats 4000000
section
variable {n : Nat} [NeZero n]
theorem pm_cross (a b X1 Y1 X2 Y2 : Fin n) : (a*X1 + a*Y1)*(b*X2 + b*Y2) - (a*X1)*(b*X2) - (a*Y1)*(b*Y2) = (a*b)*(X1*Y2 + Y1*X2) := by grind
theorem pm_st (a b X1 Y1 X2 Y2 : Fin n) : (a*Y1)*(b*Y2) + (a*X1)*(b*X2) = (a*b)*(Y1*Y2 + X1*X2) := by grind
theorem pm_ux (a b d X1 Y1 X2 Y2 : Fin n) : a*b + d*((a*(X1*Y1))*(b*(X2*Y2))) = (a*b)*(1 + d*X1*X2*Y1*Y2) := by grind
theorem pm_uy (a b d X1 Y1 X2 Y2 : Fin n) : a*b - d*((a*(X1*Y1))*(b*(X2*Y2))) = (a*b)*(1 - d*X1*X2*Y1*Y2) := by grind
theorem pm_x {m c u v X : Fin n} (h : X*u = c) : (m*c)*(m*v) = (m*u)*(m*v)*X := by grind
theorem pm_y {m s u v Y : Fin n} (h : Y*v = s) : (m*s)*(m*u) = (m*u)*(m*v)*Y := by grind
theorem pm_t {m c s u v X Y : Fin n} (h : X*u = c) (h2 : Y*v = s) : (m*c)*(m*s) = (m*u)*(m*v)*(X*Y) := by grind
theorem neg_mul_l (a b : Fin n) : -(a*b) = a*(-b) := by grind
theorem neg_mul_t (a b c : Fin n) : -(a*(b*c)) = a*((-b)*c) := by grind
theorem inv_of {z u X : Fin n} (h : z*u = 1) : z*X*u = X := by grind
end
end Ed
open Go.RowKit Ed
structure P4 where
 x : Nat
 y : Nat
 z : Nat
 t : Nat
structure P4.Ok (s : P4) : Prop where
 x : s.x < pp
 y : s.y < pp
 z : s.z < pp
 t : s.t < pp
/-- Four numbers that are a point. -/
structure P4.Is (s : P4) (P : Pt dd) : Prop where
 ok : s.Ok
 z0 : F s.z ≠ 0
 x : F s.x = F s.z * P.x
 y : F s.y = F s.z * P.y
 t : F s.t = F s.z * (P.x * P.y)
def dN : Nat := 37095705934669439343138083508754565189542113879843219016388785533085940283555
theorem dN_lt : dN < pp := by rw [pp_eq]; decide +kernel
theorem F_dN : F dN = dd := by decide +kernel
def pXX (p q : P4) : Nat := fm p.x q.x
def pYY (p q : P4) : Nat := fm p.y q.y
def pZZ (p q : P4) : Nat := fm p.z q.z
def pDT (p q : P4) : Nat := fm dN (fm p.t q.t)
def pCr (p q : P4) : Nat := fs (fs (fm (fa p.x p.y) (fa q.x q.y)) (pXX p q)) (pYY p q)
def pSt (p q : P4) : Nat := fa (pYY p q) (pXX p q)
def pUx (p q : P4) : Nat := fa (pZZ p q) (pDT p q)
def pUy (p q : P4) : Nat := fs (pZZ p q) (pDT p q)
/-- The sum of two. -/
def padd (p q : P4) : P4 := ⟨fm (pCr p q) (pUy p q), fm (pSt p q) (pUx p q), fm (pUx p q) (pUy p q), fm (pCr p q) (pSt p q)⟩
theorem padd_ok (p q : P4) : (padd p q).Ok := ⟨fm_lt _ _, fm_lt _ _, fm_lt _ _, fm_lt _ _⟩
theorem padd_is {p q : P4} {P Q : Pt dd} (hp : p.Is P) (hq : q.Is Q) : (padd p q).Is (add ok P Q) := by
 have eXX : F (pXX p q) = (F p.z*P.x)*(F q.z*Q.x) := by unfold pXX; rw [F_fm, hp.x, hq.x]
 have eYY : F (pYY p q) = (F p.z*P.y)*(F q.z*Q.y) := by unfold pYY; rw [F_fm, hp.y, hq.y]
 have eZZ : F (pZZ p q) = F p.z*F q.z := by unfold pZZ; rw [F_fm]
 have eDT : F (pDT p q) = dd*((F p.z*(P.x*P.y))*(F q.z*(Q.x*Q.y))) := by unfold pDT; rw [F_fm, F_fm, hp.t, hq.t, F_dN]
 have eCr : F (pCr p q) = (F p.z*F q.z)*(P.x*Q.y + P.y*Q.x) := by
  unfold pCr
  rw [F_fs _ _ (show pYY p q < pp from fm_lt _ _), F_fs _ _ (show pXX p q < pp from fm_lt _ _), F_fm, F_fa, F_fa, hp.x, hp.y, hq.x, hq.y, eXX, eYY]
  exact pm_cross _ _ _ _ _ _
 have eSt : F (pSt p q) = (F p.z*F q.z)*(P.y*Q.y + P.x*Q.x) := by
  unfold pSt
  rw [F_fa, eXX, eYY]
  exact pm_st _ _ _ _ _ _
 have eUx : F (pUx p q) = (F p.z*F q.z)*(1 + dd*P.x*Q.x*P.y*Q.y) := by
  unfold pUx
  rw [F_fa, eZZ, eDT]
  exact pm_ux _ _ _ _ _ _ _
 have eUy : F (pUy p q) = (F p.z*F q.z)*(1 - dd*P.x*Q.x*P.y*Q.y) := by
  unfold pUy
  rw [F_fs _ _ (show pDT p q < pp from fm_lt _ _), eZZ, eDT]
  exact pm_uy _ _ _ _ _ _ _
 have hm := ok.mul_ne hp.z0 hq.z0
 have ax := add_x ok P Q
 have ay := add_y ok P Q
 have ez : F (padd p q).z = ((F p.z*F q.z)*(1 + dd*P.x*Q.x*P.y*Q.y))*((F p.z*F q.z)*(1 - dd*P.x*Q.x*P.y*Q.y)) := by
  show F (fm (pUx p q) (pUy p q)) = _
  rw [F_fm, eUx, eUy]
 refine ⟨padd_ok p q, ?_, ?_, ?_, ?_⟩
 ·
  rw [ez]
  exact ok.mul_ne (ok.mul_ne hm (ok.full1 P.on Q.on)) (ok.mul_ne hm (ok.full2 P.on Q.on))
 ·
  rw [ez]
  show F (fm (pCr p q) (pUy p q)) = _
  rw [F_fm, eCr, eUy]
  exact pm_x ax
 ·
  rw [ez]
  show F (fm (pSt p q) (pUx p q)) = _
  rw [F_fm, eSt, eUx]
  exact pm_y ay
 ·
  rw [ez]
  show F (fm (pCr p q) (pSt p q)) = _
  rw [F_fm, eCr, eSt]
  exact pm_t ax ay
/-- A point of an x and a y. -/
def pat (x y : Nat) : P4 := ⟨x, y, 1, fm x y⟩
theorem pat_is {x y : Nat} {P : Pt dd} (hx : x < pp) (hy : y < pp) (ex : F x = P.x) (ey : F y = P.y) : (pat x y).Is P := by
 refine ⟨⟨hx, hy, one_lt, fm_lt _ _⟩, ?_, ?_, ?_, ?_⟩
 · exact ok.one
 ·
  show F x = F 1 * P.x
  rw [F_one, Fin.one_mul, ex]
 ·
  show F y = F 1 * P.y
  rw [F_one, Fin.one_mul, ey]
 ·
  show F (fm x y) = F 1 * (P.x * P.y)
  rw [F_one, Fin.one_mul, F_fm, ex, ey]
def pzero : P4 := pat 0 1
theorem pzero_is : pzero.Is (zero dd) := pat_is pp_pos one_lt rfl rfl
def bxN : Nat := 15112221349535400772501151409588531511454012693041857206046113283949847762202
def byN : Nat := 46316835694926478169428394003475163141307993866256225615783033603165251855960
theorem bxN_lt : bxN < pp := by rw [pp_eq]; decide +kernel
theorem byN_lt : byN < pp := by rw [pp_eq]; decide +kernel
def pbase : P4 := pat bxN byN
theorem pbase_is : pbase.Is bb := pat_is bxN_lt byN_lt (by decide +kernel) (by decide +kernel)
/-- The opposite. -/
def fneg (a : Nat) : Nat := (pp - a) % pp
theorem fneg_lt (a : Nat) : fneg a < pp := Nat.mod_lt _ pp_pos
theorem F_fneg (a : Nat) (h : a < pp) : F (fneg a) = - F a := by
 have h1 := F_fs 0 a h
 have e : fs 0 a = fneg a := by unfold fs fneg; rw [Nat.zero_add]
 rw [e, F_zero] at h1
 rw [h1]
 generalize F a = z
 grind
def pneg (p : P4) : P4 := ⟨fneg p.x, p.y, p.z, fneg p.t⟩
theorem pneg_is {p : P4} {P : Pt dd} (hp : p.Is P) : (pneg p).Is (neg P) := by
 refine ⟨⟨fneg_lt _, hp.ok.y, hp.ok.z, fneg_lt _⟩, hp.z0, ?_, hp.y, ?_⟩
 ·
  show F (fneg p.x) = F p.z * (- P.x)
  rw [F_fneg _ hp.ok.x, hp.x]
  exact neg_mul_l _ _
 ·
  show F (fneg p.t) = F p.z * ((- P.x) * P.y)
  rw [F_fneg _ hp.ok.t, hp.t]
  exact neg_mul_t _ _ _
/-- A number, and whether a bit is told: what Mul does behind so many rounds. -/
def pmul (k : Nat) (p : P4) : Nat → P4
 | 0 => pzero
 | i + 1 => if k / 2 ^ (255 - i) % 2 = 1 then padd (padd (pmul k p i) (pmul k p i)) p else padd (pmul k p i) (pmul k p i)
theorem pmul_is (k : Nat) (hk : k < 2 ^ 256) {p : P4} {P : Pt dd} (hp : p.Is P) : ∀ i, i ≤ 256 → (pmul k p i).Is (times ok (k / 2 ^ (256 - i)) P)
 | 0, _ => by
  rw [Nat.sub_zero, Nat.div_eq_of_lt hk]
  exact pzero_is
 | i + 1, h => by
  have ih := pmul_is k hk hp i (by omega)
  have e : k / 2 ^ (256 - i) = k / 2 ^ (255 - i) / 2 := by
   rw [show 256 - i = (255 - i) + 1 by omega, Nat.pow_succ, Nat.div_div_eq_div_mul]
  rw [show 256 - (i + 1) = 255 - i by omega]
  have ih2 := padd_is ih ih
  rw [e, times_even] at ih2
  unfold pmul
  generalize k / 2 ^ (255 - i) = u at *
  by_cases hb : u % 2 = 1
  ·
   rw [if_pos hb]
   have := padd_is ih2 hp
   have e2 : add ok (times ok (2 * (u / 2)) P) P = times ok u P := by
    show times ok (2 * (u / 2) + 1) P = _
    congr 1
    omega
   rw [e2] at this
   exact this
  ·
   rw [if_neg hb]
   rw [show 2 * (u / 2) = u by omega] at ih2
   exact ih2
/-- A point's 32 bytes, as a number. -/
def textN (P : Pt dd) : Nat := P.y.val + P.x.val % 2 * 57896044618658097711785492504343953926634992332820282019728792003956564819968
theorem pp_255 : pp < 57896044618658097711785492504343953926634992332820282019728792003956564819968 := by rw [pp_eq]; decide
theorem textN_mod (P : Pt dd) : textN P % 57896044618658097711785492504343953926634992332820282019728792003956564819968 = P.y.val := by
 have := pp_255
 have := P.y.isLt
 unfold textN
 omega
theorem textN_div (P : Pt dd) : textN P / 57896044618658097711785492504343953926634992332820282019728792003956564819968 = P.x.val % 2 := by
 have := pp_255
 have := P.y.isLt
 unfold textN
 omega
theorem textN_lt (P : Pt dd) : textN P < p256 := by
 have := pp_255
 have := P.y.isLt
 unfold textN p256
 omega
theorem textN_inj (P Q : Pt dd) (h : textN P = textN Q) : P = Q := by
 refine code_inj P Q ?_
 have h1 := textN_mod P
 have h2 := textN_mod Q
 have h3 := textN_div P
 have h4 := textN_div Q
 rw [h] at h1 h3
 unfold code
 omega
/-- What Encode reckons. -/
theorem enc_y {p : P4} {P : Pt dd} (hp : p.Is P) : fm p.y (pinv p.z) = P.y.val := by
 have h1 := finv_mul _ hp.z0
 have e : F (fm p.y (pinv p.z)) = P.y := by
  rw [F_fm, F_inv _ hp.ok.z, hp.y]
  exact inv_of h1
 have := congrArg Fin.val e
 rw [F_val (fm_lt _ _)] at this
 exact this
theorem enc_x {p : P4} {P : Pt dd} (hp : p.Is P) : fm p.x (pinv p.z) = P.x.val := by
 have h1 := finv_mul _ hp.z0
 have e : F (fm p.x (pinv p.z)) = P.x := by
  rw [F_fm, F_inv _ hp.ok.z, hp.x]
  exact inv_of h1
 have := congrArg Fin.val e
 rw [F_val (fm_lt _ _)] at this
 exact this
theorem F_inj2 {a b : Nat} (ha : a < pp) (hb : b < pp) (h : F a = F b) : a = b := by
 have := congrArg Fin.val h
 rw [F_val ha, F_val hb] at this
 exact this
end Go.Proofs.YtegbnadnodlalaaGreatDoor
