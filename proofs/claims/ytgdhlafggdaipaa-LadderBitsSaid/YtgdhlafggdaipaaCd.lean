/- The curve over the numbers modulo 2^255 - 19: what the ladder answers, as a multiple of a point; the base's order. -/
import Derived.Test.YtgdhlafggdaipaaCa
import Derived.Test.YtgdhlafggdaipaaNd
import Derived.Test.YtgdhlafggdaipaaJg
import Derived.Test.YtgdhlafggdaipaaNa
namespace Go.Proofs.Ytgdhlafggdaipaa
open Go.RowKit Ed

instance pp_nz : NeZero pp := ⟨by rw [pp_eq]; decide⟩
def dd : Fin pp := ⟨37095705934669439343138083508754565189542113879843219016388785533085940283555, by rw [pp_eq]; decide +kernel⟩
def ii : Fin pp := ⟨19681161376707505956807079304988542015446066515923890162744021073123829784752, by rw [pp_eq]; decide +kernel⟩
def pinv (x : Nat) : Nat := mpow x 57896044618658097711785492504343953926634992332820282019728792003956564819947
theorem pinv_mul (x : Nat) (h : ¬ x = 0) (hlt : x < pp) : x * pinv x % pp = 1 := by
  unfold pinv
  exact inv_mul x h hlt
theorem pinv_lt (x : Nat) : pinv x < pp := by
  unfold pinv
  exact mpow_lt _ _
theorem mpow_zero_any (e : Nat) (h : e ≠ 0) : mpow 0 e = 0 := by
  unfold mpow
  rw [Nat.zero_pow (Nat.pos_of_ne_zero h), Nat.zero_mod]
theorem pinv_zero : pinv 0 = 0 := by
  unfold pinv
  exact mpow_zero_any _ (by decide)
theorem ladN_def (V x : Nat) : ladN V x = fm (lad V x 255).a (pinv (lad V x 255).b) := rfl
def finv (a : Fin pp) : Fin pp := ⟨pinv a.val, pinv_lt _⟩
theorem finv_val (a : Fin pp) : (finv a).val = pinv a.val := by
  unfold finv
  dsimp only
theorem zero_val : (0 : Fin pp).val = 0 := rfl
theorem one_mod : (1 : Fin pp).val = 1 := by
  show 1 % pp = 1
  rw [pp_eq]
theorem finv_mul (a : Fin pp) (h : a ≠ 0) : a * finv a = 1 := by
  have h0 : ¬ a.val = 0 := fun e => h (Fin.ext e)
  have h1 := pinv_mul a.val h0 a.isLt
  apply Fin.ext
  rw [Fin.val_mul, finv_val, h1, one_mod]
theorem clm_e : Nt.clm 57896044618658097711785492504343953926634992332820282019728792003956564819949 20800338683988658368647408995589388737092878452977063003340006470870624536394 28948022309329048855892746252171976963317496166410141009864396001978282409974 255 255 = 57896044618658097711785492504343953926634992332820282019728792003956564819948 := by decide +kernel
theorem pow_e : ∀ H, H = 28948022309329048855892746252171976963317496166410141009864396001978282409974 → 20800338683988658368647408995589388737092878452977063003340006470870624536394 ^ H % 57896044618658097711785492504343953926634992332820282019728792003956564819949 = 57896044618658097711785492504343953926634992332820282019728792003956564819948 := fun H hH => by
  rw [Nt.clm_all 57896044618658097711785492504343953926634992332820282019728792003956564819949 20800338683988658368647408995589388737092878452977063003340006470870624536394 H 255 (by rw [hH]; decide +kernel), hH]
  exact clm_e
theorem no_sq (t : Fin pp) : t*t + dd ≠ 0 := fun e => by
  have e1 : (t.val * t.val + 37095705934669439343138083508754565189542113879843219016388785533085940283555) % pp = 0 := by
    have := congrArg Fin.val e
    rw [Fin.val_add, Fin.val_mul] at this
    have e2 : dd.val = 37095705934669439343138083508754565189542113879843219016388785533085940283555 := rfl
    rw [e2, Nat.mod_add_mod] at this
    exact this
  have e3 : t.val * t.val % pp = 20800338683988658368647408995589388737092878452977063003340006470870624536394 := by
    have hp := pp_eq
    have := Nat.mod_lt (t.val * t.val) pp_pos
    rw [← Nat.mod_add_mod] at e1
    generalize t.val * t.val % pp = z at *
    rw [hp] at e1 this
    omega
  obtain ⟨H, hH⟩ : ∃ H, H = 28948022309329048855892746252171976963317496166410141009864396001978282409974 := ⟨_, rfl⟩
  have h2 : pp - 1 = 2 * H := by rw [hH, pp_eq]
  have h3 := pow_e H hH
  rw [← pp_eq, ← e3, ← Nat.pow_mod, Nat.mul_pow, ← Nat.pow_add, show H + H = pp - 1 by omega] at h3
  have h4 : ¬ pp ∣ t.val := fun hd => by
    have : t.val * t.val % pp = 0 := Nat.mod_eq_zero_of_dvd (Nat.dvd_trans hd (Nat.dvd_mul_right _ _))
    rw [this] at e3
    exact absurd e3 (by decide)
  rw [Nt.pp_prime.fermat _ h4] at h3
  exact absurd h3 (by decide)
theorem ok : Ok pp dd ii finv where
  hi := by decide +kernel
  hinv := finv_mul
  nsq := no_sq
  two := by decide +kernel
def cc : Fin pp := ⟨121665, by rw [pp_eq]; decide⟩
theorem cc_dd : (cc + 1)*dd + cc = 0 := by decide +kernel
theorem cc_one : cc + 1 ≠ 0 := by decide +kernel

/-- A number, modulo the prime. -/
def F (a : Nat) : Fin pp := ⟨a % pp, Nat.mod_lt _ pp_pos⟩
theorem F_val {a : Nat} (h : a < pp) : (F a).val = a := Nat.mod_eq_of_lt h
theorem F_fa (a b : Nat) : F (fa a b) = F a + F b := Fin.ext (by
  rw [Fin.val_add]
  show (a + b) % pp % pp = (a % pp + b % pp) % pp
  rw [Nat.mod_mod, Nat.add_mod])
theorem F_fm (a b : Nat) : F (fm a b) = F a * F b := Fin.ext (by
  rw [Fin.val_mul]
  show a * b % pp % pp = (a % pp) * (b % pp) % pp
  rw [Nat.mod_mod, Nat.mul_mod])
theorem F_fs (a b : Nat) (h : b < pp) : F (fs a b) = F a - F b := Fin.ext (by
  rw [Fin.sub_def]
  show (a + (pp - b)) % pp % pp = (pp - b % pp + a % pp) % pp
  rw [Nat.mod_mod, Nat.mod_eq_of_lt h, Nat.add_comm, Nat.add_mod_mod])
theorem F_inv (a : Nat) (h : a < pp) : F (pinv a) = finv (F a) := by
  apply Fin.ext
  rw [F_val (pinv_lt a), finv_val, F_val h]
theorem F_c : F 121665 = cc := by decide +kernel
theorem F_zero : F 0 = 0 := rfl
theorem F_one : F 1 = 1 := rfl

/-- Twice and both, at once. -/
theorem rep_step (x : Nat) (s : Lst) (hs : s.Ok) (P Q P0 : Pt dd) (h1 : Rep (F s.a) (F s.b) P) (h2 : Rep (F s.c) (F s.d) Q)
    (hd : P0.y*(1 + dd*P.x*Q.x*P.y*Q.y) = P.y*Q.y - P.x*Q.x) (hu : F x*(1 - P0.y) = 1 + P0.y) (n1 : 1 - P0.y ≠ 0) (n2 : 1 + P0.y ≠ 0) :
    Rep (F (lstep x s).a) (F (lstep x s).b) (add ok P P) ∧ Rep (F (lstep x s).c) (F (lstep x s).d) (add ok P Q) := by
  have a1 := rep_dbl ok cc_dd cc_one h1
  have a2 := rep_add ok h1 h2 hd hu n1 n2
  have eAA : F (lAA s.a s.b) = (F s.a + F s.b)*(F s.a + F s.b) := by unfold lAA; rw [F_fm, F_fa]
  have eBB : F (lBB s.a s.b) = (F s.a - F s.b)*(F s.a - F s.b) := by unfold lBB; rw [F_fm, F_fs _ _ hs.b]
  have eE : F (lE s.a s.b) = (F s.a + F s.b)*(F s.a + F s.b) - (F s.a - F s.b)*(F s.a - F s.b) := by
    unfold lE
    rw [F_fs _ _ (show lBB _ _ < pp from fm_lt _ _), eBB, eAA]
  have eDA : F (lDA s.a s.b s.c s.d) = (F s.c - F s.d)*(F s.a + F s.b) := by unfold lDA; rw [F_fm, F_fs _ _ hs.d, F_fa]
  have eCB : F (lCB s.a s.b s.c s.d) = (F s.c + F s.d)*(F s.a - F s.b) := by unfold lCB; rw [F_fm, F_fs _ _ hs.b, F_fa]
  constructor
  · show Rep (F (lx2 s.a s.b)) (F (lz2 s.a s.b)) _
    unfold lx2 lz2
    rw [F_fm, F_fm, F_fa, F_fm, eE, eAA, eBB, F_c]
    exact a1
  · show Rep (F (lx3 s.a s.b s.c s.d)) (F (lz3 x s.a s.b s.c s.d)) _
    unfold lx3 lz3 lSum lDif
    rw [F_fm, F_fm, F_fm, F_fa, F_fs _ _ (show lCB _ _ _ _ < pp from fm_lt _ _), eDA, eCB]
    exact a2
theorem times_even (m : Nat) (P : Pt dd) : add ok (times ok m P) (times ok m P) = times ok (2 * m) P := by rw [← times_plus]; congr 1; omega
theorem diff_y (P Q P0 : Pt dd) (h : add ok Q (neg P) = P0) : P0.y*(1 + dd*P.x*Q.x*P.y*Q.y) = P.y*Q.y - P.x*Q.x := by
  have := add_y ok Q (neg P)
  rw [h] at this
  have x0 : (neg P).x = -P.x := rfl
  have y0 : (neg P).y = P.y := rfl
  rw [x0, y0] at this
  exact diff_sym this
theorem sub_neg (A B : Pt dd) : add ok (add ok A B) (neg A) = B := by rw [add_comm ok A B, add_assoc, add_neg, add_zero]
theorem neg_y (A : Pt dd) : (neg A).y = A.y := rfl
theorem diff_y' (P Q P0 : Pt dd) (h : add ok P (neg Q) = P0) : P0.y*(1 + dd*P.x*Q.x*P.y*Q.y) = P.y*Q.y - P.x*Q.x := by
  have h1 : add ok Q (neg P) = neg P0 := by
    refine cancel_add ok (R := P0) ?_
    rw [add_comm ok (neg P0) P0, add_neg, ← h, add_assoc, ← add_assoc ok (neg P) P, add_comm ok (neg P) P, add_neg, zero_add, add_neg]
  exact neg_y P0 ▸ diff_y P Q (neg P0) h1
theorem rep_swap (b : Nat) {s : Lst} {P Q : Pt dd} (h1 : Rep (F s.a) (F s.b) P) (h2 : Rep (F s.c) (F s.d) Q) :
    Rep (F (lswap b s).a) (F (lswap b s).b) (if b % 2 = 1 then Q else P) ∧ Rep (F (lswap b s).c) (F (lswap b s).d) (if b % 2 = 1 then P else Q) := by
  unfold lswap swapped
  split
  · exact ⟨h2, h1⟩
  · exact ⟨h1, h2⟩
theorem half_next (V k : Nat) (hk : k < 255) : V / 2 ^ (254 - k) = 2 * (V / 2 ^ (255 - k)) + V / 2 ^ (254 - k) % 2 := by
  have e : 2 ^ (255 - k) = 2 ^ (254 - k) * 2 := by rw [← Nat.pow_succ]; congr 1; omega
  rw [e, ← Nat.div_div_eq_div_mul]
  omega
/-- What the ladder has reckoned behind k bits: two multiples, one behind the other. -/
theorem lad_rep (V x : Nat) (hx : x < pp) (hV : V < 2 ^ 255) (P0 : Pt dd) (hu : F x*(1 - P0.y) = 1 + P0.y) (n1 : 1 - P0.y ≠ 0) (n2 : 1 + P0.y ≠ 0) :
    ∀ k, k ≤ 255 → Rep (F (lad V x k).a) (F (lad V x k).b) (times ok (V / 2 ^ (255 - k)) P0) ∧ Rep (F (lad V x k).c) (F (lad V x k).d) (times ok (V / 2 ^ (255 - k) + 1) P0)
  | 0, _ => by
    rw [Nat.sub_zero, Nat.div_eq_of_lt hV]
    constructor
    · refine ⟨finv (1 + 1), ?_, ?_, ?_⟩
      · intro e
        have := finv_mul (1 + 1) ok.two
        rw [e, Fin.mul_zero] at this
        exact ok.one this.symm
      · have := finv_mul (1 + 1) ok.two
        show (1 : Fin pp) = finv (1 + 1) * (1 + 1)
        rw [Fin.mul_comm]
        exact this.symm
      · show (0 : Fin pp) = finv (1 + 1) * (1 - 1)
        rw [Fin.sub_self, Fin.mul_zero]
    · rw [Nat.zero_add, times_one]
      refine ⟨finv (1 - P0.y), ?_, ?_, ?_⟩
      · intro e
        have := finv_mul _ n1
        rw [e, Fin.mul_zero] at this
        exact ok.one this.symm
      · show F x = _
        have := finv_mul _ n1
        rw [← hu, Fin.mul_comm (F x), ← Fin.mul_assoc, Fin.mul_comm (finv _), this, Fin.one_mul]
      · show (1 : Fin pp) = _
        rw [Fin.mul_comm]
        exact (finv_mul _ n1).symm
  | k + 1, hk => by
    obtain ⟨r1, r2⟩ := lad_rep V x hx hV P0 hu n1 n2 k (by omega)
    have hn := half_next V k (by omega)
    have he : 255 - (k + 1) = 254 - k := by omega
    rw [he]
    have hok := lad_ok V x hx k
    show Rep (F (lswap (V / 2 ^ (254 - k)) (lstep x (lswap (V / 2 ^ (254 - k)) (lad V x k)))).a) (F (lswap (V / 2 ^ (254 - k)) (lstep x (lswap (V / 2 ^ (254 - k)) (lad V x k)))).b) _ ∧ Rep (F (lswap (V / 2 ^ (254 - k)) (lstep x (lswap (V / 2 ^ (254 - k)) (lad V x k)))).c) (F (lswap (V / 2 ^ (254 - k)) (lstep x (lswap (V / 2 ^ (254 - k)) (lad V x k)))).d) _
    generalize V / 2 ^ (254 - k) = b at *
    generalize V / 2 ^ (255 - k) = m at *
    generalize lad V x k = s at *
    obtain ⟨s1, s2⟩ := rep_swap b r1 r2
    have e1 : times ok (m + 1) P0 = add ok (times ok m P0) P0 := rfl
    by_cases hb : b % 2 = 1
    · rw [if_pos hb] at s1 s2
      obtain ⟨t1, t2⟩ := rep_step x (lswap b s) (lswap_ok b s hok) _ _ P0 s1 s2 (diff_y' _ _ P0 (by rw [e1, sub_neg])) hu n1 n2
      obtain ⟨u1, u2⟩ := rep_swap b t1 t2
      rw [if_pos hb] at u1 u2
      constructor
      · have : add ok (times ok (m + 1) P0) (times ok m P0) = times ok b P0 := by rw [← times_plus]; congr 1; omega
        rw [this] at u1
        exact u1
      · have : add ok (times ok (m + 1) P0) (times ok (m + 1) P0) = times ok (b + 1) P0 := by rw [← times_plus]; congr 1; omega
        rw [this] at u2
        exact u2
    · rw [if_neg hb] at s1 s2
      obtain ⟨t1, t2⟩ := rep_step x (lswap b s) (lswap_ok b s hok) _ _ P0 s1 s2 (diff_y _ _ P0 (by rw [e1, sub_neg])) hu n1 n2
      obtain ⟨u1, u2⟩ := rep_swap b t1 t2
      rw [if_neg hb] at u1 u2
      constructor
      · have : add ok (times ok m P0) (times ok m P0) = times ok b P0 := by rw [← times_plus]; congr 1; omega
        rw [this] at u1
        exact u1
      · have : add ok (times ok m P0) (times ok (m + 1) P0) = times ok (b + 1) P0 := by rw [← times_plus]; congr 1; omega
        rw [this] at u2
        exact u2
/-- A point's place on the other curve. -/
def uOf (P : Pt dd) : Fin pp := (1 + P.y) * finv (1 - P.y)
theorem finv_zero : finv 0 = 0 := by
  apply Fin.ext
  rw [finv_val, zero_val, pinv_zero]
theorem ladN_u (V x : Nat) (hx : x < pp) (hV : V < 2 ^ 255) (P0 : Pt dd) (hu : F x*(1 - P0.y) = 1 + P0.y) (n1 : 1 - P0.y ≠ 0) (n2 : 1 + P0.y ≠ 0) : F (ladN V x) = uOf (times ok V P0) := by
  obtain ⟨⟨l, hl, ea, eb⟩, _⟩ := lad_rep V x hx hV P0 hu n1 n2 255 (Nat.le_refl _)
  rw [Nat.sub_self, Nat.pow_zero, Nat.div_one] at ea eb
  unfold uOf
  rw [ladN_def, F_fm, F_inv _ (lad_ok V x hx 255).b, ea, eb]
  by_cases hy : 1 - (times ok V P0).y = 0
  · rw [hy, Fin.mul_zero, finv_zero, Fin.mul_zero, Fin.mul_zero]
  · exact u_of hl ok hy
end Go.Proofs.Ytgdhlafggdaipaa
