/- Places of small orders: the ladder answers 0. -/
import Derived.Test.YtgdhlafggdaipaaCd
namespace Go.Proofs.Ytgdhlafggdaipaa
open Go.RowKit
namespace Ed
section
variable {n : Nat} [NeZero n]
theorem eq4 {a b : Fin n} (h : a*b = 0) : (a+b)*(a+b) - (a-b)*(a-b) = 0 := by grind
theorem tri_dbl {a b e : Fin n} (he : e*e = 1) (h : a = e*b) : (a+b)*(a+b)*((a-b)*(a-b)) = 0 := by grind
theorem tri_add0 {a b c d e : Fin n} (he : e*e = 1) (h : a = 0) (h2 : c = 0 ∨ d = 0 ∨ c = e*d) (S T : Fin n) (hS : S = (c-d)*(a+b) + (c+d)*(a-b)) (hT : T = (c-d)*(a+b) - (c+d)*(a-b)) : S*S*(e*(T*T))*(S*S - e*(e*(T*T))) = 0 := by
  subst h
  rcases h2 with h2 | h2 | h2
  · have : T = 0 := by subst hT h2; grind
    rw [this]; grind
  · have : S = 0 := by subst hS h2; grind
    rw [this]; grind
  · have : S*S = T*T := by subst hS hT h2; grind
    rw [this]; grind
theorem tri_add1 {a b c d e : Fin n} (he : e*e = 1) (h : b = 0) (h2 : c = 0 ∨ d = 0 ∨ c = e*d) (S T : Fin n) (hS : S = (c-d)*(a+b) + (c+d)*(a-b)) (hT : T = (c-d)*(a+b) - (c+d)*(a-b)) : S*S*(e*(T*T))*(S*S - e*(e*(T*T))) = 0 := by
  subst h
  rcases h2 with h2 | h2 | h2
  · have : S = 0 := by subst hS h2; grind
    rw [this]; grind
  · have : T = 0 := by subst hT h2; grind
    rw [this]; grind
  · have : S*S = T*T := by subst hS hT h2; grind
    rw [this]; grind
theorem tri_add2 {a b c d e : Fin n} (he : e*e = 1) (h : a = e*b) (S T : Fin n) (hS : S = (c-d)*(a+b) + (c+d)*(a-b)) (hT : T = (c-d)*(a+b) - (c+d)*(a-b)) : S*S*(e*(T*T))*(S*S - e*(e*(T*T))) = 0 := by
  have : S*S = T*T := by subst hS hT h; grind
  rw [this]; grind
theorem eq_of {a b : Fin n} (h : a - b = 0) : a = b := by grind
end
end Ed
open Ed
/-- 0, infinity, or e. -/
def Tri (e : Fin pp) (a b : Nat) : Prop := F a*F b*(F a - e*F b) = 0
theorem Tri.cases {e : Fin pp} {a b : Nat} (h : Tri e a b) : F a = 0 ∨ F b = 0 ∨ F a = e*F b := by
  rcases ok.dom h with h1 | h1
  · rcases ok.dom h1 with h2 | h2
    · exact Or.inl h2
    · exact Or.inr (Or.inl h2)
  · exact Or.inr (Or.inr (eq_of h1))
theorem F_AA (a b : Nat) : F (lAA a b) = (F a + F b)*(F a + F b) := by unfold lAA; rw [F_fm, F_fa]
theorem F_BB (a b : Nat) (hb : b < pp) : F (lBB a b) = (F a - F b)*(F a - F b) := by unfold lBB; rw [F_fm, F_fs _ _ hb]
theorem F_E (a b : Nat) (hb : b < pp) : F (lE a b) = (F a + F b)*(F a + F b) - (F a - F b)*(F a - F b) := by
  unfold lE
  rw [F_fs _ _ (show lBB _ _ < pp from fm_lt _ _), F_BB _ _ hb, F_AA]
theorem dbl_zero {a b : Nat} (hb : b < pp) (h : F a*F b = 0) : F (lz2 a b) = 0 := by
  unfold lz2
  rw [F_fm, F_E _ _ hb, eq4 h, Fin.zero_mul]
theorem dbl_tri {e : Fin pp} (he : e*e = 1) {a b : Nat} (hb : b < pp) (h : Tri e a b) : F (lx2 a b) = 0 ∨ F (lz2 a b) = 0 := by
  rcases h.cases with h1 | h1 | h1
  · exact Or.inr (dbl_zero hb (by rw [h1, Fin.zero_mul]))
  · exact Or.inr (dbl_zero hb (by rw [h1, Fin.mul_zero]))
  · left
    unfold lx2
    rw [F_fm, F_AA, F_BB _ _ hb]
    exact tri_dbl he h1
theorem tri_of {e : Fin pp} {a b : Nat} (h : F a = 0 ∨ F b = 0) : Tri e a b := by
  unfold Tri
  rcases h with h | h
  · rw [h, Fin.zero_mul, Fin.zero_mul]
  · rw [h, Fin.mul_zero, Fin.zero_mul]
theorem tri_step {x : Nat} (he : F x*F x = 1) {s : Lst} (hs : s.Ok) (h1 : Tri (F x) s.a s.b) (h2 : Tri (F x) s.c s.d) : Tri (F x) (lstep x s).a (lstep x s).b ∧ Tri (F x) (lstep x s).c (lstep x s).d := by
  refine ⟨tri_of (dbl_tri he hs.b h1), ?_⟩
  show Tri (F x) (lx3 _ _ _ _) (lz3 x _ _ _ _)
  have eDA : F (lDA s.a s.b s.c s.d) = (F s.c - F s.d)*(F s.a + F s.b) := by unfold lDA; rw [F_fm, F_fs _ _ hs.d, F_fa]
  have eCB : F (lCB s.a s.b s.c s.d) = (F s.c + F s.d)*(F s.a - F s.b) := by unfold lCB; rw [F_fm, F_fs _ _ hs.b, F_fa]
  have eS : F (lSum s.a s.b s.c s.d) = (F s.c - F s.d)*(F s.a + F s.b) + (F s.c + F s.d)*(F s.a - F s.b) := by unfold lSum; rw [F_fa, eDA, eCB]
  have eT : F (lDif s.a s.b s.c s.d) = (F s.c - F s.d)*(F s.a + F s.b) - (F s.c + F s.d)*(F s.a - F s.b) := by unfold lDif; rw [F_fs _ _ (show lCB _ _ _ _ < pp from fm_lt _ _), eDA, eCB]
  unfold Tri lx3 lz3
  rw [F_fm, F_fm, F_fm]
  rcases h1.cases with h | h | h
  · exact tri_add0 he h h2.cases _ _ eS eT
  · exact tri_add1 he h h2.cases _ _ eS eT
  · exact tri_add2 he h _ _ eS eT
theorem tri_lad {x : Nat} (hx : x < pp) (he : F x*F x = 1) (V : Nat) : ∀ k, Tri (F x) (lad V x k).a (lad V x k).b ∧ Tri (F x) (lad V x k).c (lad V x k).d
  | 0 => ⟨tri_of (Or.inr rfl), by
    unfold Tri
    show F x*F 1*(F x - F x*F 1) = 0
    rw [F_one, Fin.mul_one, Fin.sub_self, Fin.mul_zero]⟩
  | k + 1 => by
    have hok := lad_ok V x hx k
    obtain ⟨h1, h2⟩ := tri_lad hx he V k
    show Tri (F x) (lswap _ (lstep x (lswap _ (lad V x k)))).a (lswap _ (lstep x (lswap _ (lad V x k)))).b ∧ Tri (F x) (lswap _ (lstep x (lswap _ (lad V x k)))).c (lswap _ (lstep x (lswap _ (lad V x k)))).d
    have sw : ∀ (b : Nat) (s : Lst), Tri (F x) s.a s.b → Tri (F x) s.c s.d → Tri (F x) (lswap b s).a (lswap b s).b ∧ Tri (F x) (lswap b s).c (lswap b s).d := fun b s g1 g2 => by
      unfold lswap swapped
      split
      · exact ⟨g2, g1⟩
      · exact ⟨g1, g2⟩
    obtain ⟨s1, s2⟩ := sw (V / 2 ^ (254 - k)) _ h1 h2
    obtain ⟨t1, t2⟩ := tri_step he (lswap_ok (V / 2 ^ (254 - k)) _ hok) s1 s2
    exact sw _ _ t1 t2
theorem lswap_off (b : Nat) (h : b % 2 = 0) (s : Lst) : lswap b s = s := by
  unfold lswap swapped
  rw [if_neg (by omega), if_neg (by omega), if_neg (by omega), if_neg (by omega)]
theorem lad_off (V x k : Nat) (h : V / 2 ^ (254 - k) % 2 = 0) : lad V x (k + 1) = lstep x (lad V x k) := by
  show lswap _ (lstep x (lswap _ (lad V x k))) = _
  rw [lswap_off _ h, lswap_off _ h]
theorem F_eq0 {a : Nat} (ha : a < pp) (h : F a = 0) : a = 0 := by
  have := congrArg Fin.val h
  rw [F_val ha] at this
  exact this
theorem ladN_b0 (V x : Nat) (h : (lad V x 255).b = 0) : ladN V x = 0 := by
  rw [ladN_def, h, pinv_zero]
  unfold fm
  rw [Nat.mul_zero, Nat.zero_mod]
theorem small_tri (V x : Nat) (hx : x < pp) (he : F x*F x = 1) (hV : V % 8 = 0) : ladN V x = 0 := by
  have h0 := (tri_lad hx he V 252).1
  have k0 := lad_ok V x hx 252
  have e1 := lad_off V x 252 (by show V / 2 ^ 2 % 2 = 0; omega)
  have e2 := lad_off V x 253 (by show V / 2 ^ 1 % 2 = 0; omega)
  have e3 := lad_off V x 254 (by show V / 2 ^ 0 % 2 = 0; omega)
  have k1 := lad_ok V x hx 253
  have k2 := lad_ok V x hx 254
  have k3 := lad_ok V x hx 255
  have d1 := dbl_tri he k0.b h0
  have p1 : F (lad V x 253).a*F (lad V x 253).b = 0 := by
    rw [e1]
    show F (lx2 _ _)*F (lz2 _ _) = 0
    rcases d1 with d1 | d1
    · rw [d1, Fin.zero_mul]
    · rw [d1, Fin.mul_zero]
  have d2 := dbl_zero k1.b p1
  have p2 : F (lad V x 254).a*F (lad V x 254).b = 0 := by
    rw [e2]
    show F (lx2 _ _)*F (lz2 _ _) = 0
    rw [d2, Fin.mul_zero]
  have d3 := dbl_zero k2.b p2
  refine ladN_b0 V x (F_eq0 k3.b ?_)
  rw [e3]
  exact d3
/-- The place 0. -/
theorem zero_lad (V : Nat) : ∀ k, (F (lad V 0 k).a*F (lad V 0 k).b = 0 ∧ F (lad V 0 k).c*F (lad V 0 k).d = 0) ∧ (0 < k → (lad V 0 k).b = 0 ∧ (lad V 0 k).d = 0)
  | 0 => ⟨⟨rfl, rfl⟩, fun h => by omega⟩
  | k + 1 => by
    have hok := lad_ok V 0 pp_pos k
    obtain ⟨⟨h1, h2⟩, _⟩ := zero_lad V k
    have sw1 : F (lswap (V / 2 ^ (254 - k)) (lad V 0 k)).a*F (lswap (V / 2 ^ (254 - k)) (lad V 0 k)).b = 0 := by
      unfold lswap swapped
      split
      · exact h2
      · exact h1
    have hs := lswap_ok (V / 2 ^ (254 - k)) _ hok
    have hz : (lstep 0 (lswap (V / 2 ^ (254 - k)) (lad V 0 k))).b = 0 := F_eq0 (lstep_ok _ _).b (dbl_zero hs.b sw1)
    have hd : (lstep 0 (lswap (V / 2 ^ (254 - k)) (lad V 0 k))).d = 0 := by
      show fm 0 _ = 0
      unfold fm
      rw [Nat.zero_mul, Nat.zero_mod]
    have hb : (lad V 0 (k + 1)).b = 0 ∧ (lad V 0 (k + 1)).d = 0 := by
      show (lswap (V / 2 ^ (254 - k)) (lstep 0 (lswap (V / 2 ^ (254 - k)) (lad V 0 k)))).b = 0 ∧ (lswap (V / 2 ^ (254 - k)) (lstep 0 (lswap (V / 2 ^ (254 - k)) (lad V 0 k)))).d = 0
      generalize lstep 0 _ = s at *
      unfold lswap swapped
      split
      · exact ⟨hd, hz⟩
      · exact ⟨hz, hd⟩
    refine ⟨⟨?_, ?_⟩, fun _ => hb⟩
    · rw [hb.1, F_zero, Fin.mul_zero]
    · rw [hb.2, F_zero, Fin.mul_zero]
theorem small_zero (V : Nat) : ladN V 0 = 0 := ladN_b0 V 0 ((zero_lad V 255).2 (by decide)).1
end Go.Proofs.Ytgdhlafggdaipaa
