/- The group of the curve y^2 - x^2 = 1 + d x^2 y^2 over the numbers modulo n, where each number but 0 has an inverse, -1 is a square and -d is none: from first principles. -/
import Derived.Test.YtmceebdaaegkeaaDoorFa
import Derived.Test.YtmceebdaaegkeaaDoorFn
import Derived.Test.YtmceebdaaegkeaaDoorNd
import Derived.Test.YtmceebdaaegkeaaDoorNc
/- Points of the curve, their sums and multiples: a group. -/
/- The ladder's steps, by points of the curve: (1 + y) : (1 - y). -/
namespace Go.Proofs.YtmceebdaaegkeaaDoor
namespace Ed
set_option maxHeartbeats 4000000

theorem assoc_x {n : Nat} [NeZero n] (x1 y1 x2 y2 x3 y3 d : Fin n) (h1 : y1*y1 - x1*x1 = 1 + d*x1*x1*y1*y1) (h2 : y2*y2 - x2*x2 = 1 + d*x2*x2*y2*y2) (h3 : y3*y3 - x3*x3 = 1 + d*x3*x3*y3*y3) :
    ((x1*y2+y1*x2)*(1 - d*x1*x2*y1*y2)*y3 + (y1*y2+x1*x2)*(1+d*x1*x2*y1*y2)*x3) * ((1 - d*x2*x3*y2*y3*(d*x2*x3*y2*y3)) + d*(x2*y3+y2*x3)*(y2*y3+x2*x3)*x1*y1)
    = ((x2*y3+y2*x3)*(1 - d*x2*x3*y2*y3)*y1 + (y2*y3+x2*x3)*(1+d*x2*x3*y2*y3)*x1) * ((1 - d*x1*x2*y1*y2*(d*x1*x2*y1*y2)) + d*(x1*y2+y1*x2)*(y1*y2+x1*x2)*x3*y3) := by grind
theorem assoc_y {n : Nat} [NeZero n] (x1 y1 x2 y2 x3 y3 d : Fin n) (h1 : y1*y1 - x1*x1 = 1 + d*x1*x1*y1*y1) (h2 : y2*y2 - x2*x2 = 1 + d*x2*x2*y2*y2) (h3 : y3*y3 - x3*x3 = 1 + d*x3*x3*y3*y3) :
    ((y1*y2+x1*x2)*(1 + d*x1*x2*y1*y2)*y3 + (x1*y2+y1*x2)*(1-d*x1*x2*y1*y2)*x3) * ((1 - d*x2*x3*y2*y3*(d*x2*x3*y2*y3)) - d*(x2*y3+y2*x3)*(y2*y3+x2*x3)*x1*y1)
    = ((y2*y3+x2*x3)*(1 + d*x2*x3*y2*y3)*y1 + (x2*y3+y2*x3)*(1-d*x2*x3*y2*y3)*x1) * ((1 - d*x1*x2*y1*y2*(d*x1*x2*y1*y2)) - d*(x1*y2+y1*x2)*(y1*y2+x1*x2)*x3*y3) := by grind
theorem on_poly {n : Nat} [NeZero n] (x1 y1 x2 y2 d : Fin n) (h1 : y1*y1 - x1*x1 = 1 + d*x1*x1*y1*y1) (h2 : y2*y2 - x2*x2 = 1 + d*x2*x2*y2*y2) :
    (y1*y2+x1*x2)*(y1*y2+x1*x2)*((1+d*x1*x2*y1*y2)*(1+d*x1*x2*y1*y2)) - (x1*y2+y1*x2)*(x1*y2+y1*x2)*((1-d*x1*x2*y1*y2)*(1-d*x1*x2*y1*y2))
    = (1+d*x1*x2*y1*y2)*(1+d*x1*x2*y1*y2)*((1-d*x1*x2*y1*y2)*(1-d*x1*x2*y1*y2)) + d*((x1*y2+y1*x2)*(x1*y2+y1*x2))*((y1*y2+x1*x2)*(y1*y2+x1*x2)) := by grind
theorem on_div {n : Nat} [NeZero n] (X Y p q a b d : Fin n) (ha : p*a = 1) (hb : q*b = 1) (h : Y*Y*(p*p) - X*X*(q*q) = p*p*(q*q) + d*(X*X)*(Y*Y)) : Y*b*(Y*b) - X*a*(X*a) = 1 + d*(X*a)*(X*a)*(Y*b)*(Y*b) := by
  have e : (Y*Y*(p*p) - X*X*(q*q)) * (a*a*(b*b)) = (p*p*(q*q) + d*(X*X)*(Y*Y)) * (a*a*(b*b)) := by rw [h]
  grind
theorem full_plus {n : Nat} [NeZero n] (x1 y1 x2 y2 d i e : Fin n) (hi : i*i + 1 = 0) (h1 : y1*y1 - x1*x1 = 1 + d*x1*x1*y1*y1) (h2 : y2*y2 - x2*x2 = 1 + d*x2*x2*y2*y2) (he : e = d*x1*x2*y1*y2) (h : e*e = 1) :
    (i*x1 + e*y1)*(i*x1+e*y1) = d*(x1*y1*(i*x2+y2))*(x1*y1*(i*x2+y2)) := by grind
theorem full_minus {n : Nat} [NeZero n] (x1 y1 x2 y2 d i e : Fin n) (hi : i*i + 1 = 0) (h1 : y1*y1 - x1*x1 = 1 + d*x1*x1*y1*y1) (h2 : y2*y2 - x2*x2 = 1 + d*x2*x2*y2*y2) (he : e = d*x1*x2*y1*y2) (h : e*e = 1) :
    (i*x1 - e*y1)*(i*x1-e*y1) = d*(x1*y1*(i*x2-y2))*(x1*y1*(i*x2-y2)) := by grind

/-- What is asked of the numbers. -/
structure Ok (n : Nat) [NeZero n] (d i : Fin n) (inv : Fin n → Fin n) : Prop where
  hi : i*i + 1 = 0
  hinv : ∀ a, a ≠ 0 → a * inv a = 1
  nsq : ∀ t, t*t + d ≠ 0
  two : (1 + 1 : Fin n) ≠ 0
section
variable {n : Nat} [NeZero n] {d i : Fin n} {inv : Fin n → Fin n}
theorem Ok.dom (h : Ok n d i inv) {a b : Fin n} (hab : a*b = 0) : a = 0 ∨ b = 0 := by
  by_cases ha : a = 0
  · exact Or.inl ha
  · right
    have := h.hinv a ha
    grind
theorem Ok.mul_ne (h : Ok n d i inv) {a b : Fin n} (ha : a ≠ 0) (hb : b ≠ 0) : a*b ≠ 0 := fun e => (h.dom e).elim ha hb
theorem Ok.one (h : Ok n d i inv) : (1 : Fin n) ≠ 0 := fun e => h.two (by rw [e]; grind)
theorem Ok.cancel (h : Ok n d i inv) {a b c : Fin n} (hc : c ≠ 0) (e : a*c = b*c) : a = b := by
  have h1 : (a - b)*c = 0 := by grind
  rcases h.dom h1 with h2 | h2
  · grind
  · exact absurd h2 hc
def On (d x y : Fin n) : Prop := y*y - x*x = 1 + d*x*x*y*y
theorem Ok.full (h : Ok n d i inv) {x1 y1 x2 y2 : Fin n} (h1 : On d x1 y1) (h2 : On d x2 y2) : d*x1*x2*y1*y2*(d*x1*x2*y1*y2) ≠ 1 := fun he => by
  have f1 := full_plus x1 y1 x2 y2 d i _ h.hi h1 h2 rfl he
  have f2 := full_minus x1 y1 x2 y2 d i _ h.hi h1 h2 rfl he
  have n1 : x1*y1 ≠ 0 := fun h0 => h.one (by grind)
  have ny : y2 ≠ 0 := fun h0 => h.one (by grind)
  have sq : ∀ r s : Fin n, s ≠ 0 → r*r = d*s*s → False := fun r s hs e => by
    have hv := h.hinv s hs
    exact h.nsq (i*(r*inv s)) (by have := h.hi; grind)
  by_cases c1 : i*x2 + y2 = 0
  · by_cases c2 : i*x2 - y2 = 0
    · have : (1 + 1)*y2 = 0 := by grind
      exact (h.dom this).elim h.two ny
    · exact sq _ _ (h.mul_ne n1 c2) f2
  · exact sq _ _ (h.mul_ne n1 c1) f1
theorem Ok.full1 (h : Ok n d i inv) {x1 y1 x2 y2 : Fin n} (h1 : On d x1 y1) (h2 : On d x2 y2) : 1 + d*x1*x2*y1*y2 ≠ 0 := fun e => h.full h1 h2 (by grind)
theorem Ok.full2 (h : Ok n d i inv) {x1 y1 x2 y2 : Fin n} (h1 : On d x1 y1) (h2 : On d x2 y2) : 1 - d*x1*x2*y1*y2 ≠ 0 := fun e => h.full h1 h2 (by grind)
end
end Ed
end Go.Proofs.YtmceebdaaegkeaaDoor
namespace Go.Proofs.YtmceebdaaegkeaaDoor
namespace Ed
set_option maxHeartbeats 4000000

structure Pt {n : Nat} [NeZero n] (d : Fin n) where
  x : Fin n
  y : Fin n
  on : On d x y
theorem Pt.same {n : Nat} [NeZero n] {d : Fin n} {P Q : Pt d} (hx : P.x = Q.x) (hy : P.y = Q.y) : P = Q := by
  cases P
  cases Q
  cases hx
  cases hy
  rfl
section
variable {n : Nat} [NeZero n] {d i : Fin n} {inv : Fin n → Fin n}
theorem Ok.sum_on (h : Ok n d i inv) {x1 y1 x2 y2 : Fin n} (h1 : On d x1 y1) (h2 : On d x2 y2) : On d ((x1*y2+y1*x2) * inv (1 + d*x1*x2*y1*y2)) ((y1*y2+x1*x2) * inv (1 - d*x1*x2*y1*y2)) :=
  on_div _ _ _ _ _ _ d (h.hinv _ (h.full1 h1 h2)) (h.hinv _ (h.full2 h1 h2)) (on_poly x1 y1 x2 y2 d h1 h2)
def add (h : Ok n d i inv) (P Q : Pt d) : Pt d := ⟨_, _, h.sum_on P.on Q.on⟩
theorem add_x (h : Ok n d i inv) (P Q : Pt d) : (add h P Q).x * (1 + d*P.x*Q.x*P.y*Q.y) = P.x*Q.y + P.y*Q.x := by
  have := h.hinv _ (h.full1 P.on Q.on)
  show (P.x*Q.y+P.y*Q.x) * inv (1 + d*P.x*Q.x*P.y*Q.y) * (1 + d*P.x*Q.x*P.y*Q.y) = _
  generalize inv (1 + d*P.x*Q.x*P.y*Q.y) = k at *
  grind
theorem add_y (h : Ok n d i inv) (P Q : Pt d) : (add h P Q).y * (1 - d*P.x*Q.x*P.y*Q.y) = P.y*Q.y + P.x*Q.x := by
  have := h.hinv _ (h.full2 P.on Q.on)
  show (P.y*Q.y+P.x*Q.x) * inv (1 - d*P.x*Q.x*P.y*Q.y) * (1 - d*P.x*Q.x*P.y*Q.y) = _
  generalize inv (1 - d*P.x*Q.x*P.y*Q.y) = k at *
  grind
/-- A point is known by what its parts times what isn't 0 are. -/
theorem pt_eq (h : Ok n d i inv) {P Q : Pt d} {r s : Fin n} (hr : r ≠ 0) (hs : s ≠ 0) (hx : P.x*r = Q.x*r) (hy : P.y*s = Q.y*s) : P = Q :=
  Pt.same (h.cancel hr hx) (h.cancel hs hy)
theorem add_comm (h : Ok n d i inv) (P Q : Pt d) : add h P Q = add h Q P := by
  have e1 := add_x h P Q
  have e2 := add_x h Q P
  have e3 := add_y h P Q
  have e4 := add_y h Q P
  refine pt_eq h (h.full1 P.on Q.on) (h.full2 P.on Q.on) ?_ ?_
  · grind
  · grind
def zero (d : Fin n) : Pt d := ⟨0, 1, by unfold On; grind⟩
def neg (P : Pt d) : Pt d := ⟨-P.x, P.y, by have := P.on; unfold On at *; grind⟩
theorem add_zero (h : Ok n d i inv) (P : Pt d) : add h P (zero d) = P := by
  have e1 := add_x h P (zero d)
  have e2 := add_y h P (zero d)
  have x0 : (zero d).x = 0 := rfl
  have y0 : (zero d).y = 1 := rfl
  rw [x0, y0] at e1 e2
  exact Pt.same (by grind) (by grind)
theorem zero_add (h : Ok n d i inv) (P : Pt d) : add h (zero d) P = P := by rw [add_comm, add_zero]
theorem add_neg (h : Ok n d i inv) (P : Pt d) : add h P (neg P) = zero d := by
  have e1 := add_x h P (neg P)
  have e2 := add_y h P (neg P)
  have x0 : (neg P).x = -P.x := rfl
  have y0 : (neg P).y = P.y := rfl
  have c1 := h.full1 P.on (neg P).on
  have c2 := h.full2 P.on (neg P).on
  have ho := P.on
  unfold On at ho
  rw [x0, y0] at e1 e2 c1 c2
  have zx : (zero d).x = 0 := rfl
  have zy : (zero d).y = 1 := rfl
  refine pt_eq h c1 c2 ?_ ?_
  · rw [zx]; grind
  · rw [zy]; grind
theorem tri1 {L p q K a b u v : Fin n} (c : L*K = a*u + b*v) : L*(p*q*K) = a*p*q*u + b*q*p*v := by grind
theorem tri2 {L p q K a b u v : Fin n} (c : L*K = v*b + u*a) : L*(p*q*K) = a*p*q*u + b*q*p*v := by grind
theorem tri3 {L p q K a b u v : Fin n} (c : L*K = a*u + b*v) : L*(p*q*K) = a*q*p*u + b*p*q*v := by grind
theorem tri4 {L p q K a b u v : Fin n} (c : L*K = u*a + v*b) : L*(p*q*K) = a*q*p*u + b*p*q*v := by grind
theorem tri5 (D a b u v : Fin n) : (1+D)*(1-D)*(1 + d*a*u*b*v) = (1 - D*D) + d*(a*(1+D))*(b*(1-D))*u*v := by grind
theorem tri6 (D a b u v : Fin n) : (1+D)*(1-D)*(1 + d*u*a*v*b) = (1 - D*D) + d*(a*(1+D))*(b*(1-D))*u*v := by grind
theorem tri7 (D a b u v : Fin n) : (1+D)*(1-D)*(1 - d*a*u*b*v) = (1 - D*D) - d*(a*(1+D))*(b*(1-D))*u*v := by grind
theorem tri8 (D a b u v : Fin n) : (1+D)*(1-D)*(1 - d*u*a*v*b) = (1 - D*D) - d*(a*(1+D))*(b*(1-D))*u*v := by grind
theorem tri9 {A B X Y : Fin n} (e : X*A*B = Y*B*A) : X*(A*B) = Y*(A*B) := by grind
theorem add_assoc (h : Ok n d i inv) (P Q R : Pt d) : add h (add h P Q) R = add h P (add h Q R) := by
  have a1 := add_x h P Q
  have a2 := add_y h P Q
  have b1 := add_x h Q R
  have b2 := add_y h Q R
  have c1 := add_x h (add h P Q) R
  have c2 := add_y h (add h P Q) R
  have d1 := add_x h P (add h Q R)
  have d2 := add_y h P (add h Q R)
  have n1 := h.full1 P.on Q.on
  have n2 := h.full2 P.on Q.on
  have n3 := h.full1 Q.on R.on
  have n4 := h.full2 Q.on R.on
  have m1 := h.full1 (add h P Q).on R.on
  have m2 := h.full2 (add h P Q).on R.on
  have m3 := h.full1 P.on (add h Q R).on
  have m4 := h.full2 P.on (add h Q R).on
  have ax := assoc_x P.x P.y Q.x Q.y R.x R.y d P.on Q.on R.on
  have ay := assoc_y P.x P.y Q.x Q.y R.x R.y d P.on Q.on R.on
  generalize add h (add h P Q) R = L at *
  generalize add h P (add h Q R) = L' at *
  generalize add h P Q = S at *
  generalize add h Q R = T at *
  have ho := L.on
  clear ho
  obtain ⟨x1, y1, h1⟩ := P
  obtain ⟨x2, y2, h2⟩ := Q
  obtain ⟨x3, y3, h3⟩ := R
  obtain ⟨sx, sy, hs⟩ := S
  obtain ⟨tx, ty, ht⟩ := T
  obtain ⟨lx, ly, hl⟩ := L
  obtain ⟨mx, my, hm⟩ := L'
  simp only at *
  have k1 : lx * ((1 + d*x1*x2*y1*y2)*(1 - d*x1*x2*y1*y2)*(1 + d*sx*x3*sy*y3)) = (x1*y2+y1*x2)*(1 - d*x1*x2*y1*y2)*y3 + (y1*y2+x1*x2)*(1+d*x1*x2*y1*y2)*x3 := by
    rw [← a1, ← a2]
    exact tri1 c1
  have k2 : mx * ((1 + d*x2*x3*y2*y3)*(1 - d*x2*x3*y2*y3)*(1 + d*x1*tx*y1*ty)) = (x2*y3+y2*x3)*(1 - d*x2*x3*y2*y3)*y1 + (y2*y3+x2*x3)*(1+d*x2*x3*y2*y3)*x1 := by
    rw [← b1, ← b2]
    exact tri2 d1
  have k3 : (1 + d*x1*x2*y1*y2)*(1 - d*x1*x2*y1*y2)*(1 + d*sx*x3*sy*y3) = (1 - d*x1*x2*y1*y2*(d*x1*x2*y1*y2)) + d*(x1*y2+y1*x2)*(y1*y2+x1*x2)*x3*y3 := by
    rw [← a1, ← a2]
    exact tri5 _ _ _ _ _
  have k4 : (1 + d*x2*x3*y2*y3)*(1 - d*x2*x3*y2*y3)*(1 + d*x1*tx*y1*ty) = (1 - d*x2*x3*y2*y3*(d*x2*x3*y2*y3)) + d*(x2*y3+y2*x3)*(y2*y3+x2*x3)*x1*y1 := by
    rw [← b1, ← b2]
    exact tri6 _ _ _ _ _
  have k5 : ly * ((1 + d*x1*x2*y1*y2)*(1 - d*x1*x2*y1*y2)*(1 - d*sx*x3*sy*y3)) = (y1*y2+x1*x2)*(1 + d*x1*x2*y1*y2)*y3 + (x1*y2+y1*x2)*(1-d*x1*x2*y1*y2)*x3 := by
    rw [← a1, ← a2]
    exact tri3 c2
  have k6 : my * ((1 + d*x2*x3*y2*y3)*(1 - d*x2*x3*y2*y3)*(1 - d*x1*tx*y1*ty)) = (y2*y3+x2*x3)*(1 + d*x2*x3*y2*y3)*y1 + (x2*y3+y2*x3)*(1-d*x2*x3*y2*y3)*x1 := by
    rw [← b1, ← b2]
    exact tri4 d2
  have k7 : (1 + d*x1*x2*y1*y2)*(1 - d*x1*x2*y1*y2)*(1 - d*sx*x3*sy*y3) = (1 - d*x1*x2*y1*y2*(d*x1*x2*y1*y2)) - d*(x1*y2+y1*x2)*(y1*y2+x1*x2)*x3*y3 := by
    rw [← a1, ← a2]
    exact tri7 _ _ _ _ _
  have k8 : (1 + d*x2*x3*y2*y3)*(1 - d*x2*x3*y2*y3)*(1 - d*x1*tx*y1*ty) = (1 - d*x2*x3*y2*y3*(d*x2*x3*y2*y3)) - d*(x2*y3+y2*x3)*(y2*y3+x2*x3)*x1*y1 := by
    rw [← b1, ← b2]
    exact tri8 _ _ _ _ _
  rw [← k1, ← k2, ← k3, ← k4] at ax
  rw [← k5, ← k6, ← k7, ← k8] at ay
  clear k1 k2 k3 k4 k5 k6 k7 k8 a1 a2 b1 b2 c1 c2 d1 d2
  have M1 := h.mul_ne (h.mul_ne n1 n2) m1
  have M2 := h.mul_ne (h.mul_ne n3 n4) m3
  have M3 := h.mul_ne (h.mul_ne n1 n2) m2
  have M4 := h.mul_ne (h.mul_ne n3 n4) m4
  generalize (1 + d*x1*x2*y1*y2)*(1 - d*x1*x2*y1*y2)*(1 + d*sx*x3*sy*y3) = A1 at *
  generalize (1 + d*x2*x3*y2*y3)*(1 - d*x2*x3*y2*y3)*(1 + d*x1*tx*y1*ty) = A2 at *
  generalize (1 + d*x1*x2*y1*y2)*(1 - d*x1*x2*y1*y2)*(1 - d*sx*x3*sy*y3) = A3 at *
  generalize (1 + d*x2*x3*y2*y3)*(1 - d*x2*x3*y2*y3)*(1 - d*x1*tx*y1*ty) = A4 at *
  refine pt_eq h (h.mul_ne M1 M2) (h.mul_ne M3 M4) ?_ ?_
  · exact tri9 ax
  · exact tri9 ay
/-- A point, so many times. -/
def times (h : Ok n d i inv) : Nat → Pt d → Pt d
  | 0, _ => zero d
  | k + 1, P => add h (times h k P) P
theorem times_one (h : Ok n d i inv) (P : Pt d) : times h 1 P = P := zero_add h P
theorem times_zero (h : Ok n d i inv) : ∀ k, times h k (zero d) = zero d
  | 0 => rfl
  | k + 1 => by rw [times, times_zero h k, add_zero]
theorem times_plus (h : Ok n d i inv) (a : Nat) (P : Pt d) : ∀ b, times h (a + b) P = add h (times h a P) (times h b P)
  | 0 => by rw [Nat.add_zero, times, add_zero]
  | b + 1 => by rw [← Nat.add_assoc, times, times_plus h a P b, times, add_assoc]
theorem times_sum (h : Ok n d i inv) (P Q : Pt d) : ∀ k, times h k (add h P Q) = add h (times h k P) (times h k Q)
  | 0 => by rw [times, times, times, add_zero]
  | k + 1 => by
    rw [times, times, times, times_sum h P Q k, add_assoc, add_assoc, ← add_assoc h (times h k Q), add_comm h (times h k Q) P, add_assoc]
theorem times_times (h : Ok n d i inv) (a : Nat) (P : Pt d) : ∀ b, times h (a * b) P = times h b (times h a P)
  | 0 => rfl
  | b + 1 => by rw [Nat.mul_succ, times_plus, times_times h a P b, times]
theorem times_swap (h : Ok n d i inv) (a b : Nat) (P : Pt d) : times h a (times h b P) = times h b (times h a P) := by
  rw [← times_times, ← times_times, Nat.mul_comm]
theorem cancel_add (h : Ok n d i inv) {P Q R : Pt d} (e : add h P R = add h Q R) : P = Q := by
  have := congrArg (fun T => add h T (neg R)) e
  simp only [add_assoc, add_neg, add_zero] at this
  exact this
/-- Multiples that are nothing, both of them, and their greatest common divisor's. -/
theorem times_gcd (h : Ok n d i inv) (P : Pt d) : ∀ (a b : Nat), times h a P = zero d → times h b P = zero d → times h (Nat.gcd a b) P = zero d := by
  intro a
  induction a using Nat.strongRecOn with
  | _ a ih =>
    intro b ha hb
    rcases Nat.eq_zero_or_pos a with h0 | h0
    · rw [h0, Nat.gcd_zero_left]
      exact hb
    · rw [Nat.gcd_rec]
      refine ih _ (Nat.mod_lt _ h0) a ?_ ha
      have e := Nat.div_add_mod b a
      rw [← e, times_plus, times_times, ha, times_zero, zero_add] at hb
      exact hb
end
end Ed
end Go.Proofs.YtmceebdaaegkeaaDoor
namespace Go.Proofs.YtmceebdaaegkeaaDoor
namespace Ed
set_option maxHeartbeats 4000000
section
variable {n : Nat} [NeZero n] {d i : Fin n} {inv : Fin n → Fin n}
def Rep (U W : Fin n) (P : Pt d) : Prop := ∃ l, l ≠ 0 ∧ U = l*(1 + P.y) ∧ W = l*(1 - P.y)

theorem conic {x y c : Fin n} (hc : (c + 1)*d + c = 0) (ho : y*y - x*x = 1 + d*x*x*y*y) : (1 + x*x)*(1 + c - c*(y*y)) = y*y := by grind
theorem dbl_u {l x y c q y' : Fin n} (hf : (1 + x*x)*(1 + c - c*(y*y)) = y*y) (hq : q = 2 - y*y + x*x) (hy : y'*q = y*y + x*x) :
    (l*(1+y) + l*(1-y))*(l*(1+y) + l*(1-y))*((l*(1+y) - l*(1-y))*(l*(1+y) - l*(1-y))) = 8*(l*l*(l*l))*q*(1 + c - c*(y*y))*(1 + y') := by grind
theorem dbl_w {l x y c q y' : Fin n} (hf : (1 + x*x)*(1 + c - c*(y*y)) = y*y) (hq : q = 2 - y*y + x*x) (hy : y'*q = y*y + x*x) :
    ((l*(1+y) + l*(1-y))*(l*(1+y) + l*(1-y)) - (l*(1+y) - l*(1-y))*(l*(1+y) - l*(1-y)))*((l*(1+y) + l*(1-y))*(l*(1+y) + l*(1-y)) + c*((l*(1+y) + l*(1-y))*(l*(1+y) + l*(1-y)) - (l*(1+y) - l*(1-y))*(l*(1+y) - l*(1-y)))) = 8*(l*l*(l*l))*q*(1 + c - c*(y*y))*(1 - y') := by grind
theorem q_eq {x y : Fin n} (ho : y*y - x*x = 1 + d*x*x*y*y) : 1 - d*x*x*y*y = 2 - y*y + x*x := by grind

theorem eight_is : ((1 + 1 : Fin n)*(1 + 1)*(1 + 1) : Fin n) = 8 := by grind
theorem four_is : ((1 + 1 : Fin n)*(1 + 1) : Fin n) = 4 := by grind
theorem Ok.eight (h : Ok n d i inv) : (8 : Fin n) ≠ 0 := (eight_is (n := n)) ▸ h.mul_ne (h.mul_ne h.two h.two) h.two
theorem Ok.four (h : Ok n d i inv) : (4 : Fin n) ≠ 0 := (four_is (n := n)) ▸ h.mul_ne h.two h.two
/-- Twice a point. -/
theorem rep_dbl (h : Ok n d i inv) {c : Fin n} (hc : (c + 1)*d + c = 0) (hc1 : c + 1 ≠ 0) {U W : Fin n} {P : Pt d} (hr : Rep U W P) :
    Rep ((U+W)*(U+W)*((U-W)*(U-W))) (((U+W)*(U+W) - (U-W)*(U-W))*((U+W)*(U+W) + c*((U+W)*(U+W) - (U-W)*(U-W)))) (add h P P) := by
  obtain ⟨l, hl, rfl, rfl⟩ := hr
  have ho := P.on
  unfold On at ho
  have hy := add_y h P P
  have hq0 := h.full2 P.on P.on
  have hf := conic hc ho
  have hq := q_eq ho
  generalize (add h P P) = S at *
  obtain ⟨x, y, on⟩ := P
  obtain ⟨sx, sy, son⟩ := S
  simp only at *
  generalize 1 - d*x*x*y*y = q at *
  refine ⟨8*(l*l*(l*l))*q*(1 + c - c*(y*y)), ?_, dbl_u hf hq hy, dbl_w hf hq hy⟩
  refine h.mul_ne (h.mul_ne (h.mul_ne h.eight (h.mul_ne (h.mul_ne hl hl) (h.mul_ne hl hl))) hq0) ?_
  intro e
  rw [e] at hf
  have y0 : y*y = 0 := by rw [← hf]; exact Fin.mul_zero _
  rw [y0] at e
  apply hc1
  grind

theorem diff_add {x1 y1 x3 y3 : Fin n} (h1 : y1*y1 - x1*x1 = 1 + d*x1*x1*y1*y1) (h3 : y3*y3 - x3*x3 = 1 + d*x3*x3*y3*y3) :
    ((1 - d*x1*x3*y1*y3) - (y1*y3 + x1*x3)) * ((1 + d*x1*x3*y1*y3) - (y1*y3 - x1*x3)) * ((y1+y3)*(y1+y3)) = ((1 - d*x1*x3*y1*y3) + (y1*y3 + x1*x3)) * ((1 + d*x1*x3*y1*y3) + (y1*y3 - x1*x3)) * ((y3-y1)*(y3-y1)) := by grind
theorem diff2 {p q s t y' y0 S T : Fin n} (hs : y'*p = s) (ht : y0*q = t) (e : (p - s)*(q - t)*S = (p + s)*(q + t)*T) : ((1 - y')*(1 - y0)*S)*(p*q) = ((1 + y')*(1 + y0)*T)*(p*q) := by grind
theorem flip_add (a b : Fin n) : a + b = b + a := by grind
theorem diff3a {a y0 k p : Fin n} : a*(4*k*p*(4*k*p))*(1 - y0) = a*(1 - y0)*(p*p)*(16*k*k) := by grind
theorem diff3b {a b k p : Fin n} : a*b*(p*p)*(16*k*k) = a*(4*k*p*(4*k*p))*b := by grind
theorem diff3c {a u b T : Fin n} : a*T*(u*b) = a*(u*T)*b := by grind
theorem diff3 {y' y0 u l m y1 y3 : Fin n} (hu : u*(1 - y0) = 1 + y0) (e : (1 - y')*(1 - y0)*((y1+y3)*(y1+y3)) = (1 + y')*(1 + y0)*((y3-y1)*(y3-y1))) (S T : Fin n) (hS : S = 4*(l*m)*(y3+y1)) (hT : T = 4*(l*m)*(y3-y1)) :
    ((1 - y')*(S*S))*(1 - y0) = ((1 + y')*(u*(T*T)))*(1 - y0) := by
  rw [hS, diff3a, flip_add y3 y1, e, diff3b, ← hT, ← hu, diff3c]
theorem sum_ls {l m y1 y3 : Fin n} : (m*(1+y3) - m*(1-y3))*(l*(1+y1) + l*(1-y1)) + (m*(1+y3) + m*(1-y3))*(l*(1+y1) - l*(1-y1)) = 4*(l*m)*(y3+y1) := by grind
theorem dif_ls {l m y1 y3 : Fin n} : (m*(1+y3) - m*(1-y3))*(l*(1+y1) + l*(1-y1)) - (m*(1+y3) + m*(1-y3))*(l*(1+y1) - l*(1-y1)) = 4*(l*m)*(y3-y1) := by grind
theorem rep_of (h : Ok n d i inv) {X Z : Fin n} (P : Pt d) (e : (1 - P.y)*X = (1 + P.y)*Z) (hne : ¬ (X = 0 ∧ Z = 0)) : Rep X Z P := by
  have h2 := h.hinv _ h.two
  have ex : X = (X + Z)*inv (1+1)*(1 + P.y) := by generalize inv (1+1) = k at *; generalize P.y = y at *; grind
  have ez : Z = (X + Z)*inv (1+1)*(1 - P.y) := by generalize inv (1+1) = k at *; generalize P.y = y at *; grind
  refine ⟨(X + Z)*inv (1+1), ?_, ex, ez⟩
  intro e0
  rw [e0] at ex ez
  exact hne ⟨by rw [ex]; exact Fin.zero_mul _, by rw [ez]; exact Fin.zero_mul _⟩
/-- Two points, added up, where their difference is known. -/
theorem rep_add (h : Ok n d i inv) {U W U' W' u : Fin n} {P Q P0 : Pt d} (hr : Rep U W P) (hr' : Rep U' W' Q) (hd : P0.y*(1 + d*P.x*Q.x*P.y*Q.y) = P.y*Q.y - P.x*Q.x)
    (hu : u*(1 - P0.y) = 1 + P0.y) (n1 : 1 - P0.y ≠ 0) (n2 : 1 + P0.y ≠ 0) :
    Rep (((U'-W')*(U+W) + (U'+W')*(U-W))*((U'-W')*(U+W) + (U'+W')*(U-W))) (u*(((U'-W')*(U+W) - (U'+W')*(U-W))*((U'-W')*(U+W) - (U'+W')*(U-W)))) (add h P Q) := by
  obtain ⟨l, hl, rfl, rfl⟩ := hr
  obtain ⟨m, hm, rfl, rfl⟩ := hr'
  have ho := P.on
  have ho' := Q.on
  unfold On at ho ho'
  have hy := add_y h P Q
  have f1 := h.full1 P.on Q.on
  have f2 := h.full2 P.on Q.on
  have e2 := h.cancel (h.mul_ne f2 f1) (diff2 hy hd (diff_add ho ho'))
  have e3 := h.cancel n1 (diff3 (l := l) (m := m) hu e2 _ _ sum_ls dif_ls)
  refine rep_of h _ e3 ?_
  rintro ⟨z1, z2⟩
  have uz : u ≠ 0 := fun e => n2 (by rw [← hu, e]; exact Fin.zero_mul _)
  have four := h.four
  rw [sum_ls] at z1
  rw [dif_ls] at z2
  have s0 : 4*(l*m)*(Q.y+P.y) = 0 := (h.dom z1).elim id id
  have t0 : 4*(l*m)*(Q.y-P.y) = 0 := ((h.dom z2).elim (fun e => absurd e uz) id |> h.dom).elim id id
  have lm := h.mul_ne four (h.mul_ne hl hm)
  have s1 := (h.dom s0).elim (fun e => absurd e lm) id
  have t1 := (h.dom t0).elim (fun e => absurd e lm) id
  clear e2 e3 z1 z2 s0 t0 hy f1 f2 lm four uz hu hl hm
  have yq : Q.y = 0 := by
    have : (1 + 1)*Q.y = 0 := by generalize Q.y = a at *; generalize P.y = b at *; grind
    exact (h.dom this).elim (fun e => absurd e h.two) id
  have yp : P.y = 0 := by rw [yq] at s1; generalize P.y = b at *; grind
  rw [yq, yp] at hd
  rw [yp] at ho
  rw [yq] at ho'
  generalize P.x = x1 at *
  generalize Q.x = x3 at *
  generalize P0.y = y0 at *
  clear s1 t1 yq yp
  have e : (1 - y0)*(1 + y0) = 0 := by grind
  exact (h.dom e).elim n1 n2
theorem diff_sym {x1 y1 x2 y2 y3 : Fin n} (e : y3*(1 - d*x2*(-x1)*y2*y1) = y2*y1 + x2*(-x1)) : y3*(1 + d*x1*x2*y1*y2) = y1*y2 - x1*x2 := by grind
theorem u_of {l y : Fin n} (hl : l ≠ 0) (h : Ok n d i inv) (hy : 1 - y ≠ 0) : l*(1+y)*inv (l*(1-y)) = (1+y)*inv (1-y) := by
  have h1 := h.hinv _ (h.mul_ne hl hy)
  have h2 := h.hinv _ hy
  refine h.cancel (h.mul_ne hl hy) ?_
  generalize inv (l*(1-y)) = k1 at *
  generalize inv (1-y) = k2 at *
  grind
end
end Ed

end Go.Proofs.YtmceebdaaegkeaaDoor
/- Plain reckoning modulo the prime; keys as numbers. -/
namespace Go.Proofs.YtmceebdaaegkeaaDoor
open Go.RowKit

def fa (a b : Nat) : Nat := (a + b) % pp
def fs (a b : Nat) : Nat := (a + (pp - b)) % pp
def fm (a b : Nat) : Nat := a * b % pp
theorem fa_lt (a b : Nat) : fa a b < pp := Nat.mod_lt _ pp_pos
theorem fs_lt (a b : Nat) : fs a b < pp := Nat.mod_lt _ pp_pos
theorem fm_lt (a b : Nat) : fm a b < pp := Nat.mod_lt _ pp_pos
/-- x2, z2, x3, z3. -/
structure Lst where
  a : Nat
  b : Nat
  c : Nat
  d : Nat
structure Lst.Ok (s : Lst) : Prop where
  a : s.a < pp
  b : s.b < pp
  c : s.c < pp
  d : s.d < pp
def lAA (a b : Nat) : Nat := fm (fa a b) (fa a b)
def lBB (a b : Nat) : Nat := fm (fs a b) (fs a b)
def lE (a b : Nat) : Nat := fs (lAA a b) (lBB a b)
def lx2 (a b : Nat) : Nat := fm (lAA a b) (lBB a b)
def lz2 (a b : Nat) : Nat := fm (lE a b) (fa (lAA a b) (fm 121665 (lE a b)))
def lDA (a b c d : Nat) : Nat := fm (fs c d) (fa a b)
def lCB (a b c d : Nat) : Nat := fm (fa c d) (fs a b)
def lSum (a b c d : Nat) : Nat := fa (lDA a b c d) (lCB a b c d)
def lDif (a b c d : Nat) : Nat := fs (lDA a b c d) (lCB a b c d)
def lx3 (a b c d : Nat) : Nat := fm (lSum a b c d) (lSum a b c d)
def lz3 (x a b c d : Nat) : Nat := fm x (fm (lDif a b c d) (lDif a b c d))
/-- One step of the ladder. -/
def lstep (x : Nat) (s : Lst) : Lst := ⟨lx2 s.a s.b, lz2 s.a s.b, lx3 s.a s.b s.c s.d, lz3 x s.a s.b s.c s.d⟩
def lswap (bit : Nat) (s : Lst) : Lst := ⟨swapped bit s.a s.c, swapped bit s.b s.d, swapped bit s.c s.a, swapped bit s.d s.b⟩
def lad (v x : Nat) : Nat → Lst
  | 0 => ⟨1, 0, x, 1⟩
  | k + 1 => lswap (v / 2 ^ (254 - k)) (lstep x (lswap (v / 2 ^ (254 - k)) (lad v x k)))
/-- What Mul answers, as a number. -/
def ladN (v x : Nat) : Nat := fm (lad v x 255).a (mpow (lad v x 255).b 57896044618658097711785492504343953926634992332820282019728792003956564819947)
theorem lstep_ok (x : Nat) (s : Lst) : (lstep x s).Ok := ⟨fm_lt _ _, fm_lt _ _, fm_lt _ _, fm_lt _ _⟩
theorem lswap_ok (bit : Nat) (s : Lst) (h : s.Ok) : (lswap bit s).Ok := ⟨swapped_lt _ _ _ h.a h.c, swapped_lt _ _ _ h.b h.d, swapped_lt _ _ _ h.c h.a, swapped_lt _ _ _ h.d h.b⟩
theorem lad_ok (v x : Nat) (hx : x < pp) : ∀ k, (lad v x k).Ok
  | 0 => ⟨by rw [pp_eq]; show 1 < _; decide, pp_pos, hx, by rw [pp_eq]; show 1 < _; decide⟩
  | _ + 1 => lswap_ok _ _ (lstep_ok _ _)
theorem lswap_mod {s t : Nat} (h : s % 2 = t % 2) (q : Lst) : lswap s q = lswap t q := by
  unfold lswap
  rw [swapped_mod h, swapped_mod h, swapped_mod h, swapped_mod h]
theorem ladN_lt (v x : Nat) : ladN v x < pp := fm_lt _ _
/-- 2^256. -/
def p256 : Nat := 115792089237316195423570985008687907853269984665640564039457584007913129639936
theorem p256_eq : p256 = 256 ^ 32 := by decide
theorem pp_lt256 : pp < p256 := by rw [pp_eq]; decide
theorem leTo_lt256 {f : Nat → Nat} (hf : ∀ i, f i < 256) : leTo f 32 < p256 := by rw [p256_eq]; exact leTo_lt f hf 32
theorem leTo_byteAt32 {n : Nat} (h : n < p256) : leTo (byteAt n) 32 = n := by
  rw [leTo_byteAt, ← p256_eq]
  exact Nat.mod_eq_of_lt h
theorem keyOf_inj {a b : Nat} (ha : a < p256) (hb : b < p256) (h : keyOf a = keyOf b) : a = b := by
  have hb2 : ∀ i, i < 32 → byteAt a i = byteAt b i := fun i hi => by
    have h1 := congrArg (fun l : List Int => l.getD i 0) h
    simp only [keyOf, List.getD, List.getElem?_map, List.getElem?_range hi, Option.map_some, Option.getD_some] at h1
    omega
  have hsame : ∀ k, k ≤ 32 → leTo (byteAt a) k = leTo (byteAt b) k := by
    intro k
    induction k with
    | zero => intro _; rfl
    | succ k ih => intro hk; unfold leTo; rw [ih (by omega), hb2 k (by omega)]
  have h2 := hsame 32 (Nat.le_refl _)
  rw [leTo_byteAt32 ha, leTo_byteAt32 hb] at h2
  exact h2
theorem key_lit (n : Nat) (h : n < 256) : Iv .u8 (keyOf n) = #[.int .u8 (n : Int), .int .u8 0, .int .u8 0, .int .u8 0, .int .u8 0, .int .u8 0, .int .u8 0, .int .u8 0, .int .u8 0, .int .u8 0, .int .u8 0, .int .u8 0, .int .u8 0, .int .u8 0, .int .u8 0, .int .u8 0, .int .u8 0, .int .u8 0, .int .u8 0, .int .u8 0, .int .u8 0, .int .u8 0, .int .u8 0, .int .u8 0, .int .u8 0, .int .u8 0, .int .u8 0, .int .u8 0, .int .u8 0, .int .u8 0, .int .u8 0, .int .u8 0] := by
  have h0 : byteAt n 0 = n := by unfold byteAt; omega
  have h1 : ∀ i, byteAt n (i + 1) = 0 := fun i => by
    unfold byteAt
    rw [Nat.div_eq_of_lt (Nat.lt_of_lt_of_le h (by rw [Nat.pow_succ]; exact Nat.le_mul_of_pos_left _ (Nat.pow_pos (by decide))))]
  simp [keyOf, Iv, h0, h1, List.range, List.range.loop]
theorem yieldsIf_key1 {ops : Array Oper} {S : World → Prop} {o : Oper} {a : Act} (n : Nat) (hn : n < 256) (hgd : Region.wanted o (yielded ops a.tmps) = true) (ho : o.op = .build 23 #[(0, .const (.int .u8 (n : Int)))]) :
    YieldsIf Tryd.prog ops S o (Key (keyOf n)) a := Or.inl ⟨hgd, fun w _ => by
  unfold Key
  rw [key_lit n hn]
  simp only [execOp, ho, List.map_toArray, List.map_cons, List.map_nil]
  go_simp⟩
theorem yieldsIf_key0 {ops : Array Oper} {S : World → Prop} {o : Oper} {a : Act} (hgd : Region.wanted o (yielded ops a.tmps) = true) (ho : o.op = .build 23 #[]) :
    YieldsIf Tryd.prog ops S o (Key (keyOf 0)) a := Or.inl ⟨hgd, fun w _ => by
  unfold Key
  rw [key_lit 0 (by decide)]
  simp only [execOp, ho, List.map_toArray, List.map_nil]
  go_simp⟩
theorem neq_keys (a b : Nat) (ha : a < p256) (hb : b < p256) (w : World) :
    (binOp .neq 23 (.agg (Iv .u8 (keyOf a))) (.agg (Iv .u8 (keyOf b)))).run Tryd.prog w = .ok (.bool (!decide (a = b))) w := by
  have h := eq_keys _ _ (keyOf_length a) (keyOf_length b) w
  have hd : decide (keyOf a = keyOf b) = decide (a = b) := decide_eq_decide.2 ⟨keyOf_inj ha hb, fun h => by rw [h]⟩
  rw [hd] at h
  rw [run_neq_struct, h]
  rfl
theorem eql_keyN (a b : Nat) (ha : a < p256) (hb : b < p256) (w : World) :
    (binOp .eql 23 (.agg (Iv .u8 (keyOf a))) (.agg (Iv .u8 (keyOf b)))).run Tryd.prog w = .ok (.bool (decide (a = b))) w := by
  rw [eql_keys _ _ (keyOf_length a) (keyOf_length b), decide_eq_decide.2 ⟨keyOf_inj ha hb, fun h => by rw [h]⟩]
theorem yieldsIf_neqk {ops : Array Oper} {S : World → Prop} {o : Oper} {a : Act} (hgd : Region.wanted o (yielded ops a.tmps) = true) (x y : Operand) (ho : o.op = .binOp .neq 23 x y 23) (A B : Nat) (hx : a.eval x = Key (keyOf A)) (hy : a.eval y = Key (keyOf B))
    (c : Bool) (ha : A < p256) (hb : B < p256) (hc : (!decide (A = B)) = c) : YieldsIf Tryd.prog ops S o (.bool c) a := by
  refine Or.inl ⟨hgd, fun w _ => ?_⟩
  unfold Key at hx hy
  simp only [execOp, ho, hx, hy, Sem.run_bind, Sem.run_pure, Result.andThen_ok, run_eqGuard_agg (hm := eqg_api_Key), neq_keys A B ha hb, hc]
theorem yieldsIf_eqlk {ops : Array Oper} {S : World → Prop} {o : Oper} {a : Act} (hgd : Region.wanted o (yielded ops a.tmps) = true) (x y : Operand) (ho : o.op = .binOp .eql 23 x y 23) (A B : Nat) (hx : a.eval x = Key (keyOf A)) (hy : a.eval y = Key (keyOf B))
    (c : Bool) (ha : A < p256) (hb : B < p256) (hc : decide (A = B) = c) : YieldsIf Tryd.prog ops S o (.bool c) a := by
  refine Or.inl ⟨hgd, fun w _ => ?_⟩
  unfold Key at hx hy
  simp only [execOp, ho, hx, hy, Sem.run_bind, Sem.run_pure, Result.andThen_ok, run_eqGuard_agg (hm := eqg_api_Key), eql_keyN A B ha hb, hc]
theorem key_cell {w : World} {g : Nat} {t : TypeId} {N : Nat} (h : Blk w g t (Iv .u8 (keyOf N))) (i : Nat) (hi : i < 32) (v : Nat) (hv : byteAt N i = v) : w.cell? ⟨g, i, none⟩ = some (.int .u8 ((v : Nat) : Int)) := by
  have hl := keyOf_bytes N
  rw [h.cell, Iv_get _ _ _ (by rw [hl.len]; exact hi), hl.get i hi, hv]

end Go.Proofs.YtmceebdaaegkeaaDoor
/- The curve over the numbers modulo 2^255 - 19: what the ladder answers, as a multiple of a point; the base's order. -/
namespace Go.Proofs.YtmceebdaaegkeaaDoor
open Go.RowKit Ed

instance pp_nz : NeZero pp := ⟨by rw [pp_eq]; decide⟩
def dd : Fin pp := ⟨37095705934669439343138083508754565189542113879843219016388785533085940283555, by rw [pp_eq]; decide +kernel⟩
def ii : Fin pp := ⟨19681161376707505956807079304988542015446066515923890162744021073123829784752, by rw [pp_eq]; decide +kernel⟩
def pinv (x : Nat) : Nat := mpow x 57896044618658097711785492504343953926634992332820282019728792003956564819947
theorem pinv_mul (x : Nat) (h : ¬ x = 0) (hlt : x < pp) : x * pinv x % pp = 1 := by
  unfold pinv
  exact inv_mul x h hlt
theorem pinv_lt (x : Nat) : pinv x < pp := by
  unfold pinv
  exact mpow_lt _ _
theorem mpow_zero_any (e : Nat) (h : e ≠ 0) : mpow 0 e = 0 := by
  unfold mpow
  rw [Nat.zero_pow (Nat.pos_of_ne_zero h), Nat.zero_mod]
theorem pinv_zero : pinv 0 = 0 := by
  unfold pinv
  exact mpow_zero_any _ (by decide)
theorem ladN_def (V x : Nat) : ladN V x = fm (lad V x 255).a (pinv (lad V x 255).b) := rfl
def finv (a : Fin pp) : Fin pp := ⟨pinv a.val, pinv_lt _⟩
theorem finv_val (a : Fin pp) : (finv a).val = pinv a.val := by
  unfold finv
  dsimp only
theorem zero_val : (0 : Fin pp).val = 0 := rfl
theorem one_mod : (1 : Fin pp).val = 1 := by
  show 1 % pp = 1
  rw [pp_eq]
theorem finv_mul (a : Fin pp) (h : a ≠ 0) : a * finv a = 1 := by
  have h0 : ¬ a.val = 0 := fun e => h (Fin.ext e)
  have h1 := pinv_mul a.val h0 a.isLt
  apply Fin.ext
  rw [Fin.val_mul, finv_val, h1, one_mod]
theorem clm_e : Nt.clm 57896044618658097711785492504343953926634992332820282019728792003956564819949 20800338683988658368647408995589388737092878452977063003340006470870624536394 28948022309329048855892746252171976963317496166410141009864396001978282409974 255 255 = 57896044618658097711785492504343953926634992332820282019728792003956564819948 := by decide +kernel
theorem pow_e : ∀ H, H = 28948022309329048855892746252171976963317496166410141009864396001978282409974 → 20800338683988658368647408995589388737092878452977063003340006470870624536394 ^ H % 57896044618658097711785492504343953926634992332820282019728792003956564819949 = 57896044618658097711785492504343953926634992332820282019728792003956564819948 := fun H hH => by
  rw [Nt.clm_all 57896044618658097711785492504343953926634992332820282019728792003956564819949 20800338683988658368647408995589388737092878452977063003340006470870624536394 H 255 (by rw [hH]; decide +kernel), hH]
  exact clm_e
theorem no_sq (t : Fin pp) : t*t + dd ≠ 0 := fun e => by
  have e1 : (t.val * t.val + 37095705934669439343138083508754565189542113879843219016388785533085940283555) % pp = 0 := by
    have := congrArg Fin.val e
    rw [Fin.val_add, Fin.val_mul] at this
    have e2 : dd.val = 37095705934669439343138083508754565189542113879843219016388785533085940283555 := rfl
    rw [e2, Nat.mod_add_mod] at this
    exact this
  have e3 : t.val * t.val % pp = 20800338683988658368647408995589388737092878452977063003340006470870624536394 := by
    have hp := pp_eq
    have := Nat.mod_lt (t.val * t.val) pp_pos
    rw [← Nat.mod_add_mod] at e1
    generalize t.val * t.val % pp = z at *
    rw [hp] at e1 this
    omega
  obtain ⟨H, hH⟩ : ∃ H, H = 28948022309329048855892746252171976963317496166410141009864396001978282409974 := ⟨_, rfl⟩
  have h2 : pp - 1 = 2 * H := by rw [hH, pp_eq]
  have h3 := pow_e H hH
  rw [← pp_eq, ← e3, ← Nat.pow_mod, Nat.mul_pow, ← Nat.pow_add, show H + H = pp - 1 by omega] at h3
  have h4 : ¬ pp ∣ t.val := fun hd => by
    have : t.val * t.val % pp = 0 := Nat.mod_eq_zero_of_dvd (Nat.dvd_trans hd (Nat.dvd_mul_right _ _))
    rw [this] at e3
    exact absurd e3 (by decide)
  rw [Nt.pp_prime.fermat _ h4] at h3
  exact absurd h3 (by decide)
theorem ok : Ok pp dd ii finv where
  hi := by decide +kernel
  hinv := finv_mul
  nsq := no_sq
  two := by decide +kernel
def cc : Fin pp := ⟨121665, by rw [pp_eq]; decide⟩
theorem cc_dd : (cc + 1)*dd + cc = 0 := by decide +kernel
theorem cc_one : cc + 1 ≠ 0 := by decide +kernel

/-- A number, modulo the prime. -/
def F (a : Nat) : Fin pp := ⟨a % pp, Nat.mod_lt _ pp_pos⟩
theorem F_val {a : Nat} (h : a < pp) : (F a).val = a := Nat.mod_eq_of_lt h
theorem F_fa (a b : Nat) : F (fa a b) = F a + F b := Fin.ext (by
  rw [Fin.val_add]
  show (a + b) % pp % pp = (a % pp + b % pp) % pp
  rw [Nat.mod_mod, Nat.add_mod])
theorem F_fm (a b : Nat) : F (fm a b) = F a * F b := Fin.ext (by
  rw [Fin.val_mul]
  show a * b % pp % pp = (a % pp) * (b % pp) % pp
  rw [Nat.mod_mod, Nat.mul_mod])
theorem F_fs (a b : Nat) (h : b < pp) : F (fs a b) = F a - F b := Fin.ext (by
  rw [Fin.sub_def]
  show (a + (pp - b)) % pp % pp = (pp - b % pp + a % pp) % pp
  rw [Nat.mod_mod, Nat.mod_eq_of_lt h, Nat.add_comm, Nat.add_mod_mod])
theorem F_inv (a : Nat) (h : a < pp) : F (pinv a) = finv (F a) := by
  apply Fin.ext
  rw [F_val (pinv_lt a), finv_val, F_val h]
theorem F_c : F 121665 = cc := by decide +kernel
theorem F_zero : F 0 = 0 := rfl
theorem F_one : F 1 = 1 := rfl

/-- Twice and both, at once. -/
theorem rep_step (x : Nat) (s : Lst) (hs : s.Ok) (P Q P0 : Pt dd) (h1 : Rep (F s.a) (F s.b) P) (h2 : Rep (F s.c) (F s.d) Q)
    (hd : P0.y*(1 + dd*P.x*Q.x*P.y*Q.y) = P.y*Q.y - P.x*Q.x) (hu : F x*(1 - P0.y) = 1 + P0.y) (n1 : 1 - P0.y ≠ 0) (n2 : 1 + P0.y ≠ 0) :
    Rep (F (lstep x s).a) (F (lstep x s).b) (add ok P P) ∧ Rep (F (lstep x s).c) (F (lstep x s).d) (add ok P Q) := by
  have a1 := rep_dbl ok cc_dd cc_one h1
  have a2 := rep_add ok h1 h2 hd hu n1 n2
  have eAA : F (lAA s.a s.b) = (F s.a + F s.b)*(F s.a + F s.b) := by unfold lAA; rw [F_fm, F_fa]
  have eBB : F (lBB s.a s.b) = (F s.a - F s.b)*(F s.a - F s.b) := by unfold lBB; rw [F_fm, F_fs _ _ hs.b]
  have eE : F (lE s.a s.b) = (F s.a + F s.b)*(F s.a + F s.b) - (F s.a - F s.b)*(F s.a - F s.b) := by
    unfold lE
    rw [F_fs _ _ (show lBB _ _ < pp from fm_lt _ _), eBB, eAA]
  have eDA : F (lDA s.a s.b s.c s.d) = (F s.c - F s.d)*(F s.a + F s.b) := by unfold lDA; rw [F_fm, F_fs _ _ hs.d, F_fa]
  have eCB : F (lCB s.a s.b s.c s.d) = (F s.c + F s.d)*(F s.a - F s.b) := by unfold lCB; rw [F_fm, F_fs _ _ hs.b, F_fa]
  constructor
  · show Rep (F (lx2 s.a s.b)) (F (lz2 s.a s.b)) _
    unfold lx2 lz2
    rw [F_fm, F_fm, F_fa, F_fm, eE, eAA, eBB, F_c]
    exact a1
  · show Rep (F (lx3 s.a s.b s.c s.d)) (F (lz3 x s.a s.b s.c s.d)) _
    unfold lx3 lz3 lSum lDif
    rw [F_fm, F_fm, F_fm, F_fa, F_fs _ _ (show lCB _ _ _ _ < pp from fm_lt _ _), eDA, eCB]
    exact a2
theorem times_even (m : Nat) (P : Pt dd) : add ok (times ok m P) (times ok m P) = times ok (2 * m) P := by rw [← times_plus]; congr 1; omega
theorem diff_y (P Q P0 : Pt dd) (h : add ok Q (neg P) = P0) : P0.y*(1 + dd*P.x*Q.x*P.y*Q.y) = P.y*Q.y - P.x*Q.x := by
  have := add_y ok Q (neg P)
  rw [h] at this
  have x0 : (neg P).x = -P.x := rfl
  have y0 : (neg P).y = P.y := rfl
  rw [x0, y0] at this
  exact diff_sym this
theorem sub_neg (A B : Pt dd) : add ok (add ok A B) (neg A) = B := by rw [add_comm ok A B, add_assoc, add_neg, add_zero]
theorem neg_y (A : Pt dd) : (neg A).y = A.y := rfl
theorem diff_y' (P Q P0 : Pt dd) (h : add ok P (neg Q) = P0) : P0.y*(1 + dd*P.x*Q.x*P.y*Q.y) = P.y*Q.y - P.x*Q.x := by
  have h1 : add ok Q (neg P) = neg P0 := by
    refine cancel_add ok (R := P0) ?_
    rw [add_comm ok (neg P0) P0, add_neg, ← h, add_assoc, ← add_assoc ok (neg P) P, add_comm ok (neg P) P, add_neg, zero_add, add_neg]
  exact neg_y P0 ▸ diff_y P Q (neg P0) h1
theorem rep_swap (b : Nat) {s : Lst} {P Q : Pt dd} (h1 : Rep (F s.a) (F s.b) P) (h2 : Rep (F s.c) (F s.d) Q) :
    Rep (F (lswap b s).a) (F (lswap b s).b) (if b % 2 = 1 then Q else P) ∧ Rep (F (lswap b s).c) (F (lswap b s).d) (if b % 2 = 1 then P else Q) := by
  unfold lswap swapped
  split
  · exact ⟨h2, h1⟩
  · exact ⟨h1, h2⟩
theorem half_next (V k : Nat) (hk : k < 255) : V / 2 ^ (254 - k) = 2 * (V / 2 ^ (255 - k)) + V / 2 ^ (254 - k) % 2 := by
  have e : 2 ^ (255 - k) = 2 ^ (254 - k) * 2 := by rw [← Nat.pow_succ]; congr 1; omega
  rw [e, ← Nat.div_div_eq_div_mul]
  omega
/-- What the ladder has reckoned behind k bits: two multiples, one behind the other. -/
theorem lad_rep (V x : Nat) (hx : x < pp) (hV : V < 2 ^ 255) (P0 : Pt dd) (hu : F x*(1 - P0.y) = 1 + P0.y) (n1 : 1 - P0.y ≠ 0) (n2 : 1 + P0.y ≠ 0) :
    ∀ k, k ≤ 255 → Rep (F (lad V x k).a) (F (lad V x k).b) (times ok (V / 2 ^ (255 - k)) P0) ∧ Rep (F (lad V x k).c) (F (lad V x k).d) (times ok (V / 2 ^ (255 - k) + 1) P0)
  | 0, _ => by
    rw [Nat.sub_zero, Nat.div_eq_of_lt hV]
    constructor
    · refine ⟨finv (1 + 1), ?_, ?_, ?_⟩
      · intro e
        have := finv_mul (1 + 1) ok.two
        rw [e, Fin.mul_zero] at this
        exact ok.one this.symm
      · have := finv_mul (1 + 1) ok.two
        show (1 : Fin pp) = finv (1 + 1) * (1 + 1)
        rw [Fin.mul_comm]
        exact this.symm
      · show (0 : Fin pp) = finv (1 + 1) * (1 - 1)
        rw [Fin.sub_self, Fin.mul_zero]
    · rw [Nat.zero_add, times_one]
      refine ⟨finv (1 - P0.y), ?_, ?_, ?_⟩
      · intro e
        have := finv_mul _ n1
        rw [e, Fin.mul_zero] at this
        exact ok.one this.symm
      · show F x = _
        have := finv_mul _ n1
        rw [← hu, Fin.mul_comm (F x), ← Fin.mul_assoc, Fin.mul_comm (finv _), this, Fin.one_mul]
      · show (1 : Fin pp) = _
        rw [Fin.mul_comm]
        exact (finv_mul _ n1).symm
  | k + 1, hk => by
    obtain ⟨r1, r2⟩ := lad_rep V x hx hV P0 hu n1 n2 k (by omega)
    have hn := half_next V k (by omega)
    have he : 255 - (k + 1) = 254 - k := by omega
    rw [he]
    have hok := lad_ok V x hx k
    show Rep (F (lswap (V / 2 ^ (254 - k)) (lstep x (lswap (V / 2 ^ (254 - k)) (lad V x k)))).a) (F (lswap (V / 2 ^ (254 - k)) (lstep x (lswap (V / 2 ^ (254 - k)) (lad V x k)))).b) _ ∧ Rep (F (lswap (V / 2 ^ (254 - k)) (lstep x (lswap (V / 2 ^ (254 - k)) (lad V x k)))).c) (F (lswap (V / 2 ^ (254 - k)) (lstep x (lswap (V / 2 ^ (254 - k)) (lad V x k)))).d) _
    generalize V / 2 ^ (254 - k) = b at *
    generalize V / 2 ^ (255 - k) = m at *
    generalize lad V x k = s at *
    obtain ⟨s1, s2⟩ := rep_swap b r1 r2
    have e1 : times ok (m + 1) P0 = add ok (times ok m P0) P0 := rfl
    by_cases hb : b % 2 = 1
    · rw [if_pos hb] at s1 s2
      obtain ⟨t1, t2⟩ := rep_step x (lswap b s) (lswap_ok b s hok) _ _ P0 s1 s2 (diff_y' _ _ P0 (by rw [e1, sub_neg])) hu n1 n2
      obtain ⟨u1, u2⟩ := rep_swap b t1 t2
      rw [if_pos hb] at u1 u2
      constructor
      · have : add ok (times ok (m + 1) P0) (times ok m P0) = times ok b P0 := by rw [← times_plus]; congr 1; omega
        rw [this] at u1
        exact u1
      · have : add ok (times ok (m + 1) P0) (times ok (m + 1) P0) = times ok (b + 1) P0 := by rw [← times_plus]; congr 1; omega
        rw [this] at u2
        exact u2
    · rw [if_neg hb] at s1 s2
      obtain ⟨t1, t2⟩ := rep_step x (lswap b s) (lswap_ok b s hok) _ _ P0 s1 s2 (diff_y _ _ P0 (by rw [e1, sub_neg])) hu n1 n2
      obtain ⟨u1, u2⟩ := rep_swap b t1 t2
      rw [if_neg hb] at u1 u2
      constructor
      · have : add ok (times ok m P0) (times ok m P0) = times ok b P0 := by rw [← times_plus]; congr 1; omega
        rw [this] at u1
        exact u1
      · have : add ok (times ok m P0) (times ok (m + 1) P0) = times ok (b + 1) P0 := by rw [← times_plus]; congr 1; omega
        rw [this] at u2
        exact u2
/-- A point's place on the other curve. -/
def uOf (P : Pt dd) : Fin pp := (1 + P.y) * finv (1 - P.y)
theorem finv_zero : finv 0 = 0 := by
  apply Fin.ext
  rw [finv_val, zero_val, pinv_zero]
theorem ladN_u (V x : Nat) (hx : x < pp) (hV : V < 2 ^ 255) (P0 : Pt dd) (hu : F x*(1 - P0.y) = 1 + P0.y) (n1 : 1 - P0.y ≠ 0) (n2 : 1 + P0.y ≠ 0) : F (ladN V x) = uOf (times ok V P0) := by
  obtain ⟨⟨l, hl, ea, eb⟩, _⟩ := lad_rep V x hx hV P0 hu n1 n2 255 (Nat.le_refl _)
  rw [Nat.sub_self, Nat.pow_zero, Nat.div_one] at ea eb
  unfold uOf
  rw [ladN_def, F_fm, F_inv _ (lad_ok V x hx 255).b, ea, eb]
  by_cases hy : 1 - (times ok V P0).y = 0
  · rw [hy, Fin.mul_zero, finv_zero, Fin.mul_zero, Fin.mul_zero]
  · exact u_of hl ok hy

end Go.Proofs.YtmceebdaaegkeaaDoor
/- The base, its order; what two, and three, share. -/
namespace Go.Proofs.YtmceebdaaegkeaaDoor
open Go.RowKit Ed

def bx : Fin pp := ⟨15112221349535400772501151409588531511454012693041857206046113283949847762202, by rw [pp_eq]; decide +kernel⟩
def bY : Fin pp := ⟨46316835694926478169428394003475163141307993866256225615783033603165251855960, by rw [pp_eq]; decide +kernel⟩
def bb : Pt dd := ⟨bx, bY, by unfold On; decide +kernel⟩
def ell : Nat := 7237005577332262213973186563042994240857116359379907606001950938285454250989
theorem ell_pr : Nt.Pr ell := Nt.ell_prime
theorem base_u : F 9*(1 - bb.y) = 1 + bb.y := by decide +kernel
theorem base_n1 : 1 - bb.y ≠ 0 := by decide +kernel
theorem base_n2 : 1 + bb.y ≠ 0 := by decide +kernel
theorem nine_lt : 9 < pp := by rw [pp_eq]; decide
theorem one_lt : 1 < pp := by rw [pp_eq]; decide
theorem lad_ell : (lad ell 9 255).b = 0 := by decide +kernel
theorem dd_one : 1 + dd ≠ 0 := by decide +kernel
theorem sq0 {x e : Fin pp} (h : Ok pp dd ii finv) (y : Fin pp) (ho : On dd x y) (hy : y*y = 1) : x = 0 := by
  have e1 : x*x*(1 + dd) = 0 := by
    unfold On at ho
    generalize dd = d at *
    clear h
    grind
  rcases h.dom e1 with h2 | h2
  · exact (h.dom h2).elim id id
  · exact absurd h2 dd_one
theorem pt_one (P : Pt dd) (h : 1 - P.y = 0) : P = zero dd := by
  have hy : P.y = 1 := by
    generalize P.y = y at *
    grind
  refine Pt.same (sq0 (e := 0) ok P.y P.on ?_) hy
  rw [hy]
  exact Fin.mul_one _
theorem pt_opp (P : Pt dd) (h : 1 + P.y = 0) : add ok P P = zero dd := by
  have hy : P.y * P.y = 1 := by
    generalize P.y = y at *
    grind
  have hx := sq0 (e := 0) ok P.y P.on hy
  have : neg P = P := Pt.same (by show -P.x = P.x; rw [hx]; decide +kernel) rfl
  have h2 := add_neg ok P
  rw [this] at h2
  exact h2
theorem times_ell : times ok ell bb = zero dd := by
  obtain ⟨⟨l, hl, _, eb⟩, _⟩ := lad_rep ell 9 nine_lt (by decide +kernel) bb base_u base_n1 base_n2 255 (Nat.le_refl _)
  rw [Nat.sub_self, Nat.pow_zero, Nat.div_one, lad_ell] at eb
  refine pt_one _ ?_
  exact (ok.dom eb.symm).elim (fun e => absurd e hl) id
theorem bb_ne : bb ≠ zero dd := fun e => by
  have := congrArg Pt.y e
  exact absurd this (by decide +kernel)
theorem times_ne (m : Nat) (h : ¬ ell ∣ m) : times ok m bb ≠ zero dd := fun e => by
  have h1 := times_gcd ok bb ell m times_ell e
  have h2 : Nat.gcd ell m = 1 := Nt.Pr.coprime ell_pr h
  rw [h2, times_one] at h1
  exact bb_ne h1
theorem times_n1 (m : Nat) (h : ¬ ell ∣ m) : 1 - (times ok m bb).y ≠ 0 := fun e => times_ne m h (pt_one _ e)
theorem not_two : ¬ ell ∣ 2 := by decide +kernel
theorem times_n2 (m : Nat) (h : ¬ ell ∣ m) : 1 + (times ok m bb).y ≠ 0 := fun e => by
  have h1 := pt_opp _ e
  rw [← times_plus, show m + m = m * 2 by omega] at h1
  refine times_ne (m * 2) (fun hd => ?_) h1
  exact (ell_pr.dvd_mul hd).elim h not_two
theorem u_mul (P : Pt dd) (h : 1 - P.y ≠ 0) : uOf P * (1 - P.y) = 1 + P.y := by
  unfold uOf
  rw [Fin.mul_assoc, Fin.mul_comm (finv _), finv_mul _ h, Fin.mul_one]
theorem F_inj {a b : Nat} (ha : a < pp) (hb : b < pp) (h : F a = F b) : a = b := by
  have := congrArg Fin.val h
  rw [F_val ha, F_val hb] at this
  exact this
/-- The ladder from a multiple of the base on. -/
theorem lad_times (V m N : Nat) (hV : V < 2 ^ 255) (hm : ¬ ell ∣ m) (hN : N < pp) (hu : F N = uOf (times ok m bb)) : F (ladN V N) = uOf (times ok (m * V) bb) := by
  have h := ladN_u V N hN hV (times ok m bb) (by rw [hu]; exact u_mul _ (times_n1 m hm)) (times_n1 m hm) (times_n2 m hm)
  rw [h, times_times]
theorem lad_base (V : Nat) (hV : V < 2 ^ 255) : F (ladN V 9) = uOf (times ok V bb) := ladN_u V 9 nine_lt hV bb base_u base_n1 base_n2
theorem u_ne (m N : Nat) (hm : ¬ ell ∣ m) (hN : N < pp) (hu : F N = uOf (times ok m bb)) : N ≠ 0 := fun e => by
  have h := u_mul _ (times_n1 m hm)
  rw [← hu, e, F_zero, Fin.zero_mul] at h
  exact times_n2 m hm h.symm
theorem ell_mul {a b : Nat} (ha : ¬ ell ∣ a) (hb : ¬ ell ∣ b) : ¬ ell ∣ a * b := fun h => (ell_pr.dvd_mul h).elim ha hb

end Go.Proofs.YtmceebdaaegkeaaDoor
/- Every point, eight times and as often as the order says, is nothing: the points are fewer than twice the prime, and a base of 8 times the order divides them. -/
namespace Go.Proofs.YtmceebdaaegkeaaDoor
open Go.RowKit Ed

theorem pigeon : ∀ (n m : Nat) (f : Nat → Nat), (∀ i, i < n → f i < m) → (∀ i j, i < n → j < n → f i = f j → i = j) → n ≤ m
  | 0, _, _, _, _ => Nat.zero_le _
  | n + 1, 0, f, h, _ => absurd (h 0 (Nat.succ_pos _)) (Nat.not_lt_zero _)
  | n + 1, m + 1, f, h, hi => by
    refine Nat.succ_le_succ (pigeon n m (fun i => if f i = m then f n else f i) (fun i hlt => ?_) (fun i j h1 h2 e => ?_))
    · show (if f i = m then f n else f i) < m
      split
      · next he =>
        have h1 := h n (Nat.lt_succ_self _)
        have h2 : f n ≠ m := fun e => by
          have := hi i n (by omega) (by omega) (he.trans e.symm)
          omega
        omega
      · next he =>
        have := h i (by omega)
        omega
    · have e' : (if f i = m then f n else f i) = (if f j = m then f n else f j) := e
      by_cases c1 : f i = m
      · by_cases c2 : f j = m
        · exact hi i j (by omega) (by omega) (c1.trans c2.symm)
        · rw [if_pos c1, if_neg c2] at e'
          have := hi n j (by omega) (by omega) e'
          omega
      · by_cases c2 : f j = m
        · rw [if_neg c1, if_pos c2] at e'
          have := hi i n (by omega) (by omega) e'
          omega
        · rw [if_neg c1, if_neg c2] at e'
          exact hi i j (by omega) (by omega) e'

/-- A sum by its parts. -/
theorem add_is (P Q R : Pt dd) (hx : R.x*(1 + dd*P.x*Q.x*P.y*Q.y) = P.x*Q.y + P.y*Q.x) (hy : R.y*(1 - dd*P.x*Q.x*P.y*Q.y) = P.y*Q.y + P.x*Q.x) : add ok P Q = R :=
  pt_eq ok (ok.full1 P.on Q.on) (ok.full2 P.on Q.on) ((add_x ok P Q).trans hx.symm) ((add_y ok P Q).trans hy.symm)
def tx : Fin pp := ⟨14399317868200118260347934320527232580618823971194345261214217575416788799818, by rw [pp_eq]; decide +kernel⟩
def tY : Fin pp := ⟨55188659117513257062467267217118295137698188065244968500265048394206261417927, by rw [pp_eq]; decide +kernel⟩
def t8 : Pt dd := ⟨tx, tY, by unfold On; decide +kernel⟩
def t4 : Pt dd := ⟨-ii, 0, by unfold On; decide +kernel⟩
def t2 : Pt dd := ⟨0, -1, by unfold On; decide +kernel⟩
theorem t8_twice : add ok t8 t8 = t4 := add_is _ _ _ (by decide +kernel) (by decide +kernel)
theorem t4_twice : add ok t4 t4 = t2 := add_is _ _ _ (by decide +kernel) (by decide +kernel)
theorem t2_twice : add ok t2 t2 = zero dd := add_is _ _ _ (by decide +kernel) (by decide +kernel)
theorem t2_ne : t2 ≠ zero dd := fun e => absurd (congrArg Pt.y e) (by decide +kernel)
theorem times_two (P : Pt dd) : times ok 2 P = add ok P P := by
  show add ok (times ok 1 P) P = _
  rw [times_one]
theorem times4_t8 : times ok 4 t8 = t2 := by
  rw [show (4 : Nat) = 2 * 2 by decide, times_times, times_two t8, t8_twice, times_two, t4_twice]
theorem times8_t8 : times ok 8 t8 = zero dd := by
  rw [show (8 : Nat) = 4 * 2 by decide, times_times, times4_t8, times_two, t2_twice]
/-- A point of order 8 times ell. -/
def gg : Pt dd := add ok bb t8
theorem gg_all : times ok (8 * ell) gg = zero dd := by
  unfold gg
  rw [times_sum, times_times, times_times, times8_t8, times_zero, Ed.add_zero, times_swap, times_ell, times_zero]
theorem ell_mod : ell % 8 = 5 := by decide +kernel
theorem gg_four : times ok (4 * ell) gg ≠ zero dd := by
  unfold gg
  rw [times_sum, times_times, times_swap, times_ell, times_zero, Ed.zero_add]
  have e : 4 * ell = 8 * (ell / 2) + 4 := by have := ell_mod; omega
  rw [e, times_plus, times_times, times8_t8, times_zero, Ed.zero_add, times4_t8]
  exact t2_ne
theorem gg_eight : times ok 8 gg ≠ zero dd := by
  unfold gg
  rw [times_sum, times8_t8, Ed.add_zero]
  exact times_ne 8 (by decide +kernel)
theorem times_dvd (P : Pt dd) (a b : Nat) (h : a ∣ b) (ha : times ok a P = zero dd) : times ok b P = zero dd := by
  obtain ⟨c, rfl⟩ := h
  rw [times_times, ha, times_zero]
theorem ell_pos : 0 < ell := by decide
theorem dvd8 (h : Nat) (hd : h ∣ 8) (hn : h ≠ 8) : h ∣ 4 := by
  have hle := Nat.le_of_dvd (by decide) hd
  have : h = 0 ∨ h = 1 ∨ h = 2 ∨ h = 3 ∨ h = 4 ∨ h = 5 ∨ h = 6 ∨ h = 7 ∨ h = 8 := by omega
  rcases this with rfl | rfl | rfl | rfl | rfl | rfl | rfl | rfl | rfl
  · exact absurd hd (by decide)
  · decide
  · decide
  · exact absurd hd (by decide)
  · decide
  · exact absurd hd (by decide)
  · exact absurd hd (by decide)
  · exact absurd hd (by decide)
  · exact absurd rfl hn
theorem gg_order (m : Nat) (h0 : 0 < m) (h1 : m < 8 * ell) : times ok m gg ≠ zero dd := fun e => by
  have hg := times_gcd ok gg m (8 * ell) e gg_all
  have d1 : Nat.gcd m (8 * ell) ∣ 8 * ell := Nat.gcd_dvd_right _ _
  have d2 : Nat.gcd m (8 * ell) ≤ m := Nat.le_of_dvd h0 (Nat.gcd_dvd_left _ _)
  generalize Nat.gcd m (8 * ell) = g at *
  by_cases c : ell ∣ g
  · obtain ⟨h, rfl⟩ := c
    have d3 : h ∣ 8 := by
      rw [Nat.mul_comm 8] at d1
      exact Nat.dvd_of_mul_dvd_mul_left ell_pos d1
    have hn : h ≠ 8 := fun e8 => by
      rw [e8, Nat.mul_comm] at d2
      omega
    refine gg_four (times_dvd gg (ell * h) _ ?_ hg)
    rw [Nat.mul_comm 4]
    exact Nat.mul_dvd_mul_left _ (dvd8 h d3 hn)
  · have cop : Nat.Coprime ell g := Nt.Pr.coprime ell_pr c
    have d3 : g ∣ 8 := (Nat.Coprime.symm cop).dvd_of_dvd_mul_right d1
    exact gg_eight (times_dvd gg g _ d3 hg)
theorem times_inj (P : Pt dd) (a b : Nat) (hab : a ≤ b) (h : times ok a P = times ok b P) : times ok (b - a) P = zero dd := by
  have e : b = (b - a) + a := by omega
  rw [e, times_plus] at h
  exact (cancel_add ok ((Ed.zero_add ok _).trans h)).symm
theorem gg_inj (a b : Nat) (ha : a < 8 * ell) (hb : b < 8 * ell) (h : times ok a gg = times ok b gg) : a = b := by
  rcases Nat.le_total a b with c | c
  · have := times_inj gg a b c h
    by_cases e : b - a = 0
    · omega
    · exact absurd this (gg_order _ (by omega) (by omega))
  · have := times_inj gg b a c h.symm
    by_cases e : a - b = 0
    · omega
    · exact absurd this (gg_order _ (by omega) (by omega))
namespace Ed
section
variable {n : Nat} [NeZero n]
theorem sq_diff {x y : Fin n} (h : x*x = y*y) : (x - y)*(x + y) = 0 := by grind
theorem dif0 {x y : Fin n} (h : x - y = 0) : x = y := by grind
theorem sum0 {x y : Fin n} (h : x + y = 0) : x = -y := by grind
theorem den_sq {x y d : Fin n} (ho : y*y - x*x = 1 + d*x*x*y*y) (e : 1 + d*y*y = 0) : y*y = 1 := by grind
theorem same_sq {x x' y d : Fin n} (hp : y*y - x*x = 1 + d*x*x*y*y) (hq : y*y - x'*x' = 1 + d*x'*x'*y*y) : x*x*(1 + d*y*y) = x'*x'*(1 + d*y*y) := by grind
end
end Ed
/-- A point as a number. -/
def code (P : Pt dd) : Nat := 2 * P.y.val + P.x.val % 2
theorem code_lt (P : Pt dd) : code P < 2 * pp := by
  have := P.y.isLt
  unfold code
  omega
theorem sq_eq {x y : Fin pp} (h : x*x = y*y) : x = y ∨ x = -y := by
  have e : (x - y)*(x + y) = 0 := sq_diff h
  rcases ok.dom e with h1 | h1
  · exact Or.inl (dif0 h1)
  · exact Or.inr (sum0 h1)
theorem neg_val (x : Fin pp) (h : x.val ≠ 0) : (-x).val = pp - x.val := by
  rw [Fin.neg_def]
  show (pp - x.val) % pp = _
  exact Nat.mod_eq_of_lt (by have := x.isLt; omega)
theorem pp_odd : pp % 2 = 1 := by rw [pp_eq]
theorem den_ne (P : Pt dd) : 1 + dd*P.y*P.y ≠ 0 := fun e => by
  have h1 := ok.hi
  have ho := P.on
  unfold On at ho
  have h2 : P.y*P.y = 1 := den_sq ho e
  have h3 : 1 + dd = 0 := by
    have : dd*P.y*P.y = dd := by rw [Fin.mul_assoc, h2, Fin.mul_one]
    rw [this] at e
    exact e
  exact dd_one h3
theorem code_inj (P Q : Pt dd) (h : code P = code Q) : P = Q := by
  unfold code at h
  have hy : P.y.val = Q.y.val := by omega
  have hx : P.x.val % 2 = Q.x.val % 2 := by omega
  have ey : P.y = Q.y := Fin.ext hy
  have hp := P.on
  have hq := Q.on
  unfold On at hp hq
  rw [← ey] at hq
  have e1 : P.x*P.x = Q.x*Q.x := ok.cancel (den_ne P) (same_sq hp hq)
  rcases sq_eq e1 with h1 | h1
  · exact Pt.same h1 ey
  · by_cases z : Q.x.val = 0
    · have : Q.x = 0 := Fin.ext z
      refine Pt.same ?_ ey
      rw [h1, this]
      decide +kernel
    · rw [h1, neg_val _ z] at hx
      have := Q.x.isLt
      have := pp_odd
      omega
theorem times_eight_ell (P : Pt dd) : times ok (8 * ell) P = zero dd := by
  by_cases h : times ok (8 * ell) P = zero dd
  · exact h
  · exfalso
    have hbig : ¬ (2 * (8 * ell) ≤ 2 * pp) := by rw [pp_eq]; decide +kernel
    generalize hn : 8 * ell = n at *
    have inj : ∀ a b, a < n → b < n → times ok a gg = times ok b gg → a = b := fun a b ha hb e => gg_inj a b (by omega) (by omega) e
    have all : times ok n gg = zero dd := by rw [← hn]; exact gg_all
    have mix : ∀ a b, a < n → b < n → times ok a gg = add ok P (times ok b gg) → False := fun a b ha hb e => by
      have e2 : P = times ok (a + (n - b)) gg := by
        refine cancel_add ok (R := times ok b gg) ?_
        rw [← e, ← times_plus, show a + (n - b) + b = a + n by omega, times_plus, all, Ed.add_zero]
      apply h
      rw [e2, times_swap, all, times_zero]
    refine hbig (pigeon _ _ (fun k => if k < n then code (times ok k gg) else code (add ok P (times ok (k - n) gg))) (fun k _ => ?_) (fun i j h1 h2 e => ?_))
    · show (if k < n then _ else _) < _
      split
      · exact code_lt _
      · exact code_lt _
    · have e' : (if i < n then code (times ok i gg) else code (add ok P (times ok (i - n) gg))) = (if j < n then code (times ok j gg) else code (add ok P (times ok (j - n) gg))) := e
      by_cases c1 : i < n
      · by_cases c2 : j < n
        · rw [if_pos c1, if_pos c2] at e'
          exact inj i j c1 c2 (code_inj _ _ e')
        · rw [if_pos c1, if_neg c2] at e'
          exact absurd (code_inj _ _ e') (fun e => mix i (j - n) c1 (by omega) e)
      · by_cases c2 : j < n
        · rw [if_neg c1, if_pos c2] at e'
          exact absurd (code_inj _ _ e').symm (fun e => mix j (i - n) c2 (by omega) e)
        · rw [if_neg c1, if_neg c2] at e'
          have e3 := code_inj _ _ e'
          rw [Ed.add_comm ok P, Ed.add_comm ok P] at e3
          have := inj (i - n) (j - n) (by omega) (by omega) (cancel_add ok e3)
          omega

end Go.Proofs.YtmceebdaaegkeaaDoor
/- Points as the program keeps them (x, y, z, t): their sums and multiples as plain reckoning, and as points of the curve; a point's 32 bytes as a number. -/
namespace Go.Proofs.YtmceebdaaegkeaaDoor
namespace Ed
set_option maxHeartbeats 4000000
section
variable {n : Nat} [NeZero n]
theorem pm_cross (a b X1 Y1 X2 Y2 : Fin n) : (a*X1 + a*Y1)*(b*X2 + b*Y2) - (a*X1)*(b*X2) - (a*Y1)*(b*Y2) = (a*b)*(X1*Y2 + Y1*X2) := by grind
theorem pm_st (a b X1 Y1 X2 Y2 : Fin n) : (a*Y1)*(b*Y2) + (a*X1)*(b*X2) = (a*b)*(Y1*Y2 + X1*X2) := by grind
theorem pm_ux (a b d X1 Y1 X2 Y2 : Fin n) : a*b + d*((a*(X1*Y1))*(b*(X2*Y2))) = (a*b)*(1 + d*X1*X2*Y1*Y2) := by grind
theorem pm_uy (a b d X1 Y1 X2 Y2 : Fin n) : a*b - d*((a*(X1*Y1))*(b*(X2*Y2))) = (a*b)*(1 - d*X1*X2*Y1*Y2) := by grind
theorem pm_x {m c u v X : Fin n} (h : X*u = c) : (m*c)*(m*v) = (m*u)*(m*v)*X := by grind
theorem pm_y {m s u v Y : Fin n} (h : Y*v = s) : (m*s)*(m*u) = (m*u)*(m*v)*Y := by grind
theorem pm_t {m c s u v X Y : Fin n} (h : X*u = c) (h2 : Y*v = s) : (m*c)*(m*s) = (m*u)*(m*v)*(X*Y) := by grind
theorem on_root {c d x y : Fin n} (h : d*(c + 1) + c = 0) (e : x*x*((c + 1) - c*(y*y)) = (c + 1)*(y*y - 1)) : (y*y - x*x)*(c+1) = (1 + d*x*x*y*y)*(c+1) := by grind
theorem root_on {c d x y : Fin n} (h : d*(c + 1) + c = 0) (e : y*y - x*x = 1 + d*x*x*y*y) : x*x*((c + 1) - c*(y*y)) = (c + 1)*(y*y - 1) := by grind
theorem cross_eq {a b X Y : Fin n} : (a*X)*b = (b*Y)*a → (a*b)*X = (a*b)*Y := by grind
theorem neg_mul_l (a b : Fin n) : -(a*b) = a*(-b) := by grind
theorem neg_mul_t (a b c : Fin n) : -(a*(b*c)) = a*((-b)*c) := by grind
theorem inv_of {z u X : Fin n} (h : z*u = 1) : z*X*u = X := by grind
end
end Ed
open Go.RowKit Ed

structure P4 where
  x : Nat
  y : Nat
  z : Nat
  t : Nat
structure P4.Ok (s : P4) : Prop where
  x : s.x < pp
  y : s.y < pp
  z : s.z < pp
  t : s.t < pp
/-- Four numbers that are a point. -/
structure P4.Is (s : P4) (P : Pt dd) : Prop where
  ok : s.Ok
  z0 : F s.z ≠ 0
  x : F s.x = F s.z * P.x
  y : F s.y = F s.z * P.y
  t : F s.t = F s.z * (P.x * P.y)
def dN : Nat := 37095705934669439343138083508754565189542113879843219016388785533085940283555
theorem dN_lt : dN < pp := by rw [pp_eq]; decide +kernel
theorem F_dN : F dN = dd := by decide +kernel
def pXX (p q : P4) : Nat := fm p.x q.x
def pYY (p q : P4) : Nat := fm p.y q.y
def pZZ (p q : P4) : Nat := fm p.z q.z
def pDT (p q : P4) : Nat := fm dN (fm p.t q.t)
def pCr (p q : P4) : Nat := fs (fs (fm (fa p.x p.y) (fa q.x q.y)) (pXX p q)) (pYY p q)
def pSt (p q : P4) : Nat := fa (pYY p q) (pXX p q)
def pUx (p q : P4) : Nat := fa (pZZ p q) (pDT p q)
def pUy (p q : P4) : Nat := fs (pZZ p q) (pDT p q)
/-- The sum of two. -/
def padd (p q : P4) : P4 := ⟨fm (pCr p q) (pUy p q), fm (pSt p q) (pUx p q), fm (pUx p q) (pUy p q), fm (pCr p q) (pSt p q)⟩
theorem padd_ok (p q : P4) : (padd p q).Ok := ⟨fm_lt _ _, fm_lt _ _, fm_lt _ _, fm_lt _ _⟩
theorem padd_is {p q : P4} {P Q : Pt dd} (hp : p.Is P) (hq : q.Is Q) : (padd p q).Is (add ok P Q) := by
  have eXX : F (pXX p q) = (F p.z*P.x)*(F q.z*Q.x) := by unfold pXX; rw [F_fm, hp.x, hq.x]
  have eYY : F (pYY p q) = (F p.z*P.y)*(F q.z*Q.y) := by unfold pYY; rw [F_fm, hp.y, hq.y]
  have eZZ : F (pZZ p q) = F p.z*F q.z := by unfold pZZ; rw [F_fm]
  have eDT : F (pDT p q) = dd*((F p.z*(P.x*P.y))*(F q.z*(Q.x*Q.y))) := by unfold pDT; rw [F_fm, F_fm, hp.t, hq.t, F_dN]
  have eCr : F (pCr p q) = (F p.z*F q.z)*(P.x*Q.y + P.y*Q.x) := by
    unfold pCr
    rw [F_fs _ _ (show pYY p q < pp from fm_lt _ _), F_fs _ _ (show pXX p q < pp from fm_lt _ _), F_fm, F_fa, F_fa, hp.x, hp.y, hq.x, hq.y, eXX, eYY]
    exact pm_cross _ _ _ _ _ _
  have eSt : F (pSt p q) = (F p.z*F q.z)*(P.y*Q.y + P.x*Q.x) := by
    unfold pSt
    rw [F_fa, eXX, eYY]
    exact pm_st _ _ _ _ _ _
  have eUx : F (pUx p q) = (F p.z*F q.z)*(1 + dd*P.x*Q.x*P.y*Q.y) := by
    unfold pUx
    rw [F_fa, eZZ, eDT]
    exact pm_ux _ _ _ _ _ _ _
  have eUy : F (pUy p q) = (F p.z*F q.z)*(1 - dd*P.x*Q.x*P.y*Q.y) := by
    unfold pUy
    rw [F_fs _ _ (show pDT p q < pp from fm_lt _ _), eZZ, eDT]
    exact pm_uy _ _ _ _ _ _ _
  have hm := ok.mul_ne hp.z0 hq.z0
  have ax := add_x ok P Q
  have ay := add_y ok P Q
  have ez : F (padd p q).z = ((F p.z*F q.z)*(1 + dd*P.x*Q.x*P.y*Q.y))*((F p.z*F q.z)*(1 - dd*P.x*Q.x*P.y*Q.y)) := by
    show F (fm (pUx p q) (pUy p q)) = _
    rw [F_fm, eUx, eUy]
  refine ⟨padd_ok p q, ?_, ?_, ?_, ?_⟩
  · rw [ez]
    exact ok.mul_ne (ok.mul_ne hm (ok.full1 P.on Q.on)) (ok.mul_ne hm (ok.full2 P.on Q.on))
  · rw [ez]
    show F (fm (pCr p q) (pUy p q)) = _
    rw [F_fm, eCr, eUy]
    exact pm_x ax
  · rw [ez]
    show F (fm (pSt p q) (pUx p q)) = _
    rw [F_fm, eSt, eUx]
    exact pm_y ay
  · rw [ez]
    show F (fm (pCr p q) (pSt p q)) = _
    rw [F_fm, eCr, eSt]
    exact pm_t ax ay

/-- A point of an x and a y. -/
def pat (x y : Nat) : P4 := ⟨x, y, 1, fm x y⟩
theorem pat_is {x y : Nat} {P : Pt dd} (hx : x < pp) (hy : y < pp) (ex : F x = P.x) (ey : F y = P.y) : (pat x y).Is P := by
  refine ⟨⟨hx, hy, one_lt, fm_lt _ _⟩, ?_, ?_, ?_, ?_⟩
  · exact ok.one
  · show F x = F 1 * P.x
    rw [F_one, Fin.one_mul, ex]
  · show F y = F 1 * P.y
    rw [F_one, Fin.one_mul, ey]
  · show F (fm x y) = F 1 * (P.x * P.y)
    rw [F_one, Fin.one_mul, F_fm, ex, ey]
def pzero : P4 := pat 0 1
theorem pzero_is : pzero.Is (zero dd) := pat_is pp_pos one_lt rfl rfl
def bxN : Nat := 15112221349535400772501151409588531511454012693041857206046113283949847762202
def byN : Nat := 46316835694926478169428394003475163141307993866256225615783033603165251855960
theorem bxN_lt : bxN < pp := by rw [pp_eq]; decide +kernel
theorem byN_lt : byN < pp := by rw [pp_eq]; decide +kernel
def pbase : P4 := pat bxN byN
theorem pbase_is : pbase.Is bb := pat_is bxN_lt byN_lt (by decide +kernel) (by decide +kernel)

/-- The opposite. -/
def fneg (a : Nat) : Nat := (pp - a) % pp
theorem fneg_lt (a : Nat) : fneg a < pp := Nat.mod_lt _ pp_pos
theorem F_fneg (a : Nat) (h : a < pp) : F (fneg a) = - F a := by
  have h1 := F_fs 0 a h
  have e : fs 0 a = fneg a := by unfold fs fneg; rw [Nat.zero_add]
  rw [e, F_zero] at h1
  rw [h1]
  generalize F a = z
  grind
def pneg (p : P4) : P4 := ⟨fneg p.x, p.y, p.z, fneg p.t⟩
theorem pneg_is {p : P4} {P : Pt dd} (hp : p.Is P) : (pneg p).Is (neg P) := by
  refine ⟨⟨fneg_lt _, hp.ok.y, hp.ok.z, fneg_lt _⟩, hp.z0, ?_, hp.y, ?_⟩
  · show F (fneg p.x) = F p.z * (- P.x)
    rw [F_fneg _ hp.ok.x, hp.x]
    exact neg_mul_l _ _
  · show F (fneg p.t) = F p.z * ((- P.x) * P.y)
    rw [F_fneg _ hp.ok.t, hp.t]
    exact neg_mul_t _ _ _

/-- A number, and whether a bit is told: what Mul does behind so many rounds. -/
def pmul (k : Nat) (p : P4) : Nat → P4
  | 0 => pzero
  | i + 1 => if k / 2 ^ (255 - i) % 2 = 1 then padd (padd (pmul k p i) (pmul k p i)) p else padd (pmul k p i) (pmul k p i)
theorem pmul_is (k : Nat) (hk : k < 2 ^ 256) {p : P4} {P : Pt dd} (hp : p.Is P) : ∀ i, i ≤ 256 → (pmul k p i).Is (times ok (k / 2 ^ (256 - i)) P)
  | 0, _ => by
    rw [Nat.sub_zero, Nat.div_eq_of_lt hk]
    exact pzero_is
  | i + 1, h => by
    have ih := pmul_is k hk hp i (by omega)
    have e : k / 2 ^ (256 - i) = k / 2 ^ (255 - i) / 2 := by
      rw [show 256 - i = (255 - i) + 1 by omega, Nat.pow_succ, Nat.div_div_eq_div_mul]
    rw [show 256 - (i + 1) = 255 - i by omega]
    have ih2 := padd_is ih ih
    rw [e, times_even] at ih2
    unfold pmul
    generalize k / 2 ^ (255 - i) = u at *
    by_cases hb : u % 2 = 1
    · rw [if_pos hb]
      have := padd_is ih2 hp
      have e2 : add ok (times ok (2 * (u / 2)) P) P = times ok u P := by
        show times ok (2 * (u / 2) + 1) P = _
        congr 1
        omega
      rw [e2] at this
      exact this
    · rw [if_neg hb]
      rw [show 2 * (u / 2) = u by omega] at ih2
      exact ih2

/-- A point's 32 bytes, as a number. -/
def textN (P : Pt dd) : Nat := P.y.val + P.x.val % 2 * 57896044618658097711785492504343953926634992332820282019728792003956564819968
theorem pp_255 : pp < 57896044618658097711785492504343953926634992332820282019728792003956564819968 := by rw [pp_eq]; decide
theorem textN_mod (P : Pt dd) : textN P % 57896044618658097711785492504343953926634992332820282019728792003956564819968 = P.y.val := by
  have := pp_255
  have := P.y.isLt
  unfold textN
  omega
theorem textN_div (P : Pt dd) : textN P / 57896044618658097711785492504343953926634992332820282019728792003956564819968 = P.x.val % 2 := by
  have := pp_255
  have := P.y.isLt
  unfold textN
  omega
theorem textN_lt (P : Pt dd) : textN P < p256 := by
  have := pp_255
  have := P.y.isLt
  unfold textN p256
  omega
theorem textN_inj (P Q : Pt dd) (h : textN P = textN Q) : P = Q := by
  refine code_inj P Q ?_
  have h1 := textN_mod P
  have h2 := textN_mod Q
  have h3 := textN_div P
  have h4 := textN_div Q
  rw [h] at h1 h3
  unfold code
  omega
/-- What Encode reckons. -/
theorem enc_y {p : P4} {P : Pt dd} (hp : p.Is P) : fm p.y (pinv p.z) = P.y.val := by
  have h1 := finv_mul _ hp.z0
  have e : F (fm p.y (pinv p.z)) = P.y := by
    rw [F_fm, F_inv _ hp.ok.z, hp.y]
    exact inv_of h1
  have := congrArg Fin.val e
  rw [F_val (fm_lt _ _)] at this
  exact this
theorem enc_x {p : P4} {P : Pt dd} (hp : p.Is P) : fm p.x (pinv p.z) = P.x.val := by
  have h1 := finv_mul _ hp.z0
  have e : F (fm p.x (pinv p.z)) = P.x := by
    rw [F_fm, F_inv _ hp.ok.z, hp.x]
    exact inv_of h1
  have := congrArg Fin.val e
  rw [F_val (fm_lt _ _)] at this
  exact this
theorem F_inj2 {a b : Nat} (ha : a < pp) (hb : b < pp) (h : F a = F b) : a = b := by
  have := congrArg Fin.val h
  rw [F_val ha, F_val hb] at this
  exact this
/-- What Same asks. -/
theorem same_is {p q : P4} {P Q : Pt dd} (hp : p.Is P) (hq : q.Is Q) : (fm p.x q.z = fm q.x p.z ∧ fm p.y q.z = fm q.y p.z) ↔ P = Q := by
  constructor
  · rintro ⟨h1, h2⟩
    have e1 := congrArg F h1
    have e2 := congrArg F h2
    rw [F_fm, F_fm, hp.x, hq.x] at e1
    rw [F_fm, F_fm, hp.y, hq.y] at e2
    have hm := ok.mul_ne hp.z0 hq.z0
    refine Pt.same (ok.cancel hm ?_) (ok.cancel hm ?_)
    · rw [Fin.mul_comm P.x, Fin.mul_comm Q.x]
      exact cross_eq e1
    · rw [Fin.mul_comm P.y, Fin.mul_comm Q.y]
      exact cross_eq e2
  · rintro rfl
    refine ⟨F_inj2 (fm_lt _ _) (fm_lt _ _) ?_, F_inj2 (fm_lt _ _) (fm_lt _ _) ?_⟩
    · rw [F_fm, F_fm, hp.x, hq.x]
      generalize F p.z = a
      generalize F q.z = b
      generalize P.x = c
      grind
    · rw [F_fm, F_fm, hp.y, hq.y]
      generalize F p.z = a
      generalize F q.z = b
      generalize P.y = c
      grind

end Go.Proofs.YtmceebdaaegkeaaDoor
/- Which 32 bytes are a point: what the program's Decode and the reference's Read reckon, as numbers. -/
namespace Go.Proofs.YtmceebdaaegkeaaDoor
namespace Ed
set_option maxHeartbeats 4000000
section
variable {n : Nat} [NeZero n]
theorem den_is (c d y : Fin n) (h : (c + 1)*d + c = 0) : (c + 1) - c*(y*y) = (c + 1)*(1 + d*y*y) := by grind
theorem on_of_root {c d x y : Fin n} (h : (c + 1)*d + c = 0) (e : x*x*((c + 1) - c*(y*y)) = (c + 1)*(y*y - 1)) : (y*y - x*x)*(c + 1) = (1 + d*x*x*y*y)*(c + 1) := by grind
theorem root_of_on {c d x y : Fin n} (h : (c + 1)*d + c = 0) (e : y*y - x*x = 1 + d*x*x*y*y) : x*x*((c + 1) - c*(y*y)) = (c + 1)*(y*y - 1) := by grind
theorem on_of_w {d x y w : Fin n} (hw : w*(1 + d*y*y) = y*y - 1) (e : x*x = w) : y*y - x*x = 1 + d*x*x*y*y := by grind
theorem w_of_on {d x y : Fin n} (e : y*y - x*x = 1 + d*x*x*y*y) : x*x*(1 + d*y*y) = y*y - 1 := by grind
theorem flip_w {a b u : Fin n} (h : b*u = 1) : a*u*b = a := by grind
end
end Ed
open Go.RowKit Ed

theorem den_any (y : Fin pp) : 1 + dd*y*y ≠ 0 := fun e => by
  by_cases hy : y = 0
  · rw [hy, Fin.mul_zero] at e
    exact ok.one (by rw [← e]; generalize (1 : Fin pp) = o; generalize (0 : Fin pp) = z; exact absurd hy (fun _ => by
      exact absurd e (by decide +kernel)))
  · have h1 := ok.hinv y hy
    refine ok.nsq (finv y) ?_
    generalize finv y = u at *
    generalize dd = d at *
    grind
theorem F_121666 : F 121666 = cc + 1 := by decide +kernel
theorem l121666 : 121666 < pp := by rw [pp_eq]; decide
theorem l121665 : 121665 < pp := by rw [pp_eq]; decide
/-- What the program asks a root of. -/
def dOv (Y : Nat) : Nat := fm 121666 (fs (fm Y Y) 1)
def dUn (Y : Nat) : Nat := fs 121666 (fm 121665 (fm Y Y))
theorem dOv_lt (Y : Nat) : dOv Y < pp := fm_lt _ _
theorem dUn_lt (Y : Nat) : dUn Y < pp := fs_lt _ _
theorem F_dOv (Y : Nat) : F (dOv Y) = (cc + 1)*(F Y*F Y - 1) := by
  unfold dOv
  rw [F_fm, F_fs _ _ one_lt, F_fm, F_121666, F_one]
theorem F_dUn (Y : Nat) : F (dUn Y) = (cc + 1) - cc*(F Y*F Y) := by
  unfold dUn
  rw [F_fs _ _ (fm_lt _ _), F_fm, F_fm, F_121666, F_c]
theorem dUn_ne (Y : Nat) : dUn Y ≠ 0 := fun e => by
  have h := congrArg F e
  rw [F_dUn, F_zero, den_is cc dd (F Y) cc_dd] at h
  exact ok.mul_ne cc_one (den_any (F Y)) h
theorem rOk_of_sq {X Y x : Nat} (hX : X < pp) (hY : Y < pp) (hy : Y ≠ 0) (h : x * x % pp * Y % pp = X) : rOk X Y = true := by
  by_cases h0 : X = 0
  · rw [h0]
    exact rOk_zero _
  · have hy' : Y % pp ≠ 0 := by rwa [Nat.mod_eq_of_lt hY]
    have hx' : X % pp ≠ 0 := by rwa [Nat.mod_eq_of_lt hX]
    have hx : x % pp ≠ 0 := fun e => h0 (by
      rw [← h, Nat.mul_mod x x, e, Nat.zero_mul, Nat.zero_mod, Nat.zero_mul, Nat.zero_mod])
    obtain ⟨Q, q, _⟩ := has_Q
    rw [unit_case q hX hx' hy']
    have hz : x * Y ^ 4 % pp ≠ 0 := not_zero hx (not_zero_pow hy' 4)
    have h4 := fermat4 q hz
    have key : ∀ Q, (x * Y ^ 4) ^ (4 * Q) % pp = 1 → (X * Y ^ 7) ^ (2 * Q) % pp = 1 := fun Q h5 => by
      have e2 : X * Y ^ 7 % pp = (x * Y ^ 4) ^ 2 % pp := by
        rw [← h]
        simp only [Nat.mod_mul_mod]
        congr 1
        rw [Nat.pow_two, show (7 : Nat) = 0 + 1 + 1 + 1 + 1 + 1 + 1 + 1 from rfl, show (4 : Nat) = 0 + 1 + 1 + 1 + 1 from rfl]
        simp only [Nat.pow_succ, Nat.pow_zero, Nat.one_mul, Nat.mul_assoc, Nat.mul_left_comm, Nat.mul_comm]
      rw [Nat.pow_mod, e2, ← Nat.pow_mod, ← Nat.pow_mul, show 2 * (2 * Q) = 4 * Q by omega]
      exact h5
    exact key Q h4
theorem F_mod (a : Nat) : F (a % pp) = F a := Fin.ext (by
  show a % pp % pp = a % pp
  rw [Nat.mod_mod])
theorem y_of {P : Pt dd} {Y : Nat} (hy : P.y.val = Y) : F Y = P.y := by
  apply Fin.ext
  rw [F_val (by rw [← hy]; exact P.y.isLt), hy]
theorem x_of (a : Fin pp) : F a.val = a := by
  apply Fin.ext
  rw [F_val a.isLt]
theorem back_num {a b : Nat} (ha : a < pp) (h : F a = F b) (hb : b < pp) : a = b := F_inj2 ha hb h
theorem rOk_pt {Y : Nat} (P : Pt dd) (hy : P.y.val = Y) : rOk (dOv Y) (dUn Y) = true := by
  refine rOk_of_sq (x := P.x.val) (dOv_lt Y) (dUn_lt Y) (dUn_ne Y) ?_
  have e1 : fm (fm P.x.val P.x.val) (dUn Y) = dOv Y := by
    refine F_inj2 (fm_lt _ _) (dOv_lt Y) ?_
    rw [F_fm, F_fm, x_of, F_dUn, F_dOv, y_of hy]
    exact root_of_on cc_dd P.on
  exact e1
theorem rV_on {I Y : Nat} (hI : IOk I) (h : rOk (dOv Y) (dUn Y) = true) : On dd (F (rV I (dOv Y) (dUn Y))) (F Y) := by
  have h1 := rV_sq hI (dOv_lt Y) h
  generalize rV I (dOv Y) (dUn Y) = r at *
  have e1 : fm (fm r r) (dUn Y) = dOv Y := h1
  have e2 := congrArg F e1
  rw [F_fm, F_fm, F_dUn, F_dOv] at e2
  exact ok.cancel cc_one (on_of_root cc_dd e2)
theorem ptn_y {P : Pt dd} {N : Nat} (h : textN P = N) : P.y.val = N % 57896044618658097711785492504343953926634992332820282019728792003956564819968 := by
  rw [← h, textN_mod]
theorem ptn_x {P : Pt dd} {N : Nat} (h : textN P = N) : P.x.val % 2 = N / 57896044618658097711785492504343953926634992332820282019728792003956564819968 := by
  rw [← h, textN_div]
/-- y not below the prime: no point. -/
theorem none_y {N : Nat} (h : ¬ N % 57896044618658097711785492504343953926634992332820282019728792003956564819968 < pp) (P : Pt dd) : textN P ≠ N := fun e => by
  have := ptn_y e
  have := P.y.isLt
  omega
theorem none_root {N Y : Nat} (hY : N % 57896044618658097711785492504343953926634992332820282019728792003956564819968 = Y) (h : rOk (dOv Y) (dUn Y) = false) (P : Pt dd) : textN P ≠ N := fun e => by
  have h1 := rOk_pt P ((ptn_y e).trans hY)
  rw [h] at h1
  cases h1
/-- One root is 0: then there is no odd one. -/
theorem none_odd {N Y : Nat} (hY : N % 57896044618658097711785492504343953926634992332820282019728792003956564819968 = Y) (ho : On dd (F 0) (F Y)) (h : N / 57896044618658097711785492504343953926634992332820282019728792003956564819968 = 1) (P : Pt dd) : textN P ≠ N := fun e => by
  have hy := y_of ((ptn_y e).trans hY)
  have hp := P.on
  unfold On at hp ho
  rw [hy] at ho
  have e1 : P.x*P.x = F 0*F 0 := ok.cancel (den_ne P) (same_sq hp ho)
  have e2 : P.x = 0 := by
    rw [F_zero, Fin.mul_zero] at e1
    exact (ok.dom e1).elim id id
  have h2 := ptn_x e
  rw [e2, h] at h2
  exact absurd h2 (by decide +kernel)
/-- A root, or its opposite: the one that is asked for. -/
def pick (x o : Nat) : Nat := if x % 2 = o then x else fneg x
theorem pick_lt {x : Nat} (hx : x < pp) (o : Nat) : pick x o < pp := by
  unfold pick
  split
  · exact hx
  · exact fneg_lt _
theorem fneg_odd {x : Nat} (hx : x < pp) (h0 : x ≠ 0) : fneg x % 2 = 1 - x % 2 := by
  have := pp_odd
  unfold fneg
  rw [Nat.mod_eq_of_lt (show pp - x < pp by omega)]
  omega
theorem neg_on {x y : Fin pp} (h : On dd x y) : On dd (-x) y := by
  unfold On at *
  generalize dd = d at *
  grind
theorem some_pt {N Y x : Nat} (hN : N < p256) (hY : N % 57896044618658097711785492504343953926634992332820282019728792003956564819968 = Y) (hyp : Y < pp) (hx : x < pp) (ho : On dd (F x) (F Y))
    (h : ¬ (x = 0 ∧ N / 57896044618658097711785492504343953926634992332820282019728792003956564819968 = 1)) :
    ∃ P : Pt dd, textN P = N ∧ F (pick x (N / 57896044618658097711785492504343953926634992332820282019728792003956564819968)) = P.x ∧ F Y = P.y := by
  have hd : N / 57896044618658097711785492504343953926634992332820282019728792003956564819968 < 2 := by unfold p256 at hN; omega
  have hon : On dd (F (pick x (N / 57896044618658097711785492504343953926634992332820282019728792003956564819968))) (F Y) := by
    unfold pick
    split
    · exact ho
    · rw [F_fneg x hx]
      exact neg_on ho
  refine ⟨⟨_, _, hon⟩, ?_, rfl, rfl⟩
  have h1 : pick x (N / 57896044618658097711785492504343953926634992332820282019728792003956564819968) % 2 = N / 57896044618658097711785492504343953926634992332820282019728792003956564819968 := by
    unfold pick
    split
    · assumption
    · next hne =>
      by_cases h0 : x = 0
      · have : N / 57896044618658097711785492504343953926634992332820282019728792003956564819968 ≠ 1 := fun e => h ⟨h0, e⟩
        rw [h0] at hne
        omega
      · rw [fneg_odd hx h0]
        omega
  show (F Y).val + (F (pick x (N / 57896044618658097711785492504343953926634992332820282019728792003956564819968))).val % 2 * 57896044618658097711785492504343953926634992332820282019728792003956564819968 = N
  rw [F_val hyp, F_val (pick_lt hx _), h1, ← hY]
  omega

/-! The reference's. -/
def wNum (Y : Nat) : Nat := fm (fs (fm Y Y) 1) (pinv (fa (fm dN (fm Y Y)) 1))
theorem wNum_lt (Y : Nat) : wNum Y < pp := fm_lt _ _
theorem F_wNum (Y : Nat) : F (wNum Y)*(1 + dd*F Y*F Y) = F Y*F Y - 1 := by
  unfold wNum
  have h1 := finv_mul _ (den_any (F Y))
  have e : F (fa (fm dN (fm Y Y)) 1) = 1 + dd*F Y*F Y := by
    rw [F_fa, F_fm, F_fm, F_dN, F_one]
    generalize F Y = y
    generalize dd = d
    grind
  rw [F_fm, F_inv _ (fa_lt _ _), e, F_fs _ _ one_lt, F_fm, F_one]
  exact flip_w h1
theorem w_pt {Y : Nat} (P : Pt dd) (hy : P.y.val = Y) : F (wNum Y) = P.x*P.x := by
  have h1 := F_wNum Y
  rw [y_of hy] at h1
  refine ok.cancel (den_any P.y) (h1.trans ?_)
  exact (w_of_on P.on).symm
theorem rSquare_sq {A x : Nat} (h : A = x * x % pp) : rSquare A = true := by
  obtain ⟨Q, q, _⟩ := has_Q
  unfold rSquare
  rw [← q.two, Bool.or_eq_true, decide_eq_true_eq, decide_eq_true_eq]
  have hq := q.big
  have key : ∀ Q, 8 < Q → (x % pp ≠ 0 → x ^ (4 * Q) % pp = 1) → mpow A (2 * Q) = 1 ∨ mpow A (2 * Q) = 0 := fun Q hb hf => by
    have e : mpow A (2 * Q) = x ^ (4 * Q) % pp := by
      unfold mpow
      rw [h, ← Nat.pow_mod, ← Nat.pow_two, ← Nat.pow_mul, show 2 * (2 * Q) = 4 * Q by omega]
    rw [e]
    by_cases hx : x % pp = 0
    · right
      rw [Nat.pow_mod, hx, Nat.zero_pow (by omega), Nat.zero_mod]
    · exact Or.inl (hf hx)
  exact key Q hq (fun hx => fermat4 q hx)
theorem rSquare_pt {Y : Nat} (P : Pt dd) (hy : P.y.val = Y) : rSquare (wNum Y) = true := by
  refine rSquare_sq (x := P.x.val) ?_
  refine F_inj2 (wNum_lt Y) (Nat.mod_lt _ pp_pos) ?_
  rw [w_pt P hy, F_mod]
  show _ = F (P.x.val * P.x.val)
  have := F_fm P.x.val P.x.val
  unfold fm at this
  rw [F_mod, x_of] at this
  exact this.symm
theorem rnone_root {N Y : Nat} (hY : N % 57896044618658097711785492504343953926634992332820282019728792003956564819968 = Y) (h : rSquare (wNum Y) = false) (P : Pt dd) : textN P ≠ N := fun e => by
  have h1 := rSquare_pt P ((ptn_y e).trans hY)
  rw [h] at h1
  cases h1
/-- The root that the reference takes. -/
def rt1 (w : Nat) : Nat := mpow w 7237005577332262213973186563042994240829374041602535252466099000494570602494
def rt (I w : Nat) : Nat := if fm (rt1 w) (rt1 w) = w then rt1 w else fm (rt1 w) I
theorem rt_lt (I w : Nat) : rt I w < pp := by
  unfold rt rt1
  split
  · exact mpow_lt _ _
  · exact fm_lt _ _
theorem rt_sq {I w : Nat} (hI : IOk I) (hw : w < pp) (h : rSquare w = true) : fm (rt I w) (rt I w) = w := by
  unfold rt
  split
  · assumption
  · next hne =>
    obtain ⟨Q, q, _⟩ := has_Q
    have hodd := q.odd
    have hbig := q.big
    have hu : ∀ E, Q = 2 * E + 1 → fm (mpow w (E + 1)) (mpow w (E + 1)) = w * (w ^ Q % pp) % pp := fun E hE => by
      unfold fm mpow
      rw [← Nat.mul_mod, ← Nat.pow_add, hE, Nat.mul_mod_mod, show E + 1 + (E + 1) = (2 * E + 1) + 1 by omega, Nat.pow_succ, Nat.mul_comm]
    have h1 : fm (rt1 w) (rt1 w) = w * (w ^ Q % pp) % pp := hu _ hodd
    have h2 : fm (fm (rt1 w) I) (fm (rt1 w) I) = fm (rt1 w) (rt1 w) * (I * I % pp) % pp := by
      unfold fm
      simp only [Nat.mod_mul_mod, Nat.mul_mod_mod]
      congr 1
      simp only [Nat.mul_assoc, Nat.mul_left_comm, Nat.mul_comm]
    have hus : (w ^ Q % pp) * (w ^ Q % pp) % pp = mpow w (2 * Q) := by
      unfold mpow
      rw [← Nat.mul_mod, ← Nat.pow_add, Nat.two_mul]
    unfold rSquare at h
    rw [← q.two, Bool.or_eq_true, decide_eq_true_eq, decide_eq_true_eq, ← hus] at h
    have hul : w ^ Q % pp < pp := Nat.mod_lt _ pp_pos
    by_cases hz : w = 0
    · exfalso
      apply hne
      rw [h1, hz, Nat.zero_mul, Nat.zero_mod]
    · have hz' : w % pp ≠ 0 := by rwa [Nat.mod_eq_of_lt hw]
      have hnz : w ^ Q % pp % pp ≠ 0 := by
        rw [Nat.mod_mod]
        exact not_zero_pow hz' Q
      have h3 : (w ^ Q % pp) * (w ^ Q % pp) % pp = 1 := h.resolve_right (not_zero hnz hnz)
      generalize w ^ Q % pp = u at *
      rcases sq_one hul h3 with e | e
      · exfalso
        apply hne
        rw [h1, e, Nat.mul_one, Nat.mod_eq_of_lt hw]
      · rw [h2, h1, e, hI.sq, neg_mul w hw]
        exact neg_neg w hw
theorem rt_on {I Y : Nat} (hI : IOk I) (h : rSquare (wNum Y) = true) : On dd (F (rt I (wNum Y))) (F Y) := by
  have h1 := rt_sq hI (wNum_lt Y) h
  have h2 := F_wNum Y
  generalize rt I (wNum Y) = r at *
  have e2 := congrArg F h1
  rw [F_fm] at e2
  exact on_of_w h2 e2

end Go.Proofs.YtmceebdaaegkeaaDoor
