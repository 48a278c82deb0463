/- Contracts by number: Reduce of a key, Check, MulAdd; the reference's L. The group of the curve y^2 - x^2 = 1 + d x^2 y^2 over the numbers modulo n, where each number but 0 has an inverse, -1 is a square and -d is none: from first principles. -/ /- Points of the curve, their sums and multiples: a group. -/ /- The ladder's steps, by points of the curve: (1 + y) : (1 - y). -/
import Derived.Test.YtegbnadnodlalaaGreatDoorGSf0GSg
import Derived.Test.YtegbnadnodlalaaGreatDoorLa0GFc
namespace Go.Proofs.YtegbnadnodlalaaGreatDoor.Sc
open Go.RowKit
theorem pw4_bytes : pw 4 = 256 ^ 32 := by decide
theorem leTo_byteAt (n : Nat) : ∀ k, leTo (byteAt n) k = n % 256 ^ k
 | 0 => by simp [leTo, Nat.mod_one]
 | k + 1 => by
  unfold leTo
  rw [leTo_byteAt n k, Nat.pow_succ, Nat.mod_mul]
  unfold byteAt
  rw [Nat.mul_comm (256 ^ k)]
theorem keyOf_bytes (n : Nat) : Bytes32 (keyOf n) (byteAt n) :=
 ⟨keyOf_length n, fun i h => by simp [keyOf, h], fun i => Nat.mod_lt _ (by decide)⟩
theorem keyOf_num (n : Nat) (h : n < pw 4) : leTo (byteAt n) 32 = n := by
 rw [leTo_byteAt, Nat.mod_eq_of_lt (pw4_bytes ▸ h)]
theorem key_of_bytes {l : List Int} {f : Nat → Nat} (hl : Bytes32 l f) : l = keyOf (leTo f 32) := by
 apply List.ext_getElem (by rw [hl.len, keyOf_length])
 intro i h1 h2
 have h3 : i < 32 := by rw [hl.len] at h1; exact h1
 have h4 := hl.get i h3
 simp [List.getD, h1] at h4
 rw [h4]
 simp only [keyOf, List.getElem_map, List.getElem_range]
 rw [byteAt, leTo_byte f hl.lt 32 i h3]
theorem keyOf_inj (a b : Nat) (ha : a < pw 4) (hb : b < pw 4) (h : keyOf a = keyOf b) : a = b := by
 have hb2 : ∀ i, i < 32 → byteAt a i = byteAt b i := fun i hi => by
  have h1 := congrArg (fun l : List Int => l.getD i 0) h
  simp only [keyOf, List.getD, List.getElem?_map, List.getElem?_range hi, Option.map_some, Option.getD_some] at h1
  omega
 have hsame : ∀ k, k ≤ 32 → leTo (byteAt a) k = leTo (byteAt b) k := by
  intro k
  induction k with
  | zero => intro _; rfl
  | succ k ih => intro hk; unfold leTo; rw [ih (by omega), hb2 k (by omega)]
 have h2 := hsame 32 (Nat.le_refl _)
 rw [keyOf_num a ha, keyOf_num b hb] at h2
 exact h2
theorem LL_lt : LL < pw 4 := by rw [pw_four]; decide
theorem mod_lt4 (x : Nat) : x % LL < pw 4 := Nat.lt_trans (Nat.mod_lt _ LL_pos) LL_lt
theorem key_dec (a b : Nat) (c : Bool) (ha : a < pw 4) (hb : b < pw 4) (hc : decide (a = b) = c) (W : World) : (binOp .eql 23 (.agg (Iv .u8 (keyOf a))) (.agg (Iv .u8 (keyOf b)))).run Tryz.prog W = .ok (.bool c) W := by
 rw [eql_keys _ _ (keyOf_length a) (keyOf_length b), ← hc]
 congr 2
 exact decide_eq_decide.2 ⟨keyOf_inj a b ha hb, fun h => by rw [h]⟩
theorem eqg_api_Key : Tryz.prog.eqGuardType Tryz.prog.depth 23 = false := by kernel_rfl
theorem muladd_n (a b c r : Nat) (ha : a < pw 4) (hb : b < pw 4) (hc : c < pw 4) (hr : r = (a * b + c) % LL) (w : World) :
  Calls Tryz.prog 48 #[Key (keyOf a), Key (keyOf b), Key (keyOf c)] w fun e w' => e = .returned (Key (keyOf r)) ∧ Below w.heap.size w w' := by
 have h := muladd_any _ _ _ _ _ _ (keyOf_bytes a) (keyOf_bytes b) (keyOf_bytes c) w
 rw [keyOf_num a ha, keyOf_num b hb, keyOf_num c hc, ← hr] at h
 exact h
theorem By.of_key {w : World} {g : Nat} {t : TypeId} {n : Nat} (h : Blk w g t (Iv .u8 (keyOf n))) : By w g 0 32 (byteAt n) :=
 ⟨fun i hi => by rw [h.cell, Nat.zero_add, Iv_get _ _ _ (by rw [keyOf_length]; exact hi), (keyOf_bytes n).get i hi], (keyOf_bytes n).lt, h.lt⟩
theorem reduce_n (g : Nat) (t : TypeId) (a r : Nat) (w : World) (h : Blk w g t (Iv .u8 (keyOf a))) (ha : a < pw 4) (hr : r = a % LL) :
  Calls Tryz.prog 68 #[.slice (some ⟨g, 0, none⟩) 32 32] w fun e w' => e = .returned (Key (keyOf r)) ∧ Below w.heap.size w w' := by
 have h := reduce_any g 0 32 32 (byteAt a) w (By.of_key h) (by decide) (by decide)
 rw [keyOf_num a ha, ← hr] at h
 exact h
set_option maxHeartbeats 1000000 in
set_option maxRecDepth 100000 in
theorem check_n (a : Nat) (c : Bool) (ha : a < pw 4) (hc : decide (a < LL) = c) (w : World) : Calls Tryz.prog 52 #[Key (keyOf a)] w fun e w' => e = .returned (.bool c) ∧ Below w.heap.size w w' := by
 obtain ⟨r, hr⟩ : ∃ r, r = a % LL := ⟨_, rfl⟩
 have lr : r < pw 4 := hr ▸ mod_lt4 a
 have hk := key_dec r a c lr ha (by
  rw [← hc]
  refine decide_eq_decide.2 ⟨fun h => ?_, fun h => ?_⟩
  · rw [← h, hr]; exact Nat.mod_lt _ LL_pos
  · rw [hr, Nat.mod_eq_of_lt h])
 have HR := Lib.hid hr
 have HK := Lib.hid hk
 clear hr hk hc
 unfold Key
 go_enter Tryz.func52, Tryz.ntmps52
 go_wp2_with fail
 have hS : Facts [.blk w.heap.size 23 (Iv .u8 (keyOf a))] (World.alloc w (.cells (Iv .u8 (keyOf a)) 23)).drew := Facts.drew (Facts.cons (f := .blk _ _ _) (Blk.new _ _ _) Facts.nil)
 have hB : Below w.heap.size w (World.alloc w (.cells (Iv .u8 (keyOf a)) 23)).drew := below_drew ((Below.refl _ _).alloc (Nat.le_refl _) _)
 refine wp_region_Z (S := Facts [.blk w.heap.size 23 (Iv .u8 (keyOf a))]) 4 (by kernel_rfl) ?_
 refine wpAnyZ_takeL 0 (v := .slice (some ⟨w.heap.size, 0, none⟩) 32 32) rfl (by kernel_rfl) (by kernel_rfl) (by kernel_rfl) (by kernel_rfl) (by kernel_rfl) (fun _ _ _ h => h) (Or.inl ⟨by rfl, ?_⟩) hS ?_
 ·
  intro w' _
  go_simp
 simp only [Act.put, List.setIfInBounds_toArray, List.set_cons_zero, List.set_cons_succ]
 refine wpAnyZ_takeL 2 rfl (by kernel_rfl) (by kernel_rfl) (by kernel_rfl) (by kernel_rfl) (by kernel_rfl) (fun _ _ _ h => h) (show YieldsIf _ _ _ _ (Key (keyOf a)) _ from yieldsIf_load rfl 23 _ rfl (w.heap.size) rfl _ _ _ (.head _) Tryz.underlying23 rfl (info_key _ (keyOf_length _))) hS ?_
 simp only [Act.put, List.setIfInBounds_toArray, List.set_cons_zero, List.set_cons_succ]
 refine wpAnyZ_one (i := 1) (by kernel_rfl) ?_
 unfold wpOp
 go_simp
 left
 refine (reduce_n _ _ a r _ (hS.blkAt _ _ _ (.head _)) ha HR.out).mono ?_
 rintro e v1 ⟨rfl, b⟩
 replace hB := hB.trans (b.mono hB.size)
 replace hS := hS.below b
 clear b
 refine ⟨hS, ?_⟩
 refine wpAnyZ_takeL 3 rfl (by kernel_rfl) (by kernel_rfl) (by kernel_rfl) (by kernel_rfl) (by kernel_rfl) (fun _ _ _ h => h) (yieldsIf_eql rfl 23 _ _ _ rfl _ _ rfl rfl eqg_api_Key c HK.out) hS ?_
 simp only [Act.put, List.setIfInBounds_toArray, List.set_cons_zero, List.set_cons_succ]
 refine wpAnyZ_one (i := 4) (by kernel_rfl) ?_
 unfold wpOp
 go_simp
 left
 refine wpAnyZ_done (by kernel_rfl) ?_ _
 go_wp2
 go_ret
 exact ⟨rfl, hB⟩
end Go.Proofs.YtegbnadnodlalaaGreatDoor.Sc
namespace Go.Proofs.YtegbnadnodlalaaGreatDoor
namespace Ed
set_option maxHeartbeats 4000000
theorem assoc_x {n : Nat} [NeZero n] (x1 y1 x2 y2 x3 y3 d : Fin n) (h1 : y1*y1 - x1*x1 = 1 + d*x1*x1*y1*y1) (h2 : y2*y2 - x2*x2 = 1 + d*x2*x2*y2*y2) (h3 : y3*y3 - x3*x3 = 1 + d*x3*x3*y3*y3) :
  ((x1*y2+y1*x2)*(1 - d*x1*x2*y1*y2)*y3 + (y1*y2+x1*x2)*(1+d*x1*x2*y1*y2)*x3) * ((1 - d*x2*x3*y2*y3*(d*x2*x3*y2*y3)) + d*(x2*y3+y2*x3)*(y2*y3+x2*x3)*x1*y1)
  = ((x2*y3+y2*x3)*(1 - d*x2*x3*y2*y3)*y1 + (y2*y3+x2*x3)*(1+d*x2*x3*y2*y3)*x1) * ((1 - d*x1*x2*y1*y2*(d*x1*x2*y1*y2)) + d*(x1*y2+y1*x2)*(y1*y2+x1*x2)*x3*y3) := by grind
theorem assoc_y {n : Nat} [NeZero n] (x1 y1 x2 y2 x3 y3 d : Fin n) (h1 : y1*y1 - x1*x1 = 1 + d*x1*x1*y1*y1) (h2 : y2*y2 - x2*x2 = 1 + d*x2*x2*y2*y2) (h3 : y3*y3 - x3*x3 = 1 + d*x3*x3*y3*y3) :
  ((y1*y2+x1*x2)*(1 + d*x1*x2*y1*y2)*y3 + (x1*y2+y1*x2)*(1-d*x1*x2*y1*y2)*x3) * ((1 - d*x2*x3*y2*y3*(d*x2*x3*y2*y3)) - d*(x2*y3+y2*x3)*(y2*y3+x2*x3)*x1*y1)
  = ((y2*y3+x2*x3)*(1 + d*x2*x3*y2*y3)*y1 + (x2*y3+y2*x3)*(1-d*x2*x3*y2*y3)*x1) * ((1 - d*x1*x2*y1*y2*(d*x1*x2*y1*y2)) - d*(x1*y2+y1*x2)*(y1*y2+x1*x2)*x3*y3) := by grind
theorem on_poly {n : Nat} [NeZero n] (x1 y1 x2 y2 d : Fin n) (h1 : y1*y1 - x1*x1 = 1 + d*x1*x1*y1*y1) (h2 : y2*y2 - x2*x2 = 1 + d*x2*x2*y2*y2) :
  (y1*y2+x1*x2)*(y1*y2+x1*x2)*((1+d*x1*x2*y1*y2)*(1+d*x1*x2*y1*y2)) - (x1*y2+y1*x2)*(x1*y2+y1*x2)*((1-d*x1*x2*y1*y2)*(1-d*x1*x2*y1*y2))
  = (1+d*x1*x2*y1*y2)*(1+d*x1*x2*y1*y2)*((1-d*x1*x2*y1*y2)*(1-d*x1*x2*y1*y2)) + d*((x1*y2+y1*x2)*(x1*y2+y1*x2))*((y1*y2+x1*x2)*(y1*y2+x1*x2)) := by grind
theorem on_div {n : Nat} [NeZero n] (X Y p q a b d : Fin n) (ha : p*a = 1) (hb : q*b = 1) (h : Y*Y*(p*p) - X*X*(q*q) = p*p*(q*q) + d*(X*X)*(Y*Y)) : Y*b*(Y*b) - X*a*(X*a) = 1 + d*(X*a)*(X*a)*(Y*b)*(Y*b) := by
 have e : (Y*Y*(p*p) - X*X*(q*q)) * (a*a*(b*b)) = (p*p*(q*q) + d*(X*X)*(Y*Y)) * (a*a*(b*b)) := by rw [h]
 grind
theorem full_plus {n : Nat} [NeZero n] (x1 y1 x2 y2 d i e : Fin n) (hi : i*i + 1 = 0) (h1 : y1*y1 - x1*x1 = 1 + d*x1*x1*y1*y1) (h2 : y2*y2 - x2*x2 = 1 + d*x2*x2*y2*y2) (he : e = d*x1*x2*y1*y2) (h : e*e = 1) :
  (i*x1 + e*y1)*(i*x1+e*y1) = d*(x1*y1*(i*x2+y2))*(x1*y1*(i*x2+y2)) := by grind
theorem full_minus {n : Nat} [NeZero n] (x1 y1 x2 y2 d i e : Fin n) (hi : i*i + 1 = 0) (h1 : y1*y1 - x1*x1 = 1 + d*x1*x1*y1*y1) (h2 : y2*y2 - x2*x2 = 1 + d*x2*x2*y2*y2) (he : e = d*x1*x2*y1*y2) (h : e*e = 1) :
  (i*x1 - e*y1)*(i*x1-e*y1) = d*(x1*y1*(i*x2-y2))*(x1*y1*(i*x2-y2)) := by grind
/-- What is asked of the numbers. -/
structure Ok (n : Nat) [NeZero n] (d i : Fin n) (inv : Fin n → Fin n) : Prop where
 hi : i*i + 1 = 0
 hinv : ∀ a, a ≠ 0 → a * inv a = 1
 nsq : ∀ t, t*t + d ≠ 0
 two : (1 + 1 : Fin n) ≠ 0
section
variable {n : Nat} [NeZero n] {d i : Fin n} {inv : Fin n → Fin n}
theorem Ok.dom (h : Ok n d i inv) {a b : Fin n} (hab : a*b = 0) : a = 0 ∨ b = 0 := by
 by_cases ha : a = 0
 · exact Or.inl ha
 ·
  right
  have := h.hinv a ha
  grind
theorem Ok.mul_ne (h : Ok n d i inv) {a b : Fin n} (ha : a ≠ 0) (hb : b ≠ 0) : a*b ≠ 0 := fun e => (h.dom e).elim ha hb
theorem Ok.one (h : Ok n d i inv) : (1 : Fin n) ≠ 0 := fun e => h.two (by rw [e]; grind)
theorem Ok.cancel (h : Ok n d i inv) {a b c : Fin n} (hc : c ≠ 0) (e : a*c = b*c) : a = b := by
 have h1 : (a - b)*c = 0 := by grind
 rcases h.dom h1 with h2 | h2
 · grind
 · exact absurd h2 hc
def On (d x y : Fin n) : Prop := y*y - x*x = 1 + d*x*x*y*y
theorem Ok.full (h : Ok n d i inv) {x1 y1 x2 y2 : Fin n} (h1 : On d x1 y1) (h2 : On d x2 y2) : d*x1*x2*y1*y2*(d*x1*x2*y1*y2) ≠ 1 := fun he => by
 have f1 := full_plus x1 y1 x2 y2 d i _ h.hi h1 h2 rfl he
 have f2 := full_minus x1 y1 x2 y2 d i _ h.hi h1 h2 rfl he
 have n1 : x1*y1 ≠ 0 := fun h0 => h.one (by grind)
 have ny : y2 ≠ 0 := fun h0 => h.one (by grind)
 have sq : ∀ r s : Fin n, s ≠ 0 → r*r = d*s*s → False := fun r s hs e => by
  have hv := h.hinv s hs
  exact h.nsq (i*(r*inv s)) (by have := h.hi; grind)
 by_cases c1 : i*x2 + y2 = 0
 ·
  by_cases c2 : i*x2 - y2 = 0
  ·
   have : (1 + 1)*y2 = 0 := by grind
   exact (h.dom this).elim h.two ny
  · exact sq _ _ (h.mul_ne n1 c2) f2
 · exact sq _ _ (h.mul_ne n1 c1) f1
theorem Ok.full1 (h : Ok n d i inv) {x1 y1 x2 y2 : Fin n} (h1 : On d x1 y1) (h2 : On d x2 y2) : 1 + d*x1*x2*y1*y2 ≠ 0 := fun e => h.full h1 h2 (by grind)
theorem Ok.full2 (h : Ok n d i inv) {x1 y1 x2 y2 : Fin n} (h1 : On d x1 y1) (h2 : On d x2 y2) : 1 - d*x1*x2*y1*y2 ≠ 0 := fun e => h.full h1 h2 (by grind)
end
end Ed
end Go.Proofs.YtegbnadnodlalaaGreatDoor
namespace Go.Proofs.YtegbnadnodlalaaGreatDoor
namespace Ed
set_option maxHeartbeats 4000000
structure Pt {n : Nat} [NeZero n] (d : Fin n) where
 x : Fin n
 y : Fin n
 on : On d x y
theorem Pt.same {n : Nat} [NeZero n] {d : Fin n} {P Q : Pt d} (hx : P.x = Q.x) (hy : P.y = Q.y) : P = Q := by
 cases P
 cases Q
 cases hx
 cases hy
 rfl
section
variable {n : Nat} [NeZero n] {d i : Fin n} {inv : Fin n → Fin n}
theorem Ok.sum_on (h : Ok n d i inv) {x1 y1 x2 y2 : Fin n} (h1 : On d x1 y1) (h2 : On d x2 y2) : On d ((x1*y2+y1*x2) * inv (1 + d*x1*x2*y1*y2)) ((y1*y2+x1*x2) * inv (1 - d*x1*x2*y1*y2)) :=
 on_div _ _ _ _ _ _ d (h.hinv _ (h.full1 h1 h2)) (h.hinv _ (h.full2 h1 h2)) (on_poly x1 y1 x2 y2 d h1 h2)
def add (h : Ok n d i inv) (P Q : Pt d) : Pt d := ⟨_, _, h.sum_on P.on Q.on⟩
theorem add_x (h : Ok n d i inv) (P Q : Pt d) : (add h P Q).x * (1 + d*P.x*Q.x*P.y*Q.y) = P.x*Q.y + P.y*Q.x := by
 have := h.hinv _ (h.full1 P.on Q.on)
 show (P.x*Q.y+P.y*Q.x) * inv (1 + d*P.x*Q.x*P.y*Q.y) * (1 + d*P.x*Q.x*P.y*Q.y) = _
 generalize inv (1 + d*P.x*Q.x*P.y*Q.y) = k at *
 grind
theorem add_y (h : Ok n d i inv) (P Q : Pt d) : (add h P Q).y * (1 - d*P.x*Q.x*P.y*Q.y) = P.y*Q.y + P.x*Q.x := by
 have := h.hinv _ (h.full2 P.on Q.on)
 show (P.y*Q.y+P.x*Q.x) * inv (1 - d*P.x*Q.x*P.y*Q.y) * (1 - d*P.x*Q.x*P.y*Q.y) = _
 generalize inv (1 - d*P.x*Q.x*P.y*Q.y) = k at *
 grind
/-- A point is known by what its parts times what isn't 0 are. -/
theorem pt_eq (h : Ok n d i inv) {P Q : Pt d} {r s : Fin n} (hr : r ≠ 0) (hs : s ≠ 0) (hx : P.x*r = Q.x*r) (hy : P.y*s = Q.y*s) : P = Q :=
 Pt.same (h.cancel hr hx) (h.cancel hs hy)
theorem add_comm (h : Ok n d i inv) (P Q : Pt d) : add h P Q = add h Q P := by
 have e1 := add_x h P Q
 have e2 := add_x h Q P
 have e3 := add_y h P Q
 have e4 := add_y h Q P
 refine pt_eq h (h.full1 P.on Q.on) (h.full2 P.on Q.on) ?_ ?_
 · grind
 · grind
def zero (d : Fin n) : Pt d := ⟨0, 1, by unfold On; grind⟩
def neg (P : Pt d) : Pt d := ⟨-P.x, P.y, by have := P.on; unfold On at *; grind⟩
theorem add_zero (h : Ok n d i inv) (P : Pt d) : add h P (zero d) = P := by
 have e1 := add_x h P (zero d)
 have e2 := add_y h P (zero d)
 have x0 : (zero d).x = 0 := rfl
 have y0 : (zero d).y = 1 := rfl
 rw [x0, y0] at e1 e2
 exact Pt.same (by grind) (by grind)
theorem zero_add (h : Ok n d i inv) (P : Pt d) : add h (zero d) P = P := by rw [add_comm, add_zero]
theorem add_neg (h : Ok n d i inv) (P : Pt d) : add h P (neg P) = zero d := by
 have e1 := add_x h P (neg P)
 have e2 := add_y h P (neg P)
 have x0 : (neg P).x = -P.x := rfl
 have y0 : (neg P).y = P.y := rfl
 have c1 := h.full1 P.on (neg P).on
 have c2 := h.full2 P.on (neg P).on
 have ho := P.on
 unfold On at ho
 rw [x0, y0] at e1 e2 c1 c2
 have zx : (zero d).x = 0 := rfl
 have zy : (zero d).y = 1 := rfl
 refine pt_eq h c1 c2 ?_ ?_
 · rw [zx]; grind
 · rw [zy]; grind
theorem tri1 {L p q K a b u v : Fin n} (c : L*K = a*u + b*v) : L*(p*q*K) = a*p*q*u + b*q*p*v := by grind
theorem tri2 {L p q K a b u v : Fin n} (c : L*K = v*b + u*a) : L*(p*q*K) = a*p*q*u + b*q*p*v := by grind
theorem tri3 {L p q K a b u v : Fin n} (c : L*K = a*u + b*v) : L*(p*q*K) = a*q*p*u + b*p*q*v := by grind
theorem tri4 {L p q K a b u v : Fin n} (c : L*K = u*a + v*b) : L*(p*q*K) = a*q*p*u + b*p*q*v := by grind
theorem tri5 (D a b u v : Fin n) : (1+D)*(1-D)*(1 + d*a*u*b*v) = (1 - D*D) + d*(a*(1+D))*(b*(1-D))*u*v := by grind
theorem tri6 (D a b u v : Fin n) : (1+D)*(1-D)*(1 + d*u*a*v*b) = (1 - D*D) + d*(a*(1+D))*(b*(1-D))*u*v := by grind
theorem tri7 (D a b u v : Fin n) : (1+D)*(1-D)*(1 - d*a*u*b*v) = (1 - D*D) - d*(a*(1+D))*(b*(1-D))*u*v := by grind
theorem tri8 (D a b u v : Fin n) : (1+D)*(1-D)*(1 - d*u*a*v*b) = (1 - D*D) - d*(a*(1+D))*(b*(1-D))*u*v := by grind
theorem tri9 {A B X Y : Fin n} (e : X*A*B = Y*B*A) : X*(A*B) = Y*(A*B) := by grind
theorem add_assoc (h : Ok n d i inv) (P Q R : Pt d) : add h (add h P Q) R = add h P (add h Q R) := by
 have a1 := add_x h P Q
 have a2 := add_y h P Q
 have b1 := add_x h Q R
 have b2 := add_y h Q R
 have c1 := add_x h (add h P Q) R
 have c2 := add_y h (add h P Q) R
 have d1 := add_x h P (add h Q R)
 have d2 := add_y h P (add h Q R)
 have n1 := h.full1 P.on Q.on
 have n2 := h.full2 P.on Q.on
 have n3 := h.full1 Q.on R.on
 have n4 := h.full2 Q.on R.on
 have m1 := h.full1 (add h P Q).on R.on
 have m2 := h.full2 (add h P Q).on R.on
 have m3 := h.full1 P.on (add h Q R).on
 have m4 := h.full2 P.on (add h Q R).on
 have ax := assoc_x P.x P.y Q.x Q.y R.x R.y d P.on Q.on R.on
 have ay := assoc_y P.x P.y Q.x Q.y R.x R.y d P.on Q.on R.on
 generalize add h (add h P Q) R = L at *
 generalize add h P (add h Q R) = L' at *
 generalize add h P Q = S at *
 generalize add h Q R = T at *
 have ho := L.on
 clear ho
 obtain ⟨x1, y1, h1⟩ := P
 obtain ⟨x2, y2, h2⟩ := Q
 obtain ⟨x3, y3, h3⟩ := R
 obtain ⟨sx, sy, hs⟩ := S
 obtain ⟨tx, ty, ht⟩ := T
 obtain ⟨lx, ly, hl⟩ := L
 obtain ⟨mx, my, hm⟩ := L'
 simp only at *
 have k1 : lx * ((1 + d*x1*x2*y1*y2)*(1 - d*x1*x2*y1*y2)*(1 + d*sx*x3*sy*y3)) = (x1*y2+y1*x2)*(1 - d*x1*x2*y1*y2)*y3 + (y1*y2+x1*x2)*(1+d*x1*x2*y1*y2)*x3 := by
  rw [← a1, ← a2]
  exact tri1 c1
 have k2 : mx * ((1 + d*x2*x3*y2*y3)*(1 - d*x2*x3*y2*y3)*(1 + d*x1*tx*y1*ty)) = (x2*y3+y2*x3)*(1 - d*x2*x3*y2*y3)*y1 + (y2*y3+x2*x3)*(1+d*x2*x3*y2*y3)*x1 := by
  rw [← b1, ← b2]
  exact tri2 d1
 have k3 : (1 + d*x1*x2*y1*y2)*(1 - d*x1*x2*y1*y2)*(1 + d*sx*x3*sy*y3) = (1 - d*x1*x2*y1*y2*(d*x1*x2*y1*y2)) + d*(x1*y2+y1*x2)*(y1*y2+x1*x2)*x3*y3 := by
  rw [← a1, ← a2]
  exact tri5 _ _ _ _ _
 have k4 : (1 + d*x2*x3*y2*y3)*(1 - d*x2*x3*y2*y3)*(1 + d*x1*tx*y1*ty) = (1 - d*x2*x3*y2*y3*(d*x2*x3*y2*y3)) + d*(x2*y3+y2*x3)*(y2*y3+x2*x3)*x1*y1 := by
  rw [← b1, ← b2]
  exact tri6 _ _ _ _ _
 have k5 : ly * ((1 + d*x1*x2*y1*y2)*(1 - d*x1*x2*y1*y2)*(1 - d*sx*x3*sy*y3)) = (y1*y2+x1*x2)*(1 + d*x1*x2*y1*y2)*y3 + (x1*y2+y1*x2)*(1-d*x1*x2*y1*y2)*x3 := by
  rw [← a1, ← a2]
  exact tri3 c2
 have k6 : my * ((1 + d*x2*x3*y2*y3)*(1 - d*x2*x3*y2*y3)*(1 - d*x1*tx*y1*ty)) = (y2*y3+x2*x3)*(1 + d*x2*x3*y2*y3)*y1 + (x2*y3+y2*x3)*(1-d*x2*x3*y2*y3)*x1 := by
  rw [← b1, ← b2]
  exact tri4 d2
 have k7 : (1 + d*x1*x2*y1*y2)*(1 - d*x1*x2*y1*y2)*(1 - d*sx*x3*sy*y3) = (1 - d*x1*x2*y1*y2*(d*x1*x2*y1*y2)) - d*(x1*y2+y1*x2)*(y1*y2+x1*x2)*x3*y3 := by
  rw [← a1, ← a2]
  exact tri7 _ _ _ _ _
 have k8 : (1 + d*x2*x3*y2*y3)*(1 - d*x2*x3*y2*y3)*(1 - d*x1*tx*y1*ty) = (1 - d*x2*x3*y2*y3*(d*x2*x3*y2*y3)) - d*(x2*y3+y2*x3)*(y2*y3+x2*x3)*x1*y1 := by
  rw [← b1, ← b2]
  exact tri8 _ _ _ _ _
 rw [← k1, ← k2, ← k3, ← k4] at ax
 rw [← k5, ← k6, ← k7, ← k8] at ay
 clear k1 k2 k3 k4 k5 k6 k7 k8 a1 a2 b1 b2 c1 c2 d1 d2
 have M1 := h.mul_ne (h.mul_ne n1 n2) m1
 have M2 := h.mul_ne (h.mul_ne n3 n4) m3
 have M3 := h.mul_ne (h.mul_ne n1 n2) m2
 have M4 := h.mul_ne (h.mul_ne n3 n4) m4
 generalize (1 + d*x1*x2*y1*y2)*(1 - d*x1*x2*y1*y2)*(1 + d*sx*x3*sy*y3) = A1 at *
 generalize (1 + d*x2*x3*y2*y3)*(1 - d*x2*x3*y2*y3)*(1 + d*x1*tx*y1*ty) = A2 at *
 generalize (1 + d*x1*x2*y1*y2)*(1 - d*x1*x2*y1*y2)*(1 - d*sx*x3*sy*y3) = A3 at *
 generalize (1 + d*x2*x3*y2*y3)*(1 - d*x2*x3*y2*y3)*(1 - d*x1*tx*y1*ty) = A4 at *
 refine pt_eq h (h.mul_ne M1 M2) (h.mul_ne M3 M4) ?_ ?_
 · exact tri9 ax
 · exact tri9 ay
/-- A point, so many times. -/
def times (h : Ok n d i inv) : Nat → Pt d → Pt d
 | 0, _ => zero d
 | k + 1, P => add h (times h k P) P
theorem times_one (h : Ok n d i inv) (P : Pt d) : times h 1 P = P := zero_add h P
theorem times_zero (h : Ok n d i inv) : ∀ k, times h k (zero d) = zero d
 | 0 => rfl
 | k + 1 => by rw [times, times_zero h k, add_zero]
theorem times_plus (h : Ok n d i inv) (a : Nat) (P : Pt d) : ∀ b, times h (a + b) P = add h (times h a P) (times h b P)
 | 0 => by rw [Nat.add_zero, times, add_zero]
 | b + 1 => by rw [← Nat.add_assoc, times, times_plus h a P b, times, add_assoc]
theorem times_times (h : Ok n d i inv) (a : Nat) (P : Pt d) : ∀ b, times h (a * b) P = times h b (times h a P)
 | 0 => rfl
 | b + 1 => by rw [Nat.mul_succ, times_plus, times_times h a P b, times]
theorem cancel_add (h : Ok n d i inv) {P Q R : Pt d} (e : add h P R = add h Q R) : P = Q := by
 have := congrArg (fun T => add h T (neg R)) e
 simp only [add_assoc, add_neg, add_zero] at this
 exact this
/-- Multiples that are nothing, both of them, and their greatest common divisor's. -/
theorem times_gcd (h : Ok n d i inv) (P : Pt d) : ∀ (a b : Nat), times h a P = zero d → times h b P = zero d → times h (Nat.gcd a b) P = zero d := by
 intro a
 induction a using Nat.strongRecOn with
 | _ a ih =>
  intro b ha hb
  rcases Nat.eq_zero_or_pos a with h0 | h0
  ·
   rw [h0, Nat.gcd_zero_left]
   exact hb
  ·
   rw [Nat.gcd_rec]
   refine ih _ (Nat.mod_lt _ h0) a ?_ ha
   have e := Nat.div_add_mod b a
   rw [← e, times_plus, times_times, ha, times_zero, zero_add] at hb
   exact hb
end
end Ed
end Go.Proofs.YtegbnadnodlalaaGreatDoor
namespace Go.Proofs.YtegbnadnodlalaaGreatDoor
namespace Ed
set_option maxHeartbeats 4000000
section
variable {n : Nat} [NeZero n] {d i : Fin n} {inv : Fin n → Fin n}
def Rep (U W : Fin n) (P : Pt d) : Prop := ∃ l, l ≠ 0 ∧ U = l*(1 + P.y) ∧ W = l*(1 - P.y)
theorem conic {x y c : Fin n} (hc : (c + 1)*d + c = 0) (ho : y*y - x*x = 1 + d*x*x*y*y) : (1 + x*x)*(1 + c - c*(y*y)) = y*y := by grind
theorem dbl_u {l x y c q y' : Fin n} (hf : (1 + x*x)*(1 + c - c*(y*y)) = y*y) (hq : q = 2 - y*y + x*x) (hy : y'*q = y*y + x*x) :
  (l*(1+y) + l*(1-y))*(l*(1+y) + l*(1-y))*((l*(1+y) - l*(1-y))*(l*(1+y) - l*(1-y))) = 8*(l*l*(l*l))*q*(1 + c - c*(y*y))*(1 + y') := by grind
theorem dbl_w {l x y c q y' : Fin n} (hf : (1 + x*x)*(1 + c - c*(y*y)) = y*y) (hq : q = 2 - y*y + x*x) (hy : y'*q = y*y + x*x) :
  ((l*(1+y) + l*(1-y))*(l*(1+y) + l*(1-y)) - (l*(1+y) - l*(1-y))*(l*(1+y) - l*(1-y)))*((l*(1+y) + l*(1-y))*(l*(1+y) + l*(1-y)) + c*((l*(1+y) + l*(1-y))*(l*(1+y) + l*(1-y)) - (l*(1+y) - l*(1-y))*(l*(1+y) - l*(1-y)))) = 8*(l*l*(l*l))*q*(1 + c - c*(y*y))*(1 - y') := by grind
theorem q_eq {x y : Fin n} (ho : y*y - x*x = 1 + d*x*x*y*y) : 1 - d*x*x*y*y = 2 - y*y + x*x := by grind
theorem eight_is : ((1 + 1 : Fin n)*(1 + 1)*(1 + 1) : Fin n) = 8 := by grind
theorem four_is : ((1 + 1 : Fin n)*(1 + 1) : Fin n) = 4 := by grind
theorem Ok.eight (h : Ok n d i inv) : (8 : Fin n) ≠ 0 := (eight_is (n := n)) ▸ h.mul_ne (h.mul_ne h.two h.two) h.two
theorem Ok.four (h : Ok n d i inv) : (4 : Fin n) ≠ 0 := (four_is (n := n)) ▸ h.mul_ne h.two h.two
/-- Twice a point. -/
theorem rep_dbl (h : Ok n d i inv) {c : Fin n} (hc : (c + 1)*d + c = 0) (hc1 : c + 1 ≠ 0) {U W : Fin n} {P : Pt d} (hr : Rep U W P) :
  Rep ((U+W)*(U+W)*((U-W)*(U-W))) (((U+W)*(U+W) - (U-W)*(U-W))*((U+W)*(U+W) + c*((U+W)*(U+W) - (U-W)*(U-W)))) (add h P P) := by
 obtain ⟨l, hl, rfl, rfl⟩ := hr
 have ho := P.on
 unfold On at ho
 have hy := add_y h P P
 have hq0 := h.full2 P.on P.on
 have hf := conic hc ho
 have hq := q_eq ho
 generalize (add h P P) = S at *
 obtain ⟨x, y, on⟩ := P
 obtain ⟨sx, sy, son⟩ := S
 simp only at *
 generalize 1 - d*x*x*y*y = q at *
 refine ⟨8*(l*l*(l*l))*q*(1 + c - c*(y*y)), ?_, dbl_u hf hq hy, dbl_w hf hq hy⟩
 refine h.mul_ne (h.mul_ne (h.mul_ne h.eight (h.mul_ne (h.mul_ne hl hl) (h.mul_ne hl hl))) hq0) ?_
 intro e
 rw [e] at hf
 have y0 : y*y = 0 := by rw [← hf]; exact Fin.mul_zero _
 rw [y0] at e
 apply hc1
 grind
theorem diff_add {x1 y1 x3 y3 : Fin n} (h1 : y1*y1 - x1*x1 = 1 + d*x1*x1*y1*y1) (h3 : y3*y3 - x3*x3 = 1 + d*x3*x3*y3*y3) :
  ((1 - d*x1*x3*y1*y3) - (y1*y3 + x1*x3)) * ((1 + d*x1*x3*y1*y3) - (y1*y3 - x1*x3)) * ((y1+y3)*(y1+y3)) = ((1 - d*x1*x3*y1*y3) + (y1*y3 + x1*x3)) * ((1 + d*x1*x3*y1*y3) + (y1*y3 - x1*x3)) * ((y3-y1)*(y3-y1)) := by grind
theorem diff2 {p q s t y' y0 S T : Fin n} (hs : y'*p = s) (ht : y0*q = t) (e : (p - s)*(q - t)*S = (p + s)*(q + t)*T) : ((1 - y')*(1 - y0)*S)*(p*q) = ((1 + y')*(1 + y0)*T)*(p*q) := by grind
theorem flip_add (a b : Fin n) : a + b = b + a := by grind
theorem diff3a {a y0 k p : Fin n} : a*(4*k*p*(4*k*p))*(1 - y0) = a*(1 - y0)*(p*p)*(16*k*k) := by grind
theorem diff3b {a b k p : Fin n} : a*b*(p*p)*(16*k*k) = a*(4*k*p*(4*k*p))*b := by grind
theorem diff3c {a u b T : Fin n} : a*T*(u*b) = a*(u*T)*b := by grind
theorem diff3 {y' y0 u l m y1 y3 : Fin n} (hu : u*(1 - y0) = 1 + y0) (e : (1 - y')*(1 - y0)*((y1+y3)*(y1+y3)) = (1 + y')*(1 + y0)*((y3-y1)*(y3-y1))) (S T : Fin n) (hS : S = 4*(l*m)*(y3+y1)) (hT : T = 4*(l*m)*(y3-y1)) :
  ((1 - y')*(S*S))*(1 - y0) = ((1 + y')*(u*(T*T)))*(1 - y0) := by
 rw [hS, diff3a, flip_add y3 y1, e, diff3b, ← hT, ← hu, diff3c]
theorem sum_ls {l m y1 y3 : Fin n} : (m*(1+y3) - m*(1-y3))*(l*(1+y1) + l*(1-y1)) + (m*(1+y3) + m*(1-y3))*(l*(1+y1) - l*(1-y1)) = 4*(l*m)*(y3+y1) := by grind
theorem dif_ls {l m y1 y3 : Fin n} : (m*(1+y3) - m*(1-y3))*(l*(1+y1) + l*(1-y1)) - (m*(1+y3) + m*(1-y3))*(l*(1+y1) - l*(1-y1)) = 4*(l*m)*(y3-y1) := by grind
theorem rep_of (h : Ok n d i inv) {X Z : Fin n} (P : Pt d) (e : (1 - P.y)*X = (1 + P.y)*Z) (hne : ¬ (X = 0 ∧ Z = 0)) : Rep X Z P := by
 have h2 := h.hinv _ h.two
 have ex : X = (X + Z)*inv (1+1)*(1 + P.y) := by generalize inv (1+1) = k at *; generalize P.y = y at *; grind
 have ez : Z = (X + Z)*inv (1+1)*(1 - P.y) := by generalize inv (1+1) = k at *; generalize P.y = y at *; grind
 refine ⟨(X + Z)*inv (1+1), ?_, ex, ez⟩
 intro e0
 rw [e0] at ex ez
 exact hne ⟨by rw [ex]; exact Fin.zero_mul _, by rw [ez]; exact Fin.zero_mul _⟩
/-- Two points, added up, where their difference is known. -/
theorem rep_add (h : Ok n d i inv) {U W U' W' u : Fin n} {P Q P0 : Pt d} (hr : Rep U W P) (hr' : Rep U' W' Q) (hd : P0.y*(1 + d*P.x*Q.x*P.y*Q.y) = P.y*Q.y - P.x*Q.x)
  (hu : u*(1 - P0.y) = 1 + P0.y) (n1 : 1 - P0.y ≠ 0) (n2 : 1 + P0.y ≠ 0) :
  Rep (((U'-W')*(U+W) + (U'+W')*(U-W))*((U'-W')*(U+W) + (U'+W')*(U-W))) (u*(((U'-W')*(U+W) - (U'+W')*(U-W))*((U'-W')*(U+W) - (U'+W')*(U-W)))) (add h P Q) := by
 obtain ⟨l, hl, rfl, rfl⟩ := hr
 obtain ⟨m, hm, rfl, rfl⟩ := hr'
 have ho := P.on
 have ho' := Q.on
 unfold On at ho ho'
 have hy := add_y h P Q
 have f1 := h.full1 P.on Q.on
 have f2 := h.full2 P.on Q.on
 have e2 := h.cancel (h.mul_ne f2 f1) (diff2 hy hd (diff_add ho ho'))
 have e3 := h.cancel n1 (diff3 (l := l) (m := m) hu e2 _ _ sum_ls dif_ls)
 refine rep_of h _ e3 ?_
 rintro ⟨z1, z2⟩
 have uz : u ≠ 0 := fun e => n2 (by rw [← hu, e]; exact Fin.zero_mul _)
 have four := h.four
 rw [sum_ls] at z1
 rw [dif_ls] at z2
 have s0 : 4*(l*m)*(Q.y+P.y) = 0 := (h.dom z1).elim id id
 have t0 : 4*(l*m)*(Q.y-P.y) = 0 := ((h.dom z2).elim (fun e => absurd e uz) id |> h.dom).elim id id
 have lm := h.mul_ne four (h.mul_ne hl hm)
 have s1 := (h.dom s0).elim (fun e => absurd e lm) id
 have t1 := (h.dom t0).elim (fun e => absurd e lm) id
 clear e2 e3 z1 z2 s0 t0 hy f1 f2 lm four uz hu hl hm
 have yq : Q.y = 0 := by
  have : (1 + 1)*Q.y = 0 := by generalize Q.y = a at *; generalize P.y = b at *; grind
  exact (h.dom this).elim (fun e => absurd e h.two) id
 have yp : P.y = 0 := by rw [yq] at s1; generalize P.y = b at *; grind
 rw [yq, yp] at hd
 rw [yp] at ho
 rw [yq] at ho'
 generalize P.x = x1 at *
 generalize Q.x = x3 at *
 generalize P0.y = y0 at *
 clear s1 t1 yq yp
 have e : (1 - y0)*(1 + y0) = 0 := by grind
 exact (h.dom e).elim n1 n2
theorem diff_sym {x1 y1 x2 y2 y3 : Fin n} (e : y3*(1 - d*x2*(-x1)*y2*y1) = y2*y1 + x2*(-x1)) : y3*(1 + d*x1*x2*y1*y2) = y1*y2 - x1*x2 := by grind
end
end Ed
end Go.Proofs.YtegbnadnodlalaaGreatDoor
