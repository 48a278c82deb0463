/- Noughts behind bytes; two rows of one's own that grow apart; the reference's Head, all together. A case's head (printed by gen13/nc.py). Chapter 8's reckoning as plain arithmetic, as the document's answer has it: products of bytes, Sub, the rounds' keys, a block through the rounds. Lists of bytes. Sparse frames: what the slots hold that are looked at, whatever the others hold; walks over them. The reference's Encrypt: its loops, taken out of the program; what memory holds in them (printed by gena9.py). Unlike blocks become unlike ones: Sub, the mixing, the moving and the joining go back. The reference's Encrypt: the rounds (loop 3) (printed by gena9.py). The reference's Encrypt: its contract (printed by gena9.py). -/
import Derived.Test.YtpihgljdbpnehaaDoorHSa0Zb
import Derived.Test.YtpihgljdbpnehaaDoorProg
import Derived.Test.YtpihgljdbpnehaaDoorLh0Lo
import Derived.Test.YtpihgljdbpnehaaDoorBg0Ya
namespace Go.Proofs.YtpihgljdbpnehaaDoor
open Go.RowKit
/-! Noughts behind bytes. -/
/-- A row of one's own that has a block. -/
structure Own1 (B : Nat) (w : World) (v : Value) (l : List Nat) : Prop where
  own : OwL B w v l
  some_ : v.ownBlock.isSome = true
/-- Two rows of one's own, of two blocks. -/
structure Own2 (B : Nat) (w : World) (v : Value) (l : List Nat) (u : Value) (m : List Nat) : Prop where
  fst : Own1 B w v l
  snd : Own1 B w u m
  ne : v.ownBlock ≠ u.ownBlock
theorem Own1.at_ {B : Nat} {w : World} {v : Value} {l : List Nat} (h : Own1 B w v l) : ∃ g, v.ownBlock = some g ∧ B ≤ g ∧ g < w.heap.size := by
  obtain ⟨g, hg⟩ := Option.isSome_iff_exists.1 h.some_
  exact ⟨g, hg, h.own.lt g hg⟩
theorem Own1.build (B : Nat) (w : World) (hB : B ≤ w.heap.size) : Own1 B (w.alloc (.cells #[] 5)) (.slice (some ⟨w.heap.size, 0, none⟩) 0 0) [] := ⟨ow_none B w hB, rfl⟩
theorem Own1.two {B : Nat} {w : World} {v : Value} {l : List Nat} (h : Own1 B w v l) (hB : B ≤ w.heap.size) : Own2 B (w.alloc (.cells #[] 5)) v l (.slice (some ⟨w.heap.size, 0, none⟩) 0 0) [] := by
  obtain ⟨g, hg, _, hl⟩ := h.at_
  exact ⟨⟨h.own.below ((Below.refl _ _).alloc (Nat.le_refl _) _), h.some_⟩, Own1.build B w hB, by rw [hg]; intro e; have := Option.some.inj e; dsimp only at this; omega⟩
/-- What a call did that let a row grow, beside another one. -/
theorem Own2.grow {B : Nat} {w w' : World} {v v' u : Value} {l l' m : List Nat} (h : Own2 B w v l u m) (O : OwL B w' v' l') (g : w.grownBy w' v.ownBlock) (e : v'.ownBlock = v.ownBlock ∨ v'.ownBlock = some w.heap.size) : Own2 B w' v' l' u m := by
  obtain ⟨a, ha, _, la⟩ := h.fst.at_
  obtain ⟨b, hb, _, lb⟩ := h.snd.at_
  have nab : a ≠ b := fun x => h.ne (by rw [ha, hb, x])
  refine ⟨⟨O, by rcases e with e | e <;> rw [e]; exact h.fst.some_; rfl⟩, ⟨h.snd.own.of_block fun k hk => ?_, h.snd.some_⟩, ?_⟩
  · rw [hb] at hk
    have := Option.some.inj hk
    subst this
    exact g.block b lb (by rw [ha]; intro x; exact nab (Option.some.inj x).symm)
  · rw [hb]
    rcases e with e | e
    · rw [e, ha]; intro x; exact nab (Option.some.inj x)
    · rw [e]; intro x; have := Option.some.inj x; omega
theorem Own1.grow {B : Nat} {w w' : World} {v v' : Value} {l l' : List Nat} (h : Own1 B w v l) (O : OwL B w' v' l') (e : v'.ownBlock = v.ownBlock ∨ v'.ownBlock = some w.heap.size) : Own1 B w' v' l' :=
  ⟨O, by rcases e with e | e <;> rw [e]; exact h.some_; rfl⟩
theorem Own1.below {B : Nat} {w w' : World} {v : Value} {l : List Nat} (h : Own1 B w v l) (b : Below w.heap.size w w') : Own1 B w' v l := ⟨h.own.below b, h.some_⟩
theorem Own2.below {B : Nat} {w w' : World} {v u : Value} {l m : List Nat} (h : Own2 B w v l u m) (b : Below w.heap.size w w') : Own2 B w' v l u m := ⟨h.fst.below b, h.snd.below b, h.ne⟩
theorem Own1.slice {B : Nat} {w : World} {v : Value} {l : List Nat} (h : Own1 B w v l) : ∃ g c, v = .slice (some ⟨g, 0, none⟩) l.length c ∧ B ≤ g ∧ l.length ≤ c ∧ BA w g 0 l := by
  rcases h.own.row with ⟨rfl, _⟩ | ⟨g, c, rfl, hg, hc, _, A, _⟩
  · have := h.some_
    cases this
  · exact ⟨g, c, rfl, hg, hc, A⟩
end Go.Proofs.YtpihgljdbpnehaaDoor
namespace Go.Proofs.YtpihgljdbpnehaaDoor
open Go.RowKit
section
variable {P : Program} {md : Region.Mode} {ops : Array Oper} {Q : Exit → Act → World → Prop} {S : World → Prop}
/-- The one operation that is ready is run. -/
theorem hzstep {z fuel : Nat} {listed : Array Bool} {a : Act} {w : World} (i : Nat) {oi : Oper} (hi : ops.toList[i]? = some oi) (hr : Region.ready md ops listed = [i]) (hgd : oi.guard = none)
    (h : oi.wp P a w (fun a' w' => ((listed.setIfInBounds i true).getD z true = false → S w') ∧ wpAnyZ P md ops Q S z fuel (listed.setIfInBounds i true) a' w') Q) : wpAnyZ P md ops Q S z (fuel + 1) listed a w := by
  refine wpAnyZ_one hr ?_
  unfold wpOp
  rw [← Array.getElem?_toList, hi]
  have hw : Region.wanted oi (yielded ops a.tmps) = true := by simp [Region.wanted, hgd]
  simp only [hw, if_true]
  left
  exact h
/-- One of the two that are ready, whichever. -/
theorem hzsteps {z fuel : Nat} {listed : Array Bool} {a : Act} {w : World} (i j : Nat) {oi oj : Oper} (hi : ops.toList[i]? = some oi) (hj : ops.toList[j]? = some oj) (hr : Region.ready md ops listed = [i, j]) (gi : oi.guard = none) (gj : oj.guard = none)
    (h1 : oi.wp P a w (fun a' w' => ((listed.setIfInBounds i true).getD z true = false → S w') ∧ wpAnyZ P md ops Q S z fuel (listed.setIfInBounds i true) a' w') Q)
    (h2 : oj.wp P a w (fun a' w' => ((listed.setIfInBounds j true).getD z true = false → S w') ∧ wpAnyZ P md ops Q S z fuel (listed.setIfInBounds j true) a' w') Q) : wpAnyZ P md ops Q S z (fuel + 1) listed a w := by
  refine wpAnyZ_two hr ?_ ?_
  · unfold wpOp
    rw [← Array.getElem?_toList, hi]
    have hw : Region.wanted oi (yielded ops a.tmps) = true := by simp [Region.wanted, gi]
    simp only [hw, if_true]
    left
    exact h1
  · unfold wpOp
    rw [← Array.getElem?_toList, hj]
    have hw : Region.wanted oj (yielded ops a.tmps) = true := by simp [Region.wanted, gj]
    simp only [hw, if_true]
    left
    exact h2
end
theorem cell_one (q : Int) (p1 p2 : Option Addr) (n1 n2 c1 c2 : Nat) : (#[Value.int .i64 q, .slice p1 n1 c1, .slice p2 n2 c2] : Array Value).all (·.oneCell') = true := by simp [Value.oneCell']
theorem load_hdS {ops : Array Oper} {S : World → Prop} {o : Oper} {a : Act} (hgd : Region.wanted o (yielded ops a.tmps) = true) (x : Operand) (ho : o.op = .load 42 x) (g : Nat) (hx : a.eval x = .pointer (some ⟨g, 0, none⟩)) (sp : Int) (vt vf : Value) (K : ∀ w, S w → Blk w g 42 #[.int .i64 sp, vt, vf]) : YieldsIf Tryd.prog ops S o (.agg #[.int .i64 sp, vt, vf]) a :=
  yieldsIf_load_mid (S := S) hgd 42 x ho g 0 hx [.int .i64 sp, vt, vf] _ (fun w h => blk_range (K w h)) Tryd.underlying42 rfl info_hd
/-- Bytes that were there ahead lie in no block that came later. -/
theorem SB.old {W : World} {p : Option Addr} {k c : Nat} {l : List Nat} (h : SB W (.slice p k c) l) {g : Nat} (hg : W.heap.size ≤ g) : ∀ g1 o n d, Value.slice p k c = .slice (some ⟨g1, o, none⟩) n d → l = [] ∨ g1 ≠ g := fun g1 o n d e => by
  obtain ⟨q, c2, e2, _, h0 | ⟨g2, o2, rfl, A⟩⟩ := h
  · exact Or.inl h0
  · simp only [Value.slice.injEq] at e e2
    have := A.blk
    obtain ⟨rfl, _, _⟩ := e2
    obtain ⟨e3, _, _⟩ := e
    simp only [Option.some.injEq, Addr.mk.injEq] at e3
    exact Or.inr (by omega)
end Go.Proofs.YtpihgljdbpnehaaDoor
namespace Go.Proofs.YtpihgljdbpnehaaDoor
open Go
/-- One step of a product: doubled modulo the polynomial, joined where the bit is told. -/
def bstep (a b p i : Nat) : Nat := if b / 2 ^ i % 2 = 1 then (if 255 < p * 2 then (p * 2) ^^^ 283 else p * 2) ^^^ a else (if 255 < p * 2 then (p * 2) ^^^ 283 else p * 2)
def byteF (a b : Nat) : Nat → Nat
  | 0 => 0
  | k + 1 => bstep a b (byteF a b k) (7 - k)
/-- The product of two bytes. -/
def gm (a b : Nat) : Nat := byteF a b 8
theorem dbl_lt : ∀ p : Fin 256, (if 255 < p.val * 2 then (p.val * 2) ^^^ 283 else p.val * 2) < 256 := by decide +kernel
theorem xor_256 {a b : Nat} (ha : a < 256) (hb : b < 256) : a ^^^ b < 256 := Nat.xor_lt_two_pow (n := 8) ha hb
theorem bstep_lt {a p : Nat} (b i : Nat) (ha : a < 256) (hp : p < 256) : bstep a b p i < 256 := by
  have h := dbl_lt ⟨p, hp⟩
  unfold bstep
  split
  · exact xor_256 h ha
  · exact h
theorem byteF_lt {a : Nat} (b : Nat) (ha : a < 256) : ∀ k, byteF a b k < 256
  | 0 => by show 0 < 256; decide
  | k + 1 => bstep_lt _ _ ha (byteF_lt b ha k)
theorem gm_lt {a : Nat} (b : Nat) (ha : a < 256) : gm a b < 256 := byteF_lt b ha 8
/-- The byte whose product with x is 1, the last of them. -/
def invF (x : Nat) : Nat → Nat
  | 0 => 0
  | k + 1 => if gm x (k + 1) = 1 then k + 1 else invF x k
def inv8 (x : Nat) : Nat := if x = 0 then 0 else invF x 255
def sbit (y i : Nat) : Nat := (y / 2 ^ i ^^^ y / 2 ^ ((i + 4) % 8) ^^^ y / 2 ^ ((i + 5) % 8) ^^^ y / 2 ^ ((i + 6) % 8) ^^^ y / 2 ^ ((i + 7) % 8)) % 2
def outF (y : Nat) : Nat → Nat
  | 0 => 99
  | k + 1 => outF y k ^^^ (sbit y k * 2 ^ k)
theorem outF_lt (y : Nat) : ∀ k, k ≤ 8 → outF y k < 256
  | 0, _ => by show 99 < 256; decide
  | k + 1, h => by
    refine xor_256 (outF_lt y k (by omega)) ?_
    have h1 : sbit y k < 2 := Nat.mod_lt _ (by decide)
    have h2 : 2 ^ k ≤ 2 ^ 7 := Nat.pow_le_pow_right (by decide) (by omega)
    have h3 : sbit y k * 2 ^ k ≤ 1 * 2 ^ k := Nat.mul_le_mul_right _ (by omega)
    omega
/-- A byte for a byte. -/
def subN (x : Nat) : Nat := outF (inv8 x) 8
theorem subN_lt (x : Nat) : subN x < 256 := outF_lt _ 8 (Nat.le_refl _)
def boxL : List Nat := (List.range 256).map subN
theorem boxL_length : boxL.length = 256 := by simp [boxL]
theorem boxL_bytes : ∀ x ∈ boxL, x < 256 := fun x h => by
  unfold boxL at h
  obtain ⟨i, _, rfl⟩ := List.mem_map.1 h
  exact subN_lt i
/-- Four bytes of a key, as they are joined: B is the table, n how many there are. -/
def kw (B ks : List Nat) (c n j : Nat) : Nat :=
  if n % 16 = 0 then (if j = 0 then B.getD (ks.getD (n - 3) 0) 0 ^^^ c else B.getD (ks.getD (n - 4 + (j + 1) % 4) 0) 0) else ks.getD (n - 4 + j) 0
def kc (c n : Nat) : Nat := if n % 16 = 0 then gm c 2 else c
/-- The keys' bytes behind so many fours, and the power. -/
def keysF (B k : List Nat) : Nat → List Nat × Nat
  | 0 => (k, 1)
  | i + 1 => ((keysF B k i).1 ++ (List.range 4).map (fun j => (keysF B k i).1.getD (4 * i + j) 0 ^^^ kw B (keysF B k i).1 (keysF B k i).2 (16 + 4 * i) j), kc (keysF B k i).2 (16 + 4 * i))
def keysL (B k : List Nat) : List Nat := (keysF B k 40).1
theorem keysF_length (B k : List Nat) (h : k.length = 16) : ∀ i, (keysF B k i).1.length = 16 + 4 * i
  | 0 => h
  | i + 1 => by
    show ((keysF B k i).1 ++ _).length = _
    rw [List.length_append, keysF_length B k h i, List.length_map, List.length_range]
    omega
theorem keysF_c (B k : List Nat) : ∀ i, (keysF B k i).2 < 256
  | 0 => by show 1 < 256; decide
  | i + 1 => by
    show kc _ _ < 256
    unfold kc
    split
    · exact gm_lt _ (keysF_c B k i)
    · exact keysF_c B k i
theorem getD_lt {l : List Nat} (h : ∀ x ∈ l, x < 256) (i : Nat) : l.getD i 0 < 256 := by
  rw [List.getD_eq_getElem?_getD]
  by_cases hi : i < l.length
  · rw [List.getElem?_eq_getElem hi]
    exact h _ (List.getElem_mem hi)
  · rw [List.getElem?_eq_none (by omega)]
    decide
theorem kw_lt {B ks : List Nat} {c : Nat} (hB : ∀ x ∈ B, x < 256) (hk : ∀ x ∈ ks, x < 256) (hc : c < 256) (n j : Nat) : kw B ks c n j < 256 := by
  unfold kw
  split
  · split
    · exact xor_256 (getD_lt hB _) hc
    · exact getD_lt hB _
  · exact getD_lt hk _
theorem keysF_bytes {B k : List Nat} (hB : ∀ x ∈ B, x < 256) (hk : ∀ x ∈ k, x < 256) : ∀ i, ∀ x ∈ (keysF B k i).1, x < 256
  | 0 => hk
  | i + 1 => fun x hx => by
    rcases List.mem_append.1 (show x ∈ (keysF B k i).1 ++ _ from hx) with h | h
    · exact keysF_bytes hB hk i x h
    · obtain ⟨j, _, rfl⟩ := List.mem_map.1 h
      exact xor_256 (getD_lt (keysF_bytes hB hk i) _) (kw_lt hB (keysF_bytes hB hk i) (keysF_c B k i) _ _)
/-- A round's block: Subbed and moved; mixed; joined with the round's key. -/
def shiftB (B b : List Nat) (i : Nat) : Nat := B.getD (b.getD ((i + 4 * (i % 4)) % 16) 0) 0
def mixB (s : Nat → Nat) (i : Nat) : Nat := gm (s i) 2 ^^^ gm (s (i - i % 4 + (i + 1) % 4)) 3 ^^^ s (i - i % 4 + (i + 2) % 4) ^^^ s (i - i % 4 + (i + 3) % 4)
def roundB (B ks b : List Nat) (r : Nat) : List Nat := (List.range 16).map fun i => (if r < 10 then mixB (shiftB B b) i else shiftB B b i) ^^^ ks.getD (16 * r + i) 0
def blockF (B ks b : List Nat) : Nat → List Nat
  | 0 => (List.range 16).map fun i => b.getD i 0 ^^^ ks.getD i 0
  | r + 1 => roundB B ks (blockF B ks b r) (r + 1)
/-- A block, by a key. -/
def encL (B k b : List Nat) : List Nat := blockF B (keysL B k) b 10
theorem blockF_length (B ks b : List Nat) : ∀ r, (blockF B ks b r).length = 16
  | 0 => by simp [blockF]
  | r + 1 => by show (roundB _ _ _ _).length = _; simp [roundB]
end Go.Proofs.YtpihgljdbpnehaaDoor
namespace Go.Proofs.YtpihgljdbpnehaaDoor
open Go.RowKit
def look : List (Nat × Value) → Nat → Option Value
  | [], _ => none
  | (e, v) :: L, d => bif Nat.beq e d then some v else look L d
/-- The frame has N slots; those of the list hold what stands there. -/
structure Has (N : Nat) (L : List (Nat × Value)) (a : Act) : Prop where
  size : a.tmps.size = N
  defers : a.defers = []
  val : ∀ d v, look L d = some v → a.tmps.getD d undef = v
section
variable {N : Nat} {L : List (Nat × Value)} {a : Act}
theorem Has.at_ (h : Has N L a) (t : Nat) {v : Value} (hl : look L t = some v) : a.tmps[t]?.getD undef = v := by
  have := h.val t v hl
  rwa [Array.getD_eq_getD_getElem?] at this
theorem Has.put (h : Has N L a) (d : Nat) (v : Value) (hd : Nat.ble (d + 1) N = true) : Has N ((d, v) :: L) (a.put (some d) v) := by
  have hd' : d < N := Nat.le_of_ble_eq_true hd
  refine ⟨by simp [Act.put, h.size], h.defers, fun e u hl => ?_⟩
  unfold look at hl
  by_cases he : d = e
  · subst he
    have hb : Nat.beq d d = true := Nat.beq_refl d
    rw [hb] at hl
    simp only [cond_true, Option.some.injEq] at hl
    subst hl
    simp [Act.put, h.size, hd']
  · have hb : Nat.beq d e = false := by
      cases hc : Nat.beq d e with
      | false => rfl
      | true => exact absurd (Nat.eq_of_beq_eq_true hc) he
    rw [hb] at hl
    simp only [cond_false] at hl
    have := h.val e u hl
    simp only [Act.put, Array.getD_eq_getD_getElem?, Array.getElem?_setIfInBounds, if_neg he] at this ⊢
    exact this
end
end Go.Proofs.YtpihgljdbpnehaaDoor
namespace Go.Proofs.YtpihgljdbpnehaaDoor
open Go.RowKit
/-- Sixteen bytes by a function. -/
def LB (f : Nat → Nat) : List Nat := (List.range 16).map f
theorem LB_length (f : Nat → Nat) : (LB f).length = 16 := by simp [LB]
theorem LB_get (f : Nat → Nat) (i : Nat) (h : i < 16) : (LB f).getD i 0 = f i := by
  simp [LB, List.getD_eq_getElem?_getD, List.getElem?_map, List.getElem?_range h]
theorem LB_congr {f g : Nat → Nat} (h : ∀ i, i < 16 → f i = g i) : LB f = LB g := List.map_congr_left fun i hi => h i (List.mem_range.1 hi)
def MX (f g : Nat → Nat) (k i : Nat) : Nat := if i < k then f i else g i
/-- Sixteen bytes in block g. -/
def B16 (w : World) (g : Nat) (f : Nat → Nat) : Prop := Blk w g 26 (Iv .u8 (NI (LB f)))
theorem B16.cell {w : World} {g : Nat} {f : Nat → Nat} (h : B16 w g f) (i : Nat) (hi : i < 16) : w.cell? ⟨g, i, none⟩ = some (.int .u8 ((f i : Nat) : Int)) := by
  rw [Blk.cell h, NI_get _ _ (by rw [LB_length]; exact hi)]
  simp [LB]
theorem B16.set {w : World} {g : Nat} {f : Nat → Nat} (h : B16 w g f) (k : Nat) (f' : Nat → Nat) (_hk : k < 16) (ho : ∀ i, i ≠ k → f' i = f i) : B16 (w.setCell ⟨g, k, none⟩ (.int .u8 ((f' k : Nat) : Int))) g f' := by
  have hs := Blk.set h k (.int .u8 ((f' k : Nat) : Int))
  rw [Iv_set] at hs
  have e : (NI (LB f)).set k ((f' k : Nat) : Int) = NI (LB f') := by
    apply List.ext_getElem (by simp [NI, LB])
    intro i h1 h2
    simp only [NI, LB, List.getElem_set, List.getElem_map, List.getElem_range]
    by_cases hj : k = i
    · rw [if_pos hj, hj]
    · rw [if_neg hj, ho i (fun e => hj e.symm)]
  rw [e] at hs
  exact hs
theorem B16.congr {w : World} {g : Nat} {f f' : Nat → Nat} (h : B16 w g f) (e : ∀ i, i < 16 → f i = f' i) : B16 w g f' := by
  unfold B16 at h ⊢
  rwa [LB_congr e] at h
theorem B16.of_block {w w1 : World} {g : Nat} {f : Nat → Nat} (h : B16 w g f) (hb : w1.heap[g]? = w.heap[g]?) : B16 w1 g f := Eq.trans hb h
/-- What stands while a block goes through the rounds: the keys, the table, the block. -/
structure RM (w0 : World) (gk gB oB gb gr : Nat) (ks Bx : List Nat) (f : Nat → Nat) (w : World) : Prop where
  k : BA w gk 0 ks
  x : BA w gB oB Bx
  b : B16 w gb f
  bel : Below w0.heap.size w0 w
  r : B16 w gr (fun _ => 0)
section
variable {w0 : World} {gk gB oB gb gr gs : Nat} {ks Bx : List Nat} {f : Nat → Nat} {w : World}
theorem RM.drew (h : RM w0 gk gB oB gb gr ks Bx f w) : RM w0 gk gB oB gb gr ks Bx f w.drew := ⟨h.k.drew, h.x.drew, h.b.of_block rfl, below_drew h.bel, h.r.of_block rfl⟩
theorem RM.set (h : RM w0 gk gB oB gb gr ks Bx f w) (hk : gk ≠ gb) (hB : gB ≠ gb) (hr : gr ≠ gb) (hb : w0.heap.size ≤ gb) (k : Nat) (f' : Nat → Nat) (h16 : k < 16) (ho : ∀ i, i ≠ k → f' i = f i) : RM w0 gk gB oB gb gr ks Bx f' (w.setCell ⟨gb, k, none⟩ (.int .u8 ((f' k : Nat) : Int))) :=
  ⟨h.k.of_block (heap_setCell_other w _ gk _ hk), h.x.of_block (heap_setCell_other w _ gB _ hB), h.b.set k f' h16 ho, h.bel.setCell (p := ⟨gb, k, none⟩) hb _, h.r.of_block (heap_setCell_other w _ gr _ hr)⟩
theorem RM.far (h : RM w0 gk gB oB gb gr ks Bx f w) (hk : gk ≠ gs) (hB : gB ≠ gs) (hbs : gb ≠ gs) (hrs : gr ≠ gs) (hs : w0.heap.size ≤ gs) (k : Nat) (v : Value) : RM w0 gk gB oB gb gr ks Bx f (w.setCell ⟨gs, k, none⟩ v) :=
  ⟨h.k.of_block (heap_setCell_other w _ gk _ hk), h.x.of_block (heap_setCell_other w _ gB _ hB), h.b.of_block (heap_setCell_other w _ gb _ hbs), h.bel.setCell (p := ⟨gs, k, none⟩) hs _, h.r.of_block (heap_setCell_other w _ gr _ hrs)⟩
theorem RM.below (h : RM w0 gk gB oB gb gr ks Bx f w) {w2 : World} (b : Below w.heap.size w w2) : RM w0 gk gB oB gb gr ks Bx f w2 :=
  ⟨h.k.below b, h.x.below b, Blk.below' h.b b, h.bel.trans (b.mono h.bel.size), Blk.below' h.r b⟩
theorem RM.congr (h : RM w0 gk gB oB gb gr ks Bx f w) {f' : Nat → Nat} (e : ∀ i, i < 16 → f i = f' i) : RM w0 gk gB oB gb gr ks Bx f' w := ⟨h.k, h.x, h.b.congr e, h.bel, h.r⟩
end
theorem BA.at_ {w : World} {g o : Nat} {l : List Nat} (h : BA w g o l) (i : Nat) (hi : i < l.length) : w.cell? ⟨g, o + i, none⟩ = some (.int .u8 ((l.getD i 0 : Nat) : Int)) := by
  rw [h.cell i hi]
  simp [hi]
end Go.Proofs.YtpihgljdbpnehaaDoor
namespace Go.Proofs.YtpihgljdbpnehaaDoor
open Go
/-- The table, written out; and the one that goes back. -/
def boxT : List Nat := [99, 124, 119, 123, 242, 107, 111, 197, 48, 1, 103, 43, 254, 215, 171, 118, 202, 130, 201, 125, 250, 89, 71, 240, 173, 212, 162, 175, 156, 164, 114, 192, 183, 253, 147, 38, 54, 63, 247, 204, 52, 165, 229, 241, 113, 216, 49, 21, 4, 199, 35, 195, 24, 150, 5, 154, 7, 18, 128, 226, 235, 39, 178, 117, 9, 131, 44, 26, 27, 110, 90, 160, 82, 59, 214, 179, 41, 227, 47, 132, 83, 209, 0, 237, 32, 252, 177, 91, 106, 203, 190, 57, 74, 76, 88, 207, 208, 239, 170, 251, 67, 77, 51, 133, 69, 249, 2, 127, 80, 60, 159, 168, 81, 163, 64, 143, 146, 157, 56, 245, 188, 182, 218, 33, 16, 255, 243, 210, 205, 12, 19, 236, 95, 151, 68, 23, 196, 167, 126, 61, 100, 93, 25, 115, 96, 129, 79, 220, 34, 42, 144, 136, 70, 238, 184, 20, 222, 94, 11, 219, 224, 50, 58, 10, 73, 6, 36, 92, 194, 211, 172, 98, 145, 149, 228, 121, 231, 200, 55, 109, 141, 213, 78, 169, 108, 86, 244, 234, 101, 122, 174, 8, 186, 120, 37, 46, 28, 166, 180, 198, 232, 221, 116, 31, 75, 189, 139, 138, 112, 62, 181, 102, 72, 3, 246, 14, 97, 53, 87, 185, 134, 193, 29, 158, 225, 248, 152, 17, 105, 217, 142, 148, 155, 30, 135, 233, 206, 85, 40, 223, 140, 161, 137, 13, 191, 230, 66, 104, 65, 153, 45, 15, 176, 84, 187, 22]
theorem box_is : boxL = boxT := by decide +kernel
theorem ca : ∀ x : Fin 256, gm (gm x.val 2) 14 ^^^ (gm x.val 11 ^^^ (gm x.val 13 ^^^ gm (gm x.val 3) 9)) = x.val := by decide +kernel
theorem cb : ∀ x : Fin 256, gm (gm x.val 3) 14 ^^^ (gm (gm x.val 2) 11 ^^^ (gm x.val 13 ^^^ gm x.val 9)) = 0 := by decide +kernel
theorem cd : ∀ x : Fin 256, gm x.val 14 ^^^ (gm x.val 11 ^^^ (gm (gm x.val 3) 13 ^^^ gm (gm x.val 2) 9)) = 0 := by decide +kernel
theorem shiftB_lt (b : List Nat) (i : Nat) : shiftB boxL b i < 256 := getD_lt boxL_bytes _
theorem round_bytes {ks : List Nat} (hk : ∀ x ∈ ks, x < 256) (b : List Nat) (r : Nat) : ∀ x ∈ roundB boxL ks b r, x < 256 := fun x hx => by
  unfold roundB at hx
  obtain ⟨i, _, rfl⟩ := List.mem_map.1 hx
  refine xor_256 ?_ (getD_lt hk _)
  split
  · unfold mixB
    exact xor_256 (xor_256 (xor_256 (gm_lt _ (shiftB_lt b _)) (gm_lt _ (shiftB_lt b _))) (shiftB_lt b _)) (shiftB_lt b _)
  · exact shiftB_lt b _
theorem blockF_bytes {ks b : List Nat} (hk : ∀ x ∈ ks, x < 256) (hb : ∀ x ∈ b, x < 256) : ∀ r, ∀ x ∈ blockF boxL ks b r, x < 256
  | 0 => fun x hx => by
    unfold blockF at hx
    obtain ⟨i, _, rfl⟩ := List.mem_map.1 hx
    exact xor_256 (getD_lt hb _) (getD_lt hk _)
  | _ + 1 => round_bytes hk _ _
end Go.Proofs.YtpihgljdbpnehaaDoor
namespace Go.Proofs.YtpihgljdbpnehaaDoor
open Go.RowKit
theorem LB_of (l : List Nat) (h : l.length = 16) : LB (fun i => l.getD i 0) = l := by
  apply List.ext_getElem (by rw [LB_length, h])
  intro i h1 h2
  simp [LB, h2]
theorem wpSeq_allocQ {P : Program} {ops : Array Oper} {Q : Exit → Act → World → Prop} {o : Oper} {rest : List Oper} {a : Act} {w : World} (t : TypeId) (cs : Array Value) (hw : Region.wanted o (yielded ops a.tmps) = true)
    (hrun : ∀ W, (execOp a.eval o).run P W = .ok (.value (.pointer (some ⟨W.heap.size, 0, none⟩))) (W.alloc (.cells cs t)))
    (h : ∀ g W, Blk W g t cs → Below w.heap.size w W → w.heap.size ≤ g → wpSeq P ops Q rest (a.put o.dst (.pointer (some ⟨g, 0, none⟩))) W) : wpSeq P ops Q (o :: rest) a w :=
  wpSeq_alloc t cs hw hrun (h _ _ (Blk.new _ _ _) ((Below.refl w.heap.size w).alloc (Nat.le_refl _) _) (Nat.le_refl _))
end Go.Proofs.YtpihgljdbpnehaaDoor
namespace Go.Proofs.YtpihgljdbpnehaaDoor
open Go.RowKit
theorem NI_LB (l : List Nat) (h : l.length = 16) : NI (LB fun i => l.getD i 0) = NI l := by rw [LB_of l h]
end Go.Proofs.YtpihgljdbpnehaaDoor
