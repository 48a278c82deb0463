/- Keys in memory; a nonce and a head's bits, step by step. Small things that the program's guard and the laws' own share. Cases made right; memory of the laws (printed by gen13/ja.py). The law GuardBack (printed by gen13/jb.py). What the program's guard reckons, as plain arithmetic. -/
import Derived.Test.YtpihgljdbpnehaaDoorMSd0Ne
import Derived.Test.YtpihgljdbpnehaaDoorGf
import Derived.Test.YtpihgljdbpnehaaDoorNc
import Derived.Test.YtpihgljdbpnehaaDoorLq0Nb
import Derived.Test.YtpihgljdbpnehaaDoorHSj
namespace Go.Proofs.YtpihgljdbpnehaaDoor
open Go.RowKit
/-- The middle of a row of bytes. -/
theorem mid_range {w : World} {g : Nat} {t : TypeId} {A B C : List Nat} (K0 : Blk w g t (Iv .u8 (NI (A ++ (B ++ C))))) : w.rangeAt g A.length ((NI B).map (Value.int .u8)) := fun j v hv => by
 rw [K0.cell]
 show ((NI (A ++ (B ++ C))).map (Value.int .u8)).toArray[A.length + j]? = some v
 have hj := (List.getElem?_eq_some_iff.1 hv).1
 rw [List.getElem?_toArray, show NI (A ++ (B ++ C)) = NI A ++ (NI B ++ NI C) by simp [NI], List.map_append, List.map_append, List.getElem?_append_right (by simp [NI]), List.getElem?_append_left (by simpa [NI] using hj)]
 simpa [NI] using hv
theorem vals_set (l : List Nat) (i y : Nat) : (vals l).set i (.int .u8 ((y : Nat) : Int)) = vals (l.set i y) := by
 unfold vals
 rw [List.map_set]
/-- A byte put into a row of one's own. -/
theorem OwL.put {B : Nat} {w : World} {g n c : Nat} {l : List Nat} (h : OwL B w (.slice (some ⟨g, 0, none⟩) n c) l) (i y : Nat) : OwL B (w.setCell ⟨g, i, none⟩ (.int .u8 ((y : Nat) : Int))) (.slice (some ⟨g, 0, none⟩) n c) (l.set i y) := by
 obtain ⟨hl, hr⟩ := h
 rcases hr with ⟨e, _⟩ | ⟨g', cap, cur, e, hB, hg, hnc, hcm, hcs, htake⟩
 · cases e
 ·
  simp only [Value.slice.injEq, Option.some.injEq, Addr.mk.injEq, and_true] at e
  obtain ⟨rfl, rfl, rfl⟩ := e
  refine ⟨by rw [vals_length, Nat.mul_one], .inr ⟨g, c, cur.setIfInBounds i (.int .u8 ((y : Nat) : Int)), by rw [List.length_set], hB, Blk.set hg i _, by rw [List.length_set]; exact hnc, hcm, by rw [Array.size_setIfInBounds]; exact hcs, ?_⟩⟩
  rw [List.length_set, Array.toList_setIfInBounds, List.take_set, htake, vals_set]
theorem OwL.at_cell {B : Nat} {w : World} {g n c : Nat} {l : List Nat} (h : OwL B w (.slice (some ⟨g, 0, none⟩) n c) l) (i : Nat) (hi : i < l.length) : w.cell? ⟨g, i, none⟩ = some (.int .u8 ((l.getD i 0 : Nat) : Int)) ∧ w.frozen? ⟨g, i, none⟩ = false := by
 rcases h.row with ⟨e, _⟩ | ⟨g', c', e, _, _, _, A, cur, KB, _⟩
 · cases e
 ·
  simp only [Value.slice.injEq, Option.some.injEq, Addr.mk.injEq, and_true] at e
  obtain ⟨rfl, _, _⟩ := e
  refine ⟨?_, Blk.frozen KB i⟩
  have := A.cell i hi
  rw [Nat.zero_add] at this
  rw [this]
  simp [List.getD_eq_getElem?_getD, hi]
/-- A row's cell set. -/
theorem Iv_put (L : List Nat) (i y : Nat) : (Iv .u8 (NI L)).setIfInBounds i (.int .u8 ((y : Nat) : Int)) = Iv .u8 (NI (L.set i y)) := by
 apply Array.ext_getElem?
 intro j
 unfold Iv NI
 simp only [List.setIfInBounds_toArray, List.getElem?_toArray, List.map_set]
theorem getD_put (l : List Nat) (i y t : Nat) (hi : i < l.length) : (l.set i y).getD t 0 = if t = i then y else l.getD t 0 := by
 rw [List.getD_eq_getElem?_getD, List.getElem?_set]
 by_cases e : i = t
 ·
  subst e
  rw [if_pos rfl, if_pos rfl, if_pos hi]
  rfl
 · rw [if_neg e, if_neg (fun x => e x.symm), List.getD_eq_getElem?_getD]
/-- A nonce, after so many of the number's bytes. -/
def nonK (nn : List Nat) (pn j : Nat) : List Nat := (List.range 12).map fun i => if 12 ≤ i + j then nn.getD i 0 ^^^ (pn / 256 ^ (11 - i) % 256) else nn.getD i 0
theorem nonK_length (nn : List Nat) (pn j : Nat) : (nonK nn pn j).length = 12 := by simp [nonK]
theorem nonK_get (nn : List Nat) (pn j i : Nat) (h : i < 12) : (nonK nn pn j).getD i 0 = if 12 ≤ i + j then nn.getD i 0 ^^^ (pn / 256 ^ (11 - i) % 256) else nn.getD i 0 := by
 rw [List.getD_eq_getElem?_getD, List.getElem?_eq_getElem (by rw [nonK_length]; exact h)]
 simp [nonK]
theorem nonK_zero (nn : List Nat) (pn : Nat) (h : nn.length = 12) : nonK nn pn 0 = nn := by
 refine ext0 (by rw [nonK_length, h]) fun t ht => ?_
 rw [nonK_length] at ht
 rw [nonK_get _ _ _ _ ht, if_neg (by omega)]
theorem nonK_full (nn : List Nat) (pn : Nat) : nonK nn pn 8 = nonceN nn pn := by
 unfold nonK nonceN
 refine List.map_congr_left fun i hi => ?_
 have := List.mem_range.1 hi
 by_cases h : i < 4
 · rw [if_neg (by omega), if_pos h]
 · rw [if_pos (by omega), if_neg h]
theorem nonK_succ (nn : List Nat) (pn j : Nat) (h : j < 8) : nonK nn pn (j + 1) = (nonK nn pn j).set (11 - j) (nn.getD (11 - j) 0 ^^^ (pn / 256 ^ j % 256)) := by
 refine ext0 (by rw [List.length_set, nonK_length, nonK_length]) fun t ht => ?_
 rw [nonK_length] at ht
 rw [getD_put _ _ _ _ (by rw [nonK_length]; omega), nonK_get _ _ _ _ ht]
 by_cases e : t = 11 - j
 · rw [if_pos (by omega), if_pos e, e, show 11 - (11 - j) = j by omega]
 ·
  rw [if_neg e, nonK_get _ _ _ _ ht]
  by_cases c : 12 ≤ t + j
  · rw [if_pos (by omega), if_pos c]
  · rw [if_neg (by omega), if_neg c]
theorem nonK_at (nn : List Nat) (pn j : Nat) (h : j < 8) : (nonK nn pn j).getD (11 - j) 0 = nn.getD (11 - j) 0 := by
 rw [nonK_get _ _ _ _ (by omega), if_neg (by omega)]
theorem hidN_zero (m : List Nat) (a bits : Nat) (x : List Nat) (_hx : 0 < x.length) : hidN m a 0 bits x = x.set 0 (x.getD 0 0 ^^^ (m.getD 0 0 &&& bits)) := by
 refine ext0 (by rw [List.length_set, hidN_length]) fun t ht => ?_
 rw [hidN_length] at ht
 rw [hidN_get _ _ _ _ _ _ ht, getD_put _ _ _ _ _hx]
 by_cases e : t = 0
 · rw [if_pos e, if_pos e]
 · rw [if_neg e, if_neg e, if_neg (by omega)]
theorem hidN_succ (m : List Nat) (a j bits : Nat) (x : List Nat) (ha : 1 ≤ a) (h : a + j < x.length) : hidN m a (j + 1) bits x = (hidN m a j bits x).set (a + j) (x.getD (a + j) 0 ^^^ m.getD (1 + j) 0) := by
 refine ext0 (by rw [List.length_set, hidN_length, hidN_length]) fun t ht => ?_
 rw [hidN_length] at ht
 rw [getD_put _ _ _ _ (by rw [hidN_length]; exact h), hidN_get _ _ _ _ _ _ ht]
 by_cases e : t = a + j
 · rw [if_pos e, if_neg (by omega), if_pos (by omega), e, show 1 + (a + j - a) = 1 + j by omega]
 ·
  rw [if_neg e, hidN_get _ _ _ _ _ _ ht]
  by_cases t0 : t = 0
  · rw [if_pos t0, if_pos t0]
  ·
   rw [if_neg t0, if_neg t0]
   by_cases c : a ≤ t ∧ t < a + j
   · rw [if_pos (by omega), if_pos c]
   · rw [if_neg (by omega), if_neg c]
theorem hidN_at (m : List Nat) (a j bits : Nat) (x : List Nat) (ha : 1 ≤ a) (h : a + j < x.length) : (hidN m a j bits x).getD (a + j) 0 = x.getD (a + j) 0 := by
 rw [hidN_get _ _ _ _ _ _ h, if_neg (by omega), if_neg (by omega)]
theorem hidN_bytes {m x : List Nat} (hm : Bytes m) (hx : Bytes x) (a n bits : Nat) : Bytes (hidN m a n bits x) := fun y hy => by
 obtain ⟨i, _, rfl⟩ := List.mem_map.1 hy
 split
 · exact xor_lt8 (getD_bytes hx 0) (Nat.lt_of_le_of_lt Nat.and_le_left (getD_bytes hm 0))
 ·
  split
  · exact xor_lt8 (getD_bytes hx i) (getD_bytes hm _)
  · exact getD_bytes hx i
/-- A head that is put: how long it is, that its number stands last. -/
theorem putF_ok (sp : Int) (to fr : List Nat) (pn : Nat) (n : Nat) (z : Nat) (bt : Bytes to) (bf : Bytes fr) (h : (putF sp to fr pn (n : Int) (z : Int)).1 = 0) :
  9 + n ≤ (putF sp to fr pn (n : Int) (z : Int)).2.length ∧ (putF sp to fr pn (n : Int) (z : Int)).2.length ≤ 40 ∧ Bytes (putF sp to fr pn (n : Int) (z : Int)).2 ∧ 1 ≤ n ∧ n ≤ 4 := by
 unfold putF at h ⊢
 by_cases hb : badH sp to.length fr.length (n : Int) (z : Int)
 ·
  rw [if_pos hb] at h
  cases h
 ·
  rw [if_neg hb]
  unfold badH at hb
  dsimp only
  rw [Int.toNat_natCast, Int.toNat_natCast]
  have hs : sp = 0 ∨ sp = 1 ∨ sp = 2 := by omega
  have m8 : to.length = 8 := by omega
  have bn : Bytes (beL pn n) := beL_bytes pn n
  have one : ∀ x, x < 256 → Bytes [x] := fun x h y hy => by
   rw [List.mem_singleton] at hy
   omega
  have b4 : Bytes [0, 0, 0, 1] := fun x hx => by
   simp only [List.mem_cons, List.not_mem_nil, or_false] at hx
   omega
  have b2 : Bytes [64 + (n + z) / 256, (n + z) % 256] := fun x hx => by
   simp only [List.mem_cons, List.not_mem_nil, or_false] at hx
   omega
  rcases hs with rfl | rfl | rfl
  ·
   refine ⟨?_, ?_, ?_, by omega⟩
   ·
    simp [headB, longB, zeroB, m8, beL_length]
    omega
   ·
    simp [headB, longB, zeroB, m8, beL_length]
    omega
   ·
    show Bytes ([191 + 32 * 0 + n] ++ (([0, 0, 0, 1] ++ ([8] ++ (to ++ ([8] ++ (fr ++ ([0] ++ [64 + (n + z) / 256, (n + z) % 256])))))) ++ beL pn n))
    exact (one _ (by omega)).append (((b4.append ((one 8 (by decide)).append (bt.append ((one 8 (by decide)).append (bf.append ((one 0 (by decide)).append b2)))))).append bn))
  ·
   refine ⟨?_, ?_, ?_, by omega⟩
   ·
    simp [headB, longB, zeroB, m8, beL_length]
    omega
   ·
    simp [headB, longB, zeroB, m8, beL_length]
    omega
   ·
    show Bytes ([191 + 32 * 1 + n] ++ (([0, 0, 0, 1] ++ ([8] ++ (to ++ ([8] ++ (fr ++ ([] ++ [64 + (n + z) / 256, (n + z) % 256])))))) ++ beL pn n))
    exact (one _ (by omega)).append (((b4.append ((one 8 (by decide)).append (bt.append ((one 8 (by decide)).append (bf.append (Bytes.nil.append b2)))))).append bn))
  ·
   refine ⟨?_, ?_, ?_, by omega⟩
   ·
    simp [headB, m8, beL_length]
    omega
   ·
    simp [headB, m8, beL_length]
    omega
   ·
    show Bytes ([63 + n] ++ (to ++ beL pn n))
    exact (one _ (by omega)).append (bt.append bn)
end Go.Proofs.YtpihgljdbpnehaaDoor
namespace Go.Proofs.YtpihgljdbpnehaaDoor
open Go.RowKit
theorem ky_mask {w : World} {g : Nat} {t : TypeId} {K N Mk : List Nat} (h : Blk w g t (Iv .u8 (NI (K ++ (N ++ Mk))))) (lK : K.length = 16) (lN : N.length = 12) : w.rangeAt g 28 ((NI Mk).map (Value.int .u8)) := by
 have x := mid_range (A := K ++ N) (B := Mk) (C := []) (show Blk w g t (Iv .u8 (NI ((K ++ N) ++ (Mk ++ [])))) by rw [List.append_nil, List.append_assoc]; exact h)
 rw [List.length_append, lK, lN] at x
 exact x
theorem ky_nonce {w : World} {g : Nat} {t : TypeId} {K N Mk : List Nat} (h : Blk w g t (Iv .u8 (NI (K ++ (N ++ Mk))))) (lK : K.length = 16) : w.rangeAt g 16 ((NI N).map (Value.int .u8)) := by
 have x := mid_range (A := K) (B := N) (C := Mk) h
 rw [lK] at x
 exact x
theorem ky_key {w : World} {g : Nat} {t : TypeId} {K N Mk : List Nat} (h : Blk w g t (Iv .u8 (NI (K ++ (N ++ Mk))))) : w.rangeAt g 0 ((NI K).map (Value.int .u8)) := mid_range (A := []) (B := K) (C := N ++ Mk) h
theorem info_a12 : (Tryd.prog.info? 28).map (·.size) = some 12 := by kernel_rfl
theorem info_ab : (Tryd.prog.info? 27).map (·.size) = some 16 := by kernel_rfl
theorem BA.mid_rng {w : World} {g o : Nat} {l : List Nat} (h : BA w g o l) : w.rangeAt g o ((NI l).map (Value.int .u8)) := fun j v hv => by
 have hj : j < l.length := by
  have := (List.getElem?_eq_some_iff.1 hv).1
  simpa [NI] using this
 rw [h.cell j hj, ← hv]
 simp [NI, hj]
theorem two_alloc (W : World) (t1 t2 : TypeId) (Z1 Z2 : Array Value) : Blk ((W.alloc (.cells Z1 t1)).alloc (.cells Z2 t2)) W.heap.size t1 Z1 ∧ Blk ((W.alloc (.cells Z1 t1)).alloc (.cells Z2 t2)) (W.heap.size + 1) t2 Z2 ∧ Below W.heap.size W ((W.alloc (.cells Z1 t1)).alloc (.cells Z2 t2)) := by
 have K := Blk.new (W.alloc (.cells Z1 t1)) t2 Z2
 rw [size_alloc1] at K
 exact ⟨(Blk.new W t1 Z1).alloc (.cells Z2 t2), K, ((Below.refl W.heap.size W).alloc (Nat.le_refl _) (.cells Z1 t1)).alloc (by rw [size_alloc1]; omega) (.cells Z2 t2)⟩
theorem gb_cell1 (w : World) (g i : Nat) (v : Value) : w.grownBy (w.setCell ⟨g, i, none⟩ v) (some g) :=
 ⟨rfl, rfl, rfl, by simp, fun k _ hk => Below.heap_setCell w _ v k (fun e => hk (by rw [e]))⟩
theorem gb_trans {a b c : World} {row : Option Nat} (h : a.grownBy b row) (k : b.grownBy c row) : a.grownBy c row :=
 ⟨k.os.trans h.os, k.tape.trans h.tape, k.output.trans h.output, Nat.le_trans h.size k.size, fun i hi hne => (k.block i (Nat.lt_of_lt_of_le hi h.size) hne).trans (h.block i hi hne)⟩
theorem and_low (m b : Nat) (hm : m < 256) (hb : b = 15 ∨ b = 31) : bits BinOp.and IntKind.u8 (m : Int) (b : Int) = ((m &&& b : Nat) : Int) := by
 have h := (by decide +kernel : ∀ m : Fin 256, bits BinOp.and IntKind.u8 ((m.val : Nat) : Int) 15 = ((m.val &&& 15 : Nat) : Int) ∧ bits BinOp.and IntKind.u8 ((m.val : Nat) : Int) 31 = ((m.val &&& 31 : Nat) : Int))
 rcases hb with rfl | rfl
 · exact (h ⟨m, hm⟩).1
 · exact (h ⟨m, hm⟩).2
theorem info_keys (KC : Array Value) (h : KC.size = 44) : (Tryd.prog.info? 30).map (·.size) = some KC.size := by rw [h]; exact info_ky
theorem keys_size {K N Mk : List Nat} (lK : K.length = 16) (lN : N.length = 12) (lM : Mk.length = 16) : (Iv .u8 (NI (K ++ (N ++ Mk)))).size = 44 := by rw [Iv_size, NI_length, List.length_append, List.length_append, lK, lN, lM]
theorem tail_eq (g q a n c : Nat) (h : a < c) : (.slice (tailP (some ⟨g, q, none⟩) c a) (n - a) (c - a) : Value) = .slice (some ⟨g, q + a, none⟩) (n - a) (c - a) := by
 simp [tailP, show ¬ c = a by omega, Addr.add_lit]
end Go.Proofs.YtpihgljdbpnehaaDoor
namespace Go.Proofs.YtpihgljdbpnehaaDoor
open Go.RowKit
/-- A case made right. -/
theorem caseH_right (sp : Int) (to fr : List Nat) (pn ac : Nat) (bt : Bytes to) (bf : Bytes fr) : ∃ q to8 fr8 p a, caseH sp to fr pn ac true = ⟨((q : Nat) : Int), to8, fr8, p, a⟩ ∧ q ≤ 2 ∧ to8.length = 8 ∧ fr8.length = 8 ∧ Bytes to8 ∧ Bytes fr8 ∧ p < 4611686018427387904 ∧ a ≤ p ∧ p - a < 70000 :=
 ⟨_, _, _, _, _, rfl, by have := Nat.mod_lt (IntKind.u64.wrap sp).toNat (show 0 < 3 by decide); omega, pad8_length _, pad8_length _, pad8_bytes bt, pad8_bytes bf, by omega, by omega, by omega⟩
theorem info_csz {s : List Nat} (ls : s.length = 32) (t : Array Value) (h : t.size = 7) : (Tryd.prog.info? 40).map (·.size) = some (csA s t).size := by rw [csA_size ls, h]; exact info_cs
theorem cs_key {w : World} {g : Nat} {s : List Nat} (ls : s.length = 32) (t : Array Value) (K : Blk w g 40 (csA s t)) : w.rangeAt g 0 ((NI s).map (Value.int .u8)) := fun j v hv => by
 rw [K.cell]
 show (csA s t)[0 + j]? = some v
 have hj : j < 32 := by
  have := (List.getElem?_eq_some_iff.1 hv).1
  simpa [NI, ls] using this
 unfold csA
 rw [Nat.zero_add, Array.getElem?_append_left (by rw [Iv_size, NI_length, ls]; exact hj)]
 rw [← hv]
 unfold Iv
 rw [List.getElem?_toArray]
theorem keysG_size (s : List Nat) : (Iv .u8 (NI (keysG s))).size = 44 := by rw [Iv_size, NI_length, keysG_length]
theorem keyG_bytes (s : List Nat) : Bytes (keyG s) := labG_bytes _ _ _ _
theorem nonG_bytes (s : List Nat) : Bytes (nonG s) := labG_bytes _ _ _ _
theorem masG_bytes (s : List Nat) : Bytes (masG s) := labG_bytes _ _ _ _
/-- What stands while a law is walked: the case, the head, the keys. -/
structure LM (W : World) (cs hc kc : Array Value) (gh gk : Nat) (w : World) : Prop where
 cas : Blk w W.heap.size 40 cs
 hd : Blk w gh 42 hc
 ky : Blk w gk 30 kc
 bel : Below W.heap.size W w
theorem LM.step {W w w' : World} {cs hc kc : Array Value} {gh gk : Nat} (h : LM W cs hc kc gh gk w) (b : Below w.heap.size w w') : LM W cs hc kc gh gk w' := ⟨h.cas.below' b, h.hd.below' b, h.ky.below' b, h.bel.trans (b.mono h.bel.size)⟩
theorem place_c (q : Nat) (hq : q ≤ 2) (W : World) : Calls Tryd.prog 18 #[.int .i64 (q : Int)] W fun e w' => e = .returned (.int .i64 (((if q = 0 then 26 else if q = 1 then 25 else 9) : Nat) : Int)) ∧ Below W.heap.size W w' := by
 have b0 := (Below.refl W.heap.size W).alloc (Nat.le_refl _) (.cells #[.int .i64 26, .int .i64 25, .int .i64 9] 3)
 rcases (show q = 0 ∨ q = 1 ∨ q = 2 by omega) with rfl | rfl | rfl
 ·
  go_enter Tryd.func18, Tryd.ntmps18
  go_wp2
  go_ret
  exact ⟨rfl, b0⟩
 ·
  go_enter Tryd.func18, Tryd.ntmps18
  go_wp2
  go_ret
  exact ⟨rfl, b0⟩
 ·
  go_enter Tryd.func18, Tryd.ntmps18
  go_wp2
  go_ret
  exact ⟨rfl, b0⟩
end Go.Proofs.YtpihgljdbpnehaaDoor
namespace Go.Proofs.YtpihgljdbpnehaaDoor
open Go.RowKit
/-- A packet is no longer than so. -/
theorem sealG_small {K N Mk : List Nat} (lK : Bytes K) (lN : Bytes N) (lM : Bytes Mk) (sp : Int) {to fr : List Nat} (bt : Bytes to) (bf : Bytes fr) (pn acked : Nat) {b : List Nat} (bb : Bytes b) (lb : b.length ≤ 200) : (sealG K N Mk sp to fr pn acked b).2.length ≤ 300 ∧ Bytes (sealG K N Mk sp to fr pn acked b).2 := by
 unfold sealG
 split
 · exact ⟨Nat.zero_le _, Bytes.nil⟩
 ·
  split
  · exact ⟨Nat.zero_le _, Bytes.nil⟩
  ·
   rename_i h
   have n4 := shortN_is pn acked
   generalize shortN pn acked = n at *
   have o := putF_ok sp to fr pn n ((padN n b).length + 16) bt bf (Decidable.not_not.1 h)
   generalize (putF sp to fr pn (n : Int) (((padN n b).length + 16 : Nat) : Int)).2 = hd at *
   have lp := padN_length n b
   dsimp only
   refine ⟨?_, hidN_bytes (encL_bytes lM ?_) ?_ _ _ _⟩
   ·
    rw [hidN_length, List.length_append, sealL_length]
    omega
   ·
    intro x hx
    have hx2 := List.mem_of_mem_drop (List.mem_of_mem_take hx)
    exact (o.2.2.1.append (sealL_bytes lK (nonceN_bytes lN pn) (padN_bytes n bb) (by omega))) x hx2
   · exact o.2.2.1.append (sealL_bytes lK (nonceN_bytes lN pn) (padN_bytes n bb) (by omega))
end Go.Proofs.YtpihgljdbpnehaaDoor
namespace Go.Proofs.YtpihgljdbpnehaaDoor
open Go.RowKit
theorem nonK_stop (nn : List Nat) (pn j : Nat) (hj : j ≤ 8) (h : pn / 256 ^ j = 0) : nonK nn pn j = nonceN nn pn := by
 unfold nonK nonceN
 refine List.map_congr_left fun i hi => ?_
 have hi12 := List.mem_range.1 hi
 by_cases c : 12 ≤ i + j
 · rw [if_pos c, if_neg (by omega)]
 ·
  rw [if_neg c]
  by_cases i4 : i < 4
  · rw [if_pos i4]
  ·
   rw [if_neg i4]
   have e : 256 ^ (11 - i) = 256 ^ j * 256 ^ (11 - i - j) := by rw [← Nat.pow_add]; congr 1; omega
   rw [e, ← Nat.div_div_eq_div_mul, h, Nat.zero_div, Nat.zero_mod, Nat.xor_zero]
theorem hid_take (m : List Nat) (a n bits : Nat) (x : List Nat) (k : Nat) : (hidN m a n bits x).take k = hidN m a n bits (x.take k) := by
 refine ext0 (by simp [hidN_length]) fun t ht => ?_
 simp only [List.length_take, hidN_length] at ht
 have g : ∀ l : List Nat, t < k → (l.take k).getD t 0 = l.getD t 0 := fun l h => by
  rw [List.getD_eq_getElem?_getD, List.getElem?_take, if_pos h, ← List.getD_eq_getElem?_getD]
 rw [g _ (by omega), hidN_get _ _ _ _ _ _ (by omega), hidN_get _ _ _ _ _ _ (by simp only [List.length_take]; omega), g _ (by omega)]
 by_cases t0 : t = 0
 ·
  subst t0
  rw [if_pos rfl, if_pos rfl, g _ (by omega)]
 · rw [if_neg t0, if_neg t0]
theorem hid_drop (m : List Nat) (a n bits : Nat) (x : List Nat) (ha : 1 ≤ a) : (hidN m a n bits x).drop (a + n) = x.drop (a + n) := by
 refine ext0 (by simp [hidN_length]) fun t ht => ?_
 simp only [List.length_drop, hidN_length] at ht
 have g : ∀ l : List Nat, (l.drop (a + n)).getD t 0 = l.getD (a + n + t) 0 := fun l => by
  rw [List.getD_eq_getElem?_getD, List.getElem?_drop, ← List.getD_eq_getElem?_getD]
 rw [g, g, hidN_get _ _ _ _ _ _ (by omega), if_neg (by omega), if_neg (by omega)]
theorem smp_take (a e : Nat) (x : List Nat) (h : a + 20 ≤ e) : smpN a (x.take e) = smpN a x := by
 unfold smpN
 rw [List.drop_take, List.take_take, Nat.min_eq_left (by omega)]
/-- What is answered: no seal, bits that must be nought, or what it carries. -/
def resG (f rest pn : Nat) : Option (List Nat) → Nat × Nat × List Nat
 | none => (11, 0, [])
 | some t => if f &&& rest ≠ 0 then (5, 0, []) else (0, pn, t)
/-- A packet opened the way the program does it. -/
theorem openG_is (K N Mk x : List Nat) (a e next : Nat) (bits rest f n s pn : Nat) (ah : List Nat) (o : Option (List Nat)) (ha : 1 ≤ a) (hae : a + 20 ≤ e) (he : e ≤ x.length)
  (hbits : bits = if x.getD 0 0 < 128 then 31 else 15) (hrest : rest = if x.getD 0 0 < 128 then 28 else 12) (hf : f = x.getD 0 0 ^^^ ((maskN Mk a x).getD 0 0 &&& bits)) (hn : n = f % 4 + 1) (hah : ah = hidN (maskN Mk a x) a n bits (x.take (a + n)))
  (hs : s = beN 0 (ah.drop a)) (hpn : pn = fullN s n next) (ho : o = openL K (nonceN N pn) ah ((x.take e).drop (a + n))) :
  openG K N Mk x (a : Int) (e : Int) next = resG f rest pn o := by
 have n4 : n ≤ 4 := by omega
 have m0 : maskN Mk a (x.take e) = maskN Mk a x := by
  unfold maskN
  rw [smp_take _ _ _ hae]
 have x0 : (x.take e).getD 0 0 = x.getD 0 0 := by
  rw [List.getD_eq_getElem?_getD, List.getElem?_take, if_pos (by omega), ← List.getD_eq_getElem?_getD]
 unfold openG
 rw [if_neg (by omega), Int.toNat_natCast, Int.toNat_natCast, m0, x0, ← hbits, ← hf]
 unfold openH
 rw [x0, ← hbits, ← hn]
 dsimp only
 have t1 : (hidN (maskN Mk a x) a n bits (x.take e)).take (a + n) = ah := by
  rw [hid_take, hah, List.take_take, Nat.min_eq_left (by omega)]
 have t2 : ((hidN (maskN Mk a x) a n bits (x.take e)).drop a).take n = ah.drop a := by
  rw [← t1, List.drop_take, Nat.add_sub_cancel_left]
 rw [t1, t2, hid_drop _ _ _ _ _ ha, ← hs, ← hpn, ← hrest]
 rw [ho]
 rfl
theorem hid_first (m : List Nat) (a n bits : Nat) (x : List Nat) (h : 0 < x.length) : (hidN m a n bits x).getD 0 0 = x.getD 0 0 ^^^ (m.getD 0 0 &&& bits) := by
 rw [hidN_get _ _ _ _ _ _ h, if_pos rfl]
theorem and_three (f : Nat) (hf : f < 256) : bits BinOp.and IntKind.u8 (f : Int) 3 = ((f % 4 : Nat) : Int) := by
 have h := (by decide +kernel : ∀ m : Fin 256, bits BinOp.and IntKind.u8 ((m.val : Nat) : Int) 3 = ((m.val % 4 : Nat) : Int))
 exact h ⟨f, hf⟩
theorem and_high (f : Nat) (hf : f < 256) : bits BinOp.and IntKind.u8 (f : Int) 128 = if f < 128 then 0 else 128 := by
 have h := (by decide +kernel : ∀ m : Fin 256, bits BinOp.and IntKind.u8 ((m.val : Nat) : Int) 128 = if m.val < 128 then 0 else 128)
 exact h ⟨f, hf⟩
end Go.Proofs.YtpihgljdbpnehaaDoor
