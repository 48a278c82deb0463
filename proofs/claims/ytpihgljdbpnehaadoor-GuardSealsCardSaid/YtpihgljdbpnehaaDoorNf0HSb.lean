/- Keys in memory; a nonce and a head's bits, step by step. Small things that the program's guard and the laws' own share. Cases made right; memory of the laws (printed by gen13/ja.py). What the program's Short and Full are asked to answer; the reference's (printed by gen12/sb.py). -/
import Derived.Test.YtpihgljdbpnehaaDoorMTb0Ne
import Derived.Test.YtpihgljdbpnehaaDoorGf
import Derived.Test.YtpihgljdbpnehaaDoorNc
import Derived.Test.YtpihgljdbpnehaaDoorLq0Nb
import Derived.Test.YtpihgljdbpnehaaDoorHSi0HSj
import Derived.Test.YtpihgljdbpnehaaDoorLo0HSa
namespace Go.Proofs.YtpihgljdbpnehaaDoor
open Go.RowKit
/-- The middle of a row of bytes. -/
theorem mid_range {w : World} {g : Nat} {t : TypeId} {A B C : List Nat} (K0 : Blk w g t (Iv .u8 (NI (A ++ (B ++ C))))) : w.rangeAt g A.length ((NI B).map (Value.int .u8)) := fun j v hv => by
  rw [K0.cell]
  show ((NI (A ++ (B ++ C))).map (Value.int .u8)).toArray[A.length + j]? = some v
  have hj := (List.getElem?_eq_some_iff.1 hv).1
  rw [List.getElem?_toArray, show NI (A ++ (B ++ C)) = NI A ++ (NI B ++ NI C) by simp [NI], List.map_append, List.map_append, List.getElem?_append_right (by simp [NI]), List.getElem?_append_left (by simpa [NI] using hj)]
  simpa [NI] using hv
theorem vals_set (l : List Nat) (i y : Nat) : (vals l).set i (.int .u8 ((y : Nat) : Int)) = vals (l.set i y) := by
  unfold vals
  rw [List.map_set]
/-- A byte put into a row of one's own. -/
theorem OwL.put {B : Nat} {w : World} {g n c : Nat} {l : List Nat} (h : OwL B w (.slice (some ⟨g, 0, none⟩) n c) l) (i y : Nat) : OwL B (w.setCell ⟨g, i, none⟩ (.int .u8 ((y : Nat) : Int))) (.slice (some ⟨g, 0, none⟩) n c) (l.set i y) := by
  obtain ⟨hl, hr⟩ := h
  rcases hr with ⟨e, _⟩ | ⟨g', cap, cur, e, hB, hg, hnc, hcm, hcs, htake⟩
  · cases e
  · simp only [Value.slice.injEq, Option.some.injEq, Addr.mk.injEq, and_true] at e
    obtain ⟨rfl, rfl, rfl⟩ := e
    refine ⟨by rw [vals_length, Nat.mul_one], .inr ⟨g, c, cur.setIfInBounds i (.int .u8 ((y : Nat) : Int)), by rw [List.length_set], hB, Blk.set hg i _, by rw [List.length_set]; exact hnc, hcm, by rw [Array.size_setIfInBounds]; exact hcs, ?_⟩⟩
    rw [List.length_set, Array.toList_setIfInBounds, List.take_set, htake, vals_set]
theorem OwL.at_cell {B : Nat} {w : World} {g n c : Nat} {l : List Nat} (h : OwL B w (.slice (some ⟨g, 0, none⟩) n c) l) (i : Nat) (hi : i < l.length) : w.cell? ⟨g, i, none⟩ = some (.int .u8 ((l.getD i 0 : Nat) : Int)) ∧ w.frozen? ⟨g, i, none⟩ = false := by
  rcases h.row with ⟨e, _⟩ | ⟨g', c', e, _, _, _, A, cur, KB, _⟩
  · cases e
  · simp only [Value.slice.injEq, Option.some.injEq, Addr.mk.injEq, and_true] at e
    obtain ⟨rfl, _, _⟩ := e
    refine ⟨?_, Blk.frozen KB i⟩
    have := A.cell i hi
    rw [Nat.zero_add] at this
    rw [this]
    simp [List.getD_eq_getElem?_getD, hi]
/-- A row's cell set. -/
theorem Iv_put (L : List Nat) (i y : Nat) : (Iv .u8 (NI L)).setIfInBounds i (.int .u8 ((y : Nat) : Int)) = Iv .u8 (NI (L.set i y)) := by
  apply Array.ext_getElem?
  intro j
  unfold Iv NI
  simp only [List.setIfInBounds_toArray, List.getElem?_toArray, List.map_set]
theorem getD_put (l : List Nat) (i y t : Nat) (hi : i < l.length) : (l.set i y).getD t 0 = if t = i then y else l.getD t 0 := by
  rw [List.getD_eq_getElem?_getD, List.getElem?_set]
  by_cases e : i = t
  · subst e
    rw [if_pos rfl, if_pos rfl, if_pos hi]
    rfl
  · rw [if_neg e, if_neg (fun x => e x.symm), List.getD_eq_getElem?_getD]
/-- A nonce, after so many of the number's bytes. -/
def nonK (nn : List Nat) (pn j : Nat) : List Nat := (List.range 12).map fun i => if 12 ≤ i + j then nn.getD i 0 ^^^ (pn / 256 ^ (11 - i) % 256) else nn.getD i 0
theorem nonK_length (nn : List Nat) (pn j : Nat) : (nonK nn pn j).length = 12 := by simp [nonK]
theorem nonK_get (nn : List Nat) (pn j i : Nat) (h : i < 12) : (nonK nn pn j).getD i 0 = if 12 ≤ i + j then nn.getD i 0 ^^^ (pn / 256 ^ (11 - i) % 256) else nn.getD i 0 := by
  rw [List.getD_eq_getElem?_getD, List.getElem?_eq_getElem (by rw [nonK_length]; exact h)]
  simp [nonK]
theorem nonK_zero (nn : List Nat) (pn : Nat) (h : nn.length = 12) : nonK nn pn 0 = nn := by
  refine ext0 (by rw [nonK_length, h]) fun t ht => ?_
  rw [nonK_length] at ht
  rw [nonK_get _ _ _ _ ht, if_neg (by omega)]
theorem nonK_full (nn : List Nat) (pn : Nat) : nonK nn pn 8 = nonceN nn pn := by
  unfold nonK nonceN
  refine List.map_congr_left fun i hi => ?_
  have := List.mem_range.1 hi
  by_cases h : i < 4
  · rw [if_neg (by omega), if_pos h]
  · rw [if_pos (by omega), if_neg h]
theorem nonK_succ (nn : List Nat) (pn j : Nat) (h : j < 8) : nonK nn pn (j + 1) = (nonK nn pn j).set (11 - j) (nn.getD (11 - j) 0 ^^^ (pn / 256 ^ j % 256)) := by
  refine ext0 (by rw [List.length_set, nonK_length, nonK_length]) fun t ht => ?_
  rw [nonK_length] at ht
  rw [getD_put _ _ _ _ (by rw [nonK_length]; omega), nonK_get _ _ _ _ ht]
  by_cases e : t = 11 - j
  · rw [if_pos (by omega), if_pos e, e, show 11 - (11 - j) = j by omega]
  · rw [if_neg e, nonK_get _ _ _ _ ht]
    by_cases c : 12 ≤ t + j
    · rw [if_pos (by omega), if_pos c]
    · rw [if_neg (by omega), if_neg c]
theorem nonK_at (nn : List Nat) (pn j : Nat) (h : j < 8) : (nonK nn pn j).getD (11 - j) 0 = nn.getD (11 - j) 0 := by
  rw [nonK_get _ _ _ _ (by omega), if_neg (by omega)]
theorem hidN_zero (m : List Nat) (a bits : Nat) (x : List Nat) (_hx : 0 < x.length) : hidN m a 0 bits x = x.set 0 (x.getD 0 0 ^^^ (m.getD 0 0 &&& bits)) := by
  refine ext0 (by rw [List.length_set, hidN_length]) fun t ht => ?_
  rw [hidN_length] at ht
  rw [hidN_get _ _ _ _ _ _ ht, getD_put _ _ _ _ _hx]
  by_cases e : t = 0
  · rw [if_pos e, if_pos e]
  · rw [if_neg e, if_neg e, if_neg (by omega)]
theorem hidN_succ (m : List Nat) (a j bits : Nat) (x : List Nat) (ha : 1 ≤ a) (h : a + j < x.length) : hidN m a (j + 1) bits x = (hidN m a j bits x).set (a + j) (x.getD (a + j) 0 ^^^ m.getD (1 + j) 0) := by
  refine ext0 (by rw [List.length_set, hidN_length, hidN_length]) fun t ht => ?_
  rw [hidN_length] at ht
  rw [getD_put _ _ _ _ (by rw [hidN_length]; exact h), hidN_get _ _ _ _ _ _ ht]
  by_cases e : t = a + j
  · rw [if_pos e, if_neg (by omega), if_pos (by omega), e, show 1 + (a + j - a) = 1 + j by omega]
  · rw [if_neg e, hidN_get _ _ _ _ _ _ ht]
    by_cases t0 : t = 0
    · rw [if_pos t0, if_pos t0]
    · rw [if_neg t0, if_neg t0]
      by_cases c : a ≤ t ∧ t < a + j
      · rw [if_pos (by omega), if_pos c]
      · rw [if_neg (by omega), if_neg c]
theorem hidN_at (m : List Nat) (a j bits : Nat) (x : List Nat) (ha : 1 ≤ a) (h : a + j < x.length) : (hidN m a j bits x).getD (a + j) 0 = x.getD (a + j) 0 := by
  rw [hidN_get _ _ _ _ _ _ h, if_neg (by omega), if_neg (by omega)]
/-- A head that is put: how long it is, that its number stands last. -/
theorem putF_ok (sp : Int) (to fr : List Nat) (pn : Nat) (n : Nat) (z : Nat) (bt : Bytes to) (bf : Bytes fr) (h : (putF sp to fr pn (n : Int) (z : Int)).1 = 0) :
    9 + n ≤ (putF sp to fr pn (n : Int) (z : Int)).2.length ∧ (putF sp to fr pn (n : Int) (z : Int)).2.length ≤ 40 ∧ Bytes (putF sp to fr pn (n : Int) (z : Int)).2 ∧ 1 ≤ n ∧ n ≤ 4 := by
  unfold putF at h ⊢
  by_cases hb : badH sp to.length fr.length (n : Int) (z : Int)
  · rw [if_pos hb] at h
    cases h
  · rw [if_neg hb]
    unfold badH at hb
    dsimp only
    rw [Int.toNat_natCast, Int.toNat_natCast]
    have hs : sp = 0 ∨ sp = 1 ∨ sp = 2 := by omega
    have m8 : to.length = 8 := by omega
    have bn : Bytes (beL pn n) := beL_bytes pn n
    have one : ∀ x, x < 256 → Bytes [x] := fun x h y hy => by
      rw [List.mem_singleton] at hy
      omega
    have b4 : Bytes [0, 0, 0, 1] := fun x hx => by
      simp only [List.mem_cons, List.not_mem_nil, or_false] at hx
      omega
    have b2 : Bytes [64 + (n + z) / 256, (n + z) % 256] := fun x hx => by
      simp only [List.mem_cons, List.not_mem_nil, or_false] at hx
      omega
    rcases hs with rfl | rfl | rfl
    · refine ⟨?_, ?_, ?_, by omega⟩
      · simp [headB, longB, zeroB, m8, beL_length]
        omega
      · simp [headB, longB, zeroB, m8, beL_length]
        omega
      · show Bytes ([191 + 32 * 0 + n] ++ (([0, 0, 0, 1] ++ ([8] ++ (to ++ ([8] ++ (fr ++ ([0] ++ [64 + (n + z) / 256, (n + z) % 256])))))) ++ beL pn n))
        exact (one _ (by omega)).append (((b4.append ((one 8 (by decide)).append (bt.append ((one 8 (by decide)).append (bf.append ((one 0 (by decide)).append b2)))))).append bn))
    · refine ⟨?_, ?_, ?_, by omega⟩
      · simp [headB, longB, zeroB, m8, beL_length]
        omega
      · simp [headB, longB, zeroB, m8, beL_length]
        omega
      · show Bytes ([191 + 32 * 1 + n] ++ (([0, 0, 0, 1] ++ ([8] ++ (to ++ ([8] ++ (fr ++ ([] ++ [64 + (n + z) / 256, (n + z) % 256])))))) ++ beL pn n))
        exact (one _ (by omega)).append (((b4.append ((one 8 (by decide)).append (bt.append ((one 8 (by decide)).append (bf.append (Bytes.nil.append b2)))))).append bn))
    · refine ⟨?_, ?_, ?_, by omega⟩
      · simp [headB, m8, beL_length]
        omega
      · simp [headB, m8, beL_length]
        omega
      · show Bytes ([63 + n] ++ (to ++ beL pn n))
        exact (one _ (by omega)).append (bt.append bn)
end Go.Proofs.YtpihgljdbpnehaaDoor
namespace Go.Proofs.YtpihgljdbpnehaaDoor
open Go.RowKit
theorem ky_mask {w : World} {g : Nat} {t : TypeId} {K N Mk : List Nat} (h : Blk w g t (Iv .u8 (NI (K ++ (N ++ Mk))))) (lK : K.length = 16) (lN : N.length = 12) : w.rangeAt g 28 ((NI Mk).map (Value.int .u8)) := by
  have x := mid_range (A := K ++ N) (B := Mk) (C := []) (show Blk w g t (Iv .u8 (NI ((K ++ N) ++ (Mk ++ [])))) by rw [List.append_nil, List.append_assoc]; exact h)
  rw [List.length_append, lK, lN] at x
  exact x
theorem ky_nonce {w : World} {g : Nat} {t : TypeId} {K N Mk : List Nat} (h : Blk w g t (Iv .u8 (NI (K ++ (N ++ Mk))))) (lK : K.length = 16) : w.rangeAt g 16 ((NI N).map (Value.int .u8)) := by
  have x := mid_range (A := K) (B := N) (C := Mk) h
  rw [lK] at x
  exact x
theorem ky_key {w : World} {g : Nat} {t : TypeId} {K N Mk : List Nat} (h : Blk w g t (Iv .u8 (NI (K ++ (N ++ Mk))))) : w.rangeAt g 0 ((NI K).map (Value.int .u8)) := mid_range (A := []) (B := K) (C := N ++ Mk) h
theorem info_a12 : (Tryd.prog.info? 28).map (·.size) = some 12 := by kernel_rfl
theorem info_ab : (Tryd.prog.info? 27).map (·.size) = some 16 := by kernel_rfl
theorem BA.mid_rng {w : World} {g o : Nat} {l : List Nat} (h : BA w g o l) : w.rangeAt g o ((NI l).map (Value.int .u8)) := fun j v hv => by
  have hj : j < l.length := by
    have := (List.getElem?_eq_some_iff.1 hv).1
    simpa [NI] using this
  rw [h.cell j hj, ← hv]
  simp [NI, hj]
theorem two_alloc (W : World) (t1 t2 : TypeId) (Z1 Z2 : Array Value) : Blk ((W.alloc (.cells Z1 t1)).alloc (.cells Z2 t2)) W.heap.size t1 Z1 ∧ Blk ((W.alloc (.cells Z1 t1)).alloc (.cells Z2 t2)) (W.heap.size + 1) t2 Z2 ∧ Below W.heap.size W ((W.alloc (.cells Z1 t1)).alloc (.cells Z2 t2)) := by
  have K := Blk.new (W.alloc (.cells Z1 t1)) t2 Z2
  rw [size_alloc1] at K
  exact ⟨(Blk.new W t1 Z1).alloc (.cells Z2 t2), K, ((Below.refl W.heap.size W).alloc (Nat.le_refl _) (.cells Z1 t1)).alloc (by rw [size_alloc1]; omega) (.cells Z2 t2)⟩
theorem gb_cell1 (w : World) (g i : Nat) (v : Value) : w.grownBy (w.setCell ⟨g, i, none⟩ v) (some g) :=
  ⟨rfl, rfl, rfl, by simp, fun k _ hk => Below.heap_setCell w _ v k (fun e => hk (by rw [e]))⟩
theorem gb_trans {a b c : World} {row : Option Nat} (h : a.grownBy b row) (k : b.grownBy c row) : a.grownBy c row :=
  ⟨k.os.trans h.os, k.tape.trans h.tape, k.output.trans h.output, Nat.le_trans h.size k.size, fun i hi hne => (k.block i (Nat.lt_of_lt_of_le hi h.size) hne).trans (h.block i hi hne)⟩
theorem and_low (m b : Nat) (hm : m < 256) (hb : b = 15 ∨ b = 31) : bits BinOp.and IntKind.u8 (m : Int) (b : Int) = ((m &&& b : Nat) : Int) := by
  have h := (by decide +kernel : ∀ m : Fin 256, bits BinOp.and IntKind.u8 ((m.val : Nat) : Int) 15 = ((m.val &&& 15 : Nat) : Int) ∧ bits BinOp.and IntKind.u8 ((m.val : Nat) : Int) 31 = ((m.val &&& 31 : Nat) : Int))
  rcases hb with rfl | rfl
  · exact (h ⟨m, hm⟩).1
  · exact (h ⟨m, hm⟩).2
theorem info_keys (KC : Array Value) (h : KC.size = 44) : (Tryd.prog.info? 30).map (·.size) = some KC.size := by rw [h]; exact info_ky
theorem keys_size {K N Mk : List Nat} (lK : K.length = 16) (lN : N.length = 12) (lM : Mk.length = 16) : (Iv .u8 (NI (K ++ (N ++ Mk)))).size = 44 := by rw [Iv_size, NI_length, List.length_append, List.length_append, lK, lN, lM]
theorem tail_eq (g q a n c : Nat) (h : a < c) : (.slice (tailP (some ⟨g, q, none⟩) c a) (n - a) (c - a) : Value) = .slice (some ⟨g, q + a, none⟩) (n - a) (c - a) := by
  simp [tailP, show ¬ c = a by omega, Addr.add_lit]
end Go.Proofs.YtpihgljdbpnehaaDoor
namespace Go.Proofs.YtpihgljdbpnehaaDoor
open Go.RowKit
/-- A case made right. -/
theorem caseH_right (sp : Int) (to fr : List Nat) (pn ac : Nat) (bt : Bytes to) (bf : Bytes fr) : ∃ q to8 fr8 p a, caseH sp to fr pn ac true = ⟨((q : Nat) : Int), to8, fr8, p, a⟩ ∧ q ≤ 2 ∧ to8.length = 8 ∧ fr8.length = 8 ∧ Bytes to8 ∧ Bytes fr8 ∧ p < 4611686018427387904 ∧ a ≤ p ∧ p - a < 70000 :=
  ⟨_, _, _, _, _, rfl, by have := Nat.mod_lt (IntKind.u64.wrap sp).toNat (show 0 < 3 by decide); omega, pad8_length _, pad8_length _, pad8_bytes bt, pad8_bytes bf, by omega, by omega, by omega⟩
theorem info_csz {s : List Nat} (ls : s.length = 32) (t : Array Value) (h : t.size = 7) : (Tryd.prog.info? 40).map (·.size) = some (csA s t).size := by rw [csA_size ls, h]; exact info_cs
theorem cs_key {w : World} {g : Nat} {s : List Nat} (ls : s.length = 32) (t : Array Value) (K : Blk w g 40 (csA s t)) : w.rangeAt g 0 ((NI s).map (Value.int .u8)) := fun j v hv => by
  rw [K.cell]
  show (csA s t)[0 + j]? = some v
  have hj : j < 32 := by
    have := (List.getElem?_eq_some_iff.1 hv).1
    simpa [NI, ls] using this
  unfold csA
  rw [Nat.zero_add, Array.getElem?_append_left (by rw [Iv_size, NI_length, ls]; exact hj)]
  rw [← hv]
  unfold Iv
  rw [List.getElem?_toArray]
theorem keysG_size (s : List Nat) : (Iv .u8 (NI (keysG s))).size = 44 := by rw [Iv_size, NI_length, keysG_length]
theorem keyG_bytes (s : List Nat) : Bytes (keyG s) := labG_bytes _ _ _ _
theorem nonG_bytes (s : List Nat) : Bytes (nonG s) := labG_bytes _ _ _ _
theorem masG_bytes (s : List Nat) : Bytes (masG s) := labG_bytes _ _ _ _
/-- What stands while a law is walked: the case, the head, the keys. -/
structure LM (W : World) (cs hc kc : Array Value) (gh gk : Nat) (w : World) : Prop where
  cas : Blk w W.heap.size 40 cs
  hd : Blk w gh 42 hc
  ky : Blk w gk 30 kc
  bel : Below W.heap.size W w
theorem LM.step {W w w' : World} {cs hc kc : Array Value} {gh gk : Nat} (h : LM W cs hc kc gh gk w) (b : Below w.heap.size w w') : LM W cs hc kc gh gk w' := ⟨h.cas.below' b, h.hd.below' b, h.ky.below' b, h.bel.trans (b.mono h.bel.size)⟩
end Go.Proofs.YtpihgljdbpnehaaDoor
namespace Go.Proofs.YtpihgljdbpnehaaDoor
open Go.RowKit
/-- What the program's Short is asked to answer. -/
def ShortC : Prop := ∀ pn acked : Nat, acked ≤ pn → pn < 4611686018427387904 → ∀ W, Calls Tryd.prog 25 #[.int .u64 (pn : Int), .int .u64 (acked : Int)] W fun e w' => e = .returned (.int .i64 ((shortN pn acked : Nat) : Int)) ∧ Below W.heap.size W w'
set_option maxHeartbeats 4000000 in
theorem rshort_c (pn acked : Nat) (ha : acked ≤ pn) (hp : pn < 4611686018427387904) (W : World) : Calls Tryd.prog 32 #[.int .u64 (pn : Int), .int .u64 (acked : Int)] W fun e w' => e = .returned (.int .i64 ((shortN pn acked : Nat) : Int)) ∧ Below W.heap.size W w' := by
  unfold shortN
  obtain ⟨d, hd⟩ : ∃ d, pn - acked = d := ⟨_, rfl⟩
  have w1 : IntKind.u64.wrap ((pn : Int) - (acked : Int)) = (d : Int) := by rw [IntKind.wrap_u64]; omega
  rw [hd]
  clear hd ha hp
  obtain ⟨R, hR⟩ : ∃ R, R = (if d < 128 then 1 else if d < 32768 then 2 else if d < 8388608 then 3 else 4) := ⟨_, rfl⟩
  rw [← hR]
  go_enter Tryd.func32, Tryd.ntmps32
  go_upto_region 0 with fail
  rename_i aK
  refine wp_region_seq ?_
  refine wpSeq_yield (S := fun _ => True) (yieldsIf_assign rfl _ rfl (.int .i64 0) rfl) trivial ?_
  simp only [AP]
  refine wpSeq_nil ?_
  refine aK _ _ ?_
  clear aK
  go_upto_region 1 with fail
  rename_i aK
  refine wp_region_seq ?_
  refine wpSeq_yield (S := fun _ => True) (yieldsIf_move rfl _ rfl (.int .u64 (pn : Int)) rfl) trivial ?_
  simp only [AP]
  refine wpSeq_yield (S := fun _ => True) (yieldsIf_move rfl _ rfl (.int .u64 (acked : Int)) rfl) trivial ?_
  simp only [AP]
  refine wpSeq_yield (S := fun _ => True) (v := .int .u64 (d : Int)) (Or.inl ⟨by rfl, fun w' hw' => by (go_simp; try rw [w1])⟩) trivial ?_
  simp only [AP]
  refine wpSeq_yield (S := fun _ => True) (yieldsIf_assign rfl _ rfl (.int .u64 (d : Int)) rfl) trivial ?_
  simp only [AP]
  refine wpSeq_nil ?_
  refine aK _ _ ?_
  clear aK
  by_cases h1 : d < 128
  · have e9 : 1 = R := by rw [hR, if_pos h1]
    clear hR
    subst e9
    go_upto_region 2 with fail
    rename_i aK
    refine wp_region_seq ?_
    refine wpSeq_yield (S := fun _ => True) (yieldsIf_move rfl _ rfl (.int .u64 (d : Int)) rfl) trivial ?_
    simp only [AP]
    refine wpSeq_yield (S := fun _ => True) (v := .bool true) (Or.inl ⟨by rfl, fun w' hw' => by (go_simp; try omega)⟩) trivial ?_
    simp only [AP]
    refine wpSeq_yield (S := fun _ => True) (yieldsIf_assign rfl _ rfl (.bool true) rfl) trivial ?_
    simp only [AP]
    refine wpSeq_nil ?_
    refine aK _ _ ?_
    clear aK
    go_upto_region 3 with fail
    rename_i aK
    refine wp_region_seq ?_
    refine wpSeq_yield (S := fun _ => True) (yieldsIf_assign rfl _ rfl (.int .i64 1) rfl) trivial ?_
    simp only [AP]
    refine wpSeq_nil ?_
    refine aK _ _ ?_
    clear aK
    go_wp2
    go_ret
    exact ⟨rfl, Below.refl _ _⟩
  go_upto_region 2 with fail
  rename_i aK
  refine wp_region_seq ?_
  refine wpSeq_yield (S := fun _ => True) (yieldsIf_move rfl _ rfl (.int .u64 (d : Int)) rfl) trivial ?_
  simp only [AP]
  refine wpSeq_yield (S := fun _ => True) (v := .bool false) (Or.inl ⟨by rfl, fun w' hw' => by (go_simp; try omega)⟩) trivial ?_
  simp only [AP]
  refine wpSeq_yield (S := fun _ => True) (yieldsIf_assign rfl _ rfl (.bool false) rfl) trivial ?_
  simp only [AP]
  refine wpSeq_nil ?_
  refine aK _ _ ?_
  clear aK
  by_cases h2 : d < 32768
  · have e9 : 2 = R := by rw [hR, if_neg h1, if_pos h2]
    clear hR
    subst e9
    go_upto_region 4 with fail
    rename_i aK
    refine wp_region_seq ?_
    refine wpSeq_yield (S := fun _ => True) (yieldsIf_move rfl _ rfl (.int .u64 (d : Int)) rfl) trivial ?_
    simp only [AP]
    refine wpSeq_yield (S := fun _ => True) (v := .bool true) (Or.inl ⟨by rfl, fun w' hw' => by (go_simp; try omega)⟩) trivial ?_
    simp only [AP]
    refine wpSeq_yield (S := fun _ => True) (yieldsIf_assign rfl _ rfl (.bool true) rfl) trivial ?_
    simp only [AP]
    refine wpSeq_nil ?_
    refine aK _ _ ?_
    clear aK
    go_upto_region 5 with fail
    rename_i aK
    refine wp_region_seq ?_
    refine wpSeq_yield (S := fun _ => True) (yieldsIf_assign rfl _ rfl (.int .i64 2) rfl) trivial ?_
    simp only [AP]
    refine wpSeq_nil ?_
    refine aK _ _ ?_
    clear aK
    go_wp2
    go_ret
    exact ⟨rfl, Below.refl _ _⟩
  go_upto_region 4 with fail
  rename_i aK
  refine wp_region_seq ?_
  refine wpSeq_yield (S := fun _ => True) (yieldsIf_move rfl _ rfl (.int .u64 (d : Int)) rfl) trivial ?_
  simp only [AP]
  refine wpSeq_yield (S := fun _ => True) (v := .bool false) (Or.inl ⟨by rfl, fun w' hw' => by (go_simp; try omega)⟩) trivial ?_
  simp only [AP]
  refine wpSeq_yield (S := fun _ => True) (yieldsIf_assign rfl _ rfl (.bool false) rfl) trivial ?_
  simp only [AP]
  refine wpSeq_nil ?_
  refine aK _ _ ?_
  clear aK
  by_cases h3 : d < 8388608
  · have e9 : 3 = R := by rw [hR, if_neg h1, if_neg h2, if_pos h3]
    clear hR
    subst e9
    go_upto_region 6 with fail
    rename_i aK
    refine wp_region_seq ?_
    refine wpSeq_yield (S := fun _ => True) (yieldsIf_move rfl _ rfl (.int .u64 (d : Int)) rfl) trivial ?_
    simp only [AP]
    refine wpSeq_yield (S := fun _ => True) (v := .bool true) (Or.inl ⟨by rfl, fun w' hw' => by (go_simp; try omega)⟩) trivial ?_
    simp only [AP]
    refine wpSeq_yield (S := fun _ => True) (yieldsIf_assign rfl _ rfl (.bool true) rfl) trivial ?_
    simp only [AP]
    refine wpSeq_nil ?_
    refine aK _ _ ?_
    clear aK
    go_upto_region 7 with fail
    rename_i aK
    refine wp_region_seq ?_
    refine wpSeq_yield (S := fun _ => True) (yieldsIf_assign rfl _ rfl (.int .i64 3) rfl) trivial ?_
    simp only [AP]
    refine wpSeq_nil ?_
    refine aK _ _ ?_
    clear aK
    go_wp2
    go_ret
    exact ⟨rfl, Below.refl _ _⟩
  go_upto_region 6 with fail
  rename_i aK
  refine wp_region_seq ?_
  refine wpSeq_yield (S := fun _ => True) (yieldsIf_move rfl _ rfl (.int .u64 (d : Int)) rfl) trivial ?_
  simp only [AP]
  refine wpSeq_yield (S := fun _ => True) (v := .bool false) (Or.inl ⟨by rfl, fun w' hw' => by (go_simp; try omega)⟩) trivial ?_
  simp only [AP]
  refine wpSeq_yield (S := fun _ => True) (yieldsIf_assign rfl _ rfl (.bool false) rfl) trivial ?_
  simp only [AP]
  refine wpSeq_nil ?_
  refine aK _ _ ?_
  clear aK
  have e9 : 4 = R := by rw [hR, if_neg h1, if_neg h2, if_neg h3]
  clear hR
  subst e9
  go_upto_region 8 with fail
  rename_i aK
  refine wp_region_seq ?_
  refine wpSeq_yield (S := fun _ => True) (yieldsIf_assign rfl _ rfl (.int .i64 4) rfl) trivial ?_
  simp only [AP]
  refine wpSeq_nil ?_
  refine aK _ _ ?_
  clear aK
  go_wp2
  go_ret
  exact ⟨rfl, Below.refl _ _⟩
end Go.Proofs.YtpihgljdbpnehaaDoor
