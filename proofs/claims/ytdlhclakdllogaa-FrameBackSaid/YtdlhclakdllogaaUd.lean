/- Frames too great to be gone to (printed by gen11/ug.py). -/
import Derived.Test.YtdlhclakdllogaaUf
namespace Go.Proofs.Ytdlhclakdllogaa
open Go.RowKit

/-- A frame of noughts. -/
def zeroFr : Array Value := #[.int .u64 0, .int .u64 0, .int .u64 0, .int .u64 0, .int .u64 0, .bool false, .slice none 0 0, .slice none 0 0]
theorem frL_one {f : Fr} {p q : Option Addr} {n c m d : Nat} : (frL f (.slice p n c) (.slice q m d)).toArray.all (·.oneCell') = true := all_oneCell_toArray fun v hv => by
  simp only [frL, List.mem_cons, List.not_mem_nil, or_false] at hv
  rcases hv with rfl | rfl | rfl | rfl | rfl | rfl | rfl | rfl <;> rfl
def bigF (f : Fr) : Bool := decide (3000 < f.data.length) || decide (100 < f.acks.length)
def greatL (l : List Fr) : Bool := l.any bigF || decide (100 < l.length)
theorem greatL_at {l : List Fr} (i : Nat) (hi : i < l.length) (h : bigF l[i] = true) : greatL l = true := by
  unfold greatL
  rw [List.any_eq_true.2 ⟨_, List.getElem_mem hi, h⟩]
  rfl
theorem greatL_none {l : List Fr} (h : ∀ i (hi : i < l.length), bigF l[i] = false) : greatL l = decide (100 < l.length) := by
  unfold greatL
  have : l.any bigF = false := List.any_eq_false.2 fun f hf => by
    obtain ⟨i, hi, rfl⟩ := List.getElem_of_mem hf
    rw [h i hi]
    decide
  rw [this]
  rfl
theorem greatL_ok {l : List Fr} (h : greatL l = false) : l.length ≤ 100 ∧ ∀ f ∈ l, f.data.length ≤ 3000 ∧ f.acks.length ≤ 100 := by
  unfold greatL at h
  rw [Bool.or_eq_false_iff] at h
  refine ⟨by have := of_decide_eq_false h.2; omega, fun f hf => ?_⟩
  have h1 := List.any_eq_false.1 h.1 f hf
  unfold bigF at h1
  rw [Bool.or_eq_true, not_or] at h1
  have h2 := h1.1
  have h3 := h1.2
  rw [decide_eq_true_iff] at h2 h3
  omega
set_option maxHeartbeats 4000000 in
set_option maxRecDepth 100000 in
theorem great_c (l : List Fr) (p : Option Addr) (n c : Nat) (hn : n ≤ 9223372036854775807) (W : World) (hs : FS W (.slice p n c) l) :
    Calls Try.prog 9 #[.slice p n c] W fun e w' => e = .returned (.bool (greatL l)) ∧ Below W.heap.size W w' := by
  have EL := Lib.hid hs.len.1
  have HS := Lib.hid hs
  clear hs
  obtain ⟨rr, hrr⟩ : ∃ rr, greatL l = rr := ⟨_, rfl⟩
  rw [hrr]
  have RR := Lib.hid hrr
  clear hrr
  go_enter Try.func9, Try.ntmps9
  go_upto_region 2 with fail
  go_loopw [7] (fun t wr => ∃ i : Nat, i ≤ n ∧ t = .int .i64 (i : Int) ∧ (∀ j (hj : j < l.length), j < i → bigF l[j] = false) ∧ Below W.heap.size W wr) (fun t _ => (n - intOf t).toNat)
  case atStart => exact ⟨0, by omega, rfl, (fun j _ h => absurd h (Nat.not_lt_zero _)), Below.refl _ _⟩
  case round =>
    obtain ⟨i, hi, rfl, hR, hB⟩ := hrel
    by_cases hin : i = n
    · subst i
      have er0 := RR.out.symm.trans (greatL_none fun j hj => hR j hj (by rw [EL.out]; exact hj))
      rw [← EL.out] at er0
      by_cases h1 : 100 < n
      · have er := Lib.hid (er0.trans (decide_eq_true h1))
        have g1 : (100 : Int) < (n : Int) := by omega
        clear hR EL HS RR er0
        go_wp2
        go_ret
        exact ⟨by rw [er.out]; rfl, hB⟩
      · have er := Lib.hid (er0.trans (decide_eq_false h1))
        have g1 : ¬ (100 : Int) < (n : Int) := by omega
        clear hR EL HS RR er0
        go_wp2
        go_ret
        exact ⟨by rw [er.out]; rfl, hB⟩
    · have i1 : (i : Int) < (n : Int) := by omega
      have i0 : (0 : Int) ≤ (i : Int) := by omega
      have il : i < l.length := by rw [← EL.out]; omega
      obtain ⟨g, oo, rfl, hA⟩ : ∃ g o, p = some ⟨g, o, none⟩ ∧ FA W g o l := by
        rcases HS.out.at_ with h0 | h0
        · omega
        · exact h0
      obtain ⟨vd, va, h1, h2⟩ := (hA.below hB).at_ i il
      obtain ⟨p1, c1, rfl⟩ := h1.data.shape
      obtain ⟨p2, c2, rfl⟩ := h1.acks.shape
      have BG := Lib.hid (show bigF l[i] = (decide (3000 < l[i].data.length) || decide (100 < l[i].acks.length)) from rfl)
      have NR := Lib.hid (greatL_at i il)
      clear hA h1
      generalize hf : l[i] = f at *
      replace hf := Lib.hid hf
      go_upto_region 3 with fail
      rename_i aK
      refine wp_region_seq ?_
      refine wpSeq_yield (S := fun _ => True) (v := .pointer (some ⟨g, oo + i * 8, none⟩)) (Or.inl ⟨by rfl, fun w' hw' => by go_simp⟩) trivial ?_
      simp only [AP]
      refine wpSeq_yield (S := fun w' => w' = wr) (show YieldsIf _ _ _ _ (frV f (.slice p1 f.data.length c1) (.slice p2 f.acks.length c2)) _ from yieldsIf_load_mid (S := fun w' => w' = wr) rfl 26 _ rfl g (oo + i * 8) rfl (frL f (.slice p1 f.data.length c1) (.slice p2 f.acks.length c2)) _ (fun _ h => h ▸ h2) Try.underlying26 rfl (info_frL f (.slice p1 f.data.length c1) (.slice p2 f.acks.length c2))) rfl ?_
      simp only [AP]
      refine wpSeq_alloc 26 zeroFr rfl (fun W => by go_simp; rfl) ?_
      simp only [AP]
      refine wpSeq_store_row rfl 26 _ _ rfl (wr.heap.size) (frL f (.slice p1 f.data.length c1) (.slice p2 f.acks.length c2)).toArray rfl rfl _ _ (Blk.new _ _ _) info_fr rfl frL_one ?_
      try simp only [Act.put]
      have hb := below_setRow ((Below.refl wr.heap.size wr).alloc (Nat.le_refl _) (.cells zeroFr 26)) (Nat.le_refl wr.heap.size) (frL f (.slice p1 f.data.length c1) (.slice p2 f.acks.length c2)).toArray
      have K := (Blk.new wr 26 zeroFr).row (frL f (.slice p1 f.data.length c1) (.slice p2 f.acks.length c2)).toArray
      replace hB := hB.trans (hb.mono hB.size)
      clear hb h2
      generalize World.setRow _ _ _ = W2 at *
      generalize wr.heap.size = G1 at *
      refine wpSeq_nil ?_
      refine aK _ _ ?_
      clear aK
      have k6 : W2.cell? ⟨G1, 6, none⟩ = some (.slice p1 f.data.length c1) := K.cell 6
      have k7 : W2.cell? ⟨G1, 7, none⟩ = some (.slice p2 f.acks.length c2) := K.cell 7
      clear K
      generalize f.data.length = a at *
      generalize f.acks.length = b at *
      by_cases ha : 3000 < a
      · have g1 : (3000 : Int) < (a : Int) := by omega
        have er := Lib.hid (RR.out.symm.trans (NR.out (by rw [BG.out, decide_eq_true ha]; rfl)))
        clear hR EL HS RR NR BG hf
        go_upto_region 4 with fail
        rename_i aK
        refine wp_region_seq ?_
        refine wpSeq_yield (S := fun _ => True) (v := .pointer (some ⟨G1, 6, none⟩)) (Or.inl ⟨by rfl, fun w' hw' => by go_simp⟩) trivial ?_
        simp only [AP]
        refine wpSeq_yield (S := fun w' => w' = W2) (v := .slice p1 a c1) (Or.inl ⟨by rfl, fun w' hw' => by (rw [hw']; go_simp)⟩) rfl ?_
        simp only [AP]
        refine wpSeq_yield (S := fun _ => True) (v := .int .i64 (a : Int)) (Or.inl ⟨by rfl, fun w' hw' => by go_simp⟩) trivial ?_
        simp only [AP]
        refine wpSeq_yield (S := fun _ => True) (v := .bool true) (Or.inl ⟨by rfl, fun w' hw' => by go_simp⟩) trivial ?_
        simp only [AP]
        refine wpSeq_yield (S := fun _ => True) (yieldsIf_move rfl _ rfl (.bool true) rfl) trivial ?_
        simp only [AP]
        refine wpSeq_yield (S := fun _ => True) (yieldsIf_off rfl) trivial ?_
        simp only [AP]
        refine wpSeq_yield (S := fun _ => True) (yieldsIf_off rfl) trivial ?_
        simp only [AP]
        refine wpSeq_yield (S := fun _ => True) (yieldsIf_off rfl) trivial ?_
        simp only [AP]
        refine wpSeq_yield (S := fun _ => True) (yieldsIf_off rfl) trivial ?_
        simp only [AP]
        refine wpSeq_yield (S := fun _ => True) (yieldsIf_pick rfl _ _ _ rfl true rfl (.bool true) rfl) trivial ?_
        simp only [AP]
        refine wpSeq_nil ?_
        refine aK _ _ ?_
        clear aK k6 k7 g1
        go_wp2
        go_ret
        exact ⟨by rw [er.out]; rfl, hB⟩
      · by_cases hb : 100 < b
        · have g1 : ¬ (3000 : Int) < (a : Int) := by omega
          have g2 : (100 : Int) < (b : Int) := by omega
          have er := Lib.hid (RR.out.symm.trans (NR.out (by rw [BG.out, decide_eq_true hb, Bool.or_true])))
          clear hR EL HS RR NR BG hf
          go_upto_region 4 with fail
          rename_i aK
          refine wp_region_seq ?_
          refine wpSeq_yield (S := fun _ => True) (v := .pointer (some ⟨G1, 6, none⟩)) (Or.inl ⟨by rfl, fun w' hw' => by go_simp⟩) trivial ?_
          simp only [AP]
          refine wpSeq_yield (S := fun w' => w' = W2) (v := .slice p1 a c1) (Or.inl ⟨by rfl, fun w' hw' => by (rw [hw']; go_simp)⟩) rfl ?_
          simp only [AP]
          refine wpSeq_yield (S := fun _ => True) (v := .int .i64 (a : Int)) (Or.inl ⟨by rfl, fun w' hw' => by go_simp⟩) trivial ?_
          simp only [AP]
          refine wpSeq_yield (S := fun _ => True) (v := .bool false) (Or.inl ⟨by rfl, fun w' hw' => by go_simp⟩) trivial ?_
          simp only [AP]
          refine wpSeq_yield (S := fun _ => True) (yieldsIf_move rfl _ rfl (.bool false) rfl) trivial ?_
          simp only [AP]
          refine wpSeq_yield (S := fun _ => True) (v := .pointer (some ⟨G1, 7, none⟩)) (Or.inl ⟨by rfl, fun w' hw' => by go_simp⟩) trivial ?_
          simp only [AP]
          refine wpSeq_yield (S := fun w' => w' = W2) (v := .slice p2 b c2) (Or.inl ⟨by rfl, fun w' hw' => by (rw [hw']; go_simp)⟩) rfl ?_
          simp only [AP]
          refine wpSeq_yield (S := fun _ => True) (v := .int .i64 (b : Int)) (Or.inl ⟨by rfl, fun w' hw' => by go_simp⟩) trivial ?_
          simp only [AP]
          refine wpSeq_yield (S := fun _ => True) (v := .bool true) (Or.inl ⟨by rfl, fun w' hw' => by go_simp⟩) trivial ?_
          simp only [AP]
          refine wpSeq_yield (S := fun _ => True) (yieldsIf_pick rfl _ _ _ rfl false rfl (.bool true) rfl) trivial ?_
          simp only [AP]
          refine wpSeq_nil ?_
          refine aK _ _ ?_
          clear aK k6 k7 g1 g2
          go_wp2
          go_ret
          exact ⟨by rw [er.out]; rfl, hB⟩
        · have g1 : ¬ (3000 : Int) < (a : Int) := by omega
          have g2 : ¬ (100 : Int) < (b : Int) := by omega
          have bf : bigF f = false := by rw [BG.out, decide_eq_false ha, decide_eq_false hb]; rfl
          have hR' : ∀ j (hj : j < l.length), j < i + 1 → bigF l[j] = false := fun j hj h => by
            by_cases hji : j = i
            · subst hji
              rw [hf.out]
              exact bf
            · exact hR j hj (by omega)
          have HR := Lib.hid hR'
          clear hR' hR EL HS RR NR BG hf bf
          go_upto_region 4 with fail
          rename_i aK
          refine wp_region_seq ?_
          refine wpSeq_yield (S := fun _ => True) (v := .pointer (some ⟨G1, 6, none⟩)) (Or.inl ⟨by rfl, fun w' hw' => by go_simp⟩) trivial ?_
          simp only [AP]
          refine wpSeq_yield (S := fun w' => w' = W2) (v := .slice p1 a c1) (Or.inl ⟨by rfl, fun w' hw' => by (rw [hw']; go_simp)⟩) rfl ?_
          simp only [AP]
          refine wpSeq_yield (S := fun _ => True) (v := .int .i64 (a : Int)) (Or.inl ⟨by rfl, fun w' hw' => by go_simp⟩) trivial ?_
          simp only [AP]
          refine wpSeq_yield (S := fun _ => True) (v := .bool false) (Or.inl ⟨by rfl, fun w' hw' => by go_simp⟩) trivial ?_
          simp only [AP]
          refine wpSeq_yield (S := fun _ => True) (yieldsIf_move rfl _ rfl (.bool false) rfl) trivial ?_
          simp only [AP]
          refine wpSeq_yield (S := fun _ => True) (v := .pointer (some ⟨G1, 7, none⟩)) (Or.inl ⟨by rfl, fun w' hw' => by go_simp⟩) trivial ?_
          simp only [AP]
          refine wpSeq_yield (S := fun w' => w' = W2) (v := .slice p2 b c2) (Or.inl ⟨by rfl, fun w' hw' => by (rw [hw']; go_simp)⟩) rfl ?_
          simp only [AP]
          refine wpSeq_yield (S := fun _ => True) (v := .int .i64 (b : Int)) (Or.inl ⟨by rfl, fun w' hw' => by go_simp⟩) trivial ?_
          simp only [AP]
          refine wpSeq_yield (S := fun _ => True) (v := .bool false) (Or.inl ⟨by rfl, fun w' hw' => by go_simp⟩) trivial ?_
          simp only [AP]
          refine wpSeq_yield (S := fun _ => True) (yieldsIf_pick rfl _ _ _ rfl false rfl (.bool false) rfl) trivial ?_
          simp only [AP]
          refine wpSeq_nil ?_
          refine aK _ _ ?_
          clear aK k6 k7 g1 g2
          go_wp2
          exact ⟨⟨i + 1, by omega, rfl, HR.out, hB⟩, by simp only [intOf]; omega⟩
end Go.Proofs.Ytdlhclakdllogaa
/- Frames: the kinds there are, whether one asks, of the reference. -/
namespace Go.Proofs.Ytdlhclakdllogaa
open Go.RowKit

def kindsL : List Nat := [0, 1, 2, 4, 5, 6, 8, 16, 17, 18, 28, 30]
theorem known_mem {k : Nat} (h : knownK k = true) : k = 0 ∨ k = 1 ∨ k = 2 ∨ k = 4 ∨ k = 5 ∨ k = 6 ∨ k = 8 ∨ k = 16 ∨ k = 17 ∨ k = 18 ∨ k = 28 ∨ k = 30 := by
  simp only [knownK, Bool.or_eq_true, beq_iff_eq] at h
  omega
theorem known_not {k : Nat} (h : knownK k = false) : k ≠ 0 ∧ k ≠ 1 ∧ k ≠ 2 ∧ k ≠ 4 ∧ k ≠ 5 ∧ k ≠ 6 ∧ k ≠ 8 ∧ k ≠ 16 ∧ k ≠ 17 ∧ k ≠ 18 ∧ k ≠ 28 ∧ k ≠ 30 := by
  simp only [knownK, Bool.or_eq_false_iff, beq_eq_false_iff_ne] at h
  omega
set_option maxHeartbeats 4000000 in
theorem known_c (k : Nat) (W : World) : Calls Try.prog 22 #[.int .u64 (k : Int)] W fun e w' => e = .returned (.bool (knownK k)) ∧ w' = W := by
  cases h : knownK k with
  | true =>
    rcases known_mem h with rfl | rfl | rfl | rfl | rfl | rfl | rfl | rfl | rfl | rfl | rfl | rfl <;>
    · clear h
      go_enter Try.func22, Try.ntmps22
      go_wp2
      go_ret
      exact ⟨rfl, rfl⟩
  | false =>
    obtain ⟨h0, h1, h2, h3, h4, h5, h6, h7, h8, h9, h10, h11⟩ := known_not h
    have g0 : ¬ (k : Int) = 0 := by omega
    have g1 : ¬ (k : Int) = 1 := by omega
    have g2 : ¬ (k : Int) = 2 := by omega
    have g4 : ¬ (k : Int) = 4 := by omega
    have g5 : ¬ (k : Int) = 5 := by omega
    have g6 : ¬ (k : Int) = 6 := by omega
    have g8 : ¬ (k : Int) = 8 := by omega
    have g16 : ¬ (k : Int) = 16 := by omega
    have g17 : ¬ (k : Int) = 17 := by omega
    have g18 : ¬ (k : Int) = 18 := by omega
    have g28 : ¬ (k : Int) = 28 := by omega
    have g30 : ¬ (k : Int) = 30 := by omega
    clear h
    go_enter Try.func22, Try.ntmps22
    go_wp2
    go_ret
    exact ⟨rfl, rfl⟩
set_option maxHeartbeats 4000000 in
theorem rasks_c (k : Nat) (W : World) : Calls Try.prog 13 #[.int .u64 (k : Int)] W fun e w' => e = .returned (.bool (askK k)) ∧ w' = W := by
  by_cases h0 : k = 0
  · subst h0
    go_enter Try.func13, Try.ntmps13
    go_wp2
    go_ret
    exact ⟨rfl, rfl⟩
  · by_cases h2 : k = 2
    · subst h2
      go_enter Try.func13, Try.ntmps13
      go_wp2
      go_ret
      exact ⟨rfl, rfl⟩
    · by_cases h28 : k = 28
      · subst h28
        go_enter Try.func13, Try.ntmps13
        go_wp2
        go_ret
        exact ⟨rfl, rfl⟩
      · have e : askK k = true := by
          simp [askK, h0, h2, h28]
        rw [e]
        have g0 : ((k : Int) != 0) = true := bne_iff_ne.2 (by omega)
        have g2 : ((k : Int) != 2) = true := bne_iff_ne.2 (by omega)
        have g28 : ((k : Int) != 28) = true := bne_iff_ne.2 (by omega)
        clear e
        go_enter Try.func13, Try.ntmps13
        go_wp2
        go_ret
        exact ⟨rfl, rfl⟩
end Go.Proofs.Ytdlhclakdllogaa
/- Rows of words: some appended at once. -/
namespace Go.Proofs.Ytdlhclakdllogaa
open Go.RowKit

/-- Words behind a row of one's own, out of a row that was just laid. -/
theorem append_words (B : Nat) (w0 w : World) (ty : TypeId) (v : Value) (l xs : List Nat) (O : OwU B w v l) (hl : l.length + xs.length ≤ 100000) (b : Below B w0 w) (hB : B ≤ w.heap.size) :
    ∃ v' w', (Builtin.append_ #[49, 49] ty #[v, .slice (some ⟨w.heap.size, 0, none⟩) xs.length xs.length]).run Try.prog (w.alloc (.cells (valu xs).toArray 22)) = .ok v' w' ∧ OwU B w' v' (l ++ xs) ∧ Below B w0 w' := by
  have b1 := (Below.refl w.heap.size w).alloc (Nat.le_refl _) (.cells (valu xs).toArray 22)
  have hx : UA (w.alloc (.cells (valu xs).toArray 22)) w.heap.size 0 xs := ⟨fun i hi => by
    have h := Blk.cell (Blk.new w 22 (valu xs).toArray) i
    rw [Nat.zero_add]
    rw [h]
    simp [valu, hi], (Blk.new w 22 (valu xs).toArray).lt⟩
  have O1 := O.below b1
  obtain ⟨v', w', h1, h2, h3, h4⟩ := append_ua B _ ty v l xs O1 w.heap.size 0 xs.length hx (by omega) (by have := b1.size; omega)
  exact ⟨v', w', h1, h2, below_grown' (b.trans (b1.mono hB)) h3 (fun k hk => (O1.lt k hk).1) (by have := b1.size; omega)⟩
theorem OwU.new (B : Nat) (w : World) (xs : List Nat) (hB : B ≤ w.heap.size) (hl : xs.length ≤ maxLen) : OwU B (w.alloc (.cells (valu xs).toArray 22)) (.slice (some ⟨w.heap.size, 0, none⟩) xs.length xs.length) xs :=
  ⟨by rw [valu_length, Nat.mul_one], .inr ⟨w.heap.size, xs.length, _, rfl, hB, heap_alloc_new w _, Nat.le_refl _, hl, by simp [valu], by rw [List.take_of_length_le (by simp [valu])]⟩⟩
theorem OwL.mono {B B' : Nat} {w : World} {v : Value} {l : List Nat} (h : OwL B w v l) (hB : B' ≤ B) : OwL B' w v l := by
  obtain ⟨hl, hr⟩ := h
  refine ⟨hl, hr.imp id ?_⟩
  rintro ⟨g, cap, cur, e, hb, r⟩
  exact ⟨g, cap, cur, e, Nat.le_trans hB hb, r⟩
set_option maxHeartbeats 4000000 in
set_option maxRecDepth 100000 in
theorem rputall_own (l : List Nat) (hl : l.length ≤ 1000) (pl : Option Addr) (nl cl : Nat) (w : World) (su : SU w (.slice pl nl cl) l) :
    Calls Try.prog 23 #[.slice none 0 0, .slice pl nl cl] w fun e w' => ∃ v, e = .returned (.tuple #[v, .bool (putO [] l).isSome]) ∧ (∀ r, putO [] l = some r → OwL w.heap.size w' v r) ∧ Below w.heap.size w w' := by
  have el := su.len.1
  have EL := Lib.hid el
  rw [← el] at hl
  have SU0 := Lib.hid su
  clear el su
  have CP := Lib.hid (fun c n hn hl bv W h => rput_any c n hn hl bv W h)
  go_enter Try.func23, Try.ntmps23
  go_upto_region 2 with fail
  go_loopw [0, 6] (fun v t wr => ∃ i : Nat, i ≤ nl ∧ t = .int .i64 (i : Int) ∧ OwL w.heap.size wr v (vputs (l.take i)) ∧ (∀ n ∈ l.take i, n < 4611686018427387904) ∧ Below w.heap.size w wr) (fun _ t _ => (nl - intOf t).toNat)
  case atStart => exact ⟨0, by omega, rfl, by rw [List.take_zero]; exact OwL.nil _ _, (fun n h => by cases h), Below.refl _ _⟩
  case round =>
    obtain ⟨i, hi, rfl, hs, hm, hB⟩ := hrel
    by_cases hin : i = nl
    · have e : l.take i = l := List.take_of_length_le (by rw [hin, EL.out]; exact Nat.le_refl _)
      rw [e] at hs hm
      have ep := Lib.hid (putO_some (b := []) hm)
      rw [hin]
      clear hm e SU0 CP hi hin
      go_wp2
      refine bodyPost_ret (results_tmp2 rfl _ _ _) rfl ?_
      exact ⟨_, by rw [ep.out]; rfl, (fun r hr => by rw [ep.out] at hr; rw [← Option.some.inj hr]; exact hs), hB⟩
    · have i1 : (i : Int) < (nl : Int) := by omega
      have i0 : (0 : Int) ≤ (i : Int) := by omega
      have il : i < l.length := by rw [← EL.out]; omega
      obtain ⟨g, o, rfl, hA⟩ : ∃ g o, pl = some ⟨g, o, none⟩ ∧ UA w g o l := by
        rcases SU0.out.at_ with h0 | h0
        · omega
        · exact h0
      have cx := (hA.below hB).cell i il
      by_cases hx : l[i] < 4611686018427387904
      · have hm' : ∀ n ∈ l.take (i + 1), n < 4611686018427387904 := fun n hn => by
          rw [List.take_add_one, List.getElem?_eq_getElem il] at hn
          rcases List.mem_append.1 hn with h | h
          · exact hm n h
          · simp at h
            rw [h]
            exact hx
        have ev : vputs (l.take i) ++ vput l[i] = vputs (l.take (i + 1)) := by
          rw [List.take_add_one, List.getElem?_eq_getElem il, vputs_append]
          show _ = vputs (l.take i) ++ vputs [l[i]]
          rw [vputs_one]
        have lv : (vputs (l.take i)).length ≤ 100000 := by
          have hle : ∀ m : List Nat, (vputs m).length ≤ 8 * m.length := fun m => by
            induction m with
            | nil => exact Nat.le_refl _
            | cons x m ih =>
              rw [vputs_cons, List.length_append, List.length_cons, vput_length]
              have : 2 ^ vtop x ≤ 8 := by
                have := vtop_le x
                have h8 : 2 ^ vtop x ≤ 2 ^ 3 := Nat.pow_le_pow_right (by decide) this
                exact h8
              omega
          have := hle (l.take i)
          rw [List.length_take] at this
          omega
        have EV := Lib.hid ev
        have HM := Lib.hid hm'
        have C := Lib.hid (CP.out _ l[i] hx lv _ _ hs.sb)
        have g1 : ¬ (4611686018427387903 : Int) < ((l[i] : Nat) : Int) := by omega
        clear ev hm' hm CP lv hx hA
        generalize l[i] = x at *
        go_wp2_with fail
        refine C.out.mono ?_
        rintro _ w2 ⟨v2, rfl, O2, b2⟩
        rw [EV.out] at O2
        have s2 := O2.mono hB.size
        clear hs O2 C cx
        go_wp2
        exact ⟨⟨i + 1, by omega, rfl, s2, HM.out, hB.trans (b2.mono hB.size)⟩, by simp only [intOf]; omega⟩
      · have ep := Lib.hid (putO_none (b := []) i il hx)
        have g1 : (4611686018427387903 : Int) < ((l[i] : Nat) : Int) := by omega
        clear hm CP hx hA hs
        generalize l[i] = x at *
        go_wp2
        refine bodyPost_ret (results_tmp2 rfl _ _ _) rfl ?_
        exact ⟨.slice none 0 0, by rw [ep.out]; rfl, (fun r hr => by rw [ep.out] at hr; cases hr), hB⟩
theorem append_more (B : Nat) (w0 w : World) (ty : TypeId) (v x : Value) (l m : List Nat) (O : OwL B w v l) (hx : SB w x m) (hl : l.length + m.length ≤ 1000000) (b : Below B w0 w) (hB : B ≤ w.heap.size) :
    ∃ v' w', (Builtin.append_ #[23, 23] ty #[v, x]).run Try.prog w = .ok v' w' ∧ OwL B w' v' (l ++ m) ∧ Below B w0 w' := by
  obtain ⟨v', w', h1, h2, h3, _⟩ := append_sb B w ty v x l m O hx (by omega) hB
  exact ⟨v', w', h1, h2, below_grown' b h3 (fun k hk => (O.lt k hk).1) hB⟩
theorem putO_len {l r : List Nat} (h : putO [] l = some r) (hl : l.length ≤ 1000) : r.length ≤ 8000 := by
  unfold putO at h
  split at h
  · rw [← Option.some.inj h, List.nil_append]
    have hle : ∀ m : List Nat, (vputs m).length ≤ 8 * m.length := fun m => by
      induction m with
      | nil => exact Nat.le_refl _
      | cons x m ih =>
        rw [vputs_cons, List.length_append, List.length_cons, vput_length]
        have : 2 ^ vtop x ≤ 8 := by
          have := vtop_le x
          have h8 : 2 ^ vtop x ≤ 2 ^ 3 := Nat.pow_le_pow_right (by decide) this
          exact h8
        omega
    have := hle l
    omega
  · cases h
end Go.Proofs.Ytdlhclakdllogaa
/- What several texts on frames use. -/
namespace Go.Proofs.Ytdlhclakdllogaa
open Go.RowKit

theorem wrap64_small (k : Int) (_h0 : 0 ≤ k) (_h1 : k < 1000000) : wrap64 k = k := by
  unfold wrap64
  omega
theorem gaps_take : ∀ (r : List (Nat × Nat)) (p : Nat × Nat) (j : Nat), j < r.length → (gaps p r).take (2 * (j + 1)) = (gaps p r).take (2 * j) ++ [((p :: r).getD j (0, 0)).1 - (r.getD j (0, 0)).2 - 2, (r.getD j (0, 0)).2 - (r.getD j (0, 0)).1]
  | [], _, _, h => absurd h (Nat.not_lt_zero _)
  | q :: r, p, 0, _ => rfl
  | q :: r, p, j + 1, h => by
    have ih := gaps_take r q j (by simp only [List.length_cons] at h; omega)
    show (p.1 - q.2 - 2) :: (q.2 - q.1) :: (gaps q r).take (2 * (j + 1)) = (p.1 - q.2 - 2) :: (q.2 - q.1) :: ((gaps q r).take (2 * j) ++ _)
    rw [ih]
    rfl
theorem gaps_length : ∀ (r : List (Nat × Nat)) (p : Nat × Nat), (gaps p r).length = 2 * r.length
  | [], _ => rfl
  | q :: r, p => by
    show (gaps q r).length + 1 + 1 = 2 * (r.length + 1)
    rw [gaps_length r q]
    omega
theorem rightL_at {l : List (Nat × Nat)} (h : rightL l = true) : 1 ≤ l.length ∧ l.length ≤ 32 ∧ ∀ i, i < l.length → rightAt l i := of_decide_eq_true h
/-- What Encode is to answer of a frame. -/
def EncPost (f : Fr) (W : World) (e : Ending) (w' : World) : Prop := ∃ v, e = .returned (.tuple #[v, .int .i64 (((encF f).1 : Nat) : Int)]) ∧ OwL W.heap.size w' v (encF f).2 ∧ Below W.heap.size W w'
theorem blk_range {w : World} {g : Nat} {t : TypeId} {cs : List Value} (h : Blk w g t cs.toArray) : w.rangeAt g 0 cs := fun j v hv => by
  rw [Nat.zero_add, h.cell, List.getElem?_toArray]
  exact hv
/-- A row of one frame, just laid. -/
theorem fs_one (w : World) (f : Fr) (vd va : Value) (h : FD w f vd va) : FS (w.alloc (.cells (frL f vd va).toArray 26)) (.slice (some ⟨w.heap.size, 0, none⟩) 1 1) [f] := by
  have K := Blk.new w 26 (frL f vd va).toArray
  have b := (Below.refl w.heap.size w).alloc (Nat.le_refl _) (.cells (frL f vd va).toArray 26)
  refine ⟨_, 1, rfl, Nat.le_refl _, Or.inr ⟨_, _, rfl, fun i hi => ?_, K.lt⟩⟩
  have : i = 0 := by simp at hi; exact hi
  subst this
  exact ⟨vd, va, h.below b, blk_range K⟩
theorem great_one {f : Fr} (h : greatL [f] = false) : f.data.length ≤ 3000 ∧ f.acks.length ≤ 100 := (greatL_ok h).2 f (by simp)
theorem frL_oneL {f : Fr} {p q : Option Addr} {n c m d : Nat} : ∀ v ∈ frL f (.slice p n c) (.slice q m d), v.oneCell' = true := fun v hv => by
  simp only [frL, List.mem_cons, List.not_mem_nil, or_false] at hv
  rcases hv with rfl | rfl | rfl | rfl | rfl | rfl | rfl | rfl <;> rfl
theorem enc_ok {f : Fr} (h1 : ¬ 2048 < f.data.length) (h2 : ¬ (0 < f.data.length ∧ f.kind ≠ 6 ∧ f.kind ≠ 8 ∧ f.kind ≠ 28)) (h3 : ¬ knownK f.kind = false) (h4 : ¬ (f.kind = 2 ∧ rightL f.acks = false)) (h5 : ¬ ((f.kind = 6 ∨ f.kind = 8) ∧ 4611686018427387903 < f.off + f.data.length)) :
    encF f = finF (putO [] (nums f)) f.data := by
  unfold encF
  rw [if_neg h1, if_neg h2, if_neg h3, if_neg h4, if_neg h5]
end Go.Proofs.Ytdlhclakdllogaa
