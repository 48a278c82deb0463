/- The program's Readers: take, Bytes. -/
import Derived.Test.YtfhiflakglhneaaRb
namespace Go.Proofs.Ytfhiflakglhneaa
open Go.RowKit

theorem OwL.mono_ {B B' : Nat} {w : World} {v : Value} {l : List Nat} (h : OwL B w v l) (hB : B' ≤ B) : OwL B' w v l := by
  obtain ⟨hl, hr⟩ := h
  refine ⟨hl, hr.imp id ?_⟩
  rintro ⟨g, cap, cur, e, hb, r⟩
  exact ⟨g, cap, cur, e, Nat.le_trans hB hb, r⟩
theorem yieldsIf_tailK {ops : Array Oper} {S : World → Prop} {o : Oper} {a : Act} (hgd : Region.wanted o (yielded ops a.tmps) = true) (x lo : Operand) (kd : IntKind) (ho : o.op = .slice 29 x (some lo) none none) (p : Option Addr) (n c k : Nat) (hx : a.eval x = .slice p n c) (hlo : a.eval lo = .int kd (k : Int)) (hk : k ≤ n) (hc : n ≤ c) :
    YieldsIf Try.prog ops S o (.slice (tailP p c k) (n - k) (c - k)) a := by
  refine Or.inl ⟨hgd, fun w hw => ?_⟩
  have q1 : (0 : Int) ≤ (k : Int) := by omega
  have q2 : (k : Int) ≤ (n : Int) := by omega
  have q3 : (n : Int) ≤ (c : Int) := by omega
  simp only [execOp, ho, hx, Option.map_some, hlo]
  cases p with
  | none =>
    go_simp
    rfl
  | some b =>
    go_simp
    by_cases h : c = k <;> simp [tailP, h]
theorem yieldsIf_headK {ops : Array Oper} {S : World → Prop} {o : Oper} {a : Act} (hgd : Region.wanted o (yielded ops a.tmps) = true) (x hi : Operand) (kd : IntKind) (ho : o.op = .slice 29 x none (some hi) none) (p : Option Addr) (n c k : Nat) (hx : a.eval x = .slice p n c) (hlo : a.eval hi = .int kd (k : Int)) (hk : k ≤ c) :
    YieldsIf Try.prog ops S o (.slice p k c) a := by
  refine Or.inl ⟨hgd, fun w hw => ?_⟩
  have q1 : (0 : Int) ≤ (k : Int) := by omega
  have q2 : (k : Int) ≤ (c : Int) := by omega
  simp only [execOp, ho, hx, Option.map_some, hlo]
  cases p with
  | none =>
    go_simp
  | some b =>
    go_simp
theorem tailP_block {p : Option Addr} {c k g : Nat} (h : ∀ a, p = some a → a.block < g) : ∀ a, tailP p c k = some a → a.block < g := fun a e => by
  cases p with
  | none => cases e
  | some b =>
    have hb := h b rfl
    simp only [tailP, Option.map_some, Option.some.injEq] at e
    rw [← e]
    by_cases hc : c = k
    · rw [if_pos hc]
      exact hb
    · rw [if_neg hc]
      have ab : (b.add k).block = b.block := by unfold Addr.add; split <;> rfl
      rw [ab]
      exact hb
theorem RM.rest {B : Nat} {w : World} {g pb cb k} {l : List Nat} (hk : k ≤ l.length) (hg : B = g) (K : Blk w g 58 #[.slice pb l.length cb, .int .i64 ((0 : Nat) : Int)]) (S : SB w (.slice pb l.length cb) l) (ne : ∀ a, pb = some a → a.block < g) (bb : ∀ x ∈ l, x < 256) (ll : l.length ≤ 1000000) :
    RM B (w.setCell ⟨g, 0, none⟩ (.slice (tailP pb cb k) (l.length - k) (cb - k))) (some ⟨g, 0, none⟩) (l.drop k) 0 ∧ w.grownBy (w.setCell ⟨g, 0, none⟩ (.slice (tailP pb cb k) (l.length - k) (cb - k))) (some B) := by
  have hl : (l.drop k).length = l.length - k := List.length_drop
  refine ⟨⟨g, tailP pb cb k, cb - k, rfl, hg, ?_, ?_, tailP_block ne, fun x hx => bb x (List.mem_of_mem_drop hx), by omega⟩, gb_set hg w 0 _⟩
  · rw [hl]
    exact K.set 0 _
  · rw [hl]
    exact (S.tail k hk).far (fun a e => Nat.ne_of_lt (tailP_block ne a e)) 0 _
set_option maxHeartbeats 4000000 in
set_option maxRecDepth 100000 in
theorem take_fault (B : Nat) (p : Option Addr) (l : List Nat) (n c : Nat) (W : World) (h : RM B W p l c) (hB : B ≤ W.heap.size) (hc : c ≠ 0) : Calls Try.prog 30 #[.pointer p, .int .u64 (n : Int)] W fun e w' => e = .returned (.slice none 0 0) ∧ RM B w' p l c ∧ W.grownBy w' (some B) := by
  have CC := Lib.hid (code_m B p l c W h hB)
  have hc' : ¬ (c : Int) = 0 := by omega
  clear h
  go_enter Try.func30, Try.ntmps30
  go_wp2_with fail
  refine CC.out.mono ?_
  rintro _ w1 ⟨rfl, h1, b1⟩
  clear CC
  go_wp2
  go_ret
  exact ⟨rfl, h1, b1⟩
set_option maxHeartbeats 4000000 in
set_option maxRecDepth 100000 in
theorem take_out (B : Nat) (p : Option Addr) (l : List Nat) (n : Nat) (W : World) (h : RM B W p l 0) (hB : B ≤ W.heap.size) (hl : l.length < n) : Calls Try.prog 30 #[.pointer p, .int .u64 (n : Int)] W fun e w' => e = .returned (.slice none 0 0) ∧ RM B w' p l 3 ∧ W.grownBy w' (some B) := by
  have CC := Lib.hid (code_m B p l 0 W h hB)
  clear h
  go_enter Try.func30, Try.ntmps30
  go_wp2_with fail
  refine CC.out.mono ?_
  rintro _ w1 ⟨rfl, h1, b1⟩
  obtain ⟨g, pb, cb, rfl, hg, K, S, ne, bb, ll⟩ := h1
  have c0 : w1.cell? ⟨g, 0, none⟩ = some (.slice pb l.length cb) := K.cell 0
  have g1 : (l.length : Int) < (n : Int) := by omega
  have wl : IntKind.u64.wrap (l.length : Int) = (l.length : Int) := by rw [IntKind.wrap_u64]; omega
  have c1 : w1.cell? ⟨g, 1, none⟩ = some (.int .i64 0) := K.cell 1
  have f1 := K.frozen 1
  have F := Lib.hid (RM.fault (d := 3) hg K S ne bb ll)
  clear K S ne bb hl CC
  generalize l.length = ln at *
  go_wp2
  go_ret
  exact ⟨rfl, F.out.1, b1.trans F.out.2⟩
set_option maxHeartbeats 4000000 in
set_option maxRecDepth 100000 in
theorem take_in (B : Nat) (p : Option Addr) (l : List Nat) (n : Nat) (W : World) (h : RM B W p l 0) (hB : B ≤ W.heap.size) (hl : n ≤ l.length) : Calls Try.prog 30 #[.pointer p, .int .u64 (n : Int)] W fun e w' => (∃ q c, e = .returned (.slice q n c) ∧ SB w' (.slice q n c) (l.take n)) ∧ RM B w' p (l.drop n) 0 ∧ W.grownBy w' (some B) := by
  have CC := Lib.hid (code_m B p l 0 W h hB)
  clear h
  go_enter Try.func30, Try.ntmps30
  go_wp2_with fail
  refine CC.out.mono ?_
  rintro _ w1 ⟨rfl, h1, b1⟩
  obtain ⟨g, pb, cb, rfl, hg, K, S, ne, bb, ll⟩ := h1
  have c0 : w1.cell? ⟨g, 0, none⟩ = some (.slice pb l.length cb) := K.cell 0
  have g1 : ¬ (l.length : Int) < (n : Int) := by omega
  have wl : IntKind.u64.wrap (l.length : Int) = (l.length : Int) := by rw [IntKind.wrap_u64]; omega
  have lc := S.len.2
  have f0 := K.frozen 0
  have RR := RM.rest (k := n) hl hg K S ne bb ll
  have O3 : SB (w1.setCell ⟨g, 0, none⟩ (.slice (tailP pb cb n) (l.length - n) (cb - n))) (.slice pb n cb) (l.take n) := (S.head n hl).far (fun a e => Nat.ne_of_lt (ne a e)) 0 _
  have B3 := b1.trans RR.2
  replace RR := Lib.hid RR.1
  replace O3 := Lib.hid O3
  clear K S ne bb CC
  go_upto_region 6 with fail
  rename_i aK
  refine wp_region_seq ?_
  refine wpSeq_yield (S := fun _ => True) (yieldsIf_move rfl _ rfl (.pointer (some ⟨g, 0, none⟩)) rfl) trivial ?_
  simp only [AP]
  refine wpSeq_yield (S := fun _ => True) (v := .pointer (some ⟨g, 0, none⟩)) (Or.inl ⟨by rfl, fun w' hw' => by go_simp⟩) trivial ?_
  simp only [AP]
  refine wpSeq_yield (S := fun _ => True) (v := .pointer (some ⟨g, 0, none⟩)) (Or.inl ⟨by rfl, fun w' hw' => by go_simp⟩) trivial ?_
  simp only [AP]
  refine wpSeq_yield (S := fun w' => w' = w1) (v := .slice pb l.length cb) (Or.inl ⟨by rfl, fun w' hw' => by (rw [hw']; go_simp)⟩) rfl ?_
  simp only [AP]
  refine wpSeq_yield (S := fun _ => True) (yieldsIf_move rfl _ rfl (.int .u64 (n : Int)) rfl) trivial ?_
  simp only [AP]
  refine wpSeq_yield (S := fun _ => True) (yieldsIf_headK rfl _ _ .u64 rfl pb l.length cb n rfl rfl (by omega)) trivial ?_
  simp only [AP]
  refine wpSeq_yield (S := fun _ => True) (yieldsIf_assign rfl _ rfl (.slice pb n cb) rfl) trivial ?_
  simp only [AP]
  refine wpSeq_nil ?_
  refine aK _ _ ?_
  clear aK
  go_upto_region 7 with fail
  rename_i aK
  refine wp_region_seq ?_
  refine wpSeq_yield (S := fun _ => True) (yieldsIf_move rfl _ rfl (.pointer (some ⟨g, 0, none⟩)) rfl) trivial ?_
  simp only [AP]
  refine wpSeq_yield (S := fun _ => True) (yieldsIf_move rfl _ rfl (.pointer (some ⟨g, 0, none⟩)) rfl) trivial ?_
  simp only [AP]
  refine wpSeq_yield (S := fun _ => True) (v := .pointer (some ⟨g, 0, none⟩)) (Or.inl ⟨by rfl, fun w' hw' => by go_simp⟩) trivial ?_
  simp only [AP]
  refine wpSeq_yield (S := fun _ => True) (v := .pointer (some ⟨g, 0, none⟩)) (Or.inl ⟨by rfl, fun w' hw' => by go_simp⟩) trivial ?_
  simp only [AP]
  refine wpSeq_yield (S := fun w' => w' = w1) (v := .slice pb l.length cb) (Or.inl ⟨by rfl, fun w' hw' => by (rw [hw']; go_simp)⟩) rfl ?_
  simp only [AP]
  refine wpSeq_yield (S := fun _ => True) (yieldsIf_move rfl _ rfl (.int .u64 (n : Int)) rfl) trivial ?_
  simp only [AP]
  refine wpSeq_yield (S := fun _ => True) (yieldsIf_tailK rfl _ _ .u64 rfl pb l.length cb n rfl rfl hl lc) trivial ?_
  simp only [AP]
  refine wpSeq_yield (S := fun _ => True) (v := .pointer (some ⟨g, 0, none⟩)) (Or.inl ⟨by rfl, fun w' hw' => by go_simp⟩) trivial ?_
  simp only [AP]
  refine wpSeq_yield (S := fun _ => True) (v := .pointer (some ⟨g, 0, none⟩)) (Or.inl ⟨by rfl, fun w' hw' => by go_simp⟩) trivial ?_
  simp only [AP]
  refine wpSeq_wp rfl ?_
  unfold Oper.wp execOp
  go_simp
  refine wpSeq_nil ?_
  refine aK _ _ ?_
  clear aK c0 f0
  go_wp2
  go_ret
  exact ⟨⟨pb, cb, rfl, O3.out⟩, RR.out, B3⟩
/-- So many bytes, as Bytes and Byte take them: they, what is left, the fault. -/
def tookS (n : Nat) (l : List Nat) (c : Nat) : List Nat × List Nat × Nat := if c ≠ 0 then ([], l, c) else if l.length < n then ([], l, 3) else (l.take n, l.drop n, 0)
theorem take_m (B : Nat) (p : Option Addr) (l : List Nat) (n c : Nat) (W : World) (h : RM B W p l c) (hB : B ≤ W.heap.size) : Calls Try.prog 30 #[.pointer p, .int .u64 (n : Int)] W fun e w' => (∃ v, e = .returned v ∧ SB w' v (tookS n l c).1) ∧ RM B w' p (tookS n l c).2.1 (tookS n l c).2.2 ∧ W.grownBy w' (some B) := by
  unfold tookS
  by_cases hc : c = 0
  · subst hc
    rw [if_neg (by decide)]
    by_cases hl : l.length < n
    · rw [if_pos hl]
      exact (take_out B p l n W h hB hl).mono fun e w' h => ⟨⟨_, h.1, SB.nil _ _ _⟩, h.2⟩
    · rw [if_neg hl]
      exact (take_in B p l n W h hB (by omega)).mono fun e w' h => by
        obtain ⟨⟨q, c, e1, s⟩, h2⟩ := h
        exact ⟨⟨_, e1, s⟩, h2⟩
  · rw [if_pos hc]
    exact (take_fault B p l n c W h hB hc).mono fun e w' h => ⟨⟨_, h.1, SB.nil _ _ _⟩, h.2⟩
theorem took_len (n : Nat) (l : List Nat) (c : Nat) : (tookS n l c).1.length ≤ l.length := by
  unfold tookS
  split
  · exact Nat.zero_le _
  · split
    · exact Nat.zero_le _
    · rw [List.length_take]
      omega
theorem rm_len {B : Nat} {w : World} {p : Option Addr} {l : List Nat} {c : Nat} (h : RM B w p l c) : l.length ≤ 1000000 := by
  obtain ⟨g, pb, cb, _, _, _, _, _, _, ll⟩ := h
  exact ll
set_option maxHeartbeats 4000000 in
set_option maxRecDepth 100000 in
theorem bytes_m (B : Nat) (p : Option Addr) (l : List Nat) (n c : Nat) (W : World) (h : RM B W p l c) (hB : B ≤ W.heap.size) : Calls Try.prog 27 #[.pointer p, .int .u64 (n : Int)] W fun e w' => (∃ v, e = .returned v ∧ OwL W.heap.size w' v (tookS n l c).1) ∧ RM B w' p (tookS n l c).2.1 (tookS n l c).2.2 ∧ W.grownBy w' (some B) := by
  have T := Lib.hid (take_m B p l n c W h hB)
  have tl := took_len n l c
  have ll := rm_len h
  have C := Lib.hid (fun q m d w h => clone_c (tookS n l c).1 q m d (by have := (show SB w (.slice q m d) (tookS n l c).1 from h).len.1; omega) w h)
  clear h tl ll
  go_enter Try.func27, Try.ntmps27
  go_wp2_with fail
  refine T.out.mono ?_
  rintro _ w1 ⟨⟨v1, rfl, s1⟩, h1, b1⟩
  obtain ⟨q, d, hv⟩ : ∃ q d, v1 = .slice q (tookS n l c).1.length d := by
    obtain ⟨q, d, e, _⟩ := s1
    exact ⟨q, d, e⟩
  subst hv
  have h1 := Lib.hid h1
  have CC := Lib.hid (C.out q _ d w1 s1)
  clear T s1 C
  generalize (tookS n l c).1.length = m at *
  go_wp2_with fail
  refine CC.out.mono ?_
  rintro _ w2 ⟨v2, rfl, O2, b2⟩
  have h2 := h1.out.below b2
  replace O2 := O2.mono_ b1.size
  replace b1 := b1.trans (gb_below b2 _)
  clear CC h1
  go_wp2
  go_ret
  exact ⟨⟨v2, rfl, O2⟩, h2, b1⟩
end Go.Proofs.Ytfhiflakglhneaa
