/- The program's Readers: take, Bytes, Byte. -/
import Derived.Test.YtooiaboaejcmhaaTb
namespace Go.Proofs.Ytooiaboaejcmhaa
open Go.RowKit

theorem yieldsIf_tailK {ops : Array Oper} {S : World → Prop} {o : Oper} {a : Act} (hgd : Region.wanted o (yielded ops a.tmps) = true) (x lo : Operand) (kd : IntKind) (ho : o.op = .slice 22 x (some lo) none none) (p : Option Addr) (n c k : Nat) (hx : a.eval x = .slice p n c) (hlo : a.eval lo = .int kd (k : Int)) (hk : k ≤ n) (hc : n ≤ c) :
    YieldsIf Try.prog ops S o (.slice (tailP p c k) (n - k) (c - k)) a := by
  refine Or.inl ⟨hgd, fun w hw => ?_⟩
  have q1 : (0 : Int) ≤ (k : Int) := by omega
  have q2 : (k : Int) ≤ (n : Int) := by omega
  have q3 : (n : Int) ≤ (c : Int) := by omega
  simp only [execOp, ho, hx, Option.map_some, hlo]
  cases p with
  | none =>
    go_simp
    rfl
  | some b =>
    go_simp
    by_cases h : c = k <;> simp [tailP, h]
theorem yieldsIf_headK {ops : Array Oper} {S : World → Prop} {o : Oper} {a : Act} (hgd : Region.wanted o (yielded ops a.tmps) = true) (x hi : Operand) (kd : IntKind) (ho : o.op = .slice 22 x none (some hi) none) (p : Option Addr) (n c k : Nat) (hx : a.eval x = .slice p n c) (hlo : a.eval hi = .int kd (k : Int)) (hk : k ≤ c) :
    YieldsIf Try.prog ops S o (.slice p k c) a := by
  refine Or.inl ⟨hgd, fun w hw => ?_⟩
  have q1 : (0 : Int) ≤ (k : Int) := by omega
  have q2 : (k : Int) ≤ (c : Int) := by omega
  simp only [execOp, ho, hx, Option.map_some, hlo]
  cases p with
  | none =>
    go_simp
  | some b =>
    go_simp
theorem tailP_block {p : Option Addr} {c k g : Nat} (h : ∀ a, p = some a → a.block ≠ g) : ∀ a, tailP p c k = some a → a.block ≠ g := fun a e => by
  cases p with
  | none => cases e
  | some b =>
    have hb := h b rfl
    simp only [tailP, Option.map_some, Option.some.injEq] at e
    rw [← e]
    by_cases hc : c = k
    · rw [if_pos hc]
      exact hb
    · rw [if_neg hc]
      have ab : (b.add k).block = b.block := by unfold Addr.add; split <;> rfl
      rw [ab]
      exact hb
theorem RM.rest {B : Nat} {w : World} {g pb cb k} {l : List Nat} (hk : k ≤ l.length) (hg : B ≤ g) (K : Blk w g 47 #[.slice pb l.length cb, .int .i64 ((0 : Nat) : Int)]) (S : SB w (.slice pb l.length cb) l) (ne : ∀ a, pb = some a → a.block ≠ g) (bb : ∀ x ∈ l, x < 256) (ll : l.length ≤ 10000) :
    RM B (w.setCell ⟨g, 0, none⟩ (.slice (tailP pb cb k) (l.length - k) (cb - k))) (some ⟨g, 0, none⟩) (l.drop k) 0 ∧ Below B w (w.setCell ⟨g, 0, none⟩ (.slice (tailP pb cb k) (l.length - k) (cb - k))) := by
  have hl : (l.drop k).length = l.length - k := List.length_drop
  refine ⟨⟨g, tailP pb cb k, cb - k, rfl, hg, ?_, ?_, tailP_block ne, fun x hx => bb x (List.mem_of_mem_drop hx), by omega⟩, (Below.refl _ _).setCell (p := ⟨g, 0, none⟩) hg _⟩
  · rw [hl]
    exact K.set 0 _
  · rw [hl]
    exact (S.tail k hk).far (tailP_block ne) 0 _
set_option maxHeartbeats 4000000 in
set_option maxRecDepth 100000 in
theorem take_fault (B : Nat) (p : Option Addr) (l : List Nat) (n c : Nat) (W : World) (h : RM B W p l c) (hB : B ≤ W.heap.size) (hc : c ≠ 0) : Calls Try.prog 21 #[.pointer p, .int .u64 (n : Int)] W fun e w' => e = .returned (.slice none 0 0) ∧ RM B w' p l c ∧ Below B W w' := by
  have CC := Lib.hid (code_m B p l c W h hB)
  have hc' : ¬ (c : Int) = 0 := by omega
  clear h
  go_enter Try.func21, Try.ntmps21
  go_wp2_with fail
  refine CC.out.mono ?_
  rintro _ w1 ⟨rfl, h1, b1⟩
  clear CC
  go_wp2
  go_ret
  exact ⟨rfl, h1, b1⟩
set_option maxHeartbeats 4000000 in
set_option maxRecDepth 100000 in
theorem take_out (B : Nat) (p : Option Addr) (l : List Nat) (n : Nat) (W : World) (h : RM B W p l 0) (hB : B ≤ W.heap.size) (hl : l.length < n) : Calls Try.prog 21 #[.pointer p, .int .u64 (n : Int)] W fun e w' => e = .returned (.slice none 0 0) ∧ RM B w' p l 3 ∧ Below B W w' := by
  have CC := Lib.hid (code_m B p l 0 W h hB)
  clear h
  go_enter Try.func21, Try.ntmps21
  go_wp2_with fail
  refine CC.out.mono ?_
  rintro _ w1 ⟨rfl, h1, b1⟩
  obtain ⟨g, pb, cb, rfl, hg, K, S, ne, bb, ll⟩ := h1
  have c0 : w1.cell? ⟨g, 0, none⟩ = some (.slice pb l.length cb) := K.cell 0
  have g1 : (l.length : Int) < (n : Int) := by omega
  have wl : IntKind.u64.wrap (l.length : Int) = (l.length : Int) := by rw [IntKind.wrap_u64]; omega
  have c1 : w1.cell? ⟨g, 1, none⟩ = some (.int .i64 0) := K.cell 1
  have f1 := K.frozen 1
  have F := Lib.hid (RM.fault (d := 3) hg K S ne bb ll)
  clear K S ne bb hl CC
  generalize l.length = ln at *
  go_wp2
  go_ret
  exact ⟨rfl, F.out.1, b1.trans F.out.2⟩
set_option maxHeartbeats 4000000 in
set_option maxRecDepth 100000 in
theorem take_in (B : Nat) (p : Option Addr) (l : List Nat) (n : Nat) (W : World) (h : RM B W p l 0) (hB : B ≤ W.heap.size) (hl : n ≤ l.length) : Calls Try.prog 21 #[.pointer p, .int .u64 (n : Int)] W fun e w' => (∃ q c, e = .returned (.slice q n c) ∧ SB w' (.slice q n c) (l.take n)) ∧ RM B w' p (l.drop n) 0 ∧ Below B W w' := by
  have CC := Lib.hid (code_m B p l 0 W h hB)
  clear h
  go_enter Try.func21, Try.ntmps21
  go_wp2_with fail
  refine CC.out.mono ?_
  rintro _ w1 ⟨rfl, h1, b1⟩
  obtain ⟨g, pb, cb, rfl, hg, K, S, ne, bb, ll⟩ := h1
  have c0 : w1.cell? ⟨g, 0, none⟩ = some (.slice pb l.length cb) := K.cell 0
  have g1 : ¬ (l.length : Int) < (n : Int) := by omega
  have wl : IntKind.u64.wrap (l.length : Int) = (l.length : Int) := by rw [IntKind.wrap_u64]; omega
  have lc := S.len.2
  have f0 := K.frozen 0
  have RR := RM.rest (k := n) hl hg K S ne bb ll
  have O3 : SB (w1.setCell ⟨g, 0, none⟩ (.slice (tailP pb cb n) (l.length - n) (cb - n))) (.slice pb n cb) (l.take n) := (S.head n hl).far ne 0 _
  have B3 := b1.trans RR.2
  replace RR := Lib.hid RR.1
  replace O3 := Lib.hid O3
  clear K S ne bb CC
  go_upto_region 6 with fail
  rename_i aK
  refine wp_region_seq ?_
  refine wpSeq_yield (S := fun _ => True) (yieldsIf_move rfl _ rfl (.pointer (some ⟨g, 0, none⟩)) rfl) trivial ?_
  simp only [Act.put, List.setIfInBounds_toArray, List.set_cons_zero, List.set_cons_succ]
  refine wpSeq_yield (S := fun _ => True) (v := .pointer (some ⟨g, 0, none⟩)) (Or.inl ⟨by rfl, fun w' hw' => by go_simp⟩) trivial ?_
  simp only [Act.put, List.setIfInBounds_toArray, List.set_cons_zero, List.set_cons_succ]
  refine wpSeq_yield (S := fun _ => True) (v := .pointer (some ⟨g, 0, none⟩)) (Or.inl ⟨by rfl, fun w' hw' => by go_simp⟩) trivial ?_
  simp only [Act.put, List.setIfInBounds_toArray, List.set_cons_zero, List.set_cons_succ]
  refine wpSeq_yield (S := fun w' => w' = w1) (v := .slice pb l.length cb) (Or.inl ⟨by rfl, fun w' hw' => by (rw [hw']; go_simp)⟩) rfl ?_
  simp only [Act.put, List.setIfInBounds_toArray, List.set_cons_zero, List.set_cons_succ]
  refine wpSeq_yield (S := fun _ => True) (yieldsIf_move rfl _ rfl (.int .u64 (n : Int)) rfl) trivial ?_
  simp only [Act.put, List.setIfInBounds_toArray, List.set_cons_zero, List.set_cons_succ]
  refine wpSeq_yield (S := fun _ => True) (yieldsIf_headK rfl _ _ .u64 rfl pb l.length cb n rfl rfl (by omega)) trivial ?_
  simp only [Act.put, List.setIfInBounds_toArray, List.set_cons_zero, List.set_cons_succ]
  refine wpSeq_yield (S := fun _ => True) (yieldsIf_assign rfl _ rfl (.slice pb n cb) rfl) trivial ?_
  simp only [Act.put, List.setIfInBounds_toArray, List.set_cons_zero, List.set_cons_succ]
  refine wpSeq_nil ?_
  refine aK _ _ ?_
  clear aK
  go_upto_region 7 with fail
  rename_i aK
  refine wp_region_seq ?_
  refine wpSeq_yield (S := fun _ => True) (yieldsIf_move rfl _ rfl (.pointer (some ⟨g, 0, none⟩)) rfl) trivial ?_
  simp only [Act.put, List.setIfInBounds_toArray, List.set_cons_zero, List.set_cons_succ]
  refine wpSeq_yield (S := fun _ => True) (yieldsIf_move rfl _ rfl (.pointer (some ⟨g, 0, none⟩)) rfl) trivial ?_
  simp only [Act.put, List.setIfInBounds_toArray, List.set_cons_zero, List.set_cons_succ]
  refine wpSeq_yield (S := fun _ => True) (v := .pointer (some ⟨g, 0, none⟩)) (Or.inl ⟨by rfl, fun w' hw' => by go_simp⟩) trivial ?_
  simp only [Act.put, List.setIfInBounds_toArray, List.set_cons_zero, List.set_cons_succ]
  refine wpSeq_yield (S := fun _ => True) (v := .pointer (some ⟨g, 0, none⟩)) (Or.inl ⟨by rfl, fun w' hw' => by go_simp⟩) trivial ?_
  simp only [Act.put, List.setIfInBounds_toArray, List.set_cons_zero, List.set_cons_succ]
  refine wpSeq_yield (S := fun w' => w' = w1) (v := .slice pb l.length cb) (Or.inl ⟨by rfl, fun w' hw' => by (rw [hw']; go_simp)⟩) rfl ?_
  simp only [Act.put, List.setIfInBounds_toArray, List.set_cons_zero, List.set_cons_succ]
  refine wpSeq_yield (S := fun _ => True) (yieldsIf_move rfl _ rfl (.int .u64 (n : Int)) rfl) trivial ?_
  simp only [Act.put, List.setIfInBounds_toArray, List.set_cons_zero, List.set_cons_succ]
  refine wpSeq_yield (S := fun _ => True) (yieldsIf_tailK rfl _ _ .u64 rfl pb l.length cb n rfl rfl hl lc) trivial ?_
  simp only [Act.put, List.setIfInBounds_toArray, List.set_cons_zero, List.set_cons_succ]
  refine wpSeq_yield (S := fun _ => True) (v := .pointer (some ⟨g, 0, none⟩)) (Or.inl ⟨by rfl, fun w' hw' => by go_simp⟩) trivial ?_
  simp only [Act.put, List.setIfInBounds_toArray, List.set_cons_zero, List.set_cons_succ]
  refine wpSeq_yield (S := fun _ => True) (v := .pointer (some ⟨g, 0, none⟩)) (Or.inl ⟨by rfl, fun w' hw' => by go_simp⟩) trivial ?_
  simp only [Act.put, List.setIfInBounds_toArray, List.set_cons_zero, List.set_cons_succ]
  refine wpSeq_wp rfl ?_
  unfold Oper.wp execOp
  go_simp
  refine wpSeq_nil ?_
  refine aK _ _ ?_
  clear aK c0 f0
  go_wp2
  go_ret
  exact ⟨⟨pb, cb, rfl, O3.out⟩, RR.out, B3⟩
end Go.Proofs.Ytooiaboaejcmhaa
