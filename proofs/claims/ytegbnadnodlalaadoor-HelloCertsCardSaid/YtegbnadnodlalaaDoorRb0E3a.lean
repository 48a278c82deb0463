/- The program's Readers in memory: New, Code, Left, Fail. The program's Readers: take, Bytes. The program's Readers: End, Byte, of a nil one, too. Strings as bytes, back and forth; certificates in memory. -/
import Derived.Test.YtegbnadnodlalaaDoorE2a0Ra
import Derived.Laws.BitsLemmas
import Derived.Lib.ConvBytes
import Derived.Deep.MidRow
import Derived.Laws.Tables
namespace Go.Proofs.YtegbnadnodlalaaDoor
open Go.RowKit
theorem gb_set {B g : Nat} (hg : B = g) (w : World) (i : Nat) (v : Value) : w.grownBy (w.setCell ⟨g, i, none⟩ v) (some B) := by
  subst hg
  exact ⟨rfl, rfl, rfl, by simp, fun k _ hk => Below.heap_setCell w _ v k (fun e => hk (by rw [e]))⟩
theorem gb_below {w w' : World} (h : Below w.heap.size w w') (row : Option Nat) : w.grownBy w' row := ⟨h.os, h.tape, h.output, h.size, fun k hk _ => h.block k hk⟩
theorem below_gb {B g : Nat} {w0 w w' : World} (h : Below B w0 w) (k : w.grownBy w' (some g)) (hg : B ≤ g) (hB : B ≤ w.heap.size) : Below B w0 w' := below_grown' h k (fun j e => by cases e; exact hg) hB
/-- A Reader at p, its block B: l is left, c the fault. -/
def RM (B : Nat) (w : World) (p : Option Addr) (l : List Nat) (c : Nat) : Prop := ∃ g pb cb, p = some ⟨g, 0, none⟩ ∧ B = g ∧ Blk w g 84 #[.slice pb l.length cb, .int .i64 ((c : Nat) : Int)] ∧ SB w (.slice pb l.length cb) l ∧ (∀ a, pb = some a → a.block < g) ∧ (∀ x ∈ l, x < 256) ∧ l.length ≤ 1000000
theorem RM.below {B : Nat} {w w' : World} {p : Option Addr} {l : List Nat} {c : Nat} (h : RM B w p l c) (b : Below w.heap.size w w') : RM B w' p l c := by
  obtain ⟨g, pb, cb, e, hg, K, S, ne, bb, ll⟩ := h
  exact ⟨g, pb, cb, e, hg, K.below' b, S.below b, ne, bb, ll⟩
theorem SB.far {w : World} {g : Nat} {p : Option Addr} {n c : Nat} {l : List Nat} (h : SB w (.slice p n c) l) (ne : ∀ a, p = some a → a.block ≠ g) (i : Nat) (v : Value) : SB (w.setCell ⟨g, i, none⟩ v) (.slice p n c) l := by
  obtain ⟨q, d, e, hc, h0 | ⟨gb, o, rfl, A⟩⟩ := h
  · exact ⟨q, d, e, hc, Or.inl h0⟩
  · simp only [Value.slice.injEq] at e
    obtain ⟨rfl, rfl, rfl⟩ := e
    exact ⟨_, _, rfl, hc, Or.inr ⟨gb, o, rfl, A.of_block (heap_setCell_other w _ gb v (ne _ rfl))⟩⟩
theorem RM.fault {B : Nat} {w : World} {g pb cb} {l : List Nat} {c d : Nat} (hg : B = g) (K : Blk w g 84 #[.slice pb l.length cb, .int .i64 ((c : Nat) : Int)]) (S : SB w (.slice pb l.length cb) l) (ne : ∀ a, pb = some a → a.block < g) (bb : ∀ x ∈ l, x < 256) (ll : l.length ≤ 1000000) :
    RM B (w.setCell ⟨g, 1, none⟩ (.int .i64 ((d : Nat) : Int))) (some ⟨g, 0, none⟩) l d ∧ w.grownBy (w.setCell ⟨g, 1, none⟩ (.int .i64 ((d : Nat) : Int))) (some B) :=
  ⟨⟨g, pb, cb, rfl, hg, K.set 1 _, S.far (fun a e => Nat.ne_of_lt (ne a e)) 1 _, ne, bb, ll⟩, gb_set hg w 1 _⟩
set_option maxHeartbeats 4000000 in
set_option maxRecDepth 100000 in
theorem new_m (l : List Nat) (p : Option Addr) (n c : Nat) (bb : ∀ x ∈ l, x < 256) (hn : n ≤ 1000000) (W : World) (hs : SB W (.slice p n c) l) :
    Calls Tryd.prog 21 #[.slice p n c] W fun e w' => ∃ g, e = .returned (.pointer (some ⟨g, 0, none⟩)) ∧ W.heap.size ≤ g ∧ RM g w' (some ⟨g, 0, none⟩) l 0 ∧ Below W.heap.size W w' := by
  have ll : l.length ≤ 1000000 := by have := hs.len.1; omega
  have C := Lib.hid (clone_c l p n c (by omega) W hs)
  clear hs hn
  go_enter Tryd.func21, Tryd.ntmps21
  go_wp2_with fail
  refine C.out.mono ?_
  rintro _ w1 ⟨v1, rfl, O1, b1⟩
  clear C
  obtain ⟨p1, c1, hv⟩ := O1.shape
  subst hv
  go_wp2
  go_ret
  have b2 := (Below.refl w1.heap.size w1).alloc (Nat.le_refl _) (.cells #[.slice p1 l.length c1, .int .i64 0] 84)
  exact ⟨_, rfl, b1.size, ⟨w1.heap.size, p1, c1, rfl, rfl, Blk.new _ _ _, O1.sb.below b2, fun a e => by
    have := (O1.lt a.block (by rw [e]; rfl)).2
    omega, bb, ll⟩, b1.trans (b2.mono b1.size)⟩
set_option maxHeartbeats 4000000 in
theorem code_m (B : Nat) (p : Option Addr) (l : List Nat) (c : Nat) (W : World) (h : RM B W p l c) (_hB : B ≤ W.heap.size) : Calls Tryd.prog 41 #[.pointer p] W fun e w' => e = .returned (.int .i64 (c : Int)) ∧ RM B w' p l c ∧ W.grownBy w' (some B) := by
  have h0 := h
  obtain ⟨g, pb, cb, rfl, hg, K, S, ne, bb, ll⟩ := h
  have c1 : W.cell? ⟨g, 1, none⟩ = some (.int .i64 (c : Int)) := K.cell 1
  replace h0 := Lib.hid h0
  clear K S ne bb
  go_enter Tryd.func41, Tryd.ntmps41
  go_wp2
  go_ret
  exact ⟨rfl, h0.out, World.grownBy.refl _ _⟩
set_option maxHeartbeats 4000000 in
theorem left_m (B : Nat) (p : Option Addr) (l : List Nat) (c : Nat) (W : World) (h : RM B W p l c) (_hB : B ≤ W.heap.size) : Calls Tryd.prog 60 #[.pointer p] W fun e w' => e = .returned (.int .i64 (l.length : Int)) ∧ RM B w' p l c ∧ W.grownBy w' (some B) := by
  have h0 := h
  obtain ⟨g, pb, cb, rfl, hg, K, S, ne, bb, ll⟩ := h
  have c1 : W.cell? ⟨g, 0, none⟩ = some (.slice pb l.length cb) := K.cell 0
  replace h0 := Lib.hid h0
  clear K S ne bb
  go_enter Tryd.func60, Tryd.ntmps60
  go_wp2
  go_ret
  exact ⟨rfl, h0.out, World.grownBy.refl _ _⟩
set_option maxHeartbeats 4000000 in
theorem fail_m (B : Nat) (p : Option Addr) (l : List Nat) (c d : Nat) (W : World) (h : RM B W p l c) (hB : B ≤ W.heap.size) : Calls Tryd.prog 23 #[.pointer p, .int .i64 (d : Int)] W fun e w' => (∃ v, e = .returned v) ∧ RM B w' p l (if c = 0 then d else c) ∧ W.grownBy w' (some B) := by
  have CC := Lib.hid (code_m B p l c W h hB)
  clear h
  by_cases hc : c = 0
  · rw [if_pos hc]
    subst c
    go_enter Tryd.func23, Tryd.ntmps23
    go_wp2_with fail
    refine CC.out.mono ?_
    rintro _ w1 ⟨rfl, h1, b1⟩
    clear CC
    obtain ⟨g, pb, cb, rfl, hg, K, S, ne, bb, ll⟩ := h1
    have c1 : w1.cell? ⟨g, 1, none⟩ = some (.int .i64 0) := K.cell 1
    have f1 := K.frozen 1
    have F := Lib.hid (RM.fault (d := d) hg K S ne bb ll)
    clear K S ne bb
    go_wp2
    refine bodyPost_end (results_none rfl _ _ _) rfl ?_
    exact ⟨⟨_, rfl⟩, F.out.1, b1.trans F.out.2⟩
  · rw [if_neg hc]
    have hc' : ¬ (c : Int) = 0 := by omega
    go_enter Tryd.func23, Tryd.ntmps23
    go_wp2_with fail
    refine CC.out.mono ?_
    rintro _ w1 ⟨rfl, h1, b1⟩
    clear CC
    go_wp2
    refine bodyPost_end (results_none rfl _ _ _) rfl ?_
    exact ⟨⟨_, rfl⟩, h1, b1⟩
end Go.Proofs.YtegbnadnodlalaaDoor
namespace Go.Proofs.YtegbnadnodlalaaDoor
open Go.RowKit
theorem OwL.mono_ {B B' : Nat} {w : World} {v : Value} {l : List Nat} (h : OwL B w v l) (hB : B' ≤ B) : OwL B' w v l := by
  obtain ⟨hl, hr⟩ := h
  refine ⟨hl, hr.imp id ?_⟩
  rintro ⟨g, cap, cur, e, hb, r⟩
  exact ⟨g, cap, cur, e, Nat.le_trans hB hb, r⟩
theorem yieldsIf_tailK {ops : Array Oper} {S : World → Prop} {o : Oper} {a : Act} (hgd : Region.wanted o (yielded ops a.tmps) = true) (x lo : Operand) (kd : IntKind) (ho : o.op = .slice 22 x (some lo) none none) (p : Option Addr) (n c k : Nat) (hx : a.eval x = .slice p n c) (hlo : a.eval lo = .int kd (k : Int)) (hk : k ≤ n) (hc : n ≤ c) :
    YieldsIf Tryd.prog ops S o (.slice (tailP p c k) (n - k) (c - k)) a := by
  refine Or.inl ⟨hgd, fun w hw => ?_⟩
  have q1 : (0 : Int) ≤ (k : Int) := by omega
  have q2 : (k : Int) ≤ (n : Int) := by omega
  have q3 : (n : Int) ≤ (c : Int) := by omega
  simp only [execOp, ho, hx, Option.map_some, hlo]
  cases p with
  | none =>
    go_simp
    rfl
  | some b =>
    go_simp
    by_cases h : c = k <;> simp [tailP, h]
theorem yieldsIf_headK {ops : Array Oper} {S : World → Prop} {o : Oper} {a : Act} (hgd : Region.wanted o (yielded ops a.tmps) = true) (x hi : Operand) (kd : IntKind) (ho : o.op = .slice 22 x none (some hi) none) (p : Option Addr) (n c k : Nat) (hx : a.eval x = .slice p n c) (hlo : a.eval hi = .int kd (k : Int)) (hk : k ≤ c) :
    YieldsIf Tryd.prog ops S o (.slice p k c) a := by
  refine Or.inl ⟨hgd, fun w hw => ?_⟩
  have q1 : (0 : Int) ≤ (k : Int) := by omega
  have q2 : (k : Int) ≤ (c : Int) := by omega
  simp only [execOp, ho, hx, Option.map_some, hlo]
  cases p with
  | none =>
    go_simp
  | some b =>
    go_simp
theorem tailP_block {p : Option Addr} {c k g : Nat} (h : ∀ a, p = some a → a.block < g) : ∀ a, tailP p c k = some a → a.block < g := fun a e => by
  cases p with
  | none => cases e
  | some b =>
    have hb := h b rfl
    simp only [tailP, Option.map_some, Option.some.injEq] at e
    rw [← e]
    by_cases hc : c = k
    · rw [if_pos hc]
      exact hb
    · rw [if_neg hc]
      have ab : (b.add k).block = b.block := by unfold Addr.add; split <;> rfl
      rw [ab]
      exact hb
theorem RM.rest {B : Nat} {w : World} {g pb cb k} {l : List Nat} (hk : k ≤ l.length) (hg : B = g) (K : Blk w g 84 #[.slice pb l.length cb, .int .i64 ((0 : Nat) : Int)]) (S : SB w (.slice pb l.length cb) l) (ne : ∀ a, pb = some a → a.block < g) (bb : ∀ x ∈ l, x < 256) (ll : l.length ≤ 1000000) :
    RM B (w.setCell ⟨g, 0, none⟩ (.slice (tailP pb cb k) (l.length - k) (cb - k))) (some ⟨g, 0, none⟩) (l.drop k) 0 ∧ w.grownBy (w.setCell ⟨g, 0, none⟩ (.slice (tailP pb cb k) (l.length - k) (cb - k))) (some B) := by
  have hl : (l.drop k).length = l.length - k := List.length_drop
  refine ⟨⟨g, tailP pb cb k, cb - k, rfl, hg, ?_, ?_, tailP_block ne, fun x hx => bb x (List.mem_of_mem_drop hx), by omega⟩, gb_set hg w 0 _⟩
  · rw [hl]
    exact K.set 0 _
  · rw [hl]
    exact (S.tail k hk).far (fun a e => Nat.ne_of_lt (tailP_block ne a e)) 0 _
set_option maxHeartbeats 4000000 in
set_option maxRecDepth 100000 in
theorem take_fault (B : Nat) (p : Option Addr) (l : List Nat) (n c : Nat) (W : World) (h : RM B W p l c) (hB : B ≤ W.heap.size) (hc : c ≠ 0) : Calls Tryd.prog 40 #[.pointer p, .int .u64 (n : Int)] W fun e w' => e = .returned (.slice none 0 0) ∧ RM B w' p l c ∧ W.grownBy w' (some B) := by
  have CC := Lib.hid (code_m B p l c W h hB)
  have hc' : ¬ (c : Int) = 0 := by omega
  clear h
  go_enter Tryd.func40, Tryd.ntmps40
  go_wp2_with fail
  refine CC.out.mono ?_
  rintro _ w1 ⟨rfl, h1, b1⟩
  clear CC
  go_wp2
  go_ret
  exact ⟨rfl, h1, b1⟩
set_option maxHeartbeats 4000000 in
set_option maxRecDepth 100000 in
theorem take_out (B : Nat) (p : Option Addr) (l : List Nat) (n : Nat) (W : World) (h : RM B W p l 0) (hB : B ≤ W.heap.size) (hl : l.length < n) : Calls Tryd.prog 40 #[.pointer p, .int .u64 (n : Int)] W fun e w' => e = .returned (.slice none 0 0) ∧ RM B w' p l 3 ∧ W.grownBy w' (some B) := by
  have CC := Lib.hid (code_m B p l 0 W h hB)
  clear h
  go_enter Tryd.func40, Tryd.ntmps40
  go_wp2_with fail
  refine CC.out.mono ?_
  rintro _ w1 ⟨rfl, h1, b1⟩
  obtain ⟨g, pb, cb, rfl, hg, K, S, ne, bb, ll⟩ := h1
  have c0 : w1.cell? ⟨g, 0, none⟩ = some (.slice pb l.length cb) := K.cell 0
  have g1 : (l.length : Int) < (n : Int) := by omega
  have wl : IntKind.u64.wrap (l.length : Int) = (l.length : Int) := by rw [IntKind.wrap_u64]; omega
  have c1 : w1.cell? ⟨g, 1, none⟩ = some (.int .i64 0) := K.cell 1
  have f1 := K.frozen 1
  have F := Lib.hid (RM.fault (d := 3) hg K S ne bb ll)
  clear K S ne bb hl CC
  generalize l.length = ln at *
  go_wp2
  go_ret
  exact ⟨rfl, F.out.1, b1.trans F.out.2⟩
set_option maxHeartbeats 4000000 in
set_option maxRecDepth 100000 in
theorem take_in (B : Nat) (p : Option Addr) (l : List Nat) (n : Nat) (W : World) (h : RM B W p l 0) (hB : B ≤ W.heap.size) (hl : n ≤ l.length) : Calls Tryd.prog 40 #[.pointer p, .int .u64 (n : Int)] W fun e w' => (∃ q c, e = .returned (.slice q n c) ∧ SB w' (.slice q n c) (l.take n)) ∧ RM B w' p (l.drop n) 0 ∧ W.grownBy w' (some B) := by
  have CC := Lib.hid (code_m B p l 0 W h hB)
  clear h
  go_enter Tryd.func40, Tryd.ntmps40
  go_wp2_with fail
  refine CC.out.mono ?_
  rintro _ w1 ⟨rfl, h1, b1⟩
  obtain ⟨g, pb, cb, rfl, hg, K, S, ne, bb, ll⟩ := h1
  have c0 : w1.cell? ⟨g, 0, none⟩ = some (.slice pb l.length cb) := K.cell 0
  have g1 : ¬ (l.length : Int) < (n : Int) := by omega
  have wl : IntKind.u64.wrap (l.length : Int) = (l.length : Int) := by rw [IntKind.wrap_u64]; omega
  have lc := S.len.2
  have f0 := K.frozen 0
  have RR := RM.rest (k := n) hl hg K S ne bb ll
  have O3 : SB (w1.setCell ⟨g, 0, none⟩ (.slice (tailP pb cb n) (l.length - n) (cb - n))) (.slice pb n cb) (l.take n) := (S.head n hl).far (fun a e => Nat.ne_of_lt (ne a e)) 0 _
  have B3 := b1.trans RR.2
  replace RR := Lib.hid RR.1
  replace O3 := Lib.hid O3
  clear K S ne bb CC
  go_upto_region 6 with fail
  rename_i aK
  refine wp_region_seq ?_
  refine wpSeq_yield (S := fun _ => True) (yieldsIf_move rfl _ rfl (.pointer (some ⟨g, 0, none⟩)) rfl) trivial ?_
  simp only [AP]
  refine wpSeq_yield (S := fun _ => True) (v := .pointer (some ⟨g, 0, none⟩)) (Or.inl ⟨by rfl, fun w' hw' => by go_simp⟩) trivial ?_
  simp only [AP]
  refine wpSeq_yield (S := fun _ => True) (v := .pointer (some ⟨g, 0, none⟩)) (Or.inl ⟨by rfl, fun w' hw' => by go_simp⟩) trivial ?_
  simp only [AP]
  refine wpSeq_yield (S := fun w' => w' = w1) (v := .slice pb l.length cb) (Or.inl ⟨by rfl, fun w' hw' => by (rw [hw']; go_simp)⟩) rfl ?_
  simp only [AP]
  refine wpSeq_yield (S := fun _ => True) (yieldsIf_move rfl _ rfl (.int .u64 (n : Int)) rfl) trivial ?_
  simp only [AP]
  refine wpSeq_yield (S := fun _ => True) (yieldsIf_headK rfl _ _ .u64 rfl pb l.length cb n rfl rfl (by omega)) trivial ?_
  simp only [AP]
  refine wpSeq_yield (S := fun _ => True) (yieldsIf_assign rfl _ rfl (.slice pb n cb) rfl) trivial ?_
  simp only [AP]
  refine wpSeq_nil ?_
  refine aK _ _ ?_
  clear aK
  go_upto_region 7 with fail
  rename_i aK
  refine wp_region_seq ?_
  refine wpSeq_yield (S := fun _ => True) (yieldsIf_move rfl _ rfl (.pointer (some ⟨g, 0, none⟩)) rfl) trivial ?_
  simp only [AP]
  refine wpSeq_yield (S := fun _ => True) (yieldsIf_move rfl _ rfl (.pointer (some ⟨g, 0, none⟩)) rfl) trivial ?_
  simp only [AP]
  refine wpSeq_yield (S := fun _ => True) (v := .pointer (some ⟨g, 0, none⟩)) (Or.inl ⟨by rfl, fun w' hw' => by go_simp⟩) trivial ?_
  simp only [AP]
  refine wpSeq_yield (S := fun _ => True) (v := .pointer (some ⟨g, 0, none⟩)) (Or.inl ⟨by rfl, fun w' hw' => by go_simp⟩) trivial ?_
  simp only [AP]
  refine wpSeq_yield (S := fun w' => w' = w1) (v := .slice pb l.length cb) (Or.inl ⟨by rfl, fun w' hw' => by (rw [hw']; go_simp)⟩) rfl ?_
  simp only [AP]
  refine wpSeq_yield (S := fun _ => True) (yieldsIf_move rfl _ rfl (.int .u64 (n : Int)) rfl) trivial ?_
  simp only [AP]
  refine wpSeq_yield (S := fun _ => True) (yieldsIf_tailK rfl _ _ .u64 rfl pb l.length cb n rfl rfl hl lc) trivial ?_
  simp only [AP]
  refine wpSeq_yield (S := fun _ => True) (v := .pointer (some ⟨g, 0, none⟩)) (Or.inl ⟨by rfl, fun w' hw' => by go_simp⟩) trivial ?_
  simp only [AP]
  refine wpSeq_yield (S := fun _ => True) (v := .pointer (some ⟨g, 0, none⟩)) (Or.inl ⟨by rfl, fun w' hw' => by go_simp⟩) trivial ?_
  simp only [AP]
  refine wpSeq_wp rfl ?_
  unfold Oper.wp execOp
  go_simp
  refine wpSeq_nil ?_
  refine aK _ _ ?_
  clear aK c0 f0
  go_wp2
  go_ret
  exact ⟨⟨pb, cb, rfl, O3.out⟩, RR.out, B3⟩
/-- So many bytes, as Bytes and Byte take them: they, what is left, the fault. -/
def tookS (n : Nat) (l : List Nat) (c : Nat) : List Nat × List Nat × Nat := if c ≠ 0 then ([], l, c) else if l.length < n then ([], l, 3) else (l.take n, l.drop n, 0)
theorem take_m (B : Nat) (p : Option Addr) (l : List Nat) (n c : Nat) (W : World) (h : RM B W p l c) (hB : B ≤ W.heap.size) : Calls Tryd.prog 40 #[.pointer p, .int .u64 (n : Int)] W fun e w' => (∃ v, e = .returned v ∧ SB w' v (tookS n l c).1) ∧ RM B w' p (tookS n l c).2.1 (tookS n l c).2.2 ∧ W.grownBy w' (some B) := by
  unfold tookS
  by_cases hc : c = 0
  · subst hc
    rw [if_neg (by decide)]
    by_cases hl : l.length < n
    · rw [if_pos hl]
      exact (take_out B p l n W h hB hl).mono fun e w' h => ⟨⟨_, h.1, SB.nil _ _ _⟩, h.2⟩
    · rw [if_neg hl]
      exact (take_in B p l n W h hB (by omega)).mono fun e w' h => by
        obtain ⟨⟨q, c, e1, s⟩, h2⟩ := h
        exact ⟨⟨_, e1, s⟩, h2⟩
  · rw [if_pos hc]
    exact (take_fault B p l n c W h hB hc).mono fun e w' h => ⟨⟨_, h.1, SB.nil _ _ _⟩, h.2⟩
theorem took_len (n : Nat) (l : List Nat) (c : Nat) : (tookS n l c).1.length ≤ l.length := by
  unfold tookS
  split
  · exact Nat.zero_le _
  · split
    · exact Nat.zero_le _
    · rw [List.length_take]
      omega
theorem rm_len {B : Nat} {w : World} {p : Option Addr} {l : List Nat} {c : Nat} (h : RM B w p l c) : l.length ≤ 1000000 := by
  obtain ⟨g, pb, cb, _, _, _, _, _, _, ll⟩ := h
  exact ll
set_option maxHeartbeats 4000000 in
set_option maxRecDepth 100000 in
theorem bytes_m (B : Nat) (p : Option Addr) (l : List Nat) (n c : Nat) (W : World) (h : RM B W p l c) (hB : B ≤ W.heap.size) : Calls Tryd.prog 24 #[.pointer p, .int .u64 (n : Int)] W fun e w' => (∃ v, e = .returned v ∧ OwL W.heap.size w' v (tookS n l c).1) ∧ RM B w' p (tookS n l c).2.1 (tookS n l c).2.2 ∧ W.grownBy w' (some B) := by
  have T := Lib.hid (take_m B p l n c W h hB)
  have tl := took_len n l c
  have ll := rm_len h
  have C := Lib.hid (fun q m d w h => clone_c (tookS n l c).1 q m d (by have := (show SB w (.slice q m d) (tookS n l c).1 from h).len.1; omega) w h)
  clear h tl ll
  go_enter Tryd.func24, Tryd.ntmps24
  go_wp2_with fail
  refine T.out.mono ?_
  rintro _ w1 ⟨⟨v1, rfl, s1⟩, h1, b1⟩
  obtain ⟨q, d, hv⟩ : ∃ q d, v1 = .slice q (tookS n l c).1.length d := by
    obtain ⟨q, d, e, _⟩ := s1
    exact ⟨q, d, e⟩
  subst hv
  have h1 := Lib.hid h1
  have CC := Lib.hid (C.out q _ d w1 s1)
  clear T s1 C
  generalize (tookS n l c).1.length = m at *
  go_wp2_with fail
  refine CC.out.mono ?_
  rintro _ w2 ⟨v2, rfl, O2, b2⟩
  have h2 := h1.out.below b2
  replace O2 := O2.mono_ b1.size
  replace b1 := b1.trans (gb_below b2 _)
  clear CC h1
  go_wp2
  go_ret
  exact ⟨⟨v2, rfl, O2⟩, h2, b1⟩
end Go.Proofs.YtegbnadnodlalaaDoor
namespace Go.Proofs.YtegbnadnodlalaaDoor
open Go.RowKit
set_option maxHeartbeats 4000000 in
theorem fin_m (B : Nat) (p : Option Addr) (l : List Nat) (c : Nat) (W : World) (h : RM B W p l c) (hB : B ≤ W.heap.size) : Calls Tryd.prog 42 #[.pointer p] W fun e w' => e = .returned (.int .i64 ((if l ≠ [] ∧ c = 0 then 4 else c : Nat) : Int)) ∧ RM B w' p l (if l ≠ [] ∧ c = 0 then 4 else c) ∧ W.grownBy w' (some B) := by
  have CL := Lib.hid (left_m B p l c W h hB)
  have CF := Lib.hid (fail_m B p l c 4)
  have CC := Lib.hid (code_m B p l)
  clear h
  by_cases h0 : l = []
  · rw [if_neg (fun e => e.1 h0)]
    subst h0
    clear CF
    go_enter Tryd.func42, Tryd.ntmps42
    go_wp2_with fail
    refine CL.out.mono ?_
    rintro _ w1 ⟨rfl, h1, b1⟩
    clear CL
    go_wp2_with fail
    refine (CC.out _ _ h1 (Nat.le_trans hB b1.size)).mono ?_
    rintro _ w2 ⟨rfl, h2, b2⟩
    clear CC h1
    go_wp2
    go_ret
    exact ⟨rfl, h2, b1.trans b2⟩
  · have e : (if l ≠ [] ∧ c = 0 then 4 else c) = (if c = 0 then 4 else c) := by
      by_cases hc : c = 0
      · rw [if_pos ⟨h0, hc⟩, if_pos hc]
      · rw [if_neg (fun e => hc e.2), if_neg hc]
    rw [e]
    have lp : (0 : Int) < (l.length : Int) := by
      have := List.length_pos_iff.2 h0
      omega
    generalize (if c = 0 then 4 else c) = d at *
    clear e
    go_enter Tryd.func42, Tryd.ntmps42
    go_wp2_with fail
    refine CL.out.mono ?_
    rintro _ w1 ⟨rfl, h1, b1⟩
    clear CL
    go_wp2_with fail
    refine (CF.out _ h1 (Nat.le_trans hB b1.size)).mono ?_
    rintro _ w2 ⟨⟨v, rfl⟩, h2, b2⟩
    clear CF h1
    replace b1 := b1.trans b2
    go_wp2_with fail
    refine (CC.out _ _ h2 (Nat.le_trans hB b1.size)).mono ?_
    rintro _ w3 ⟨rfl, h3, b3⟩
    clear CC h2
    go_wp2
    go_ret
    exact ⟨rfl, h3, b1.trans b3⟩
set_option maxHeartbeats 4000000 in
set_option maxRecDepth 100000 in
theorem byte_m (B : Nat) (p : Option Addr) (l : List Nat) (c : Nat) (W : World) (h : RM B W p l c) (hB : B ≤ W.heap.size) : Calls Tryd.prog 22 #[.pointer p] W fun e w' => e = .returned (.int .u8 (((tookS 1 l c).1.getD 0 0 : Nat) : Int)) ∧ RM B w' p (tookS 1 l c).2.1 (tookS 1 l c).2.2 ∧ W.grownBy w' (some B) := by
  have T := Lib.hid (take_m B p l 1 c W h hB)
  obtain ⟨y, hy⟩ : ∃ y, (tookS 1 l c).1.getD 0 0 = y := ⟨_, rfl⟩
  rw [hy]
  have HY := Lib.hid hy
  clear h hy
  go_enter Tryd.func22, Tryd.ntmps22
  go_wp2_with fail
  refine T.out.mono ?_
  rintro _ w1 ⟨⟨v1, rfl, s1⟩, h1, b1⟩
  have h1 := Lib.hid h1
  clear T
  generalize (tookS 1 l c).1 = t at *
  obtain ⟨q, d, hv, hd, h0 | ⟨g, o, rfl, A⟩⟩ := s1
  · subst hv
    subst h0
    go_wp2
    go_ret
    exact ⟨by rw [← HY.out]; rfl, h1.out, b1⟩
  · cases t with
    | nil =>
      subst hv
      go_wp2
      go_ret
      exact ⟨by rw [← HY.out]; rfl, h1.out, b1⟩
    | cons x r =>
      subst hv
      have cx := A.cell 0 (by simp)
      rw [Nat.add_zero] at cx
      replace cx : w1.cell? ⟨g, o, none⟩ = some (.int .u8 (x : Int)) := cx
      obtain ⟨m, hm⟩ : ∃ m, (x :: r).length = m := ⟨_, rfl⟩
      have m0 : ¬ (m : Int) = 0 := by simp only [List.length_cons] at hm; omega
      have m1 : (0 : Int) < (m : Int) := by omega
      have m2 : ¬ m = 0 := by omega
      have m3 : 0 < m := by omega
      rw [hm]
      clear A hd hm
      go_wp2
      go_ret
      exact ⟨by rw [← HY.out]; rfl, h1.out, b1⟩
end Go.Proofs.YtegbnadnodlalaaDoor
namespace Go.Proofs.YtegbnadnodlalaaDoor
open Go.RowKit
/-- A string's bytes. -/
def bL (s : ByteArray) : List Nat := s.data.toList.map UInt8.toNat
theorem bL_length (s : ByteArray) : (bL s).length = s.size := by
  rw [bL, List.length_map, Array.length_toList]
  rfl
theorem bL_bytes (s : ByteArray) : Bytes (bL s) := fun x hx => by
  obtain ⟨b, _, rfl⟩ := List.mem_map.1 hx
  exact b.toNat_lt
theorem conv_str (w : World) (s : ByteArray) : ∃ v w', (convert 9 22 (.string s)).run Tryd.prog w = .ok v w' ∧ SB w' v (bL s) ∧ Below w.heap.size w w' := by
  refine ⟨_, _, Lib.run_convert_string_bytes w 9 22 5 s Tryd.underlying9 Tryd.underlying22 Tryd.underlying5, ?_, ?_⟩
  · refine SB.of_ba' ⟨fun i hi => ?_, ?_⟩ (bL_length s).symm ?_
    · rw [bL_length] at hi
      rw [Nat.zero_add, Lib.bytesWorld_cell _ _ _ _ hi]
      simp [bL, hi]
    · rw [Lib.bytesWorld_size]
      omega
    · rw [bL_length]
      exact grownCap_ge _ _ _ _
  · exact ⟨rfl, rfl, rfl, by rw [Lib.bytesWorld_size]; omega, fun k hk => Lib.bytesWorld_at_old _ _ _ k hk⟩
theorem strB_bL (s : ByteArray) : strB (bL s) = s := by
  obtain ⟨d⟩ := s
  unfold strB strOfNums NI bL
  congr 1
  apply Array.ext'
  simp only [List.map_map]
  refine List.ext_getElem (by simp) fun i h1 h2 => ?_
  simp
/-! Cells put into a row from a place on. -/
def setV : List Value → Nat → List Value → List Value
  | l, _, [] => l
  | l, o, v :: r => setV (l.set o v) (o + 1) r
theorem setV_split : ∀ (R A X B : List Value) (o : Nat), A.length = o → X.length = R.length → setV (A ++ (X ++ B)) o R = A ++ (R ++ B)
  | [], A, X, B, o, _, hx => by
    obtain rfl := List.length_eq_zero_iff.1 hx
    rfl
  | v :: r, A, [], B, o, _, hx => by cases hx
  | v :: r, A, x :: xs, B, o, ha, hx => by
    have e : (A ++ (x :: xs ++ B)).set o v = (A ++ [v]) ++ (xs ++ B) := by
      rw [← ha, List.set_append_right _ _ (Nat.le_refl _), Nat.sub_self]
      simp
    show setV ((A ++ (x :: xs ++ B)).set o v) (o + 1) r = _
    rw [e, setV_split r (A ++ [v]) xs B (o + 1) (by simp [ha]) (by simpa using hx)]
    simp
theorem blk_setV {t : TypeId} {g : Nat} : ∀ (vs l : List Value) (o : Nat) (w : World), Blk w g t l.toArray → Blk (w.setCells g o vs) g t (setV l o vs).toArray
  | [], _, _, _, h => h
  | v :: r, l, o, w, h => by
    show Blk ((w.setCell ⟨g, o, none⟩ v).setCells g (o + 1) r) g t (setV (l.set o v) (o + 1) r).toArray
    refine blk_setV r _ _ _ ?_
    have h1 := Blk.set h o v
    rwa [List.setIfInBounds_toArray] at h1
theorem blk_setV_far {t : TypeId} {g k : Nat} {cs : Array Value} (hk : k ≠ g) : ∀ (vs : List Value) (o : Nat) (w : World), Blk w k t cs → Blk (w.setCells g o vs) k t cs
  | [], _, _, h => h
  | v :: r, o, w, h => blk_setV_far hk r (o + 1) _ (Blk.far (p := ⟨g, o, none⟩) h hk v)
theorem below_setV {B g : Nat} {w0 : World} (hg : B ≤ g) : ∀ (vs : List Value) (o : Nat) (w : World), Below B w0 w → Below B w0 (w.setCells g o vs)
  | [], _, _, h => h
  | v :: r, o, w, h => below_setV hg r (o + 1) _ (h.setCell (p := ⟨g, o, none⟩) hg v)
theorem fold_setV : ∀ (vs l : List Value) (off j : Nat), (vs.zipIdx j).foldl (fun cs (p : Value × Nat) => cs.setIfInBounds (off + p.2) p.1) l.toArray = (setV l (off + j) vs).toArray
  | [], _, _, _ => rfl
  | v :: r, l, off, j => by
    show (r.zipIdx (j + 1)).foldl _ (l.toArray.setIfInBounds (off + j) v) = _
    rw [List.setIfInBounds_toArray, fold_setV r _ off (j + 1)]
    rfl
/-! Certificates. -/
def z64 : List Nat := List.replicate 64 0
theorem z32_length : z32.length = 32 := List.length_replicate
theorem z64_length : z64.length = 64 := List.length_replicate
theorem vals_iv (l : List Nat) : Iv .u8 (NI l) = (vals l).toArray := by simp [Iv, NI, vals]
theorem vals_one' (l : List Nat) : ∀ v ∈ vals l, v.oneCell' = true := one_at l
def cerL (t : ByteArray) (k s : List Nat) : List Value := [Value.string t] ++ (vals k ++ (vals s ++ []))
def cerV (t : ByteArray) (k s : List Nat) : Array Value := (cerL t k s).toArray
theorem cerL_length (t : ByteArray) {k s : List Nat} (hk : k.length = 32) (hs : s.length = 64) : (cerL t k s).length = 97 := by simp [cerL, vals_length, hk, hs]
theorem cerV_size (t : ByteArray) {k s : List Nat} (hk : k.length = 32) (hs : s.length = 64) : (cerV t k s).size = 97 := by rw [cerV, List.size_toArray, cerL_length t hk hs]
theorem cerV_one (t : ByteArray) (k s : List Nat) : (cerV t k s).all (·.oneCell') = true := all_oneCell_toArray fun v hv => by
  simp only [cerL, List.append_nil, List.mem_append, List.mem_singleton] at hv
  rcases hv with rfl | h | h
  · rfl
  · exact vals_one' _ _ h
  · exact vals_one' _ _ h
theorem info_cert : (Tryd.prog.info? 37).map (·.size) = some 97 := by kernel_rfl
theorem info_cerV (t : ByteArray) {k s : List Nat} (hk : k.length = 32) (hs : s.length = 64) : (Tryd.prog.info? 37).map (·.size) = some (cerV t k s).size := by rw [cerV_size t hk hs]; exact info_cert
theorem cert_zero : (Tryd.prog.info? 37).bind (fun i => i.zero) = some (.agg (cerV ⟨#[]⟩ z32 z64)) := by kernel_rfl
theorem cert_places : (match Tryd.prog.underlying 37 with | some (.struct fields) => fields.toList.mapM (fun f => (Tryd.prog.info? f.type).map fun i => (f.offset, i.size)) | _ => none) = some [(0, 1), (1, 32), (33, 64)] := by kernel_rfl
theorem cert_und : ∃ fields, Tryd.prog.underlying 37 = some (.struct fields) := ⟨_, Tryd.underlying37⟩
theorem run_cert0 (w : World) : (Instr.build 37 #[]).run Tryd.prog w = .ok (.agg (cerV ⟨#[]⟩ z32 z64)) w := by
  refine run_build w 37 _ _ ?_
  unfold Program.built
  have h1 := cert_zero
  have h2 := cert_places
  obtain ⟨fields, hu⟩ := cert_und
  rw [hu] at h2 ⊢
  simp only at h2
  cases hi : Tryd.prog.info? 37 with
  | none => rw [hi] at h1; cases h1
  | some it =>
    rw [hi] at h1
    simp only [Option.bind_some] at h1
    simp only [h1, h2]
    rfl
theorem run_cert (w : World) (t : ByteArray) (k : List Nat) (lk : k.length = 32) : (Instr.build 37 #[(0, .string t), (1, .agg (Iv .u8 (NI k)))]).run Tryd.prog w = .ok (.agg (cerV t k z64)) w := by
  refine run_build w 37 _ _ ?_
  unfold Program.built
  have h1 := cert_zero
  have h2 := cert_places
  obtain ⟨fields, hu⟩ := cert_und
  rw [hu] at h2 ⊢
  simp only at h2
  cases hi : Tryd.prog.info? 37 with
  | none => rw [hi] at h1; cases h1
  | some it =>
    rw [hi] at h1
    simp only [Option.bind_some] at h1
    simp only [h1, h2]
    have e1 : setV (cerL ⟨#[]⟩ z32 z64) (0 + 0) [.string t] = cerL t z32 z64 := setV_split [.string t] [] [.string ⟨#[]⟩] _ 0 rfl rfl
    have e2 : setV (cerL t z32 z64) (1 + 0) (vals k) = cerL t k z64 := setV_split (vals k) [.string t] (vals z32) _ 1 rfl (by rw [vals_length, vals_length, lk, z32_length])
    have f1 := fold_setV [.string t] (cerL ⟨#[]⟩ z32 z64) 0 0
    have f2 := fold_setV (vals k) (cerL t z32 z64) 1 0
    rw [e1] at f1
    rw [e2] at f2
    have hsz : (vals k).length = 32 := by rw [vals_length, lk]
    have s1 : (cerL ⟨#[]⟩ z32 z64).length = 97 := cerL_length _ z32_length z64_length
    have s2 : (cerL t z32 z64).length = 97 := cerL_length _ z32_length z64_length
    rw [vals_iv]
    unfold cerV
    have ez1 : (#[Value.string t] : Array Value).zipIdx = (([Value.string t] : List Value).zipIdx 0).toArray := by simp
    have ez2 : (vals k).toArray.zipIdx = ((vals k).zipIdx 0).toArray := by simp
    have g1 : Array.foldl (fun (cs : Array Value) (p : Value × Nat) => cs.setIfInBounds (0 + p.2) p.1) (cerL ⟨#[]⟩ z32 z64).toArray (#[Value.string t] : Array Value).zipIdx = (cerL t z32 z64).toArray := by
      rw [ez1, List.foldl_toArray]
      exact f1
    have g2 : Array.foldl (fun (cs : Array Value) (p : Value × Nat) => cs.setIfInBounds (1 + p.2) p.1) (cerL t z32 z64).toArray (vals k).toArray.zipIdx = (cerL t k z64).toArray := by
      rw [ez2, List.foldl_toArray]
      exact f2
    simp only [Instr.fill, Value.cells, List.getElem?_toArray, List.getElem?_cons_succ, List.getElem?_cons_zero, List.size_toArray, hsz, s1]
    rw [g1, g2]
    simp only [List.size_toArray, s2]
    rfl
/-- A certificate's parts where it lies. -/
theorem cert_name {w : World} {g : Nat} {t : ByteArray} {k s : List Nat} (h : Blk w g 37 (cerV t k s)) : w.cell? ⟨g, 0, none⟩ = some (.string t) := h.cell 0
theorem cert_range (A X B : List Value) {w : World} {g : Nat} {ty : TypeId} (h : Blk w g ty (A ++ (X ++ B)).toArray) (o : Nat) (ho : A.length = o) : w.rangeAt g o X := fun j v hv => by
  have hj : j < X.length := (List.getElem?_eq_some_iff.1 hv).1
  rw [h.cell, List.getElem?_toArray, List.getElem?_append_right (by omega), List.getElem?_append_left (by omega), ← hv]
  congr 1
  omega
theorem ba_range {w : World} {g o : Nat} {l : List Nat} (h : w.rangeAt g o (vals l)) (hg : g < w.heap.size) : BA w g o l := ⟨fun i hi => h i _ (by simp [vals, hi]), hg⟩
theorem cert_key {w : World} {g : Nat} {t : ByteArray} {k s : List Nat} (h : Blk w g 37 (cerV t k s)) : w.rangeAt g 1 (vals k) := cert_range [.string t] (vals k) (vals s ++ []) h 1 rfl
theorem cert_sig {w : World} {g : Nat} {t : ByteArray} {k s : List Nat} (hk : k.length = 32) (h : Blk w g 37 (cerV t k s)) : w.rangeAt g 33 (vals s) := by
  have e : cerL t k s = ([.string t] ++ vals k) ++ (vals s ++ []) := by simp [cerL]
  unfold cerV at h
  rw [e] at h
  exact cert_range _ _ _ h 33 (by simp [vals_length, hk])
theorem row_there {w : World} {g : Nat} {ty : TypeId} {cs : Array Value} (h : Blk w g ty cs) (o n : Nat) (hn : o + n ≤ cs.size) : w.there g o n := fun j hj => by
  refine ⟨?_, h.frozen _⟩
  rw [h.cell, Array.getElem?_eq_getElem (by omega)]
  rfl
theorem cert_put {w : World} {g : Nat} {t : ByteArray} {k s : List Nat} (hk : k.length = 32) (hs : s.length = 64) (h : Blk w g 37 (cerV t k s)) (r : List Nat) (hr : r.length = 64) : Blk (w.setCells g 33 (vals r)) g 37 (cerV t k r) := by
  have e : ∀ s, cerL t k s = ([.string t] ++ vals k) ++ (vals s ++ []) := fun s => by simp [cerL]
  have h1 := blk_setV (vals r) (cerL t k s) 33 w h
  rw [e s, setV_split (vals r) _ (vals s) [] 33 (by simp [vals_length, hk]) (by rw [vals_length, vals_length, hs, hr]), ← e r] at h1
  exact h1
end Go.Proofs.YtegbnadnodlalaaDoor
