/- Bytes as strings. -/
import Derived.Test.YtdlhclakdllogaaYd
import Derived.Laws.BytesArg
import Derived.Deep.MidRow
namespace Go.Proofs.Ytdlhclakdllogaa
open Go.RowKit

/-- The string of bytes. -/
def strB (l : List Nat) : ByteArray := strOfNums (NI l)
theorem conv_l {w : World} {v : Value} {l : List Nat} (h : SB w v l) : (convert 23 9 v).run Try.prog w = .ok (.string (strB l)) w := by
  obtain ⟨p, c, rfl, hc, h0 | ⟨g, o, rfl, hb⟩⟩ := h
  · subst h0
    cases p with
    | none => exact run_convert_bytes_nil w 23 5 Try.underlying23 Try.underlying5 0 c 9 Try.underlying9
    | some a =>
      rw [List.length_nil, run_convert_bytes_string w 23 9 5 _ 0 c Try.underlying23 Try.underlying5 Try.underlying9, run_bytesToString w a 0 c [] (by simp [loadCells, loadCellsFrom])]
      rfl
  · exact run_convert_bytes_arg w 23 5 Try.underlying23 Try.underlying5 g o l.length c (NI l) (NI_length l) (fun i hi => by
      rw [hb.cell i hi]
      simp [NI, List.getD, hi]) 9 Try.underlying9
theorem yieldsIf_conv {ops : Array Oper} {S : World → Prop} {o : Oper} {a : Act} (hgd : Region.wanted o (yielded ops a.tmps) = true) (x : Operand) (ho : o.op = .convert 23 9 x) (v : Value) (hx : a.eval x = v) (l : List Nat) (hS : ∀ w, S w → SB w v l) : YieldsIf Try.prog ops S o (.string (strB l)) a := by
  refine Or.inl ⟨hgd, fun w hw => ?_⟩
  simp only [execOp, ho, hx, Sem.run_bind, conv_l (hS w hw), Result.andThen_ok, Sem.run_pure]
theorem yieldsIf_strB {ops : Array Oper} {S : World → Prop} {o : Oper} {a : Act} (hgd : Region.wanted o (yielded ops a.tmps) = true) (x y : Operand) (ho : o.op = .binOp .eql 9 x y 9) (l m : List Nat) (hx : a.eval x = .string (strB l)) (hy : a.eval y = .string (strB m)) (h : l = m) : YieldsIf Try.prog ops S o (.bool true) a := by
  refine Or.inl ⟨hgd, fun w _ => ?_⟩
  subst h
  simp only [execOp, ho, hx, hy]
  go_simp
theorem wp_conv {o : Oper} {a : Act} {w : World} {K : Act → World → Prop} {Q : Exit → Act → World → Prop} (x : Operand) (d : Tmp) (ho : o.op = .convert 23 9 x) (hd : o.dst = some d) (v : Value) (hx : a.eval x = v) (l : List Nat) (h : SB w v l) (hK : K (a.put (some d) (.string (strB l))) w) : o.wp Try.prog a w K Q := by
  unfold Oper.wp execOp
  simp only [ho, hx, Sem.run_bind, conv_l h, Result.andThen_ok, Sem.run_pure]
  show K (a.put o.dst _) _
  rw [hd]
  exact hK
theorem yieldsIf_strN {ops : Array Oper} {S : World → Prop} {o : Oper} {a : Act} (hgd : Region.wanted o (yielded ops a.tmps) = true) (x y : Operand) (ho : o.op = .binOp .neq 9 x y 9) (l m : List Nat) (hx : a.eval x = .string (strB l)) (hy : a.eval y = .string (strB m)) (h : l = m) : YieldsIf Try.prog ops S o (.bool false) a := by
  refine Or.inl ⟨hgd, fun w _ => ?_⟩
  subst h
  simp only [execOp, ho, hx, hy]
  go_simp
theorem yieldsIf_pickv {ops : Array Oper} {S : World → Prop} {o : Oper} {a : Act} (hgd : Region.wanted o (yielded ops a.tmps) = true) (c x y : Operand) (ho : o.op = .pick c x y) (b : Bool) (hc : a.eval c = .bool b) (v : Value) (hv : a.eval (if b then x else y) = v) : YieldsIf Try.prog ops S o v a := yieldsIf_pick hgd c x y ho b hc v hv
end Go.Proofs.Ytdlhclakdllogaa
/- Frames as plain data: their numbers, their bytes. -/
namespace Go.Proofs.Ytdlhclakdllogaa
open Go

structure Fr where
  kind : Nat
  id : Nat
  off : Nat
  n : Nat
  code : Nat
  fin : Bool
  data : List Nat
  acks : List (Nat × Nat)
deriving Inhabited
/-- Its numbers are words, its bytes bytes. -/
structure Fr.Ok (f : Fr) : Prop where
  kind : f.kind < 18446744073709551616
  id : f.id < 18446744073709551616
  off : f.off < 18446744073709551616
  n : f.n < 18446744073709551616
  code : f.code < 18446744073709551616
  data : ∀ x ∈ f.data, x < 256
  acks : ∀ p ∈ f.acks, p.1 < 18446744073709551616 ∧ p.2 < 18446744073709551616
/-- Is it a kind? -/
def knownK (k : Nat) : Bool := k == 0 || k == 1 || k == 2 || k == 4 || k == 5 || k == 6 || k == 8 || k == 16 || k == 17 || k == 18 || k == 28 || k == 30
/-- Is the span at i right, behind the one ahead of it? -/
def rightAt (l : List (Nat × Nat)) (i : Nat) : Prop := (l.getD i (0, 0)).1 ≤ (l.getD i (0, 0)).2 ∧ (l.getD i (0, 0)).2 ≤ 4611686018427387903 ∧ (0 < i → (l.getD i (0, 0)).2 + 2 ≤ (l.getD (i - 1) (0, 0)).1)
instance (l : List (Nat × Nat)) (i : Nat) : Decidable (rightAt l i) := by unfold rightAt; infer_instance
def rightL (l : List (Nat × Nat)) : Bool := decide (1 ≤ l.length ∧ l.length ≤ 32 ∧ ∀ i, i < l.length → rightAt l i)
/-- The numbers behind the first span. -/
def gaps : Nat × Nat → List (Nat × Nat) → List Nat
  | _, [] => []
  | p, q :: r => (p.1 - q.2 - 2) :: (q.2 - q.1) :: gaps q r
def ackNums (n : Nat) : List (Nat × Nat) → List Nat
  | [] => []
  | p :: r => p.2 :: n :: r.length :: (p.2 - p.1) :: gaps p r
/-- The numbers of a frame, its kind first. -/
def nums (f : Fr) : List Nat :=
  if f.kind = 2 then 2 :: ackNums f.n f.acks
  else if f.kind = 4 then [4, f.id, f.code, f.n]
  else if f.kind = 5 then [5, f.id, f.code]
  else if f.kind = 6 then [6, f.off, f.data.length]
  else if f.kind = 8 then (if 0 < f.off then [(if f.fin then 15 else 14), f.id, f.off, f.data.length] else [(if f.fin then 11 else 10), f.id, f.data.length])
  else if f.kind = 16 ∨ f.kind = 18 then [f.kind, f.n]
  else if f.kind = 17 then [17, f.id, f.n]
  else if f.kind = 28 then [28, f.code, f.data.length]
  else [f.kind]
/-- The numbers as bytes, and the data. -/
def finF : Option (List Nat) → List Nat → Nat × List Nat
  | none, _ => (2, [])
  | some b, d => (0, b ++ d)
/-- What Encode answers: a fault's number, bytes. -/
def encF (f : Fr) : Nat × List Nat :=
  if 2048 < f.data.length then (8, [])
  else if 0 < f.data.length ∧ f.kind ≠ 6 ∧ f.kind ≠ 8 ∧ f.kind ≠ 28 then (5, [])
  else if knownK f.kind = false then (6, [])
  else if f.kind = 2 ∧ rightL f.acks = false then (5, [])
  else if (f.kind = 6 ∨ f.kind = 8) ∧ 4611686018427387903 < f.off + f.data.length then (2, [])
  else finF (putO [] (nums f)) f.data
/-- Does it ask? -/
def askK (k : Nat) : Bool := k != 0 && k != 2 && k != 28
/-- As far as its kind has it. -/
def trimF (f : Fr) : Fr :=
  let z : Fr := ⟨f.kind, 0, 0, 0, 0, false, f.data, []⟩
  if f.kind = 2 then { z with acks := f.acks, n := f.n }
  else if f.kind = 4 then { z with id := f.id, code := f.code, n := f.n }
  else if f.kind = 5 then { z with id := f.id, code := f.code }
  else if f.kind = 6 then { z with off := f.off }
  else if f.kind = 8 then { z with id := f.id, off := f.off, fin := f.fin }
  else if f.kind = 16 ∨ f.kind = 18 then { z with n := f.n }
  else if f.kind = 17 then { z with id := f.id, n := f.n }
  else if f.kind = 28 then { z with code := f.code }
  else z
end Go.Proofs.Ytdlhclakdllogaa
/- A STREAM's numbers. -/
namespace Go.Proofs.Ytdlhclakdllogaa
open Go

theorem nums8 {i o n c : Nat} {fn : Bool} {d : List Nat} {a : List (Nat × Nat)} (hp : 0 < o) : nums ⟨8, i, o, n, c, fn, d, a⟩ = [(if fn then 15 else 14), i, o, d.length] := by
  show (if 0 < o then [(if fn then 15 else 14), i, o, d.length] else [(if fn then 11 else 10), i, d.length]) = _
  rw [if_pos hp]
end Go.Proofs.Ytdlhclakdllogaa
/- Frames and spans in memory. -/
namespace Go.Proofs.Ytdlhclakdllogaa
open Go.RowKit

theorem rangeAt_below {B : Nat} {w w1 : World} {g o : Nat} {cs : List Value} (h : w.rangeAt g o cs) (hb : Below B w w1) (hg : g < B) : w1.rangeAt g o cs := fun j v hv => (hb.cell (p := ⟨g, o + j, none⟩) hg).trans (h j v hv)
theorem rangeAt_block {w w1 : World} {g o : Nat} {cs : List Value} (h : w.rangeAt g o cs) (hb : w1.heap[g]? = w.heap[g]?) : w1.rangeAt g o cs := fun j v hv => (cell_congr hb).trans (h j v hv)
/-- A span's cells. -/
def spL (p : Nat × Nat) : List Value := [.int .u64 ((p.1 : Nat) : Int), .int .u64 ((p.2 : Nat) : Int)]
/-- Spans in block g from o on. -/
structure PA (w : World) (g o : Nat) (l : List (Nat × Nat)) : Prop where
  at_ : ∀ (i : Nat) (h : i < l.length), w.rangeAt g (o + i * 2) (spL l[i])
  lt : g < w.heap.size
theorem PA.lo {w : World} {g o : Nat} {l : List (Nat × Nat)} (h : PA w g o l) (i : Nat) (hi : i < l.length) : w.cell? ⟨g, o + i * 2, none⟩ = some (.int .u64 ((l[i].1 : Nat) : Int)) := h.at_ i hi 0 _ rfl
theorem PA.hi {w : World} {g o : Nat} {l : List (Nat × Nat)} (h : PA w g o l) (i : Nat) (hi : i < l.length) : w.cell? ⟨g, o + i * 2 + 1, none⟩ = some (.int .u64 ((l[i].2 : Nat) : Int)) := h.at_ i hi 1 _ rfl
theorem PA.below {w w1 : World} {g o : Nat} {l : List (Nat × Nat)} (h : PA w g o l) (hb : Below w.heap.size w w1) : PA w1 g o l :=
  ⟨fun i hi => rangeAt_below (h.at_ i hi) hb h.lt, Nat.lt_of_lt_of_le h.lt hb.size⟩
/-- A slice of spans. -/
def SA (w : World) (v : Value) (l : List (Nat × Nat)) : Prop := ∃ p c, v = .slice p l.length c ∧ l.length ≤ c ∧ (l = [] ∨ ∃ g o, p = some ⟨g, o, none⟩ ∧ PA w g o l)
theorem SA.below {w w1 : World} {v : Value} {l : List (Nat × Nat)} (h : SA w v l) (hb : Below w.heap.size w w1) : SA w1 v l := by
  obtain ⟨p, c, e, hc, h1⟩ := h
  refine ⟨p, c, e, hc, ?_⟩
  rcases h1 with h1 | ⟨g, o, e, h1⟩
  · exact Or.inl h1
  · exact Or.inr ⟨g, o, e, h1.below hb⟩
theorem SA.nil (w : World) (p : Option Addr) (c : Nat) : SA w (.slice p 0 c) [] := ⟨p, c, rfl, Nat.zero_le _, Or.inl rfl⟩
theorem SA.len {w : World} {p : Option Addr} {n c : Nat} {l : List (Nat × Nat)} (h : SA w (.slice p n c) l) : n = l.length ∧ l.length ≤ c := by
  obtain ⟨q, d, e, hc, h1⟩ := h
  simp only [Value.slice.injEq] at e
  obtain ⟨rfl, rfl, rfl⟩ := e
  exact ⟨rfl, hc⟩
theorem SA.at_ {w : World} {p : Option Addr} {n c : Nat} {l : List (Nat × Nat)} (h : SA w (.slice p n c) l) : n = 0 ∨ ∃ g o, p = some ⟨g, o, none⟩ ∧ PA w g o l := by
  obtain ⟨q, d, e, hc, h1⟩ := h
  simp only [Value.slice.injEq] at e
  obtain ⟨rfl, rfl, rfl⟩ := e
  rcases h1 with h1 | h1
  · exact Or.inl (by rw [h1]; rfl)
  · exact Or.inr h1
theorem SA.shape {w : World} {v : Value} {l : List (Nat × Nat)} (h : SA w v l) : ∃ p c, v = .slice p l.length c := by
  obtain ⟨p, c, e, _⟩ := h
  exact ⟨p, c, e⟩
theorem SB.shape {w : World} {v : Value} {l : List Nat} (h : SB w v l) : ∃ p c, v = .slice p l.length c := by
  obtain ⟨p, c, e, _⟩ := h
  exact ⟨p, c, e⟩
/-- A frame's cells: vd its data, va its spans. -/
def frL (f : Fr) (vd va : Value) : List Value := [.int .u64 ((f.kind : Nat) : Int), .int .u64 ((f.id : Nat) : Int), .int .u64 ((f.off : Nat) : Int), .int .u64 ((f.n : Nat) : Int), .int .u64 ((f.code : Nat) : Int), .bool f.fin, vd, va]
def frV (f : Fr) (vd va : Value) : Value := .agg (frL f vd va).toArray
/-- What a frame's slices hold. -/
structure FD (w : World) (f : Fr) (vd va : Value) : Prop where
  data : SB w vd f.data
  acks : SA w va f.acks
theorem FD.below {w w1 : World} {f : Fr} {vd va : Value} (h : FD w f vd va) (hb : Below w.heap.size w w1) : FD w1 f vd va := ⟨h.data.below hb, h.acks.below hb⟩
/-- Frames in block g from o on. -/
structure FA (w : World) (g o : Nat) (l : List Fr) : Prop where
  at_ : ∀ (i : Nat) (h : i < l.length), ∃ vd va, FD w l[i] vd va ∧ w.rangeAt g (o + i * 8) (frL l[i] vd va)
  lt : g < w.heap.size
theorem FA.below {w w1 : World} {g o : Nat} {l : List Fr} (h : FA w g o l) (hb : Below w.heap.size w w1) : FA w1 g o l :=
  ⟨fun i hi => by
    obtain ⟨vd, va, h1, h2⟩ := h.at_ i hi
    exact ⟨vd, va, h1.below hb, rangeAt_below h2 hb h.lt⟩, Nat.lt_of_lt_of_le h.lt hb.size⟩
/-- A slice of frames. -/
def FS (w : World) (v : Value) (l : List Fr) : Prop := ∃ p c, v = .slice p l.length c ∧ l.length ≤ c ∧ (l = [] ∨ ∃ g o, p = some ⟨g, o, none⟩ ∧ FA w g o l)
theorem FS.below {w w1 : World} {v : Value} {l : List Fr} (h : FS w v l) (hb : Below w.heap.size w w1) : FS w1 v l := by
  obtain ⟨p, c, e, hc, h1⟩ := h
  refine ⟨p, c, e, hc, ?_⟩
  rcases h1 with h1 | ⟨g, o, e, h1⟩
  · exact Or.inl h1
  · exact Or.inr ⟨g, o, e, h1.below hb⟩
theorem FS.nil (w : World) (p : Option Addr) (c : Nat) : FS w (.slice p 0 c) [] := ⟨p, c, rfl, Nat.zero_le _, Or.inl rfl⟩
theorem FS.len {w : World} {p : Option Addr} {n c : Nat} {l : List Fr} (h : FS w (.slice p n c) l) : n = l.length ∧ l.length ≤ c := by
  obtain ⟨q, d, e, hc, h1⟩ := h
  simp only [Value.slice.injEq] at e
  obtain ⟨rfl, rfl, rfl⟩ := e
  exact ⟨rfl, hc⟩
theorem FS.at_ {w : World} {p : Option Addr} {n c : Nat} {l : List Fr} (h : FS w (.slice p n c) l) : n = 0 ∨ ∃ g o, p = some ⟨g, o, none⟩ ∧ FA w g o l := by
  obtain ⟨q, d, e, hc, h1⟩ := h
  simp only [Value.slice.injEq] at e
  obtain ⟨rfl, rfl, rfl⟩ := e
  rcases h1 with h1 | h1
  · exact Or.inl (by rw [h1]; rfl)
  · exact Or.inr h1
theorem FS.shape {w : World} {v : Value} {l : List Fr} (h : FS w v l) : ∃ p c, v = .slice p l.length c := by
  obtain ⟨p, c, e, _⟩ := h
  exact ⟨p, c, e⟩
theorem info_fr : (Try.prog.info? 26).map (·.size) = some 8 := by kernel_rfl
theorem info_sp : (Try.prog.info? 47).map (·.size) = some 2 := by kernel_rfl
theorem info_frL (f : Fr) (vd va : Value) : (Try.prog.info? 26).map (·.size) = some (frL f vd va).length := info_fr
theorem info_spL (p : Nat × Nat) : (Try.prog.info? 47).map (·.size) = some (spL p).length := info_sp
end Go.Proofs.Ytdlhclakdllogaa
