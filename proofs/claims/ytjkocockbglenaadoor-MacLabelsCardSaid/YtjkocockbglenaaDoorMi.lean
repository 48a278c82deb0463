/- Bytes of one's own: append of any bytes, of noughts. -/
import Derived.Test.YtjkocockbglenaaDoorAw
import Derived.Laws.BytesArg
namespace Go.Proofs.YtjkocockbglenaaDoor
open Go.RowKit

/-- The string of bytes. -/
def strB (l : List Nat) : ByteArray := strOfNums (NI l)
theorem conv_l {w : World} {v : Value} {l : List Nat} (h : SB w v l) : (convert 22 9 v).run Tryd.prog w = .ok (.string (strB l)) w := by
  obtain ⟨p, c, rfl, hc, h0 | ⟨g, o, rfl, hb⟩⟩ := h
  · subst h0
    cases p with
    | none => exact run_convert_bytes_nil w 22 5 Tryd.underlying22 Tryd.underlying5 0 c 9 Tryd.underlying9
    | some a =>
      rw [List.length_nil, run_convert_bytes_string w 22 9 5 _ 0 c Tryd.underlying22 Tryd.underlying5 Tryd.underlying9, run_bytesToString w a 0 c [] (by simp [loadCells, loadCellsFrom])]
      rfl
  · exact run_convert_bytes_arg w 22 5 Tryd.underlying22 Tryd.underlying5 g o l.length c (NI l) (NI_length l) (fun i hi => by
      rw [hb.cell i hi]
      simp [NI, List.getD, hi]) 9 Tryd.underlying9
theorem yieldsIf_conv {ops : Array Oper} {S : World → Prop} {o : Oper} {a : Act} (hgd : Region.wanted o (yielded ops a.tmps) = true) (x : Operand) (ho : o.op = .convert 22 9 x) (v : Value) (hx : a.eval x = v) (l : List Nat) (hS : ∀ w, S w → SB w v l) : YieldsIf Tryd.prog ops S o (.string (strB l)) a := by
  refine Or.inl ⟨hgd, fun w hw => ?_⟩
  simp only [execOp, ho, hx, Sem.run_bind, conv_l (hS w hw), Result.andThen_ok, Sem.run_pure]

theorem SB.head {w : World} {p : Option Addr} {n c : Nat} {l : List Nat} (h : SB w (.slice p n c) l) (k : Nat) (hk : k ≤ n) : SB w (.slice p k c) (l.take k) := by
  obtain ⟨q, d, e, hc, h1⟩ := h
  simp only [Value.slice.injEq] at e
  obtain ⟨rfl, rfl, rfl⟩ := e
  have hl : (l.take k).length = k := by rw [List.length_take]; omega
  refine ⟨p, c, by rw [hl], by omega, ?_⟩
  rcases h1 with h1 | ⟨g, o, e, hb⟩
  · exact Or.inl (by rw [h1]; simp)
  · exact Or.inr ⟨g, o, e, hb.take k⟩
theorem SB.len {w : World} {p : Option Addr} {n c : Nat} {l : List Nat} (h : SB w (.slice p n c) l) : n = l.length ∧ l.length ≤ c := by
  obtain ⟨q, d, e, hc, h1⟩ := h
  simp only [Value.slice.injEq] at e
  obtain ⟨rfl, rfl, rfl⟩ := e
  exact ⟨rfl, hc⟩
theorem SB.at_ {w : World} {p : Option Addr} {n c : Nat} {l : List Nat} (h : SB w (.slice p n c) l) : n = 0 ∨ ∃ g o, p = some ⟨g, o, none⟩ ∧ BA w g o l := by
  obtain ⟨q, d, e, hc, h1⟩ := h
  simp only [Value.slice.injEq] at e
  obtain ⟨rfl, rfl, rfl⟩ := e
  rcases h1 with h1 | h1
  · exact Or.inl (by rw [h1]; rfl)
  · exact Or.inr h1

def tailP (p : Option Addr) (c k : Nat) : Option Addr := p.map fun a => if c = k then a else a.add k
theorem yieldsIf_tail {ops : Array Oper} {S : World → Prop} {o : Oper} {a : Act} (hgd : Region.wanted o (yielded ops a.tmps) = true) (x : Operand) (t : Tmp) (ho : o.op = .slice 22 x (some (.tmp t)) none none) (p : Option Addr) (n c k : Nat) (hx : a.eval x = .slice p n c) (hlo : a.eval (.tmp t) = .int .i64 (k : Int)) (hk : k ≤ n) (hc : n ≤ c) :
    YieldsIf Tryd.prog ops S o (.slice (tailP p c k) (n - k) (c - k)) a := by
  refine Or.inl ⟨hgd, fun w hw => ?_⟩
  have q1 : (0 : Int) ≤ (k : Int) := by omega
  have q2 : (k : Int) ≤ (n : Int) := by omega
  have q3 : (n : Int) ≤ (c : Int) := by omega
  simp only [execOp, ho, hx]
  have h' : a.tmps[t]?.getD undef = .int .i64 (k : Int) := by simpa [Act.eval] using hlo
  cases p with
  | none =>
    go_simp
    rfl
  | some b =>
    go_simp
    by_cases h : c = k <;> simp [tailP, h]
theorem yieldsIf_head {ops : Array Oper} {S : World → Prop} {o : Oper} {a : Act} (hgd : Region.wanted o (yielded ops a.tmps) = true) (x : Operand) (t : Tmp) (ho : o.op = .slice 22 x none (some (.tmp t)) none) (p : Option Addr) (n c k : Nat) (hx : a.eval x = .slice p n c) (hlo : a.eval (.tmp t) = .int .i64 (k : Int)) (hk : k ≤ c) :
    YieldsIf Tryd.prog ops S o (.slice p k c) a := by
  refine Or.inl ⟨hgd, fun w hw => ?_⟩
  have q1 : (0 : Int) ≤ (k : Int) := by omega
  have q2 : (k : Int) ≤ (c : Int) := by omega
  simp only [execOp, ho, hx]
  have h' : a.tmps[t]?.getD undef = .int .i64 (k : Int) := by simpa [Act.eval] using hlo
  cases p with
  | none =>
    go_simp
  | some b =>
    go_simp
theorem SB.tail {w : World} {p : Option Addr} {n c : Nat} {l : List Nat} (h : SB w (.slice p n c) l) (k : Nat) (hk : k ≤ n) : SB w (.slice (tailP p c k) (n - k) (c - k)) (l.drop k) := by
  obtain ⟨q, d, e, hc, h1⟩ := h
  simp only [Value.slice.injEq] at e
  obtain ⟨rfl, rfl, rfl⟩ := e
  have hl : (l.drop k).length = l.length - k := by rw [List.length_drop]
  refine ⟨_, c - k, by rw [hl], by omega, ?_⟩
  rcases h1 with h1 | ⟨g, o, rfl, hb⟩
  · exact Or.inl (by rw [h1]; simp)
  · by_cases hck : c = k
    · exact Or.inl (List.eq_nil_of_length_eq_zero (by omega))
    · exact Or.inr ⟨g, o + k, by simp [tailP, hck, Addr.add_lit], hb.drop k⟩
theorem append_sb (B : Nat) (w : World) (ty : TypeId) (v x : Value) (l m : List Nat) (hv : OwL B w v l) (hx : SB w x m) (hlm : l.length + m.length ≤ 70368744177664) (hB : B ≤ w.heap.size) :
    ∃ v' w', (Builtin.append_ #[22, 22] ty #[v, x]).run Tryd.prog w = .ok v' w' ∧ OwL B w' v' (l ++ m) ∧ w.grownBy w' v.ownBlock ∧ (v'.ownBlock = v.ownBlock ∨ v'.ownBlock = some w.heap.size) := by
  obtain ⟨p, c, rfl, hc, h0 | ⟨g, o, rfl, hb⟩⟩ := hx
  · subst h0
    rw [List.append_nil]
    refine ⟨v, w, ?_, hv, ⟨rfl, rfl, rfl, Nat.le_refl _, fun _ _ _ => rfl⟩, Or.inl rfl⟩
    rcases hv.row with ⟨rfl, h⟩ | ⟨g, cap, rfl, _, hn, _⟩
    · exact append_none w ty _ p 0 0 c none rfl (Nat.le_refl _)
    · exact append_none w ty _ p l.length cap c _ rfl hn
  · exact append_ba B w ty v l m hv g o c hb hlm hB
theorem run_buildSlice_none (w : World) : (Instr.buildSlice 22 0 #[]).run Tryd.prog w = .ok (.slice (some ⟨w.heap.size, 0, none⟩) 0 0) (w.alloc (.cells #[] 5)) := by
  obtain ⟨i, hi, hs, _, _⟩ := info_u8
  simp [Instr.buildSlice, run_underlying Tryd.underlying22, sizeOf, typeInfo, hi, hs, newRow, Instr.fill]
  exact congrArg (fun c => w.alloc (.cells c 5)) (Array.ext (by simp) (fun i h => by simp at h))
theorem ow_none (B : Nat) (w : World) (hB : B ≤ w.heap.size) : OwL B (w.alloc (.cells #[] 5)) (.slice (some ⟨w.heap.size, 0, none⟩) 0 0) [] := OwL.new B w [] hB (Nat.zero_le _)
theorem wp_append_run {P : Program} {o : Oper} {a : Act} {w : World} {K : Act → World → Prop} {Q : Exit → Act → World → Prop} (s x : Operand) (t u : TypeId)
    (ho : o.op = .call { callee := .builtin .append, args := #[s, x], argTypes := #[t, u] }) (v y : Value) (hs : a.eval s = v) (hx : a.eval x = y) (v' : Value) (w' : World)
    (hr : (Builtin.append_ #[t, u] o.type #[v, y]).run P w = .ok v' w') (h : K (a.put o.dst v') w') : o.wp P a w K Q := by
  unfold Oper.wp execOp
  simp only [ho, resolve, invoke, builtin, Sem.run_bind, Sem.run_pure, Result.andThen_ok, List.map_toArray, List.map_cons, List.map_nil, hs, hx, hr]
  exact h
theorem wp_build_run {P : Program} {o : Oper} {a : Act} {w : World} {K : Act → World → Prop} {Q : Exit → Act → World → Prop} (t : TypeId)
    (ho : o.op = .buildSlice t 0 #[]) (v' : Value) (w' : World) (hr : (Instr.buildSlice t 0 #[]).run P w = .ok v' w') (h : K (a.put o.dst v') w') : o.wp P a w K Q := by
  unfold Oper.wp execOp
  simp only [ho, Sem.run_bind, Array.map_empty, hr, Result.andThen_ok]
  exact h
theorem wpList_build_run {P : Program} {ops : Array Oper} {rest : List Oper} {o : Oper} {a : Act} {w : World} {Q : Exit → Act → World → Prop} (hgd : o.guard = none) (t : TypeId)
    (ho : o.op = .buildSlice t 0 #[]) (v' : Value) (w' : World) (hr : (Instr.buildSlice t 0 #[]).run P w = .ok v' w') (h : wpList P ops Q rest (a.put o.dst v') w') : wpList P ops Q (o :: rest) a w :=
  wpList_plain hgd fun K hK => wp_build_run t ho v' w' hr (hK _ _ h)

theorem zeroCells_vals (m : Nat) : Builtin.zeroCells #[Value.int .u8 0] m = (vals (List.replicate m 0)).toArray := by
  apply Array.ext
  · simp [Builtin.zeroCells, vals]
  · intro j h1 h2
    simp [Builtin.zeroCells, vals, Nat.mod_one]
theorem noughts_room (w : World) (ty : TypeId) (g n cap k : Nat) (cur : Array Value) (hg : w.heap[g]? = some (.cells cur 5 (0, 0))) (hcs : cur.size = cap) (hroom : n + k ≤ cap) (hk : k < 256) :
    (Builtin.append_ #[22, 3] ty #[.slice (some ⟨g, 0, none⟩) n cap, .int .i64 k]).run Tryd.prog w = .ok (.slice (some ⟨g, 0, none⟩) (n + k) cap) (w.setRow g (cur.toList.take n ++ vals (List.replicate k 0) ++ cur.toList.drop (n + k)).toArray) := by
  obtain ⟨i, hi, hs, hy, hz⟩ := info_u8
  have bl : (vals (List.replicate k 0)).length = k := by simp [vals]
  have wr : IntKind.i64.wrap (k : Int) = (k : Int) := by rw [IntKind.wrap_i64]; omega
  have h48 : ¬ (281474976710656 < (k : Int)) := by omega
  have h0 : ¬ ((k : Int) < 0) := by omega
  have hst := run_storeCells_at Tryd.prog g n 5 (vals (List.replicate k 0)) 0 cur w hg (by rw [bl]; omega) (one_at _)
  simp only [Nat.add_zero, bl] at hst
  have zc1 : (Value.int .u8 0).cells = #[Value.int .u8 0] := rfl
  rcases Nat.eq_zero_or_pos k with hk0 | hk0
  · subst hk0
    have wr0 : IntKind.i64.wrap 0 = 0 := by rw [IntKind.wrap_i64]; rfl
    have hst0 : (storeCells ⟨g, n, none⟩ [] 0).run Tryd.prog w = .ok () w := rfl
    have hrow : w.setRow g (cur.toList.take n ++ vals (List.replicate 0 0) ++ cur.toList.drop (n + 0)).toArray = w := by
      have e : (cur.toList.take n ++ vals (List.replicate 0 0) ++ cur.toList.drop (n + 0)).toArray = cur := by simp [vals]
      rw [e]
      exact setRow_self w g cur _ (0, 0) hg
    rw [hrow]
    clear hst hrow
    simp [Builtin.append_, run_underlying Tryd.underlying22, run_underlying Tryd.underlying3, sizeOf, typeInfo, hi, hs, hy, asInt, asIntOf, wr0, Addr.add_lit, hst0, show n ≤ cap from by omega]
  · have hne : ¬ k = 0 := by omega
    simp [Builtin.append_, run_underlying Tryd.underlying22, run_underlying Tryd.underlying3, sizeOf, typeInfo, zeroValue, hi, hs, hy, hz, asInt, asIntOf, wr, h48, h0, hroom, hne, zc1, zeroCells_vals, Addr.add_lit, hst]
theorem noughts_grow (w : World) (ty : TypeId) (g n cap k : Nat) (cur : Array Value) (hg : w.heap[g]? = some (.cells cur 5 (0, 0))) (xs : List Value) (hx : xs.length = n) (hcell : ∀ j u, xs[j]? = some u → w.cell? ((⟨g, 0, none⟩ : Addr).add j) = some u) (hroom : cap < n + k) (hnc : n ≤ cap) (hk : k < 256) (hnk : n + k ≤ 1000) :
    (Builtin.append_ #[22, 3] ty #[.slice (some ⟨g, 0, none⟩) n cap, .int .i64 k]).run Tryd.prog w = .ok (.slice (some ⟨w.heap.size, 0, none⟩) (n + k) (grownCap w (n + k) cap 5))
      (w.drew.alloc (.cells (xs.toArray ++ (vals (List.replicate k 0)).toArray ++ (vals (List.replicate (grownCap w (n + k) cap 5 - (n + k)) 0)).toArray) 5)) := by
  obtain ⟨i, hi, hs, hy, hz⟩ := info_u8
  have wr : IntKind.i64.wrap (k : Int) = (k : Int) := by rw [IntKind.wrap_i64]; omega
  have h48 : ¬ (281474976710656 < (k : Int)) := by omega
  have h0 : ¬ ((k : Int) < 0) := by omega
  have hn : ¬ (n + k ≤ cap) := by omega
  have h63' : ¬ (9223372036854775807 < ((n : Int) + (k : Int))) := by omega
  have zc1 : (Value.int .u8 0).cells = #[Value.int .u8 0] := rfl
  have hcapn : Builtin.nextslicecap (n + k) cap ≤ 281474976710656 := by
    have := growslice_fits (need := n + k) (old := cap) (bytes := 1) (by omega) (by omega)
    omega
  have h48' : ¬ (281474976710656 < Builtin.nextslicecap (n + k) cap) := by omega
  have hfo := run_firstCells_some (P := Tryd.prog) w.drew i.size n ⟨g, 0, none⟩ n cap xs (by rw [hs, hx, Nat.mul_one]) (by simpa using hcell)
  rw [hs] at hfo
  by_cases hne : k = 0
  · omega
  · simp [Builtin.append_, run_underlying Tryd.underlying22, run_underlying Tryd.underlying3, sizeOf, typeInfo, zeroValue, hi, hs, hy, hz, asInt, asIntOf, wr, h48, h0, hn, hne, h63', h48', Question.forced, hfo, newRow, grownCap, zc1, zeroCells_vals]
theorem append_noughts (B : Nat) (a w : World) (ty : TypeId) (v : Value) (l : List Nat) (hv : OwL B w v l) (hsome : v.ownBlock.isSome = true) (k : Nat) (hnk : l.length + k ≤ 1000) (hk : k < 256) (hB : B ≤ w.heap.size) (hb : Below B a w) :
    ∃ v' w', (Builtin.append_ #[22, 3] ty #[v, .int .i64 k]).run Tryd.prog w = .ok v' w' ∧ OwL B w' v' (l ++ List.replicate k 0) ∧ Below B a w' := by
  obtain ⟨hl, hr⟩ := hv
  rcases hr with ⟨rfl, _⟩ | ⟨g, cap, cur, rfl, hBg, hg, hnc, hcm, hcs, htake⟩
  · cases hsome
  have hown : w.ownsRow B 5 1 (.slice (some ⟨g, 0, none⟩) l.length cap) l.length (vals l) := ⟨hl, .inr ⟨g, cap, cur, rfl, hBg, hg, hnc, hcm, hcs, htake⟩⟩
  rw [Nat.mul_one] at hcs htake
  have bl : (vals (List.replicate k 0)).length = k := by simp [vals]
  have blf := vals_length l
  have ell : (l ++ List.replicate k 0).length = l.length + k := by simp
  unfold OwL
  rw [ell]
  by_cases hroom : l.length + k ≤ cap
  · refine ⟨_, _, noughts_room w ty g l.length cap k cur hg hcs hroom hk, ⟨by rw [vals_length, Nat.mul_one, ell], .inr ⟨g, cap, _, rfl, hBg, setRow_heap w g cur _ 5 _ hg, hroom, hcm, ?_, ?_⟩⟩, below_setRow hb hBg _⟩
    · simp only [List.size_toArray, List.length_append, List.length_take, List.length_drop, Array.length_toList, bl]
      omega
    · rw [htake, vals_append, Nat.mul_one]
      simp only [List.append_assoc]
      rw [← List.append_assoc]
      refine List.take_left' ?_
      rw [List.length_append, bl, blf]
  · have hge := grownCap_ge w (l.length + k) cap 5
    have hcm2 : grownCap w (l.length + k) cap 5 ≤ maxLen := grownCap_le_maxLen w (l.length + k) cap 5 (by simp only [maxLen]; omega)
    refine ⟨_, _, noughts_grow w ty g l.length cap k cur hg (vals l) blf (hown.cells (g := g) rfl) (by omega) hnc hk hnk, ⟨by rw [vals_length, Nat.mul_one, ell], .inr ⟨w.heap.size, _, _, rfl, hB, heap_alloc_new w.drew _, hge, hcm2, ?_, ?_⟩⟩, (below_drew hb).alloc hB _⟩
    · simp only [Array.size_append, List.size_toArray, vals_length, List.length_replicate]
      omega
    · rw [vals_append, Nat.mul_one]
      simp only [Array.toList_append]
      refine List.take_left' ?_
      rw [List.length_append, bl, blf]
end Go.Proofs.YtjkocockbglenaaDoor
