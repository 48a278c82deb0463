/- The reference's Box: its contract. -/
import Derived.Test.YteaddadmdjjfaaaBc
import Derived.Test.YteaddadmdjjfaaaBg
namespace Go.Proofs.Yteaddadmdjjfaaa
open Go.RowKit

theorem wpList_append_run {P : Program} {ops : Array Oper} {rest : List Oper} {o : Oper} {a : Act} {w : World} {Q : Exit → Act → World → Prop} (hgd : o.guard = none) (s x : Operand) (t u : TypeId)
    (ho : o.op = .call { callee := .builtin .append, args := #[s, x], argTypes := #[t, u] }) (v y : Value) (hs : a.eval s = v) (hx : a.eval x = y) (v' : Value) (w' : World)
    (hr : (Builtin.append_ #[t, u] o.type #[v, y]).run P w = .ok v' w') (h : wpList P ops Q rest (a.put o.dst v') w') : wpList P ops Q (o :: rest) a w :=
  wpList_plain hgd fun K hK => by
    unfold Oper.wp execOp
    simp only [ho, resolve, invoke, builtin, Sem.run_bind, Sem.run_pure, Result.andThen_ok, List.map_toArray, List.map_cons, List.map_nil, hs, hx, hr]
    exact hK _ _ h
theorem OwL.shape {B : Nat} {w : World} {v : Value} {l : List Nat} (h : OwL B w v l) : ∃ p c, v = .slice p l.length c := by
  rcases h.row with ⟨rfl, rfl⟩ | ⟨g, c, rfl, _⟩
  · exact ⟨none, 0, rfl⟩
  · exact ⟨_, c, rfl⟩
theorem byte_row (w : World) (x : Nat) : BA (w.alloc (.cells #[.int .u8 ((x : Nat) : Int)] 5)) w.heap.size 0 [x] :=
  BA.of_blk (Blk.new w 5 (Iv .u8 (NI [x])))
/-- One byte built into a slice of its own and appended. -/
theorem append_one (B : Nat) (w0 w : World) (ty : TypeId) (v : Value) (l : List Nat) (x : Nat) (O : OwL B w v l) (hl : l.length ≤ 10000) (b : Below B w0 w) (hB : B ≤ w.heap.size) :
    ∃ v' w', (Builtin.append_ #[24, 24] ty #[v, .slice (some ⟨w.heap.size, 0, none⟩) 1 1]).run Try.prog (w.alloc (.cells #[.int .u8 ((x : Nat) : Int)] 5)) = .ok v' w' ∧ OwL B w' v' (l ++ [x]) ∧ Below B w0 w' := by
  have b7 : Below w.heap.size w (w.alloc (.cells #[.int .u8 ((x : Nat) : Int)] 5)) := (Below.refl _ _).alloc (Nat.le_refl _) _
  have hB7 : B ≤ (w.alloc (.cells #[.int .u8 ((x : Nat) : Int)] 5)).heap.size := Nat.le_trans hB b7.size
  obtain ⟨v8, w8, r8, O8, g8, _⟩ := append_ba B _ ty v l [x] (O.below b7) w.heap.size 0 1 (byte_row w x) (by simp; omega) hB7
  exact ⟨v8, w8, r8, O8, below_grown' (b.trans (b7.mono hB)) g8 (fun j hj => ((O.below b7).lt j hj).1) hB7⟩
set_option maxHeartbeats 4000000 in
set_option maxRecDepth 100000 in
theorem rbox_any (w : World) :
    Calls Try.prog 13 #[] w fun e w' => ∃ v, e = .returned v ∧ OwL w.heap.size w' v boxL ∧ Below w.heap.size w w' := by
  have hT : boxL.take 256 = boxL := List.take_of_length_le (by rw [boxL_length]; exact Nat.le_refl _)
  go_enter Try.func13, Try.ntmps13
  go_wp2
  go_loopw [1, 2] (fun l i wr => ∃ k : Nat, k ≤ 256 ∧ i = .int .i64 (k : Int) ∧ OwL w.heap.size wr l (boxL.take k) ∧ Below w.heap.size w wr) (fun _ i _ => (256 - intOf i).toNat)
  case atStart => exact ⟨0, by omega, rfl, OwL.nil _ _, Below.refl _ _⟩
  case round =>
    obtain ⟨k, hk, rfl, O, hB⟩ := hrel
    by_cases h8 : k = 256
    · subst h8
      rw [hT] at O
      go_wp2
      go_ret
      exact ⟨_, rfl, O, hB⟩
    · have hlt : k < 256 := by omega
      have i2 : (k : Int) < 256 := by omega
      have i3 : (0 : Int) ≤ (k : Int) := by omega
      have i4 : (k : Int) % 256 = (k : Int) := by omega
      have CS := Lib.hid (fun W => rsub_any k hlt W)
      have hs : boxL.take (k + 1) = boxL.take k ++ [subN k] := by
        rw [List.take_add_one, List.getElem?_eq_getElem (by rw [boxL_length]; exact hlt)]
        simp [boxL]
      have ll : (boxL.take k).length = k := by rw [List.length_take, boxL_length]; omega
      generalize subN k = X at *
      generalize boxL.take k = L at *
      have HS := Lib.hid hs
      clear hs
      go_wp2_with fail
      refine (CS.out _).mono ?_
      rintro e w1 ⟨rfl, b⟩
      have hB1 := hB.trans (b.mono hB.size)
      have O1 := O.below b
      clear CS b O hB
      obtain ⟨v8, w8, r8, O8, B8⟩ := append_one w.heap.size w w1 24 _ L X O1 (by omega) hB1 hB1.size
      clear O1 hB1
      go_wp2_with (refine wpList_append_run rfl _ _ _ _ rfl _ _ rfl rfl _ _ r8 ?_)
      exact ⟨⟨k + 1, by omega, by congr 1, by rw [HS.out]; exact O8, B8⟩, by simp only [intOf]; omega⟩
end Go.Proofs.Yteaddadmdjjfaaa
