/- What the program's Encode, Asks and Parse are asked to answer; Awake of frame (printed by gen11/ut.py). -/
import Derived.Test.YtdlhclakdllogaaUd
import Derived.Lib.SlBytesConst
namespace Go.Proofs.Ytdlhclakdllogaa
open Go.RowKit

/-- What the program's Encode is asked to answer. -/
def EncC : Prop := ∀ (f : Fr), f.Ok → f.data.length ≤ 3000 → f.acks.length ≤ 100 → ∀ (vd va : Value) (W : World), FD W f vd va → Calls Try.prog 10 #[frV f vd va] W (EncPost f W)
def AskC : Prop := ∀ (f : Fr), f.Ok → ∀ (vd va : Value) (W : World), FD W f vd va → Calls Try.prog 12 #[frV f vd va] W fun e w' => e = .returned (.bool (askK f.kind)) ∧ Below W.heap.size W w'
/-- What the program's Parse answers, of bytes; and what is asked of that. -/
def ParC (P : List Nat → Nat × List Fr) : Prop := ∀ (b : List Nat) (p : Option Addr) (n c : Nat), (∀ x ∈ b, x < 256) → n ≤ 300000 → ∀ W, SB W (.slice p n c) b →
  Calls Try.prog 14 #[.slice p n c] W fun e w' => ∃ v, e = .returned (.tuple #[v, .int .i64 (((P b).1 : Nat) : Int)]) ∧ FS w' v (P b).2 ∧ Below W.heap.size W w'
structure ParM (P : List Nat → Nat × List Fr) : Prop where
  back : ∀ fs : List Fr, (∀ f ∈ fs, f.Ok ∧ (encF f).1 = 0) → (fs.filter fun f => f.kind != 0).length ≤ 64 → P (fs.flatMap fun f => (encF f).2) = (0, (fs.filter fun f => f.kind != 0).map trimF)
  many : ∀ pad n : Nat, 64 < n → P (List.replicate pad 0 ++ (List.replicate n [1, 0]).flatten) = (7, [])
  cut : ∀ f : Fr, f.Ok → (encF f).1 = 0 → ∀ k, 0 < k → k < (encF f).2.length → P ((encF f).2.take k) = (3, [])
theorem enc_at (EC : EncC) {f : Fr} {code : Nat} {bs : List Nat} (he : encF f = (code, bs)) (hf : f.Ok) (h1 : f.data.length ≤ 3000) (h2 : f.acks.length ≤ 100) (vd va : Value) (W : World) (h : FD W f vd va) :
    Calls Try.prog 10 #[frV f vd va] W fun e w' => ∃ v, e = .returned (.tuple #[v, .int .i64 ((code : Nat) : Int)]) ∧ OwL W.heap.size w' v bs ∧ Below W.heap.size W w' := by
  have := EC f hf h1 h2 vd va W h
  unfold EncPost at this
  rw [he] at this
  exact this
def exA : Fr := ⟨8, 4, 0, 0, 0, true, [97, 98], []⟩
def exB : Fr := ⟨2, 0, 0, 0, 0, false, [], [(5, 7), (2, 2)]⟩
theorem exA_ok : exA.Ok := ⟨by decide, by decide, by decide, by decide, by decide, by decide, by decide⟩
theorem exB_ok : exB.Ok := ⟨by decide, by decide, by decide, by decide, by decide, by decide, by decide⟩
theorem exA_enc : encF exA = (0, [11, 4, 2, 97, 98]) := by decide
theorem exB_enc : encF exB = (0, [2, 7, 0, 1, 2, 1, 0]) := by decide
theorem strA : strB [11, 4, 2, 97, 98] = { data := #[11, 4, 2, 97, 98] } := by rfl
theorem strBB : strB [2, 7, 0, 1, 2, 1, 0] = { data := #[2, 7, 0, 1, 2, 1, 0] } := by rfl
theorem wp_convert_const {o : Oper} {a : Act} {w : World} {K : Act → World → Prop} {Q : Exit → Act → World → Prop} (x : Operand) (d : Tmp) (ho : o.op = .convert 23 23 x) (hd : o.dst = some d) (C : Array Value) (n c : Nat) (hx : a.eval x = .slice (some ⟨w.heap.size, 0, none⟩) n c)
    (hK : K (a.put (some d) (.slice (some ⟨w.heap.size, 0, none⟩) n c)) (w.alloc (.cells C 5 (C.size, C.size + 1)))) : o.wp Try.prog a (w.alloc (.cells C 5)) K Q := by
  unfold Oper.wp execOp
  simp only [ho, hx, Sem.run_bind, Lib.run_convert_bytes_const w 23 5 C n c Try.underlying23 Try.underlying5, Result.andThen_ok, Sem.run_pure]
  show K (a.put o.dst _) _
  rw [hd]
  exact hK
theorem ba_marked (W : World) : BA (W.alloc (.cells #[.int .u8 97, .int .u8 98] 5 (2, 3))) W.heap.size 0 [97, 98] := by
  have h := heap_alloc_new W (.cells #[.int .u8 97, .int .u8 98] 5 (2, 3))
  refine ⟨fun i hi => ?_, by rw [size_alloc1]; omega⟩
  rw [cell_of_row _ _ _ _ _ _ h]
  have : i = 0 ∨ i = 1 := by simp at hi; omega
  rcases this with rfl | rfl <;> rfl
theorem pa_two (W : World) : PA (W.alloc (.cells #[.int .u64 5, .int .u64 7, .int .u64 2, .int .u64 2] 47)) W.heap.size 0 [(5, 7), (2, 2)] := by
  have K := Blk.new W 47 #[.int .u64 5, .int .u64 7, .int .u64 2, .int .u64 2]
  refine ⟨fun i hi j v hv => ?_, K.lt⟩
  rw [K.cell]
  have hi2 : i = 0 ∨ i = 1 := by simp at hi; omega
  have hj : j < 2 := (List.getElem?_eq_some_iff.1 hv).1
  have hj2 : j = 0 ∨ j = 1 := by omega
  rcases hi2 with rfl | rfl <;> rcases hj2 with rfl | rfl <;> exact hv
set_option maxHeartbeats 4000000 in
set_option maxRecDepth 100000 in
theorem fawake_c (EC : EncC) (W : World) : Calls Try.prog 8 #[] W fun e w' => e = .returned (.bool true) ∧ Below W.heap.size W w' := by
  have C1 := Lib.hid (enc_at EC exA_enc exA_ok (by decide) (by decide))
  have C2 := Lib.hid (enc_at EC exB_enc exB_ok (by decide) (by decide))
  clear EC
  go_enter Try.func8, Try.ntmps8
  go_upto_region 1 with fail
  rename_i aK
  refine wp_region_seq ?_
  refine wpSeq_wp rfl ?_
  unfold Oper.wp execOp
  go_simp
  refine wpSeq_wp rfl (wp_convert_const _ _ rfl rfl #[.int .u8 97, .int .u8 98] 2 2 rfl ?_)
  simp only [AP]
  have b1 := (Below.refl W.heap.size W).alloc (Nat.le_refl _) (.cells #[.int .u8 97, .int .u8 98] 5 (2, 3))
  have s1 : SB (W.alloc (.cells #[.int .u8 97, .int .u8 98] 5 (2, 3))) (.slice (some ⟨W.heap.size, 0, none⟩) 2 2) [97, 98] := ⟨_, 2, rfl, Nat.le_refl _, Or.inr ⟨_, _, rfl, ba_marked W⟩⟩
  generalize World.alloc W _ = w1 at *
  refine wpSeq_wp rfl ?_
  unfold Oper.wp execOp
  go_simp
  refine wpSeq_wp rfl ?_
  unfold Oper.wp execOp
  go_simp
  refine (C1.out (.slice (some ⟨W.heap.size, 0, none⟩) 2 2) (.slice none 0 0) w1 ⟨s1, SA.nil _ _ _⟩).mono ?_
  rintro _ w2 ⟨v2, rfl, O2, b2⟩
  replace b2 := b1.trans (b2.mono b1.size)
  have s2 := O2.sb
  clear C1 s1 b1 O2
  go_simp
  refine wpSeq_yield (S := fun _ => True) (yieldsIf_move rfl _ rfl (.tuple #[v2, .int .i64 0]) rfl) trivial ?_
  simp only [AP]
  refine wpSeq_yield (S := fun _ => True) (v := v2) (Or.inl ⟨by rfl, fun w' hw' => by go_simp⟩) trivial ?_
  simp only [AP]
  refine wpSeq_yield (S := fun _ => True) (v := .int .i64 0) (Or.inl ⟨by rfl, fun w' hw' => by go_simp⟩) trivial ?_
  simp only [AP]
  refine wpSeq_yield (S := fun _ => True) (yieldsIf_assign rfl _ rfl (v2) rfl) trivial ?_
  simp only [AP]
  refine wpSeq_yield (S := fun _ => True) (yieldsIf_assign rfl _ rfl (.int .i64 0) rfl) trivial ?_
  simp only [AP]
  refine wpSeq_nil ?_
  refine aK _ _ ?_
  clear aK
  go_upto_region 2 with fail
  rename_i aK
  refine wp_region_seq ?_
  refine wpSeq_wp rfl ?_
  unfold Oper.wp execOp
  go_simp
  refine wpSeq_wp rfl ?_
  unfold Oper.wp execOp
  go_simp
  refine wpSeq_wp rfl ?_
  unfold Oper.wp execOp
  go_simp
  have b3 := (Below.refl w2.heap.size w2).alloc (Nat.le_refl _) (.cells #[.int .u64 5, .int .u64 7, .int .u64 2, .int .u64 2] 47)
  have s3 : SA (w2.alloc (.cells #[.int .u64 5, .int .u64 7, .int .u64 2, .int .u64 2] 47)) (.slice (some ⟨w2.heap.size, 0, none⟩) 2 2) [(5, 7), (2, 2)] := ⟨_, 2, rfl, Nat.le_refl _, Or.inr ⟨_, _, rfl, pa_two w2⟩⟩
  replace s2 := s2.below b3
  generalize World.alloc w2 _ = w3 at *
  refine wpSeq_wp rfl ?_
  unfold Oper.wp execOp
  go_simp
  refine wpSeq_wp rfl ?_
  unfold Oper.wp execOp
  go_simp
  refine (C2.out (.slice none 0 0) (.slice (some ⟨w2.heap.size, 0, none⟩) 2 2) w3 ⟨SB.nil _ _ _, s3⟩).mono ?_
  rintro _ w4 ⟨v4, rfl, O4, b4⟩
  replace b2 := b2.trans ((b3.trans (b4.mono b3.size)).mono b2.size)
  replace s2 := s2.below b4
  have s4 := O4.sb
  clear C2 s3 b3 b4 O4
  go_simp
  refine wpSeq_yield (S := fun _ => True) (yieldsIf_move rfl _ rfl (.tuple #[v4, .int .i64 0]) rfl) trivial ?_
  simp only [AP]
  refine wpSeq_yield (S := fun _ => True) (v := v4) (Or.inl ⟨by rfl, fun w' hw' => by go_simp⟩) trivial ?_
  simp only [AP]
  refine wpSeq_yield (S := fun _ => True) (v := .int .i64 0) (Or.inl ⟨by rfl, fun w' hw' => by go_simp⟩) trivial ?_
  simp only [AP]
  refine wpSeq_yield (S := fun _ => True) (yieldsIf_assign rfl _ rfl (v4) rfl) trivial ?_
  simp only [AP]
  refine wpSeq_yield (S := fun _ => True) (yieldsIf_assign rfl _ rfl (.int .i64 0) rfl) trivial ?_
  simp only [AP]
  refine wpSeq_nil ?_
  refine aK _ _ ?_
  clear aK
  go_upto_region 3 with fail
  rename_i aK
  refine wp_region_seq ?_
  refine wpSeq_yield (S := fun _ => True) (yieldsIf_move rfl _ rfl (.int .i64 0) rfl) trivial ?_
  simp only [AP]
  refine wpSeq_yield (S := fun _ => True) (v := .bool true) (Or.inl ⟨by rfl, fun w' hw' => by go_simp⟩) trivial ?_
  simp only [AP]
  refine wpSeq_yield (S := fun _ => True) (yieldsIf_move rfl _ rfl (.bool true) rfl) trivial ?_
  simp only [AP]
  refine wpSeq_yield (S := fun _ => True) (yieldsIf_move rfl _ rfl (.int .i64 0) rfl) trivial ?_
  simp only [AP]
  refine wpSeq_yield (S := fun _ => True) (v := .bool true) (Or.inl ⟨by rfl, fun w' hw' => by go_simp⟩) trivial ?_
  simp only [AP]
  refine wpSeq_yield (S := fun _ => True) (yieldsIf_pick rfl _ _ _ rfl true rfl (.bool true) rfl) trivial ?_
  simp only [AP]
  refine wpSeq_yield (S := fun _ => True) (yieldsIf_move rfl _ rfl (.bool true) rfl) trivial ?_
  simp only [AP]
  refine wpSeq_yield (S := fun _ => True) (yieldsIf_move rfl _ rfl (v2) rfl) trivial ?_
  simp only [AP]
  refine wpSeq_yield (S := fun w' => w' = w4) (yieldsIf_conv (S := fun w' => w' = w4) rfl _ rfl (v2) rfl [11, 4, 2, 97, 98] (fun w' h => h ▸ s2)) rfl ?_
  simp only [AP]
  refine wpSeq_yield (S := fun _ => True) (v := .bool true) (Or.inl ⟨by rfl, fun w' hw' => by (rw [strA]; go_simp)⟩) trivial ?_
  simp only [AP]
  refine wpSeq_yield (S := fun _ => True) (yieldsIf_pick rfl _ _ _ rfl true rfl (.bool true) rfl) trivial ?_
  simp only [AP]
  refine wpSeq_yield (S := fun _ => True) (yieldsIf_move rfl _ rfl (.bool true) rfl) trivial ?_
  simp only [AP]
  refine wpSeq_yield (S := fun _ => True) (yieldsIf_move rfl _ rfl (v4) rfl) trivial ?_
  simp only [AP]
  refine wpSeq_yield (S := fun w' => w' = w4) (yieldsIf_conv (S := fun w' => w' = w4) rfl _ rfl (v4) rfl [2, 7, 0, 1, 2, 1, 0] (fun w' h => h ▸ s4)) rfl ?_
  simp only [AP]
  refine wpSeq_yield (S := fun _ => True) (v := .bool true) (Or.inl ⟨by rfl, fun w' hw' => by (rw [strBB]; go_simp)⟩) trivial ?_
  simp only [AP]
  refine wpSeq_yield (S := fun _ => True) (yieldsIf_pick rfl _ _ _ rfl true rfl (.bool true) rfl) trivial ?_
  simp only [AP]
  refine wpSeq_yield (S := fun _ => True) (yieldsIf_assign rfl _ rfl (.bool true) rfl) trivial ?_
  simp only [Act.put, List.setIfInBounds_toArray, List.set_cons_zero]
  refine wpSeq_nil ?_
  refine aK _ _ ?_
  clear aK
  go_wp2
  go_ret
  exact ⟨rfl, b2⟩
end Go.Proofs.Ytdlhclakdllogaa
