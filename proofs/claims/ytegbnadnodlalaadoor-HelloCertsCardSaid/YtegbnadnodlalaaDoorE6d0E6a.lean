/- The program's Cert (printed by gen14/el.py). The program's fill, key, whole: readers that take keys (printed by gen14/ei.py). -/
import Derived.Test.YtegbnadnodlalaaDoorE3c0E4a
import Derived.Laws.CopyOwn
namespace Go.Proofs.YtegbnadnodlalaaDoor
open Go.RowKit
theorem cer_flat (t : ByteArray) (k s : List Nat) : [t.size :: bL t, k, s].flatten = cerB (bL t) k s := by
  unfold cerB
  rw [bL_length]
  simp
set_option maxHeartbeats 8000000 in
set_option maxRecDepth 100000 in
theorem cert_c (t : ByteArray) (k s : List Nat) (lk : k.length = 32) (ls : s.length = 64) (W : World) :
    Calls Tryd.prog 10 #[.agg (cerV t k s)] W fun e w' => ∃ v, e = .returned (.tuple #[v, .int .i64 ((cerF (bL t) k s).1 : Int)]) ∧ OwL W.heap.size w' v (cerF (bL t) k s).2 ∧ Below W.heap.size W w' := by
  obtain ⟨fb, hfb⟩ : ∃ b, decide (1 ≤ t.size ∧ t.size ≤ 32) = b := ⟨_, rfl⟩
  have FT := Lib.hid (fun (w : World) => fits_c t.size w fb hfb)
  have KN := Lib.hid (fun (w : World) (h : Blk w W.heap.size 37 (cerV t k s)) => cert_name h)
  have KR := Lib.hid (fun (w : World) (h : Blk w W.heap.size 37 (cerV t k s)) => show SB w (.slice (some ⟨W.heap.size, 1, none⟩) 32 32) k from SB.of_ba' (ba_range (cert_key h) h.lt) lk.symm (by omega))
  have KS := Lib.hid (fun (w : World) (h : Blk w W.heap.size 37 (cerV t k s)) => show SB w (.slice (some ⟨W.heap.size, 33, none⟩) 64 64) s from SB.of_ba' (ba_range (cert_sig lk h) h.lt) ls.symm (by omega))
  have LL := Lib.hid (And.intro lk ls)
  generalize hCV : cerV t k s = CV at *
  clear hCV lk ls
  obtain ⟨FE, hFE⟩ : ∃ x, cerF (bL t) k s = x := ⟨_, rfl⟩
  rw [hFE]
  have HFE := Lib.hid hFE
  have HFB := Lib.hid hfb
  clear hFE hfb
  go_enter Tryd.func10, Tryd.ntmps10
  go_upto_region 0 with fail
  rename_i aK
  refine wp_region_seq ?_
  refine wpSeq_wp rfl ?_
  unfold Oper.wp execOp
  go_simp
  refine wpSeq_yield (S := fun _ => True) (yieldsIf_assign rfl _ rfl (.slice none 0 0) rfl) trivial ?_
  simp only [AP]
  refine wpSeq_yield (S := fun _ => True) (yieldsIf_assign rfl _ rfl (.int .i64 0) rfl) trivial ?_
  simp only [AP]
  refine wpSeq_nil ?_
  refine aK _ _ ?_
  clear aK
  have K0 := Blk.new W 37 CV
  have b0 := (Below.refl W.heap.size W).alloc (Nat.le_refl _) (.cells CV 37)
  generalize World.alloc W _ = w1 at *
  have c0 := KN.out w1 K0
  cases fb with
  | false =>
    have hb := of_decide_eq_false HFB.out
    have fe : FE = (2, []) := by
      rw [← HFE.out]
      unfold cerF
      rw [bL_length, if_pos (by omega)]
    subst fe
    clear hb KN KR KS LL HFE
    go_upto_region 1 with fail
    rename_i aK
    refine wp_region_seq ?_
    refine wpSeq_yield (S := fun _ => True) (v := .pointer (some ⟨W.heap.size, 0, none⟩)) (Or.inl ⟨by rfl, fun w' hw' => by go_simp⟩) trivial ?_
    simp only [AP]
    refine wpSeq_yield (S := fun w' => w' = w1) (v := .string t) (Or.inl ⟨by rfl, fun w' hw' => by (rw [hw']; go_simp)⟩) rfl ?_
    simp only [AP]
    refine wpSeq_yield (S := fun _ => True) (v := .int .i64 (t.size : Int)) (Or.inl ⟨by rfl, fun w' hw' => by go_simp⟩) trivial ?_
    simp only [AP]
    refine wpSeq_wp rfl ?_
    unfold Oper.wp execOp
    go_simp
    refine (FT.out w1).mono ?_
    rintro _ w2 ⟨rfl, hw⟩
    subst w2
    clear FT
    go_simp
    refine wpSeq_yield (S := fun _ => True) (v := .bool true) (Or.inl ⟨by rfl, fun w' hw' => by go_simp⟩) trivial ?_
    simp only [AP]
    refine wpSeq_nil ?_
    refine (by assumption : ∀ (a : Act) (w : World), _ → _) _ _ ?_
    go_wp2
    refine bodyPost_ret (results_tmp2 rfl _ _ _) rfl ?_
    exact ⟨_, rfl, OwL.nil _ _, b0⟩
  | true =>
    have hb := of_decide_eq_true HFB.out
    have fe : FE = (0, msgB 11 (cerB (bL t) k s)) := by
      rw [← HFE.out]
      unfold cerF
      rw [bL_length, if_neg (by omega)]
    subst fe
    have ZC := Lib.hid (fun (p : Option Addr) (n c : Nat) (w : World) (h : SB w (.slice p n c) (bL t)) => sized_c (bL t) p n c (by have := h.len.1; rw [bL_length] at this; omega) w h)
    have cl : (cerB (bL t) k s).length = 1 + (t.size + (32 + 64)) := by
      unfold cerB
      rw [List.length_cons, List.length_append, List.length_append, bL_length, LL.out.1, LL.out.2]
      omega
    have MC := fun (p : Option Addr) (n c : Nat) (w : World) (h : SP w (.slice p n c) [t.size :: bL t, k, s]) => message_c 11 [t.size :: bL t, k, s] p n c (by rw [cer_flat, cl]; omega) w h (Nat.le_of_ble_eq_true rfl)
    rw [cer_flat] at MC
    have MC := Lib.hid MC
    have ts := Lib.hid (bL_length t)
    clear hb HFE cl
    go_upto_region 1 with fail
    rename_i aK
    refine wp_region_seq ?_
    refine wpSeq_yield (S := fun _ => True) (v := .pointer (some ⟨W.heap.size, 0, none⟩)) (Or.inl ⟨by rfl, fun w' hw' => by go_simp⟩) trivial ?_
    simp only [AP]
    refine wpSeq_yield (S := fun w' => w' = w1) (v := .string t) (Or.inl ⟨by rfl, fun w' hw' => by (rw [hw']; go_simp)⟩) rfl ?_
    simp only [AP]
    refine wpSeq_yield (S := fun _ => True) (v := .int .i64 (t.size : Int)) (Or.inl ⟨by rfl, fun w' hw' => by go_simp⟩) trivial ?_
    simp only [AP]
    refine wpSeq_wp rfl ?_
    unfold Oper.wp execOp
    go_simp
    refine (FT.out w1).mono ?_
    rintro _ w2 ⟨rfl, hw⟩
    subst w2
    clear FT c0
    go_simp
    refine wpSeq_yield (S := fun _ => True) (v := .bool false) (Or.inl ⟨by rfl, fun w' hw' => by go_simp⟩) trivial ?_
    simp only [AP]
    refine wpSeq_nil ?_
    refine (by assumption : ∀ (a : Act) (w : World), _ → _) _ _ ?_
    have bd := below_drew (Below.refl w1.heap.size w1)
    replace K0 := K0.below' bd
    replace b0 := b0.trans (bd.mono b0.size)
    clear bd
    go_upto_region 3 with fail
    rename_i aK
    refine wp_region_S (S := fun w' => Blk w' W.heap.size 37 CV) (by kernel_rfl) ?_
    generalize w1.drew = w2 at *
    have hS := K0
    refine wpAnyS_takeL 0 (v := .pointer (some ⟨W.heap.size, 0, none⟩)) rfl (by kernel_rfl) (by kernel_rfl) (by kernel_rfl) (fun _ _ _ H => H) (Or.inl ⟨by rfl, fun w' hw' => by (go_simp)⟩) hS ?_
    simp only [AP]
    refine wpAnyS_takeL 1 (v := .string t) rfl (by kernel_rfl) (by kernel_rfl) (by kernel_rfl) (fun _ _ _ H => H) (Or.inl ⟨by rfl, fun w' hw' => by (have cc := KN.out w' hw'; go_simp)⟩) hS ?_
    simp only [AP]
    refine wpAnyS_takeL 4 (v := .pointer (some ⟨W.heap.size, 1, none⟩)) rfl (by kernel_rfl) (by kernel_rfl) (by kernel_rfl) (fun _ _ _ H => H) (Or.inl ⟨by rfl, fun w' hw' => by (go_simp)⟩) hS ?_
    simp only [AP]
    refine wpAnyS_takeL 5 (v := .slice (some ⟨W.heap.size, 1, none⟩) 32 32) rfl (by kernel_rfl) (by kernel_rfl) (by kernel_rfl) (fun _ _ _ H => H) (Or.inl ⟨by rfl, fun w' hw' => by (go_simp)⟩) hS ?_
    simp only [AP]
    refine wpAnyS_takeL 6 (v := .pointer (some ⟨W.heap.size, 33, none⟩)) rfl (by kernel_rfl) (by kernel_rfl) (by kernel_rfl) (fun _ _ _ H => H) (Or.inl ⟨by rfl, fun w' hw' => by (go_simp)⟩) hS ?_
    simp only [AP]
    refine wpAnyS_takeL 7 (v := .slice (some ⟨W.heap.size, 33, none⟩) 64 64) rfl (by kernel_rfl) (by kernel_rfl) (by kernel_rfl) (fun _ _ _ H => H) (Or.inl ⟨by rfl, fun w' hw' => by (go_simp)⟩) hS ?_
    simp only [AP]
    clear hS KN
    refine gstep 2 rfl rfl (by kernel_rfl) ?_
    refine wp_conv_str _ rfl t rfl ?_
    intro v9 w3 S9 b9
    replace K0 := K0.below' b9
    replace b0 := b0.trans (b9.mono b0.size)
    simp only [AP]
    refine ⟨K0, ?_⟩
    clear b9
    obtain ⟨p9, c9, hv⟩ := S9.shape
    rw [ts.out] at hv
    subst hv
    refine gstep 3 rfl rfl (by kernel_rfl) ?_
    unfold Oper.wp execOp
    go_simp
    refine (ZC.out _ _ _ w3 S9).mono ?_
    rintro _ w4 ⟨v12, rfl, O12, b12⟩
    replace K0 := K0.below' b12
    replace b0 := b0.trans (b12.mono b0.size)
    refine ⟨K0, ?_⟩
    clear b12 ZC S9
    refine gstep 8 rfl rfl (by kernel_rfl) ?_
    refine wq_three _ _ _ rfl _ _ _ rfl rfl rfl _ _ _ O12.sb (KR.out w4 K0) (KS.out w4 K0) ?_
    intro g5 ww SL b5
    simp only [AP]
    replace K0 := K0.below' b5
    replace b0 := b0.trans (b5.mono b0.size)
    refine ⟨K0, ?_⟩
    clear b5 O12 KR KS
    refine gstep 9 rfl rfl (by kernel_rfl) ?_
    unfold Oper.wp execOp
    go_simp
    refine (MC.out _ _ _ ww SL).mono ?_
    rintro _ wz ⟨vz, rfl, Oz, bz⟩
    replace K0 := K0.below' bz
    replace Oz := Oz.mono b0.size
    replace b0 := b0.trans (bz.mono b0.size)
    have hS := K0
    refine ⟨hS, ?_⟩
    clear MC bz SL K0
    refine wpAnyS_takeL 10 (v := vz) rfl (by kernel_rfl) (by kernel_rfl) (by kernel_rfl) (fun _ _ _ H => H) (yieldsIf_assign rfl _ rfl (vz) rfl) hS ?_
    simp only [AP]
    refine wpAnyS_takeL 11 (v := .int .i64 0) rfl (by kernel_rfl) (by kernel_rfl) (by kernel_rfl) (fun _ _ _ H => H) (yieldsIf_assign rfl _ rfl (.int .i64 0) rfl) hS ?_
    simp only [AP]
    refine wpAnyS_done (by kernel_rfl) ?_ _
    refine aK _ _ ?_
    clear aK
    go_wp2
    refine bodyPost_ret (results_tmp2 rfl _ _ _) rfl ?_
    exact ⟨_, rfl, Oz, b0⟩
end Go.Proofs.YtegbnadnodlalaaDoor
namespace Go.Proofs.YtegbnadnodlalaaDoor
open Go.RowKit
/-- All old blocks but two are as they were. -/
structure Two (x y : Nat) (w w' : World) : Prop where
  os : w'.os = w.os
  tape : w'.tape = w.tape
  output : w'.output = w.output
  size : w.heap.size ≤ w'.heap.size
  block : ∀ k, k < w.heap.size → k ≠ x → k ≠ y → w'.heap[k]? = w.heap[k]?
theorem Two.trans {x y : Nat} {a b c : World} (h : Two x y a b) (k : Two x y b c) : Two x y a c :=
  ⟨k.os.trans h.os, k.tape.trans h.tape, k.output.trans h.output, Nat.le_trans h.size k.size, fun i hi hx hy => (k.block i (Nat.lt_of_lt_of_le hi h.size) hx hy).trans (h.block i hi hx hy)⟩
theorem Two.of_x {x y : Nat} {w w' : World} (h : w.grownBy w' (some x)) : Two x y w w' := ⟨h.os, h.tape, h.output, h.size, fun k hk hx _ => h.block k hk (fun e => hx (Option.some.inj e))⟩
theorem Two.of_y {x y : Nat} {w w' : World} (h : w.grownBy w' (some y)) : Two x y w w' := ⟨h.os, h.tape, h.output, h.size, fun k hk _ hy => h.block k hk (fun e => hy (Option.some.inj e))⟩
theorem Two.below {x y B : Nat} {w0 w w' : World} (h : Below B w0 w) (k : Two x y w w') (hx : B ≤ x) (hy : B ≤ y) (hB : B ≤ w.heap.size) : Below B w0 w' :=
  ⟨k.os.trans h.os, k.tape.trans h.tape, k.output.trans h.output, Nat.le_trans h.size k.size, fun i hi => (k.block i (Nat.lt_of_lt_of_le hi hB) (by omega) (by omega)).trans (h.block i hi)⟩
theorem gb_tr {g : Nat} {a b c : World} (h : a.grownBy b (some g)) (k : b.grownBy c (some g)) : a.grownBy c (some g) := h.trans k
/-- A Reader beside which another block, behind it, has changed. -/
theorem RM.other {B g : Nat} {w w' : World} {p : Option Addr} {l : List Nat} {c : Nat} (h : RM B w p l c) (G : w.grownBy w' (some g)) (hg : B < g) : RM B w' p l c := by
  obtain ⟨g0, pb, cb, e, hB, K, S, ne, bb, ll⟩ := h
  subst hB
  have lt := K.lt
  refine ⟨B, pb, cb, e, rfl, (G.block B lt (fun e => by have := Option.some.inj e; omega)).trans K, ?_, ne, bb, ll⟩
  obtain ⟨q, d, e1, hc, h0 | ⟨gb, o, rfl, A⟩⟩ := S
  · exact ⟨q, d, e1, hc, Or.inl h0⟩
  · simp only [Value.slice.injEq] at e1
    obtain ⟨rfl, _, rfl⟩ := e1
    have nb := ne _ rfl
    dsimp only at nb
    exact ⟨_, _, rfl, hc, Or.inr ⟨gb, o, rfl, A.of_block (G.block gb A.blk (fun e => by have := Option.some.inj e; omega))⟩⟩
theorem RM.lt {B : Nat} {w : World} {p : Option Addr} {l : List Nat} {c : Nat} (h : RM B w p l c) : B < w.heap.size := by
  obtain ⟨g0, pb, cb, e, hB, K, S, ne, bb, ll⟩ := h
  subst hB
  exact K.lt
theorem RM.by_ {B : Nat} {w : World} {p : Option Addr} {l : List Nat} {c : Nat} (h : RM B w p l c) : Bytes l ∧ l.length ≤ 1000000 := by
  obtain ⟨g0, pb, cb, e, hB, K, S, ne, bb, ll⟩ := h
  exact ⟨bb, ll⟩
/-- Bytes put into a row from a place on. -/
def putV (cs : Array Value) (off : Nat) (R : List Nat) : Array Value := (cs.toList.take off ++ (vals R ++ cs.toList.drop (off + R.length))).toArray
theorem wp_copy_any {o : Oper} {a : Act} {w : World} {K : Act → World → Prop} {Q : Exit → Act → World → Prop} (d s : Operand) (ho : o.op = .call { callee := .builtin .copy, args := #[d, s], argTypes := #[22, 22] })
    (g off dLen dCap : Nat) (hd : a.eval d = .slice (some ⟨g, off, none⟩) dLen dCap) (v : Value) (m : List Nat) (t : TypeId) (hs : a.eval s = v) (hm : SB w v m) (cur : Array Value) (hg : Blk w g t cur) (hml : m.length ≤ dLen) (hfit : off + dLen ≤ cur.size)
    (h : ∀ w', Blk w' g t (putV cur off m) → w.grownBy w' (some g) → K (a.put o.dst (goInt m.length)) w') : o.wp Tryd.prog a w K Q := by
  have hu := Tryd.underlying22
  have hsz : (Tryd.prog.info? 5).map (·.size) = some 1 := by kernel_rfl
  have id0 : w.grownBy w (some g) := ⟨rfl, rfl, rfl, Nat.le_refl _, fun _ _ _ => rfl⟩
  obtain ⟨p, c, rfl, hc, h0⟩ := hm
  by_cases e0 : m.length = 0
  · have e1 := List.length_eq_zero_iff.1 e0
    subst e1
    have hrun := run_copy_none (P := Tryd.prog) w 22 22 o.type 5 (some ⟨g, off, none⟩) p dLen dCap ([] : List Nat).length c hu hsz (Nat.min_eq_left (Nat.zero_le _))
    have ep : putV cur off [] = cur := by
      unfold putV
      simp [vals]
    have hK := h w (by rw [ep]; exact hg) id0
    unfold Oper.wp
    simp only [execOp, ho, resolve, invoke, builtin, Sem.run_bind, Sem.run_pure, Result.andThen_ok, List.map_toArray, List.map_cons, List.map_nil, hd, hs, hrun]
    exact hK
  · rcases h0 with h1 | ⟨g1, o1, rfl, hA⟩
    · rw [h1] at e0
      exact absurd rfl e0
    · have hrun := run_copy_row (P := Tryd.prog) w 22 22 o.type 5 g off dLen dCap ⟨g1, o1, none⟩ m.length c cur t (vals m) hu hsz hg (by rw [vals_length]; exact (Nat.min_eq_left hml).symm) (cells_at hA) (by rw [vals_length]; omega) (one_at m)
      have hK := h (w.setRow g (putV cur off m)) (Blk.row hg _) ⟨rfl, rfl, rfl, by simp [World.setRow], fun k _ hk => setRow_other w g k _ (fun e => hk (by rw [e]))⟩
      unfold Oper.wp
      simp only [execOp, ho, resolve, invoke, builtin, Sem.run_bind, Sem.run_pure, Result.andThen_ok, List.map_toArray, List.map_cons, List.map_nil, hd, hs, hrun]
      rw [show (cur.toList.take off ++ vals m ++ cur.toList.drop (off + (vals m).length)).toArray = putV cur off m by unfold putV; rw [List.append_assoc, vals_length], vals_length]
      exact hK
theorem tookS_len (n : Nat) (l : List Nat) (c : Nat) : (tookS n l c).1.length ≤ n := by
  unfold tookS
  split
  · exact Nat.zero_le _
  · split
    · exact Nat.zero_le _
    · rw [List.length_take]
      omega
theorem info_reader : (Tryd.prog.info? 57).map (·.size) = some 1 := by kernel_rfl
set_option maxHeartbeats 8000000 in
set_option maxRecDepth 100000 in
theorem fill_m (B : Nat) (p : Option Addr) (l : List Nat) (c g off n cap : Nat) (cs : Array Value) (ty : TypeId) (W : World) (h : RM B W p l c) (hg : B < g) (K : Blk W g ty cs) (hn : off + n ≤ cs.size) (n1 : n ≤ 1000) :
    Calls Tryd.prog 26 #[.agg #[.pointer p], .slice (some ⟨g, off, none⟩) n cap] W fun e w' => (∃ v, e = .returned v) ∧ RM B w' p (tookS n l c).2.1 (tookS n l c).2.2 ∧ Blk w' g ty (putV cs off (tookS n l c).1) ∧ Two B g W w' := by
  have BC := Lib.hid (fun (w : World) (h : RM B w p l c) => bytes_m B p l n c w h (Nat.le_of_lt h.lt))
  have RL := tookS_len n l c
  generalize tookS n l c = T at *
  have HG := Lib.hid (And.intro hg (And.intro K.lt (And.intro hn RL)))
  have H := Lib.hid h
  have wu : IntKind.u64.wrap (n : Int) = (n : Int) := by rw [IntKind.wrap_u64]; omega
  clear h hg hn RL
  go_enter Tryd.func26, Tryd.ntmps26
  go_upto_region 0 with fail
  rename_i aK
  refine wp_region_seq ?_
  refine wpSeq_wp rfl ?_
  unfold Oper.wp execOp
  go_simp
  refine wpSeq_nil ?_
  refine aK _ _ ?_
  clear aK
  have b0 := (Below.refl W.heap.size W).alloc (Nat.le_refl _) (.cells #[.pointer p] 57)
  have K0 := Blk.new W 57 #[.pointer p]
  have H1 := Lib.hid (H.out.below b0)
  have K1 := K.below' b0
  generalize World.alloc W _ = w1 at *
  have c0 : w1.cell? ⟨W.heap.size, 0, none⟩ = some (.pointer p) := K0.cell 0
  go_upto_region 1 with fail
  rename_i aK
  refine wp_region_seq ?_
  refine wpSeq_yield (S := fun _ => True) (yieldsIf_move rfl _ rfl (.slice (some ⟨g, off, none⟩) n cap) rfl) trivial ?_
  simp only [AP]
  refine wpSeq_yield (S := fun _ => True) (v := .pointer (some ⟨W.heap.size, 0, none⟩)) (Or.inl ⟨by rfl, fun w' hw' => by go_simp⟩) trivial ?_
  simp only [AP]
  refine wpSeq_yield (S := fun w' => w' = w1) (v := .pointer p) (Or.inl ⟨by rfl, fun w' hw' => by (rw [hw']; go_simp)⟩) rfl ?_
  simp only [AP]
  refine wpSeq_yield (S := fun _ => True) (yieldsIf_move rfl _ rfl (.slice (some ⟨g, off, none⟩) n cap) rfl) trivial ?_
  simp only [AP]
  refine wpSeq_yield (S := fun _ => True) (v := .int .i64 (n : Int)) (Or.inl ⟨by rfl, fun w' hw' => by go_simp⟩) trivial ?_
  simp only [AP]
  refine wpSeq_yield (S := fun _ => True) (v := .int .u64 (n : Int)) (Or.inl ⟨by rfl, fun w' hw' => by go_simp⟩) trivial ?_
  simp only [AP]
  refine wpSeq_wp rfl ?_
  unfold Oper.wp execOp
  go_simp
  refine (BC.out w1 H1.out).mono ?_
  rintro _ w2 ⟨⟨v, rfl, O2⟩, R2, G2⟩
  have K2 : Blk w2 g ty cs := (G2.block g K1.lt (fun e => by have := Option.some.inj e; have := HG.out.1; omega)).trans K1
  clear BC H1 K1 c0 K0
  go_simp
  refine wpSeq_wp rfl (wp_copy_any _ _ rfl g off n cap rfl v _ ty rfl O2.sb cs K2 HG.out.2.2.2 HG.out.2.2.1 ?_)
  intro w3 K3 G3
  replace R2 := R2.other G3 HG.out.1
  clear K2 O2
  refine wpSeq_nil ?_
  go_wp2
  refine bodyPost_end (results_none rfl _ _ _) rfl ?_
  exact ⟨⟨_, rfl⟩, R2, K3, ((Two.of_x (gb_below b0 _)).trans (Two.of_x G2)).trans (Two.of_y G3)⟩
def padN (n : Nat) (R : List Nat) : List Nat := R ++ List.replicate (n - R.length) 0
theorem padN_length {n : Nat} {R : List Nat} (h : R.length ≤ n) : (padN n R).length = n := by
  unfold padN
  rw [List.length_append, List.length_replicate]
  omega
theorem padN_full {n : Nat} {R : List Nat} (h : R.length = n) : padN n R = R := by
  unfold padN
  rw [h, Nat.sub_self]
  simp
theorem put_noughts (n : Nat) (R : List Nat) (h : R.length ≤ n) : putV (vals (List.replicate n 0)).toArray 0 R = (vals (padN n R)).toArray := by
  unfold putV padN
  rw [List.take_zero, List.nil_append, vals_append, Nat.zero_add]
  congr 2
  unfold vals
  rw [List.map_replicate, List.drop_replicate, List.map_replicate]
theorem grown_one (w : World) (g : Nat) (cs : Array Value) : w.grownBy (w.setRow g cs) (some g) :=
  ⟨rfl, rfl, rfl, by rw [setRow_size]; exact Nat.le_refl _, fun k _ hne => setRow_other w g k cs (fun e => hne (by rw [e]))⟩
set_option maxHeartbeats 8000000 in
set_option maxRecDepth 100000 in
theorem key_m (B : Nat) (p : Option Addr) (l : List Nat) (c : Nat) (W : World) (h : RM B W p l c) :
    Calls Tryd.prog 25 #[.agg #[.pointer p]] W fun e w' => e = .returned (.agg (Iv .u8 (NI (padN 32 (tookS 32 l c).1)))) ∧ RM B w' p (tookS 32 l c).2.1 (tookS 32 l c).2.2 ∧ W.grownBy w' (some B) := by
  have FC := Lib.hid (fun (g : Nat) (w : World) (h : RM B w p l c) (hg : B < g) (K : Blk w g 34 (vals (List.replicate 32 0)).toArray) => fill_m B p l c g 0 32 32 _ 34 w h hg K (by rw [List.size_toArray, vals_length, List.length_replicate]; decide) (by decide))
  have RL := tookS_len 32 l c
  have PN := Lib.hid (put_noughts 32 (tookS 32 l c).1 RL)
  have LP := padN_length RL
  generalize tookS 32 l c = T at *
  have HB := Lib.hid h.lt
  have H := Lib.hid h
  clear h RL
  go_enter Tryd.func25, Tryd.ntmps25
  go_upto_region 0 with fail
  rename_i aK
  refine wp_region_seq ?_
  refine wpSeq_wp rfl ?_
  unfold Oper.wp execOp
  go_simp
  refine wpSeq_wp rfl ?_
  unfold Oper.wp execOp
  go_simp
  refine wpSeq_nil ?_
  refine aK _ _ ?_
  clear aK
  generalize hW : World.alloc (World.alloc W _) _ = w1
  obtain ⟨Z, hZ, K0, KR, b0⟩ : ∃ Z : Array Value, Z.size = 32 ∧ Blk w1 W.heap.size 57 #[.pointer p] ∧ Blk w1 (W.heap.size + 1) 34 Z ∧ Below W.heap.size W w1 := by
    rw [← hW]
    exact ⟨_, rfl, (Blk.new _ _ _).alloc _, Blk.new' (by simp) _ _, ((Below.refl _ _).alloc (Nat.le_refl _) _).alloc (by simp) _⟩
  clear hW
  go_upto_region 1 with fail
  rename_i aK
  refine wp_region_seq ?_
  refine wpSeq_wp rfl ?_
  unfold Oper.wp execOp
  go_simp
  generalize hW : World.alloc w1 _ = w2
  obtain ⟨KK, b3⟩ : Blk w2 w1.heap.size 34 (vals (List.replicate 32 0)).toArray ∧ Below w1.heap.size w1 w2 := by
    rw [← hW]
    exact ⟨Blk.new _ _ _, (Below.refl _ _).alloc (Nat.le_refl _) _⟩
  clear hW
  have NG := Lib.hid (show W.heap.size + 1 < w1.heap.size from KR.lt)
  replace K0 := K0.below' b3
  replace KR := KR.below' b3
  replace b0 := b0.trans (b3.mono b0.size)
  clear b3
  obtain ⟨g3, hg3⟩ : ∃ g, w1.heap.size = g := ⟨_, rfl⟩
  rw [hg3] at KK NG ⊢
  clear hg3
  refine wpSeq_nil ?_
  refine (by assumption : ∀ (a : Act) (w : World), _ → _) _ _ ?_
  have bd := below_drew (Below.refl w2.heap.size w2)
  replace K0 := K0.below' bd
  replace KR := KR.below' bd
  replace KK := KK.below' bd
  replace b0 := b0.trans (bd.mono b0.size)
  clear bd
  go_upto_region 2 with fail
  rename_i aK
  refine wp_region_S (S := fun w' => Blk w' W.heap.size 57 #[.pointer p]) (by kernel_rfl) ?_
  generalize w2.drew = w3 at *
  have hS := K0
  refine wpAnyS_takeL 0 (v := .agg #[.pointer p]) rfl (by kernel_rfl) (by kernel_rfl) (by kernel_rfl) (fun _ _ _ H => H) (show YieldsIf _ _ _ _ (.agg #[.pointer p]) _ from yieldsIf_row_wanted (S := fun w' => Blk w' W.heap.size 57 #[.pointer p]) rfl 57 _ rfl W.heap.size rfl 57 _ _ (fun _ h => h) Tryd.underlying57 rfl info_reader) hS ?_
  simp only [AP]
  refine wpAnyS_takeL 1 (v := .slice (some ⟨g3, 0, none⟩) 32 32) rfl (by kernel_rfl) (by kernel_rfl) (by kernel_rfl) (fun _ _ _ H => H) (Or.inl ⟨by rfl, fun w' hw' => by (go_simp)⟩) hS ?_
  simp only [AP]
  clear hS
  refine gstep 2 rfl rfl (by kernel_rfl) ?_
  unfold Oper.wp execOp
  go_simp
  refine (FC.out g3 w3 (H.out.below b0) (by have := NG.out; have := HB.out; omega) KK).mono ?_
  rintro _ w4 ⟨⟨vx, rfl⟩, RM4, KK4, T4⟩
  rw [PN.out] at KK4
  have TW := (Two.of_x (gb_below b0 (some B))).trans T4
  replace K0 : Blk w4 W.heap.size 57 #[.pointer p] := (T4.block _ K0.lt (by have := HB.out; omega) (by have := NG.out; omega)).trans K0
  replace KR : Blk w4 (W.heap.size + 1) 34 Z := (T4.block _ KR.lt (by have := HB.out; omega) (by have := NG.out; omega)).trans KR
  refine ⟨K0, ?_⟩
  clear FC T4 b0 KK
  refine wpAnyS_done (by kernel_rfl) ?_ _
  refine aK _ _ ?_
  clear aK
  go_upto_region 3 with fail
  rename_i aK
  refine wp_region_seq ?_
  refine wpSeq_yield (S := fun w' => w' = w4) (show YieldsIf _ _ _ _ (.agg (vals (padN 32 T.1)).toArray) _ from yieldsIf_row_wanted (S := fun w' => w' = w4) rfl 34 _ rfl g3 rfl 34 _ _ (fun _ h => h ▸ KK4) Tryd.underlying34 rfl (by rw [List.size_toArray, vals_length, LP]; kernel_rfl)) rfl ?_
  simp only [AP]
  refine wpSeq_store_row rfl 34 _ _ rfl (W.heap.size + 1) (vals (padN 32 T.1)).toArray rfl rfl _ _ KR (by rw [List.size_toArray, vals_length, LP]; kernel_rfl) (by rw [hZ, List.size_toArray, vals_length, LP]) (all_oneCell_toArray (vals_one' _)) ?_
  simp only [Act.put]
  refine wpSeq_nil ?_
  refine (by assumption : ∀ (a : Act) (w : World), _ → _) _ _ ?_
  have RM5 := RM4.other (grown_one w4 (W.heap.size + 1) (vals (padN 32 T.1)).toArray) (by have := HB.out; omega)
  have G5 : W.grownBy (w4.setRow (W.heap.size + 1) (vals (padN 32 T.1)).toArray) (some B) := ⟨TW.os, TW.tape, TW.output, by rw [setRow_size]; exact TW.size, fun k hk hne => (setRow_other w4 _ k _ (by omega)).trans (TW.block k hk (fun e => hne (by rw [e])) (by have := NG.out; omega))⟩
  go_wp2
  rw [vals_iv]
  exact bodyPost_ret (results_cell_row rfl _ _ _ 34 _ (0, 0) _ rfl (Blk.row KR _) Tryd.underlying34 rfl (by rw [List.size_toArray, vals_length, LP]; kernel_rfl)) rfl ⟨rfl, RM5, G5⟩
end Go.Proofs.YtegbnadnodlalaaDoor
