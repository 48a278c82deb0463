/- The program's fill, key, whole: readers that take keys (printed by gen14/ei.py). The program's whole and ReadCert (printed by gen14/ej.py). The reference's Reader: Fail, Bytes, Byte, End; key (printed by gen14/em.py). The program's ReadCert (printed by gen14/ek.py). -/
import Derived.Test.YtegbnadnodlalaaGreatDoorE3c0E4a
import Derived.Laws.CopyOwn
namespace Go.Proofs.YtegbnadnodlalaaGreatDoor
open Go.RowKit
/-- All old blocks but two are as they were. -/
structure Two (x y : Nat) (w w' : World) : Prop where
 os : w'.os = w.os
 tape : w'.tape = w.tape
 output : w'.output = w.output
 size : w.heap.size ≤ w'.heap.size
 block : ∀ k, k < w.heap.size → k ≠ x → k ≠ y → w'.heap[k]? = w.heap[k]?
theorem Two.trans {x y : Nat} {a b c : World} (h : Two x y a b) (k : Two x y b c) : Two x y a c :=
 ⟨k.os.trans h.os, k.tape.trans h.tape, k.output.trans h.output, Nat.le_trans h.size k.size, fun i hi hx hy => (k.block i (Nat.lt_of_lt_of_le hi h.size) hx hy).trans (h.block i hi hx hy)⟩
theorem Two.of_x {x y : Nat} {w w' : World} (h : w.grownBy w' (some x)) : Two x y w w' := ⟨h.os, h.tape, h.output, h.size, fun k hk hx _ => h.block k hk (fun e => hx (Option.some.inj e))⟩
theorem Two.of_y {x y : Nat} {w w' : World} (h : w.grownBy w' (some y)) : Two x y w w' := ⟨h.os, h.tape, h.output, h.size, fun k hk _ hy => h.block k hk (fun e => hy (Option.some.inj e))⟩
theorem Two.below {x y B : Nat} {w0 w w' : World} (h : Below B w0 w) (k : Two x y w w') (hx : B ≤ x) (hy : B ≤ y) (hB : B ≤ w.heap.size) : Below B w0 w' :=
 ⟨k.os.trans h.os, k.tape.trans h.tape, k.output.trans h.output, Nat.le_trans h.size k.size, fun i hi => (k.block i (Nat.lt_of_lt_of_le hi hB) (by omega) (by omega)).trans (h.block i hi)⟩
theorem gb_tr {g : Nat} {a b c : World} (h : a.grownBy b (some g)) (k : b.grownBy c (some g)) : a.grownBy c (some g) := h.trans k
/-- A Reader beside which another block, behind it, has changed. -/
theorem RM.other {B g : Nat} {w w' : World} {p : Option Addr} {l : List Nat} {c : Nat} (h : RM B w p l c) (G : w.grownBy w' (some g)) (hg : B < g) : RM B w' p l c := by
 obtain ⟨g0, pb, cb, e, hB, K, S, ne, bb, ll⟩ := h
 subst hB
 have lt := K.lt
 refine ⟨B, pb, cb, e, rfl, (G.block B lt (fun e => by have := Option.some.inj e; omega)).trans K, ?_, ne, bb, ll⟩
 obtain ⟨q, d, e1, hc, h0 | ⟨gb, o, rfl, A⟩⟩ := S
 · exact ⟨q, d, e1, hc, Or.inl h0⟩
 ·
  simp only [Value.slice.injEq] at e1
  obtain ⟨rfl, _, rfl⟩ := e1
  have nb := ne _ rfl
  dsimp only at nb
  exact ⟨_, _, rfl, hc, Or.inr ⟨gb, o, rfl, A.of_block (G.block gb A.blk (fun e => by have := Option.some.inj e; omega))⟩⟩
theorem RM.lt {B : Nat} {w : World} {p : Option Addr} {l : List Nat} {c : Nat} (h : RM B w p l c) : B < w.heap.size := by
 obtain ⟨g0, pb, cb, e, hB, K, S, ne, bb, ll⟩ := h
 subst hB
 exact K.lt
theorem RM.by_ {B : Nat} {w : World} {p : Option Addr} {l : List Nat} {c : Nat} (h : RM B w p l c) : Bytes l ∧ l.length ≤ 1000000 := by
 obtain ⟨g0, pb, cb, e, hB, K, S, ne, bb, ll⟩ := h
 exact ⟨bb, ll⟩
/-- Bytes put into a row from a place on. -/
def putV (cs : Array Value) (off : Nat) (R : List Nat) : Array Value := (cs.toList.take off ++ (vals R ++ cs.toList.drop (off + R.length))).toArray
theorem wp_copy_any {o : Oper} {a : Act} {w : World} {K : Act → World → Prop} {Q : Exit → Act → World → Prop} (d s : Operand) (ho : o.op = .call { callee := .builtin .copy, args := #[d, s], argTypes := #[29, 29] })
  (g off dLen dCap : Nat) (hd : a.eval d = .slice (some ⟨g, off, none⟩) dLen dCap) (v : Value) (m : List Nat) (t : TypeId) (hs : a.eval s = v) (hm : SB w v m) (cur : Array Value) (hg : Blk w g t cur) (hml : m.length ≤ dLen) (hfit : off + dLen ≤ cur.size)
  (h : ∀ w', Blk w' g t (putV cur off m) → w.grownBy w' (some g) → K (a.put o.dst (goInt m.length)) w') : o.wp Tryz.prog a w K Q := by
 have hu := Tryz.underlying29
 have hsz : (Tryz.prog.info? 5).map (·.size) = some 1 := by kernel_rfl
 have id0 : w.grownBy w (some g) := ⟨rfl, rfl, rfl, Nat.le_refl _, fun _ _ _ => rfl⟩
 obtain ⟨p, c, rfl, hc, h0⟩ := hm
 by_cases e0 : m.length = 0
 ·
  have e1 := List.length_eq_zero_iff.1 e0
  subst e1
  have hrun := run_copy_none (P := Tryz.prog) w 29 29 o.type 5 (some ⟨g, off, none⟩) p dLen dCap ([] : List Nat).length c hu hsz (Nat.min_eq_left (Nat.zero_le _))
  have ep : putV cur off [] = cur := by
   unfold putV
   simp [vals]
  have hK := h w (by rw [ep]; exact hg) id0
  unfold Oper.wp
  simp only [execOp, ho, resolve, invoke, builtin, Sem.run_bind, Sem.run_pure, Result.andThen_ok, List.map_toArray, List.map_cons, List.map_nil, hd, hs, hrun]
  exact hK
 ·
  rcases h0 with h1 | ⟨g1, o1, rfl, hA⟩
  ·
   rw [h1] at e0
   exact absurd rfl e0
  ·
   have hrun := run_copy_row (P := Tryz.prog) w 29 29 o.type 5 g off dLen dCap ⟨g1, o1, none⟩ m.length c cur t (vals m) hu hsz hg (by rw [vals_length]; exact (Nat.min_eq_left hml).symm) (cells_at hA) (by rw [vals_length]; omega) (one_at m)
   have hK := h (w.setRow g (putV cur off m)) (Blk.row hg _) ⟨rfl, rfl, rfl, by simp [World.setRow], fun k _ hk => setRow_other w g k _ (fun e => hk (by rw [e]))⟩
   unfold Oper.wp
   simp only [execOp, ho, resolve, invoke, builtin, Sem.run_bind, Sem.run_pure, Result.andThen_ok, List.map_toArray, List.map_cons, List.map_nil, hd, hs, hrun]
   rw [show (cur.toList.take off ++ vals m ++ cur.toList.drop (off + (vals m).length)).toArray = putV cur off m by unfold putV; rw [List.append_assoc, vals_length], vals_length]
   exact hK
theorem tookS_len (n : Nat) (l : List Nat) (c : Nat) : (tookS n l c).1.length ≤ n := by
 unfold tookS
 split
 · exact Nat.zero_le _
 ·
  split
  · exact Nat.zero_le _
  ·
   rw [List.length_take]
   omega
theorem info_reader : (Tryz.prog.info? 59).map (·.size) = some 1 := by kernel_rfl
set_option maxHeartbeats 8000000 in
set_option maxRecDepth 100000 in
theorem fill_m (B : Nat) (p : Option Addr) (l : List Nat) (c g off n cap : Nat) (cs : Array Value) (ty : TypeId) (W : World) (h : RM B W p l c) (hg : B < g) (K : Blk W g ty cs) (hn : off + n ≤ cs.size) (n1 : n ≤ 1000) :
  Calls Tryz.prog 39 #[.agg #[.pointer p], .slice (some ⟨g, off, none⟩) n cap] W fun e w' => (∃ v, e = .returned v) ∧ RM B w' p (tookS n l c).2.1 (tookS n l c).2.2 ∧ Blk w' g ty (putV cs off (tookS n l c).1) ∧ Two B g W w' := by
 have BC := Lib.hid (fun (w : World) (h : RM B w p l c) => bytes_m B p l n c w h (Nat.le_of_lt h.lt))
 have RL := tookS_len n l c
 generalize tookS n l c = T at *
 have HG := Lib.hid (And.intro hg (And.intro K.lt (And.intro hn RL)))
 have H := Lib.hid h
 have wu : IntKind.u64.wrap (n : Int) = (n : Int) := by rw [IntKind.wrap_u64]; omega
 clear h hg hn RL
 go_enter Tryz.func39, Tryz.ntmps39
 go_upto_region 0 with fail
 rename_i aK
 refine wp_region_seq ?_
 refine wpSeq_wp rfl ?_
 unfold Oper.wp execOp
 go_simp
 refine wpSeq_nil ?_
 refine aK _ _ ?_
 clear aK
 have b0 := (Below.refl W.heap.size W).alloc (Nat.le_refl _) (.cells #[.pointer p] 59)
 have K0 := Blk.new W 59 #[.pointer p]
 have H1 := Lib.hid (H.out.below b0)
 have K1 := K.below' b0
 generalize World.alloc W _ = w1 at *
 have c0 : w1.cell? ⟨W.heap.size, 0, none⟩ = some (.pointer p) := K0.cell 0
 go_upto_region 1 with fail
 rename_i aK
 refine wp_region_seq ?_
 refine smv (.slice (some ⟨g, off, none⟩) n cap) rfl rfl rfl ?_
 simp only [AP]
 refine svl (.pointer (some ⟨W.heap.size, 0, none⟩)) (.inl ⟨by rfl, fun w' _ => by go_simp⟩) ?_
 simp only [AP]
 refine wpSeq_yield (S := fun w' => w' = w1) (v := .pointer p) (Or.inl ⟨by rfl, fun w' hw' => by (rw [hw']; go_simp)⟩) rfl ?_
 simp only [AP]
 refine smv (.slice (some ⟨g, off, none⟩) n cap) rfl rfl rfl ?_
 simp only [AP]
 refine svl (.int .i64 (n : Int)) (.inl ⟨by rfl, fun w' _ => by go_simp⟩) ?_
 simp only [AP]
 refine svl (.int .u64 (n : Int)) (.inl ⟨by rfl, fun w' _ => by go_simp⟩) ?_
 simp only [AP]
 refine wpSeq_wp rfl ?_
 unfold Oper.wp execOp
 go_simp
 refine (BC.out w1 H1.out).mono ?_
 rintro _ w2 ⟨⟨v, rfl, O2⟩, R2, G2⟩
 have K2 : Blk w2 g ty cs := (G2.block g K1.lt (fun e => by have := Option.some.inj e; have := HG.out.1; omega)).trans K1
 clear BC H1 K1 c0 K0
 go_simp
 refine wpSeq_wp rfl (wp_copy_any _ _ rfl g off n cap rfl v _ ty rfl O2.sb cs K2 HG.out.2.2.2 HG.out.2.2.1 ?_)
 intro w3 K3 G3
 replace R2 := R2.other G3 HG.out.1
 clear K2 O2
 refine wpSeq_nil ?_
 go_wp2
 refine bodyPost_end (results_none rfl _ _ _) rfl ?_
 exact ⟨⟨_, rfl⟩, R2, K3, ((Two.of_x (gb_below b0 _)).trans (Two.of_x G2)).trans (Two.of_y G3)⟩
def padN (n : Nat) (R : List Nat) : List Nat := R ++ List.replicate (n - R.length) 0
theorem padN_length {n : Nat} {R : List Nat} (h : R.length ≤ n) : (padN n R).length = n := by
 unfold padN
 rw [List.length_append, List.length_replicate]
 omega
theorem padN_full {n : Nat} {R : List Nat} (h : R.length = n) : padN n R = R := by
 unfold padN
 rw [h, Nat.sub_self]
 simp
theorem put_noughts (n : Nat) (R : List Nat) (h : R.length ≤ n) : putV (vals (List.replicate n 0)).toArray 0 R = (vals (padN n R)).toArray := by
 unfold putV padN
 rw [List.take_zero, List.nil_append, vals_append, Nat.zero_add]
 congr 2
 unfold vals
 rw [List.map_replicate, List.drop_replicate, List.map_replicate]
theorem grown_one (w : World) (g : Nat) (cs : Array Value) : w.grownBy (w.setRow g cs) (some g) :=
 ⟨rfl, rfl, rfl, by rw [setRow_size]; exact Nat.le_refl _, fun k _ hne => setRow_other w g k cs (fun e => hne (by rw [e]))⟩
set_option maxHeartbeats 8000000 in
set_option maxRecDepth 100000 in
theorem key_m (B : Nat) (p : Option Addr) (l : List Nat) (c : Nat) (W : World) (h : RM B W p l c) :
  Calls Tryz.prog 18 #[.agg #[.pointer p]] W fun e w' => e = .returned (.agg (Iv .u8 (NI (padN 32 (tookS 32 l c).1)))) ∧ RM B w' p (tookS 32 l c).2.1 (tookS 32 l c).2.2 ∧ W.grownBy w' (some B) := by
 have FC := Lib.hid (fun (g : Nat) (w : World) (h : RM B w p l c) (hg : B < g) (K : Blk w g 23 (vals (List.replicate 32 0)).toArray) => fill_m B p l c g 0 32 32 _ 23 w h hg K (by rw [List.size_toArray, vals_length, List.length_replicate]; decide) (by decide))
 have RL := tookS_len 32 l c
 have PN := Lib.hid (put_noughts 32 (tookS 32 l c).1 RL)
 have LP := padN_length RL
 generalize tookS 32 l c = T at *
 have HB := Lib.hid h.lt
 have H := Lib.hid h
 clear h RL
 go_enter Tryz.func18, Tryz.ntmps18
 go_upto_region 0 with fail
 rename_i aK
 refine wp_region_seq ?_
 refine wpSeq_wp rfl ?_
 unfold Oper.wp execOp
 go_simp
 refine wpSeq_wp rfl ?_
 unfold Oper.wp execOp
 go_simp
 refine wpSeq_nil ?_
 refine aK _ _ ?_
 clear aK
 generalize hW : World.alloc (World.alloc W _) _ = w1
 obtain ⟨Z, hZ, K0, KR, b0⟩ : ∃ Z : Array Value, Z.size = 32 ∧ Blk w1 W.heap.size 59 #[.pointer p] ∧ Blk w1 (W.heap.size + 1) 23 Z ∧ Below W.heap.size W w1 := by
  rw [← hW]
  exact ⟨_, rfl, (Blk.new _ _ _).alloc _, Blk.new' (by simp) _ _, ((Below.refl _ _).alloc (Nat.le_refl _) _).alloc (by simp) _⟩
 clear hW
 go_upto_region 1 with fail
 rename_i aK
 refine wp_region_seq ?_
 refine wpSeq_wp rfl ?_
 unfold Oper.wp execOp
 go_simp
 generalize hW : World.alloc w1 _ = w2
 obtain ⟨KK, b3⟩ : Blk w2 w1.heap.size 23 (vals (List.replicate 32 0)).toArray ∧ Below w1.heap.size w1 w2 := by
  rw [← hW]
  exact ⟨Blk.new _ _ _, (Below.refl _ _).alloc (Nat.le_refl _) _⟩
 clear hW
 have NG := Lib.hid (show W.heap.size + 1 < w1.heap.size from KR.lt)
 replace K0 := K0.below' b3
 replace KR := KR.below' b3
 replace b0 := b0.trans (b3.mono b0.size)
 clear b3
 obtain ⟨g3, hg3⟩ : ∃ g, w1.heap.size = g := ⟨_, rfl⟩
 rw [hg3] at KK NG ⊢
 clear hg3
 refine wpSeq_nil ?_
 refine (by assumption : ∀ (a : Act) (w : World), _ → _) _ _ ?_
 have bd := below_drew (Below.refl w2.heap.size w2)
 replace K0 := K0.below' bd
 replace KR := KR.below' bd
 replace KK := KK.below' bd
 replace b0 := b0.trans (bd.mono b0.size)
 clear bd
 go_upto_region 2 with fail
 rename_i aK
 refine wp_region_S (S := fun w' => Blk w' W.heap.size 59 #[.pointer p]) (by kernel_rfl) ?_
 generalize w2.drew = w3 at *
 have hS := K0
 refine wpAnyS_takeL 0 (v := .agg #[.pointer p]) rfl (by kernel_rfl) (by kernel_rfl) (by kernel_rfl) (fun _ _ _ H => H) (show YieldsIf _ _ _ _ (.agg #[.pointer p]) _ from yieldsIf_row_wanted (S := fun w' => Blk w' W.heap.size 59 #[.pointer p]) rfl 59 _ rfl W.heap.size rfl 59 _ _ (fun _ h => h) Tryz.underlying59 rfl info_reader) hS ?_
 simp only [AP]
 refine wpAnyS_takeL 1 (v := .slice (some ⟨g3, 0, none⟩) 32 32) rfl (by kernel_rfl) (by kernel_rfl) (by kernel_rfl) (fun _ _ _ H => H) (Or.inl ⟨by rfl, fun w' hw' => by (go_simp)⟩) hS ?_
 simp only [AP]
 clear hS
 refine gstep 2 rfl rfl (by kernel_rfl) ?_
 unfold Oper.wp execOp
 go_simp
 refine (FC.out g3 w3 (H.out.below b0) (by have := NG.out; have := HB.out; omega) KK).mono ?_
 rintro _ w4 ⟨⟨vx, rfl⟩, RM4, KK4, T4⟩
 rw [PN.out] at KK4
 have TW := (Two.of_x (gb_below b0 (some B))).trans T4
 replace K0 : Blk w4 W.heap.size 59 #[.pointer p] := (T4.block _ K0.lt (by have := HB.out; omega) (by have := NG.out; omega)).trans K0
 replace KR : Blk w4 (W.heap.size + 1) 23 Z := (T4.block _ KR.lt (by have := HB.out; omega) (by have := NG.out; omega)).trans KR
 refine ⟨K0, ?_⟩
 clear FC T4 b0 KK
 refine wpAnyS_done (by kernel_rfl) ?_ _
 refine aK _ _ ?_
 clear aK
 go_upto_region 3 with fail
 rename_i aK
 refine wp_region_seq ?_
 refine wpSeq_yield (S := fun w' => w' = w4) (show YieldsIf _ _ _ _ (.agg (vals (padN 32 T.1)).toArray) _ from yieldsIf_row_wanted (S := fun w' => w' = w4) rfl 23 _ rfl g3 rfl 23 _ _ (fun _ h => h ▸ KK4) Tryz.underlying23 rfl (by rw [List.size_toArray, vals_length, LP]; kernel_rfl)) rfl ?_
 simp only [AP]
 refine wpSeq_store_row rfl 23 _ _ rfl (W.heap.size + 1) (vals (padN 32 T.1)).toArray rfl rfl _ _ KR (by rw [List.size_toArray, vals_length, LP]; kernel_rfl) (by rw [hZ, List.size_toArray, vals_length, LP]) (all_oneCell_toArray (vals_one' _)) ?_
 simp only [Act.put]
 refine wpSeq_nil ?_
 refine (by assumption : ∀ (a : Act) (w : World), _ → _) _ _ ?_
 have RM5 := RM4.other (grown_one w4 (W.heap.size + 1) (vals (padN 32 T.1)).toArray) (by have := HB.out; omega)
 have G5 : W.grownBy (w4.setRow (W.heap.size + 1) (vals (padN 32 T.1)).toArray) (some B) := ⟨TW.os, TW.tape, TW.output, by rw [setRow_size]; exact TW.size, fun k hk hne => (setRow_other w4 _ k _ (by omega)).trans (TW.block k hk (fun e => hne (by rw [e])) (by have := NG.out; omega))⟩
 go_wp2
 rw [vals_iv]
 exact bodyPost_ret (results_cell_row rfl _ _ _ 23 _ (0, 0) _ rfl (Blk.row KR _) Tryz.underlying23 rfl (by rw [List.size_toArray, vals_length, LP]; kernel_rfl)) rfl ⟨rfl, RM5, G5⟩
end Go.Proofs.YtegbnadnodlalaaGreatDoor
namespace Go.Proofs.YtegbnadnodlalaaGreatDoor
open Go.RowKit
def finS (l : List Nat) (c : Nat) : Nat := if l ≠ [] ∧ c = 0 then 4 else c
theorem took_zero (n : Nat) (l : List Nat) (c : Nat) (h : (tookS n l c).2.2 = 0) : c = 0 ∧ (tookS n l c).1.length = n := by
 unfold tookS at h ⊢
 by_cases hc : c = 0
 ·
  subst hc
  rw [if_neg (by decide)] at h ⊢
  by_cases hl : l.length < n
  ·
   rw [if_pos hl] at h
   cases h
  ·
   rw [if_neg hl]
   exact ⟨rfl, by dsimp only; rw [List.length_take]; omega⟩
 ·
  rw [if_pos hc] at h
  exact absurd h hc
theorem finS_zero {l : List Nat} {c : Nat} (h : finS l c = 0) : c = 0 := by
 unfold finS at h
 split at h
 · cases h
 · exact h
theorem endS_fin (l : List Nat) (c : Nat) : endS l c = finS l c := by
 unfold endS finS failS
 by_cases hl : l = []
 · rw [if_pos hl, if_neg (fun e => e.1 hl)]
 ·
  rw [if_neg hl]
  by_cases hc : c = 0
  · rw [if_pos hc, if_pos ⟨hl, hc⟩]
  · rw [if_neg hc, if_neg (fun e => hc e.2)]
end Go.Proofs.YtegbnadnodlalaaGreatDoor
namespace Go.Proofs.YtegbnadnodlalaaGreatDoor
open Go.RowKit
/-- Where bytes lie, if there are any: below B0. -/
def Lo (B0 : Nat) (l : List Nat) (p : Option Addr) : Prop := l = [] ∨ ∀ a, p = some a → a.block < B0
theorem Lo.head {B0 : Nat} {l : List Nat} {p : Option Addr} (h : Lo B0 l p) (n : Nat) : Lo B0 (l.take n) p := h.imp (fun e => by rw [e]; simp) id
theorem Lo.tail {B0 : Nat} {l : List Nat} {p : Option Addr} (h : Lo B0 l p) (c n : Nat) : Lo B0 (l.drop n) (tailP p c n) := h.imp (fun e => by rw [e]; exact List.drop_nil) (fun h => tailP_block h)
theorem SB.keepL {w w' : World} {p : Option Addr} {n c B0 : Nat} {l : List Nat} (h : SB w (.slice p n c) l) (lo : Lo B0 l p) (hb : ∀ k, k < w.heap.size → k < B0 → w'.heap[k]? = w.heap[k]?) : SB w' (.slice p n c) l := by
 obtain ⟨q, d, e, hc, h0 | ⟨gb, o, rfl, A⟩⟩ := h
 · exact ⟨q, d, e, hc, Or.inl h0⟩
 ·
  simp only [Value.slice.injEq] at e
  obtain ⟨rfl, rfl, rfl⟩ := e
  rcases lo with lo | lo
  · exact ⟨_, _, rfl, hc, Or.inl lo⟩
  ·
   have nb := lo _ rfl
   dsimp only at nb
   exact ⟨_, _, rfl, hc, Or.inr ⟨gb, o, rfl, A.of_block (hb gb A.blk nb)⟩⟩
theorem SB.farL {w : World} {g B0 : Nat} {p : Option Addr} {n c : Nat} {l : List Nat} (h : SB w (.slice p n c) l) (lo : Lo B0 l p) (hg : B0 ≤ g) (i : Nat) (v : Value) : SB (w.setCell ⟨g, i, none⟩ v) (.slice p n c) l :=
 h.keepL lo fun k _ h0 => heap_setCell_other w _ k v (by dsimp only; omega)
theorem SB.lo {w : World} {p : Option Addr} {n c : Nat} {l : List Nat} (h : SB w (.slice p n c) l) : Lo w.heap.size l p := by
 obtain ⟨q, d, e, hc, h0 | ⟨gb, o, rfl, A⟩⟩ := h
 · exact Or.inl h0
 ·
  simp only [Value.slice.injEq] at e
  obtain ⟨rfl, _, _⟩ := e
  exact Or.inr fun a ha => by cases ha; exact A.blk
/-- The reference's Reader in block B: l is left, c the fault; its bytes lie below B0. -/
structure RX (B0 B : Nat) (w : World) (p : Option Addr) (l : List Nat) (c : Nat) : Prop where
 ex : ∃ pb cb, p = some ⟨B, 0, none⟩ ∧ Blk w B 70 #[.slice pb l.length cb, .int .i64 ((c : Nat) : Int)] ∧ SB w (.slice pb l.length cb) l ∧ Lo B0 l pb
 lo : B0 ≤ B
 small : l.length ≤ 1000000
theorem RX.lt {B0 B : Nat} {w : World} {p : Option Addr} {l : List Nat} {c : Nat} (h : RX B0 B w p l c) : B < w.heap.size := by
 obtain ⟨⟨pb, cb, e, K, S, ne⟩, lo, sm⟩ := h
 exact K.lt
theorem RX.below {B0 B : Nat} {w w' : World} {p : Option Addr} {l : List Nat} {c : Nat} (h : RX B0 B w p l c) (b : Below w.heap.size w w') : RX B0 B w' p l c := by
 obtain ⟨⟨pb, cb, e, K, S, ne⟩, lo, sm⟩ := h
 exact ⟨⟨pb, cb, e, K.below' b, S.below b, ne⟩, lo, sm⟩
theorem RX.other {B0 B g : Nat} {w w' : World} {p : Option Addr} {l : List Nat} {c : Nat} (h : RX B0 B w p l c) (G : w.grownBy w' (some g)) (hg : B0 ≤ g) (hne : B ≠ g) : RX B0 B w' p l c := by
 obtain ⟨⟨pb, cb, e, K, S, ne⟩, lo, sm⟩ := h
 exact ⟨⟨pb, cb, e, (G.block B K.lt (fun e => hne (Option.some.inj e))).trans K, S.keepL ne (fun k hk h0 => G.block k hk (fun e => by have := Option.some.inj e; omega)), ne⟩, lo, sm⟩
theorem RX.fault {B0 B : Nat} {w : World} {p : Option Addr} {l : List Nat} {c : Nat} (h : RX B0 B w p l c) (d : Nat) : RX B0 B (w.setCell ⟨B, 1, none⟩ (.int .i64 ((d : Nat) : Int))) p l d := by
 obtain ⟨⟨pb, cb, e, K, S, ne⟩, lo, sm⟩ := h
 exact ⟨⟨pb, cb, e, K.set 1 _, S.farL ne lo 1 _, ne⟩, lo, sm⟩
theorem RX.cell {B0 B : Nat} {w : World} {p : Option Addr} {l : List Nat} {c : Nat} (h : RX B0 B w p l c) : p = some ⟨B, 0, none⟩ ∧ w.cell? ⟨B, 1, none⟩ = some (.int .i64 (c : Int)) ∧ w.frozen? ⟨B, 1, none⟩ = false := by
 obtain ⟨⟨pb, cb, e, K, S, ne⟩, lo, sm⟩ := h
 exact ⟨e, K.cell 1, K.frozen 1⟩
set_option maxHeartbeats 8000000 in
set_option maxRecDepth 100000 in
theorem rfail_m (B0 B : Nat) (p : Option Addr) (l : List Nat) (c d : Nat) (W : World) (h : RX B0 B W p l c) : Calls Tryz.prog 27 #[.pointer p, .int .i64 (d : Int)] W fun e w' => (∃ v, e = .returned v) ∧ RX B0 B w' p l (if c = 0 then d else c) ∧ W.grownBy w' (some B) := by
 have h0 := Lib.hid h
 obtain ⟨rfl, c1, f1⟩ := h.cell
 clear h
 by_cases hc : c = 0
 ·
  rw [if_pos hc]
  subst hc
  go_enter Tryz.func27, Tryz.ntmps27
  go_wp2
  refine bodyPost_end (results_none rfl _ _ _) rfl ?_
  exact ⟨⟨_, rfl⟩, h0.out.fault d, gb_set rfl W 1 _⟩
 ·
  rw [if_neg hc]
  have hc' : ¬ (c : Int) = 0 := by omega
  go_enter Tryz.func27, Tryz.ntmps27
  go_wp2
  refine bodyPost_end (results_none rfl _ _ _) rfl ?_
  exact ⟨⟨_, rfl⟩, h0.out, World.grownBy.refl _ _⟩
set_option maxHeartbeats 8000000 in
set_option maxRecDepth 100000 in
theorem rbytes_m (B0 B : Nat) (p : Option Addr) (l : List Nat) (n c : Nat) (W : World) (h : RX B0 B W p l c) : Calls Tryz.prog 45 #[.pointer p, .int .u64 (n : Int)] W fun e w' => (∃ v, e = .returned v ∧ SB w' v (tookS n l c).1 ∧ ∀ q m k, v = .slice q m k → Lo B0 (tookS n l c).1 q) ∧ RX B0 B w' p (tookS n l c).2.1 (tookS n l c).2.2 ∧ W.grownBy w' (some B) := by
 unfold tookS
 have h0 := Lib.hid h
 obtain ⟨rfl, c1, f1⟩ := h.cell
 by_cases hc : c = 0
 ·
  subst hc
  rw [if_neg (by decide)]
  obtain ⟨⟨pb, cb, _, K, S, ne⟩, lo, sm⟩ := h
  have cc0 : W.cell? ⟨B, 0, none⟩ = some (.slice pb l.length cb) := K.cell 0
  by_cases hl : l.length < n
  ·
   rw [if_pos hl]
   have g1 : (l.length : Int) < (n : Int) := by omega
   have wl : IntKind.u64.wrap (l.length : Int) = (l.length : Int) := by rw [IntKind.wrap_u64]; omega
   clear K S ne lo sm hl
   generalize l.length = ln at *
   go_enter Tryz.func45, Tryz.ntmps45
   go_wp2
   go_ret
   exact ⟨⟨_, rfl, SB.nil _ _ _, fun q m k e => Or.inl rfl⟩, h0.out.fault 3, gb_set rfl W 1 _⟩
  ·
   rw [if_neg hl]
   have g1 : ¬ (l.length : Int) < (n : Int) := by omega
   have wl : IntKind.u64.wrap (l.length : Int) = (l.length : Int) := by rw [IntKind.wrap_u64]; omega
   have lc := S.len.2
   have f0 := K.frozen 0
   have hn : n ≤ l.length := by omega
   have dl : (l.drop n).length = l.length - n := List.length_drop
   have R3 : RX B0 B (W.setCell ⟨B, 0, none⟩ (.slice (tailP pb cb n) (l.length - n) (cb - n))) (some ⟨B, 0, none⟩) (l.drop n) 0 := by
    refine ⟨⟨tailP pb cb n, cb - n, rfl, ?_, ?_, ne.tail cb n⟩, lo, by omega⟩
    ·
     rw [dl]
     exact K.set 0 _
    ·
     rw [dl]
     exact (S.tail n hn).farL (ne.tail cb n) lo 0 _
   have O3 : SB (W.setCell ⟨B, 0, none⟩ (.slice (tailP pb cb n) (l.length - n) (cb - n))) (.slice pb n cb) (l.take n) := (S.head n hn).farL (ne.head n) lo 0 _
   have A := Lib.hid (And.intro R3 (And.intro O3 ne))
   have G := Lib.hid (gb_set (B := B) rfl W 0 (.slice (tailP pb cb n) (l.length - n) (cb - n)))
   have HN := Lib.hid (And.intro hn lc)
   clear K S ne lo sm hl R3 O3 dl lc hn h0
   go_enter Tryz.func45, Tryz.ntmps45
   go_upto_region 6 with fail
   rename_i aK
   refine wp_region_seq ?_
   refine smv (.pointer (some ⟨B, 0, none⟩)) rfl rfl rfl ?_
   simp only [AP]
   refine svl (.pointer (some ⟨B, 0, none⟩)) (.inl ⟨by rfl, fun w' _ => by go_simp⟩) ?_
   simp only [AP]
   refine svl (.pointer (some ⟨B, 0, none⟩)) (.inl ⟨by rfl, fun w' _ => by go_simp⟩) ?_
   simp only [AP]
   refine wpSeq_yield (S := fun w' => w' = W) (v := .slice pb l.length cb) (Or.inl ⟨by rfl, fun w' hw' => by (rw [hw']; go_simp)⟩) rfl ?_
   simp only [AP]
   refine smv (.int .u64 (n : Int)) rfl rfl rfl ?_
   simp only [AP]
   refine wpSeq_yield (S := fun _ => True) (yieldsIf_headK rfl _ _ .u64 rfl pb l.length cb n rfl rfl (by have := HN.out; omega)) trivial ?_
   simp only [AP]
   refine sas (.slice pb n cb) rfl rfl rfl ?_
   simp only [AP]
   refine wpSeq_nil ?_
   refine (by assumption : ∀ (a : Act) (w : World), _ → _) _ _ ?_
   go_upto_region 7 with fail
   rename_i aK
   refine wp_region_seq ?_
   refine smv (.pointer (some ⟨B, 0, none⟩)) rfl rfl rfl ?_
   simp only [AP]
   refine smv (.pointer (some ⟨B, 0, none⟩)) rfl rfl rfl ?_
   simp only [AP]
   refine svl (.pointer (some ⟨B, 0, none⟩)) (.inl ⟨by rfl, fun w' _ => by go_simp⟩) ?_
   simp only [AP]
   refine svl (.pointer (some ⟨B, 0, none⟩)) (.inl ⟨by rfl, fun w' _ => by go_simp⟩) ?_
   simp only [AP]
   refine wpSeq_yield (S := fun w' => w' = W) (v := .slice pb l.length cb) (Or.inl ⟨by rfl, fun w' hw' => by (rw [hw']; go_simp)⟩) rfl ?_
   simp only [AP]
   refine smv (.int .u64 (n : Int)) rfl rfl rfl ?_
   simp only [AP]
   refine wpSeq_yield (S := fun _ => True) (yieldsIf_tailK rfl _ _ .u64 rfl pb l.length cb n rfl rfl HN.out.1 HN.out.2) trivial ?_
   simp only [AP]
   refine svl (.pointer (some ⟨B, 0, none⟩)) (.inl ⟨by rfl, fun w' _ => by go_simp⟩) ?_
   simp only [AP]
   refine svl (.pointer (some ⟨B, 0, none⟩)) (.inl ⟨by rfl, fun w' _ => by go_simp⟩) ?_
   simp only [AP]
   refine wpSeq_wp rfl ?_
   unfold Oper.wp execOp
   go_simp
   refine wpSeq_nil ?_
   refine (by assumption : ∀ (a : Act) (w : World), _ → _) _ _ ?_
   clear cc0 f0
   go_wp2
   go_ret
   exact ⟨⟨_, rfl, A.out.2.1, fun q m k e => by cases e; exact A.out.2.2.head n⟩, A.out.1, G.out⟩
 ·
  rw [if_pos hc]
  have hc' : ¬ (c : Int) = 0 := by omega
  clear h
  go_enter Tryz.func45, Tryz.ntmps45
  go_wp2
  go_ret
  exact ⟨⟨_, rfl, SB.nil _ _ _, fun q m k e => Or.inl rfl⟩, h0.out, World.grownBy.refl _ _⟩
set_option maxHeartbeats 8000000 in
set_option maxRecDepth 100000 in
theorem rbyte_m (B0 B : Nat) (p : Option Addr) (l : List Nat) (c : Nat) (W : World) (h : RX B0 B W p l c) : Calls Tryz.prog 26 #[.pointer p] W fun e w' => e = .returned (.int .u8 (((tookS 1 l c).1.getD 0 0 : Nat) : Int)) ∧ RX B0 B w' p (tookS 1 l c).2.1 (tookS 1 l c).2.2 ∧ W.grownBy w' (some B) := by
 have T := Lib.hid (rbytes_m B0 B p l 1 c W h)
 obtain ⟨y, hy⟩ : ∃ y, (tookS 1 l c).1.getD 0 0 = y := ⟨_, rfl⟩
 rw [hy]
 have HY := Lib.hid hy
 clear h hy
 go_enter Tryz.func26, Tryz.ntmps26
 go_wp2_with fail
 refine T.out.mono ?_
 rintro _ w1 ⟨⟨v1, rfl, s1, _⟩, h1, b1⟩
 have h1 := Lib.hid h1
 clear T
 generalize (tookS 1 l c).1 = t at *
 obtain ⟨q, d, hv, hd, h0 | ⟨g, o, rfl, A⟩⟩ := s1
 ·
  subst hv
  subst h0
  go_wp2
  go_ret
  exact ⟨by rw [← HY.out]; rfl, h1.out, b1⟩
 ·
  cases t with
  | nil =>
   subst hv
   go_wp2
   go_ret
   exact ⟨by rw [← HY.out]; rfl, h1.out, b1⟩
  | cons x r =>
   subst hv
   have cx := A.cell 0 (by simp)
   rw [Nat.add_zero] at cx
   replace cx : w1.cell? ⟨g, o, none⟩ = some (.int .u8 (x : Int)) := cx
   obtain ⟨m, hm⟩ : ∃ m, (x :: r).length = m := ⟨_, rfl⟩
   have m0 : ¬ (m : Int) = 0 := by simp only [List.length_cons] at hm; omega
   have m1 : (0 : Int) < (m : Int) := by omega
   have m2 : ¬ m = 0 := by omega
   have m3 : 0 < m := by omega
   rw [hm]
   clear A hd hm
   go_wp2
   go_ret
   exact ⟨by rw [← HY.out]; rfl, h1.out, b1⟩
set_option maxHeartbeats 8000000 in
set_option maxRecDepth 100000 in
theorem rend_m (B0 B : Nat) (p : Option Addr) (l : List Nat) (c : Nat) (W : World) (h : RX B0 B W p l c) : Calls Tryz.prog 28 #[.pointer p] W fun e w' => e = .returned (.int .i64 (finS l c : Int)) ∧ W.grownBy w' (some B) := by
 have FC := Lib.hid (rfail_m B0 B p l c 4 W h)
 unfold finS
 obtain ⟨rfl, c1, f1⟩ := h.cell
 obtain ⟨⟨pb, cb, _, K, S, ne⟩, lo, sm⟩ := h
 have cc0 : W.cell? ⟨B, 0, none⟩ = some (.slice pb l.length cb) := K.cell 0
 clear K S ne lo sm
 by_cases h0 : l = []
 ·
  rw [if_neg (fun e => e.1 h0)]
  subst h0
  have cc1 : W.cell? ⟨B, 0, none⟩ = some (.slice pb 0 cb) := cc0
  clear FC cc0
  go_enter Tryz.func28, Tryz.ntmps28
  go_wp2
  go_ret
  exact ⟨rfl, World.grownBy.refl _ _⟩
 ·
  have e : (if l ≠ [] ∧ c = 0 then 4 else c) = (if c = 0 then 4 else c) := by
   by_cases hc : c = 0
   · rw [if_pos ⟨h0, hc⟩, if_pos hc]
   · rw [if_neg (fun e => hc e.2), if_neg hc]
  rw [e]
  have lp : (0 : Int) < (l.length : Int) := by
   have := List.length_pos_iff.2 h0
   omega
  generalize (if c = 0 then 4 else c) = d at *
  generalize l.length = ln at *
  clear e h0
  go_enter Tryz.func28, Tryz.ntmps28
  go_wp2_with fail
  refine FC.out.mono ?_
  rintro _ w1 ⟨⟨v, rfl⟩, h1, b1⟩
  obtain ⟨_, c2, f2⟩ := h1.cell
  clear FC h1 c1 f1 cc0
  go_wp2
  go_ret
  exact ⟨rfl, b1⟩
end Go.Proofs.YtegbnadnodlalaaGreatDoor
namespace Go.Proofs.YtegbnadnodlalaaGreatDoor
open Go.RowKit
/-- What ReadCert comes to, step by step. -/
structure RC (l : List Nat) (y : Nat) (l1 : List Nat) (c1 c2 : Nat) (T3 T4 T5 : List Nat × List Nat × Nat) (f : Nat) : Prop where
 hy : (tookS 1 l 0).1.getD 0 0 = y
 h1 : (tookS 1 l 0).2.1 = l1
 hc : (tookS 1 l 0).2.2 = c1
 h2 : (if y < 1 ∨ 32 < y then failS c1 2 else c1) = c2
 h3 : tookS y l1 c2 = T3
 h4 : tookS 32 T3.2.1 T3.2.2 = T4
 h5 : tookS 64 T4.2.1 T4.2.2 = T5
 hf' : endS T5.2.1 T5.2.2 = f
theorem RC.mk' (l : List Nat) : ∃ y l1 c1 c2 T3 T4 T5 f, RC l y l1 c1 c2 T3 T4 T5 f := ⟨_, _, _, _, _, _, _, _, ⟨rfl, rfl, rfl, rfl, rfl, rfl, rfl, rfl⟩⟩
theorem RC.is {l : List Nat} {y : Nat} {l1 : List Nat} {c1 c2 : Nat} {T3 T4 T5 : List Nat × List Nat × Nat} {f : Nat} (h : RC l y l1 c1 c2 T3 T4 T5 f) : readC l = if f ≠ 0 then (f, [], z32, z64) else (0, T3.1, T4.1, T5.1) := by
 obtain ⟨hy, h1, hc, h2, h3, h4, h5, hf⟩ := h
 subst hy h1 hc h2 h3 h4 h5 hf
 rfl
theorem RC.hf {l : List Nat} {y : Nat} {l1 : List Nat} {c1 c2 : Nat} {T3 T4 T5 : List Nat × List Nat × Nat} {f : Nat} (h : RC l y l1 c1 c2 T3 T4 T5 f) : finS T5.2.1 T5.2.2 = f := (endS_fin _ _).symm.trans h.hf'
theorem RC.fits {l : List Nat} {y : Nat} {l1 : List Nat} {c1 c2 : Nat} {T3 T4 T5 : List Nat × List Nat × Nat} {f : Nat} (h : RC l y l1 c1 c2 T3 T4 T5 f) : (if 1 ≤ y ∧ y ≤ 32 then c1 else if c1 = 0 then 2 else c1) = c2 := by
 rw [← h.h2]
 unfold failS
 by_cases hh : 1 ≤ y ∧ y ≤ 32
 ·
  rw [if_pos hh]
  exact (if_neg (show ¬ (y < 1 ∨ 32 < y) by omega)).symm
 ·
  rw [if_neg hh]
  exact (if_pos (show y < 1 ∨ 32 < y by omega)).symm
theorem RC.full {l : List Nat} {y : Nat} {l1 : List Nat} {c1 c2 : Nat} {T3 T4 T5 : List Nat × List Nat × Nat} {f : Nat} (h : RC l y l1 c1 c2 T3 T4 T5 f) (h0 : f = 0) : T4.1.length = 32 ∧ T5.1.length = 64 := by
 have a := finS_zero (h.hf.trans h0)
 obtain ⟨b1, b2⟩ := took_zero 64 T4.2.1 T4.2.2 (by rw [h.h5]; exact a)
 obtain ⟨c1, c2⟩ := took_zero 32 T3.2.1 T3.2.2 (by rw [h.h4]; exact b1)
 rw [h.h5] at b2
 rw [h.h4] at c2
 exact ⟨c2, b2⟩
theorem RC.ans {l : List Nat} {y : Nat} {l1 : List Nat} {c1 c2 : Nat} {T3 T4 T5 : List Nat × List Nat × Nat} {f : Nat} (h : RC l y l1 c1 c2 T3 T4 T5 f) (XV : Array Value) (hX : (if f = 0 then cerV (strB T3.1) (padN 32 T4.1) (padN 64 T5.1) else cerV ⟨#[]⟩ z32 z64) = XV) :
  Value.tuple #[.agg XV, .int .i64 (f : Int)] = .tuple #[.agg (cerV (strB (readC l).2.1) (readC l).2.2.1 (readC l).2.2.2), .int .i64 ((readC l).1 : Int)] := by
 rw [h.is, ← hX]
 by_cases f0 : f = 0
 · rw [if_pos f0, if_neg (fun e => e f0), padN_full (h.full f0).1, padN_full (h.full f0).2, f0]
 ·
  rw [if_neg f0, if_pos f0]
  rfl
end Go.Proofs.YtegbnadnodlalaaGreatDoor
