/- The program's fits, sized, message, Message (printed by gen14/eb.py). The program's copies of bytes; sizes and rooms of short numbers. The program's Readers in memory: New, Code, Left, Fail. The program's Readers: take, Bytes. -/
import Derived.Test.YtegbnadnodlalaaGreatDoorE2a0E1a
import Derived.Test.YtegbnadnodlalaaGreatDoorLl0GHa
import Derived.Lib.SliceRun
namespace Go.Proofs.YtegbnadnodlalaaGreatDoor
open Go.RowKit
theorem vals_four (a b c d : Nat) : (#[.int .u8 (a : Int), .int .u8 (b : Int), .int .u8 (c : Int), .int .u8 (d : Int)] : Array Value) = (vals [a, b, c, d]).toArray := rfl
/-- Bytes behind a row that was just laid. -/
theorem append_fresh (W : World) (ty : TypeId) (x : Value) (l m : List Nat) (hx : SB W x m) (hl : l.length + m.length ≤ 1000000) (B : Nat) (w0 : World) (b : Below B w0 W) (hB : B ≤ W.heap.size) :
  ∃ v' w', (Builtin.append_ #[29, 29] ty #[.slice (some ⟨W.heap.size, 0, none⟩) l.length l.length, x]).run Tryz.prog (W.alloc (.cells (vals l).toArray 5)) = .ok v' w' ∧ OwL B w' v' (l ++ m) ∧ Below B w0 w' := by
 have b1 := (Below.refl W.heap.size W).alloc (Nat.le_refl _) (.cells (vals l).toArray 5)
 exact append_more B w0 _ ty _ x l m (OwL.new B W l hB (by simp only [maxLen]; omega)) (hx.below b1) hl (b.trans (b1.mono hB)) (Nat.le_trans hB b1.size)
set_option maxHeartbeats 8000000 in
set_option maxRecDepth 100000 in
theorem fits_c (n : Nat) (W : World) (b : Bool) (hb : decide (1 ≤ n ∧ n ≤ 32) = b) : Calls Tryz.prog 30 #[.int .i64 (n : Int)] W fun e w' => e = .returned (.bool b) ∧ w' = W := by
 have hh := hb
 by_cases h1 : 1 ≤ n
 ·
  have e1 : (1 : Int) ≤ (n : Int) := by omega
  by_cases h2 : n ≤ 32
  ·
   have e2 : (n : Int) ≤ 32 := by omega
   rw [decide_eq_true ⟨h1, h2⟩] at hh
   subst hh
   clear hb h1 h2
   go_enter Tryz.func30, Tryz.ntmps30
   go_wp2
   go_ret
   exact ⟨rfl, rfl⟩
  ·
   have e2 : ¬ (n : Int) ≤ 32 := by omega
   rw [decide_eq_false (fun h => h2 h.2)] at hh
   subst hh
   clear hb h1 h2
   go_enter Tryz.func30, Tryz.ntmps30
   go_wp2
   go_ret
   exact ⟨rfl, rfl⟩
 ·
  have e1 : ¬ (1 : Int) ≤ (n : Int) := by omega
  rw [decide_eq_false (fun h => h1 h.1)] at hh
  subst hh
  clear hb h1
  go_enter Tryz.func30, Tryz.ntmps30
  go_wp2
  go_ret
  exact ⟨rfl, rfl⟩
set_option maxHeartbeats 8000000 in
set_option maxRecDepth 100000 in
theorem message_c (k : Nat) (ls : List (List Nat)) (p : Option Addr) (n c : Nat) (hn : ls.flatten.length ≤ 50000) (W : World) (hs : SP W (.slice p n c) ls) (hl : ls.length ≤ 100000) :
  Calls Tryz.prog 16 #[.int .u8 (k : Int), .slice p n c] W fun e w' => ∃ v, e = .returned v ∧ OwL W.heap.size w' v (msgB k ls.flatten) ∧ Below W.heap.size W w' := by
 have CC := Lib.hid (concat_c ls p n c (by omega) W hs hl)
 unfold msgB
 generalize ls.flatten = b at *
 obtain ⟨m, hm⟩ : ∃ m, b.length = m := ⟨_, rfl⟩
 rw [hm] at hn ⊢
 have e1 : ((m : Nat) : Int) / 65536 = ((m / 65536 : Nat) : Int) := by omega
 have e2 : ((m : Nat) : Int) / 256 = ((m / 256 : Nat) : Int) := by omega
 have e3 : IntKind.u8.wrap ((m / 65536 : Nat) : Int) = ((m / 65536 : Nat) : Int) := by rw [IntKind.wrap_u8]; omega
 have e4 : IntKind.u8.wrap ((m / 256 : Nat) : Int) = ((m / 256 % 256 : Nat) : Int) := by rw [IntKind.wrap_u8]; omega
 have e5 : IntKind.u8.wrap (m : Int) = ((m % 256 : Nat) : Int) := by rw [IntKind.wrap_u8]; omega
 obtain ⟨x1, hx1⟩ : ∃ x, m / 65536 = x := ⟨_, rfl⟩
 obtain ⟨x2, hx2⟩ : ∃ x, m / 256 = x := ⟨_, rfl⟩
 obtain ⟨x3, hx3⟩ : ∃ x, x2 % 256 = x := ⟨_, rfl⟩
 obtain ⟨x4, hx4⟩ : ∃ x, m % 256 = x := ⟨_, rfl⟩
 rw [hx1] at e1 e3 ⊢
 rw [hx2] at e2 e4 ⊢
 rw [hx3] at e4 ⊢
 rw [hx4] at e5 ⊢
 have AF := Lib.hid (fun (w1 : World) (v1 : Value) (h : SB w1 v1 b) (b1 : Below W.heap.size W w1) => append_fresh w1 29 v1 [k, x1, x3, x4] b h (by simp only [List.length_cons, List.length_nil]; omega) W.heap.size W b1 b1.size)
 have HM := Lib.hid hm
 clear hs hl hx1 hx2 hx3 hx4 hm hn
 go_enter Tryz.func16, Tryz.ntmps16
 go_wp2_with fail
 refine CC.out.mono ?_
 rintro _ w1 ⟨v1, rfl, O1, b1⟩
 clear CC
 obtain ⟨p1, c1, hv⟩ := O1.shape
 rw [HM.out] at hv
 subst hv
 obtain ⟨v', w', h1, h2, h3⟩ := AF.out w1 _ O1.sb b1
 have F := Lib.hid (And.intro h2 h3)
 rw [← vals_four] at h1
 replace h1 := Lib.hid h1
 clear AF h2 h3 b1 O1
 go_upto_region 2 with fail
 rename_i aK
 refine wp_region_seq ?_
 refine smv (.slice p1 m c1) rfl rfl rfl ?_
 simp only [AP]
 refine svl (.int .i64 (m : Int)) (.inl ⟨by rfl, fun w' _ => by go_simp⟩) ?_
 simp only [AP]
 refine sas (.int .i64 (m : Int)) rfl rfl rfl ?_
 simp only [AP]
 refine wpSeq_nil ?_
 refine (by assumption : ∀ (a : Act) (w : World), _ → _) _ _ ?_
 go_upto_region 3 with fail
 rename_i aK
 refine wp_region_seq ?_
 refine smv (.int .u8 (k : Int)) rfl rfl rfl ?_
 simp only [AP]
 refine smv (.int .i64 (m : Int)) rfl rfl rfl ?_
 simp only [AP]
 refine svl (.int .i64 (x1 : Int)) (.inl ⟨by rfl, fun w' _ => by go_simp⟩) ?_
 simp only [AP]
 refine svl (.int .u8 (x1 : Int)) (.inl ⟨by rfl, fun w' _ => by go_simp⟩) ?_
 simp only [AP]
 refine smv (.int .i64 (m : Int)) rfl rfl rfl ?_
 simp only [AP]
 refine svl (.int .i64 (x2 : Int)) (.inl ⟨by rfl, fun w' _ => by go_simp⟩) ?_
 simp only [AP]
 refine svl (.int .u8 (x3 : Int)) (.inl ⟨by rfl, fun w' _ => by go_simp⟩) ?_
 simp only [AP]
 refine smv (.int .i64 (m : Int)) rfl rfl rfl ?_
 simp only [AP]
 refine svl (.int .u8 (x4 : Int)) (.inl ⟨by rfl, fun w' _ => by go_simp⟩) ?_
 simp only [AP]
 refine wpSeq_wp rfl ?_
 unfold Oper.wp execOp
 go_simp
 refine smv (.slice p1 m c1) rfl rfl rfl ?_
 simp only [AP]
 refine wpSeq_wp rfl (wp_append_run _ _ _ _ rfl _ _ rfl rfl _ w' h1.out ?_)
 simp only [AP]
 refine sas (v') rfl rfl rfl ?_
 simp only [AP]
 refine wpSeq_nil ?_
 refine (by assumption : ∀ (a : Act) (w : World), _ → _) _ _ ?_
 go_wp2
 go_ret
 exact ⟨_, rfl, F.out.1, F.out.2⟩
theorem sp_one1 {w : World} {v : Value} {l : List Nat} (t : TypeId) (h : SB w v l) : SP (w.alloc (.cells #[v] t)) (.slice (some ⟨w.heap.size, 0, none⟩) 1 1) [l] := by
 refine ⟨_, 1, rfl, Nat.le_refl _, Or.inr ⟨w.heap.size, 0, rfl, by simp, fun i hi => ?_⟩⟩
 obtain rfl : i = 0 := by simp at hi; exact hi
 exact ⟨v, by rw [(Blk.new w t #[v]).cell]; rfl, h.below ((Below.refl _ _).alloc (Nat.le_refl _) _)⟩
set_option maxHeartbeats 8000000 in
set_option maxRecDepth 100000 in
theorem msg_c (k : Nat) (l : List Nat) (p : Option Addr) (n c : Nat) (hn : n ≤ 50000) (W : World) (hs : SB W (.slice p n c) l) :
  Calls Tryz.prog 12 #[.int .u8 (k : Int), .slice p n c] W fun e w' => ∃ v, e = .returned (.tuple #[v, .int .i64 ((msgF k l).1 : Int)]) ∧ OwL W.heap.size w' v (msgF k l).2 ∧ Below W.heap.size W w' := by
 have ln := hs.len.1
 unfold msgF
 by_cases h : 4096 < l.length
 ·
  rw [if_pos h]
  have z : (4096 : Int) < (n : Int) := by omega
  clear hs h ln
  go_enter Tryz.func12, Tryz.ntmps12
  go_wp2
  refine bodyPost_ret (results_tmp2 rfl _ _ _) rfl ?_
  exact ⟨_, rfl, OwL.nil _ _, Below.refl _ _⟩
 ·
  rw [if_neg h]
  have z : ¬ (4096 : Int) < (n : Int) := by omega
  have b1 := (Below.refl W.heap.size W).alloc (Nat.le_refl _) (.cells #[.slice p n c] 29)
  have MC := Lib.hid (message_c k [l] (some ⟨W.heap.size, 0, none⟩) 1 1 (by simp only [List.flatten_cons, List.flatten_nil, List.append_nil]; omega) _ (sp_one1 29 hs) (Nat.le_of_ble_eq_true rfl))
  rw [show [l].flatten = l by simp] at MC
  replace b1 := Lib.hid b1
  clear hs h ln
  go_enter Tryz.func12, Tryz.ntmps12
  go_wp2_with fail
  refine MC.out.mono ?_
  rintro _ w1 ⟨v1, rfl, O1, b2⟩
  clear MC
  go_wp2
  refine bodyPost_ret (results_tmp2 rfl _ _ _) rfl ?_
  exact ⟨_, rfl, O1.mono b1.out.size, b1.out.trans (b2.mono b1.out.size)⟩
end Go.Proofs.YtegbnadnodlalaaGreatDoor
namespace Go.Proofs.YtegbnadnodlalaaGreatDoor
open Go.RowKit
set_option maxHeartbeats 4000000 in
set_option maxRecDepth 100000 in
theorem clone_c (l : List Nat) (p : Option Addr) (n c : Nat) (hn : n ≤ 10000000) (W : World) (hs : SB W (.slice p n c) l) :
  Calls Tryz.prog 38 #[.slice p n c] W fun e w' => ∃ v, e = .returned v ∧ OwL W.heap.size w' v l ∧ Below W.heap.size W w' := by
 have q22 : ∀ (w : World) (a : Option Addr) (n c n' c' : Nat), (binOp .eql 29 (.slice a n c) (.slice none n' c')).run Tryz.prog w = .ok (.bool a.isNone) w := fun w a n c n' c' => Lib.run_eql_slice_nil w _ _ a n c n' c' Tryz.underlying29
 cases p with
 | none =>
  have hl : l = [] := by
   rcases hs.at_ with h0 | ⟨g, o, e, _⟩
   · exact List.length_eq_zero_iff.1 (by have := hs.len.1; omega)
   · cases e
  subst hl
  clear hs hn
  go_enter Tryz.func38, Tryz.ntmps38
  go_wp2
  go_ret
  exact ⟨_, rfl, OwL.nil _ _, Below.refl _ _⟩
 | some a =>
  have b0 := (Below.refl W.heap.size W).alloc (Nat.le_refl _) (.cells #[] 5)
  obtain ⟨v1, w1, h1, O1, g1, _⟩ := append_sb W.heap.size _ 29 _ (.slice (some a) n c) [] l (OwL.new W.heap.size W [] (Nat.le_refl _) (Nat.zero_le _)) (hs.below b0) (by have := hs.len.1; simp only [List.length_nil]; omega) b0.size
  rw [List.nil_append] at O1
  have b1 := below_grown' b0 g1 (fun j e => by have e' := Option.some.inj e; dsimp only at e'; omega) b0.size
  clear g1 b0 hs hn
  go_enter Tryz.func38, Tryz.ntmps38
  go_upto_region 3 with fail
  rename_i aK
  refine wp_region_seq ?_
  refine wpSeq_wp rfl (wp_build_run _ rfl _ _ (run_buildSlice_none _) ?_)
  simp only [AP]
  refine smv (.slice (some a) n c) rfl rfl rfl ?_
  simp only [AP]
  refine wpSeq_wp rfl (wp_append_run _ _ _ _ rfl _ _ rfl rfl _ w1 h1 ?_)
  simp only [AP]
  refine sas (v1) rfl rfl rfl ?_
  simp only [AP]
  refine wpSeq_nil ?_
  refine aK _ _ ?_
  clear aK h1
  go_wp2
  go_ret
  exact ⟨_, rfl, O1, b1⟩
def Q4 (k s r : Nat) : Prop := (k = 0 ∧ s = 1 ∧ r = 6) ∨ (k = 1 ∧ s = 2 ∧ r = 14) ∨ (k = 2 ∧ s = 4 ∧ r = 30) ∨ (k = 3 ∧ s = 8 ∧ r = 62)
theorem Q4.of (k : Nat) (h : k ≤ 3) : Q4 k (2 ^ k) (8 * 2 ^ k - 2) := by
 have h4 : k = 0 ∨ k = 1 ∨ k = 2 ∨ k = 3 := by omega
 rcases h4 with rfl | rfl | rfl | rfl <;> (unfold Q4; decide)
theorem size_c {k s r : Nat} (q : Q4 k s r) (W : World) : Calls Tryz.prog 67 #[.int .i64 (k : Int)] W fun e w' => e = .returned (.int .i64 (s : Int)) ∧ w' = W := by
 rcases q with ⟨rfl, rfl, rfl⟩ | ⟨rfl, rfl, rfl⟩ | ⟨rfl, rfl, rfl⟩ | ⟨rfl, rfl, rfl⟩ <;>
 ·
  go_enter Tryz.func67, Tryz.ntmps67
  go_wp2
  go_ret
  exact ⟨rfl, rfl⟩
theorem room_c {k s r : Nat} (q : Q4 k s r) (W : World) : Calls Tryz.prog 66 #[.int .i64 (k : Int)] W fun e w' => e = .returned (.int .i64 (r : Int)) ∧ w' = W := by
 have C := Lib.hid (size_c q W)
 rcases q with ⟨rfl, rfl, rfl⟩ | ⟨rfl, rfl, rfl⟩ | ⟨rfl, rfl, rfl⟩ | ⟨rfl, rfl, rfl⟩ <;>
 ·
  go_enter Tryz.func66, Tryz.ntmps66
  go_wp2_with fail
  refine C.out.mono ?_
  rintro _ w1 ⟨rfl, rfl⟩
  go_wp2
  go_ret
  exact ⟨rfl, rfl⟩
end Go.Proofs.YtegbnadnodlalaaGreatDoor
namespace Go.Proofs.YtegbnadnodlalaaGreatDoor
open Go.RowKit
theorem gb_set {B g : Nat} (hg : B = g) (w : World) (i : Nat) (v : Value) : w.grownBy (w.setCell ⟨g, i, none⟩ v) (some B) := by
 subst hg
 exact ⟨rfl, rfl, rfl, by simp, fun k _ hk => Below.heap_setCell w _ v k (fun e => hk (by rw [e]))⟩
theorem gb_below {w w' : World} (h : Below w.heap.size w w') (row : Option Nat) : w.grownBy w' row := ⟨h.os, h.tape, h.output, h.size, fun k hk _ => h.block k hk⟩
theorem below_gb {B g : Nat} {w0 w w' : World} (h : Below B w0 w) (k : w.grownBy w' (some g)) (hg : B ≤ g) (hB : B ≤ w.heap.size) : Below B w0 w' := below_grown' h k (fun j e => by cases e; exact hg) hB
/-- A Reader at p, its block B: l is left, c the fault. -/
def RM (B : Nat) (w : World) (p : Option Addr) (l : List Nat) (c : Nat) : Prop := ∃ g pb cb, p = some ⟨g, 0, none⟩ ∧ B = g ∧ Blk w g 90 #[.slice pb l.length cb, .int .i64 ((c : Nat) : Int)] ∧ SB w (.slice pb l.length cb) l ∧ (∀ a, pb = some a → a.block < g) ∧ (∀ x ∈ l, x < 256) ∧ l.length ≤ 1000000
theorem RM.below {B : Nat} {w w' : World} {p : Option Addr} {l : List Nat} {c : Nat} (h : RM B w p l c) (b : Below w.heap.size w w') : RM B w' p l c := by
 obtain ⟨g, pb, cb, e, hg, K, S, ne, bb, ll⟩ := h
 exact ⟨g, pb, cb, e, hg, K.below' b, S.below b, ne, bb, ll⟩
theorem SB.far {w : World} {g : Nat} {p : Option Addr} {n c : Nat} {l : List Nat} (h : SB w (.slice p n c) l) (ne : ∀ a, p = some a → a.block ≠ g) (i : Nat) (v : Value) : SB (w.setCell ⟨g, i, none⟩ v) (.slice p n c) l := by
 obtain ⟨q, d, e, hc, h0 | ⟨gb, o, rfl, A⟩⟩ := h
 · exact ⟨q, d, e, hc, Or.inl h0⟩
 ·
  simp only [Value.slice.injEq] at e
  obtain ⟨rfl, rfl, rfl⟩ := e
  exact ⟨_, _, rfl, hc, Or.inr ⟨gb, o, rfl, A.of_block (heap_setCell_other w _ gb v (ne _ rfl))⟩⟩
theorem RM.fault {B : Nat} {w : World} {g pb cb} {l : List Nat} {c d : Nat} (hg : B = g) (K : Blk w g 90 #[.slice pb l.length cb, .int .i64 ((c : Nat) : Int)]) (S : SB w (.slice pb l.length cb) l) (ne : ∀ a, pb = some a → a.block < g) (bb : ∀ x ∈ l, x < 256) (ll : l.length ≤ 1000000) :
  RM B (w.setCell ⟨g, 1, none⟩ (.int .i64 ((d : Nat) : Int))) (some ⟨g, 0, none⟩) l d ∧ w.grownBy (w.setCell ⟨g, 1, none⟩ (.int .i64 ((d : Nat) : Int))) (some B) :=
 ⟨⟨g, pb, cb, rfl, hg, K.set 1 _, S.far (fun a e => Nat.ne_of_lt (ne a e)) 1 _, ne, bb, ll⟩, gb_set hg w 1 _⟩
set_option maxHeartbeats 4000000 in
set_option maxRecDepth 100000 in
theorem new_m (l : List Nat) (p : Option Addr) (n c : Nat) (bb : ∀ x ∈ l, x < 256) (hn : n ≤ 1000000) (W : World) (hs : SB W (.slice p n c) l) :
  Calls Tryz.prog 17 #[.slice p n c] W fun e w' => ∃ g, e = .returned (.pointer (some ⟨g, 0, none⟩)) ∧ W.heap.size ≤ g ∧ RM g w' (some ⟨g, 0, none⟩) l 0 ∧ Below W.heap.size W w' := by
 have ll : l.length ≤ 1000000 := by have := hs.len.1; omega
 have C := Lib.hid (clone_c l p n c (by omega) W hs)
 clear hs hn
 go_enter Tryz.func17, Tryz.ntmps17
 go_wp2_with fail
 refine C.out.mono ?_
 rintro _ w1 ⟨v1, rfl, O1, b1⟩
 clear C
 obtain ⟨p1, c1, hv⟩ := O1.shape
 subst hv
 go_wp2
 go_ret
 have b2 := (Below.refl w1.heap.size w1).alloc (Nat.le_refl _) (.cells #[.slice p1 l.length c1, .int .i64 0] 90)
 exact ⟨_, rfl, b1.size, ⟨w1.heap.size, p1, c1, rfl, rfl, Blk.new _ _ _, O1.sb.below b2, fun a e => by
  have := (O1.lt a.block (by rw [e]; rfl)).2
  omega, bb, ll⟩, b1.trans (b2.mono b1.size)⟩
set_option maxHeartbeats 4000000 in
theorem code_m (B : Nat) (p : Option Addr) (l : List Nat) (c : Nat) (W : World) (h : RM B W p l c) (_hB : B ≤ W.heap.size) : Calls Tryz.prog 41 #[.pointer p] W fun e w' => e = .returned (.int .i64 (c : Int)) ∧ RM B w' p l c ∧ W.grownBy w' (some B) := by
 have h0 := h
 obtain ⟨g, pb, cb, rfl, hg, K, S, ne, bb, ll⟩ := h
 have c1 : W.cell? ⟨g, 1, none⟩ = some (.int .i64 (c : Int)) := K.cell 1
 replace h0 := Lib.hid h0
 clear K S ne bb
 go_enter Tryz.func41, Tryz.ntmps41
 go_wp2
 go_ret
 exact ⟨rfl, h0.out, World.grownBy.refl _ _⟩
set_option maxHeartbeats 4000000 in
theorem left_m (B : Nat) (p : Option Addr) (l : List Nat) (c : Nat) (W : World) (h : RM B W p l c) (_hB : B ≤ W.heap.size) : Calls Tryz.prog 65 #[.pointer p] W fun e w' => e = .returned (.int .i64 (l.length : Int)) ∧ RM B w' p l c ∧ W.grownBy w' (some B) := by
 have h0 := h
 obtain ⟨g, pb, cb, rfl, hg, K, S, ne, bb, ll⟩ := h
 have c1 : W.cell? ⟨g, 0, none⟩ = some (.slice pb l.length cb) := K.cell 0
 replace h0 := Lib.hid h0
 clear K S ne bb
 go_enter Tryz.func65, Tryz.ntmps65
 go_wp2
 go_ret
 exact ⟨rfl, h0.out, World.grownBy.refl _ _⟩
set_option maxHeartbeats 4000000 in
theorem fail_m (B : Nat) (p : Option Addr) (l : List Nat) (c d : Nat) (W : World) (h : RM B W p l c) (hB : B ≤ W.heap.size) : Calls Tryz.prog 20 #[.pointer p, .int .i64 (d : Int)] W fun e w' => (∃ v, e = .returned v) ∧ RM B w' p l (if c = 0 then d else c) ∧ W.grownBy w' (some B) := by
 have CC := Lib.hid (code_m B p l c W h hB)
 clear h
 by_cases hc : c = 0
 ·
  rw [if_pos hc]
  subst c
  go_enter Tryz.func20, Tryz.ntmps20
  go_wp2_with fail
  refine CC.out.mono ?_
  rintro _ w1 ⟨rfl, h1, b1⟩
  clear CC
  obtain ⟨g, pb, cb, rfl, hg, K, S, ne, bb, ll⟩ := h1
  have c1 : w1.cell? ⟨g, 1, none⟩ = some (.int .i64 0) := K.cell 1
  have f1 := K.frozen 1
  have F := Lib.hid (RM.fault (d := d) hg K S ne bb ll)
  clear K S ne bb
  go_wp2
  refine bodyPost_end (results_none rfl _ _ _) rfl ?_
  exact ⟨⟨_, rfl⟩, F.out.1, b1.trans F.out.2⟩
 ·
  rw [if_neg hc]
  have hc' : ¬ (c : Int) = 0 := by omega
  go_enter Tryz.func20, Tryz.ntmps20
  go_wp2_with fail
  refine CC.out.mono ?_
  rintro _ w1 ⟨rfl, h1, b1⟩
  clear CC
  go_wp2
  refine bodyPost_end (results_none rfl _ _ _) rfl ?_
  exact ⟨⟨_, rfl⟩, h1, b1⟩
end Go.Proofs.YtegbnadnodlalaaGreatDoor
namespace Go.Proofs.YtegbnadnodlalaaGreatDoor
open Go.RowKit
theorem OwL.mono_ {B B' : Nat} {w : World} {v : Value} {l : List Nat} (h : OwL B w v l) (hB : B' ≤ B) : OwL B' w v l := by
 obtain ⟨hl, hr⟩ := h
 refine ⟨hl, hr.imp id ?_⟩
 rintro ⟨g, cap, cur, e, hb, r⟩
 exact ⟨g, cap, cur, e, Nat.le_trans hB hb, r⟩
theorem yieldsIf_tailK {ops : Array Oper} {S : World → Prop} {o : Oper} {a : Act} (hgd : Region.wanted o (yielded ops a.tmps) = true) (x lo : Operand) (kd : IntKind) (ho : o.op = .slice 29 x (some lo) none none) (p : Option Addr) (n c k : Nat) (hx : a.eval x = .slice p n c) (hlo : a.eval lo = .int kd (k : Int)) (hk : k ≤ n) (hc : n ≤ c) :
  YieldsIf Tryz.prog ops S o (.slice (tailP p c k) (n - k) (c - k)) a := by
 refine Or.inl ⟨hgd, fun w hw => ?_⟩
 have q1 : (0 : Int) ≤ (k : Int) := by omega
 have q2 : (k : Int) ≤ (n : Int) := by omega
 have q3 : (n : Int) ≤ (c : Int) := by omega
 simp only [execOp, ho, hx, Option.map_some, hlo]
 cases p with
 | none =>
  go_simp
  rfl
 | some b =>
  go_simp
  by_cases h : c = k <;> simp [tailP, h]
theorem yieldsIf_headK {ops : Array Oper} {S : World → Prop} {o : Oper} {a : Act} (hgd : Region.wanted o (yielded ops a.tmps) = true) (x hi : Operand) (kd : IntKind) (ho : o.op = .slice 29 x none (some hi) none) (p : Option Addr) (n c k : Nat) (hx : a.eval x = .slice p n c) (hlo : a.eval hi = .int kd (k : Int)) (hk : k ≤ c) :
  YieldsIf Tryz.prog ops S o (.slice p k c) a := by
 refine Or.inl ⟨hgd, fun w hw => ?_⟩
 have q1 : (0 : Int) ≤ (k : Int) := by omega
 have q2 : (k : Int) ≤ (c : Int) := by omega
 simp only [execOp, ho, hx, Option.map_some, hlo]
 cases p with
 | none =>
  go_simp
 | some b =>
  go_simp
theorem tailP_block {p : Option Addr} {c k g : Nat} (h : ∀ a, p = some a → a.block < g) : ∀ a, tailP p c k = some a → a.block < g := fun a e => by
 cases p with
 | none => cases e
 | some b =>
  have hb := h b rfl
  simp only [tailP, Option.map_some, Option.some.injEq] at e
  rw [← e]
  by_cases hc : c = k
  ·
   rw [if_pos hc]
   exact hb
  ·
   rw [if_neg hc]
   have ab : (b.add k).block = b.block := by unfold Addr.add; split <;> rfl
   rw [ab]
   exact hb
theorem RM.rest {B : Nat} {w : World} {g pb cb k} {l : List Nat} (hk : k ≤ l.length) (hg : B = g) (K : Blk w g 90 #[.slice pb l.length cb, .int .i64 ((0 : Nat) : Int)]) (S : SB w (.slice pb l.length cb) l) (ne : ∀ a, pb = some a → a.block < g) (bb : ∀ x ∈ l, x < 256) (ll : l.length ≤ 1000000) :
  RM B (w.setCell ⟨g, 0, none⟩ (.slice (tailP pb cb k) (l.length - k) (cb - k))) (some ⟨g, 0, none⟩) (l.drop k) 0 ∧ w.grownBy (w.setCell ⟨g, 0, none⟩ (.slice (tailP pb cb k) (l.length - k) (cb - k))) (some B) := by
 have hl : (l.drop k).length = l.length - k := List.length_drop
 refine ⟨⟨g, tailP pb cb k, cb - k, rfl, hg, ?_, ?_, tailP_block ne, fun x hx => bb x (List.mem_of_mem_drop hx), by omega⟩, gb_set hg w 0 _⟩
 ·
  rw [hl]
  exact K.set 0 _
 ·
  rw [hl]
  exact (S.tail k hk).far (fun a e => Nat.ne_of_lt (tailP_block ne a e)) 0 _
set_option maxHeartbeats 4000000 in
set_option maxRecDepth 100000 in
theorem take_fault (B : Nat) (p : Option Addr) (l : List Nat) (n c : Nat) (W : World) (h : RM B W p l c) (hB : B ≤ W.heap.size) (hc : c ≠ 0) : Calls Tryz.prog 40 #[.pointer p, .int .u64 (n : Int)] W fun e w' => e = .returned (.slice none 0 0) ∧ RM B w' p l c ∧ W.grownBy w' (some B) := by
 have CC := Lib.hid (code_m B p l c W h hB)
 have hc' : ¬ (c : Int) = 0 := by omega
 clear h
 go_enter Tryz.func40, Tryz.ntmps40
 go_wp2_with fail
 refine CC.out.mono ?_
 rintro _ w1 ⟨rfl, h1, b1⟩
 clear CC
 go_wp2
 go_ret
 exact ⟨rfl, h1, b1⟩
set_option maxHeartbeats 4000000 in
set_option maxRecDepth 100000 in
theorem take_out (B : Nat) (p : Option Addr) (l : List Nat) (n : Nat) (W : World) (h : RM B W p l 0) (hB : B ≤ W.heap.size) (hl : l.length < n) : Calls Tryz.prog 40 #[.pointer p, .int .u64 (n : Int)] W fun e w' => e = .returned (.slice none 0 0) ∧ RM B w' p l 3 ∧ W.grownBy w' (some B) := by
 have CC := Lib.hid (code_m B p l 0 W h hB)
 clear h
 go_enter Tryz.func40, Tryz.ntmps40
 go_wp2_with fail
 refine CC.out.mono ?_
 rintro _ w1 ⟨rfl, h1, b1⟩
 obtain ⟨g, pb, cb, rfl, hg, K, S, ne, bb, ll⟩ := h1
 have c0 : w1.cell? ⟨g, 0, none⟩ = some (.slice pb l.length cb) := K.cell 0
 have g1 : (l.length : Int) < (n : Int) := by omega
 have wl : IntKind.u64.wrap (l.length : Int) = (l.length : Int) := by rw [IntKind.wrap_u64]; omega
 have c1 : w1.cell? ⟨g, 1, none⟩ = some (.int .i64 0) := K.cell 1
 have f1 := K.frozen 1
 have F := Lib.hid (RM.fault (d := 3) hg K S ne bb ll)
 clear K S ne bb hl CC
 generalize l.length = ln at *
 go_wp2
 go_ret
 exact ⟨rfl, F.out.1, b1.trans F.out.2⟩
set_option maxHeartbeats 4000000 in
set_option maxRecDepth 100000 in
theorem take_in (B : Nat) (p : Option Addr) (l : List Nat) (n : Nat) (W : World) (h : RM B W p l 0) (hB : B ≤ W.heap.size) (hl : n ≤ l.length) : Calls Tryz.prog 40 #[.pointer p, .int .u64 (n : Int)] W fun e w' => (∃ q c, e = .returned (.slice q n c) ∧ SB w' (.slice q n c) (l.take n)) ∧ RM B w' p (l.drop n) 0 ∧ W.grownBy w' (some B) := by
 have CC := Lib.hid (code_m B p l 0 W h hB)
 clear h
 go_enter Tryz.func40, Tryz.ntmps40
 go_wp2_with fail
 refine CC.out.mono ?_
 rintro _ w1 ⟨rfl, h1, b1⟩
 obtain ⟨g, pb, cb, rfl, hg, K, S, ne, bb, ll⟩ := h1
 have c0 : w1.cell? ⟨g, 0, none⟩ = some (.slice pb l.length cb) := K.cell 0
 have g1 : ¬ (l.length : Int) < (n : Int) := by omega
 have wl : IntKind.u64.wrap (l.length : Int) = (l.length : Int) := by rw [IntKind.wrap_u64]; omega
 have lc := S.len.2
 have f0 := K.frozen 0
 have RR := RM.rest (k := n) hl hg K S ne bb ll
 have O3 : SB (w1.setCell ⟨g, 0, none⟩ (.slice (tailP pb cb n) (l.length - n) (cb - n))) (.slice pb n cb) (l.take n) := (S.head n hl).far (fun a e => Nat.ne_of_lt (ne a e)) 0 _
 have B3 := b1.trans RR.2
 replace RR := Lib.hid RR.1
 replace O3 := Lib.hid O3
 clear K S ne bb CC
 go_upto_region 6 with fail
 rename_i aK
 refine wp_region_seq ?_
 refine smv (.pointer (some ⟨g, 0, none⟩)) rfl rfl rfl ?_
 simp only [AP]
 refine svl (.pointer (some ⟨g, 0, none⟩)) (.inl ⟨by rfl, fun w' _ => by go_simp⟩) ?_
 simp only [AP]
 refine svl (.pointer (some ⟨g, 0, none⟩)) (.inl ⟨by rfl, fun w' _ => by go_simp⟩) ?_
 simp only [AP]
 refine wpSeq_yield (S := fun w' => w' = w1) (v := .slice pb l.length cb) (Or.inl ⟨by rfl, fun w' hw' => by (rw [hw']; go_simp)⟩) rfl ?_
 simp only [AP]
 refine smv (.int .u64 (n : Int)) rfl rfl rfl ?_
 simp only [AP]
 refine wpSeq_yield (S := fun _ => True) (yieldsIf_headK rfl _ _ .u64 rfl pb l.length cb n rfl rfl (by omega)) trivial ?_
 simp only [AP]
 refine sas (.slice pb n cb) rfl rfl rfl ?_
 simp only [AP]
 refine wpSeq_nil ?_
 refine aK _ _ ?_
 clear aK
 go_upto_region 7 with fail
 rename_i aK
 refine wp_region_seq ?_
 refine smv (.pointer (some ⟨g, 0, none⟩)) rfl rfl rfl ?_
 simp only [AP]
 refine smv (.pointer (some ⟨g, 0, none⟩)) rfl rfl rfl ?_
 simp only [AP]
 refine svl (.pointer (some ⟨g, 0, none⟩)) (.inl ⟨by rfl, fun w' _ => by go_simp⟩) ?_
 simp only [AP]
 refine svl (.pointer (some ⟨g, 0, none⟩)) (.inl ⟨by rfl, fun w' _ => by go_simp⟩) ?_
 simp only [AP]
 refine wpSeq_yield (S := fun w' => w' = w1) (v := .slice pb l.length cb) (Or.inl ⟨by rfl, fun w' hw' => by (rw [hw']; go_simp)⟩) rfl ?_
 simp only [AP]
 refine smv (.int .u64 (n : Int)) rfl rfl rfl ?_
 simp only [AP]
 refine wpSeq_yield (S := fun _ => True) (yieldsIf_tailK rfl _ _ .u64 rfl pb l.length cb n rfl rfl hl lc) trivial ?_
 simp only [AP]
 refine svl (.pointer (some ⟨g, 0, none⟩)) (.inl ⟨by rfl, fun w' _ => by go_simp⟩) ?_
 simp only [AP]
 refine svl (.pointer (some ⟨g, 0, none⟩)) (.inl ⟨by rfl, fun w' _ => by go_simp⟩) ?_
 simp only [AP]
 refine wpSeq_wp rfl ?_
 unfold Oper.wp execOp
 go_simp
 refine wpSeq_nil ?_
 refine aK _ _ ?_
 clear aK c0 f0
 go_wp2
 go_ret
 exact ⟨⟨pb, cb, rfl, O3.out⟩, RR.out, B3⟩
/-- So many bytes, as Bytes and Byte take them: they, what is left, the fault. -/
def tookS (n : Nat) (l : List Nat) (c : Nat) : List Nat × List Nat × Nat := if c ≠ 0 then ([], l, c) else if l.length < n then ([], l, 3) else (l.take n, l.drop n, 0)
theorem take_m (B : Nat) (p : Option Addr) (l : List Nat) (n c : Nat) (W : World) (h : RM B W p l c) (hB : B ≤ W.heap.size) : Calls Tryz.prog 40 #[.pointer p, .int .u64 (n : Int)] W fun e w' => (∃ v, e = .returned v ∧ SB w' v (tookS n l c).1) ∧ RM B w' p (tookS n l c).2.1 (tookS n l c).2.2 ∧ W.grownBy w' (some B) := by
 unfold tookS
 by_cases hc : c = 0
 ·
  subst hc
  rw [if_neg (by decide)]
  by_cases hl : l.length < n
  ·
   rw [if_pos hl]
   exact (take_out B p l n W h hB hl).mono fun e w' h => ⟨⟨_, h.1, SB.nil _ _ _⟩, h.2⟩
  ·
   rw [if_neg hl]
   exact (take_in B p l n W h hB (by omega)).mono fun e w' h => by
    obtain ⟨⟨q, c, e1, s⟩, h2⟩ := h
    exact ⟨⟨_, e1, s⟩, h2⟩
 ·
  rw [if_pos hc]
  exact (take_fault B p l n c W h hB hc).mono fun e w' h => ⟨⟨_, h.1, SB.nil _ _ _⟩, h.2⟩
theorem took_len (n : Nat) (l : List Nat) (c : Nat) : (tookS n l c).1.length ≤ l.length := by
 unfold tookS
 split
 · exact Nat.zero_le _
 ·
  split
  · exact Nat.zero_le _
  ·
   rw [List.length_take]
   omega
theorem rm_len {B : Nat} {w : World} {p : Option Addr} {l : List Nat} {c : Nat} (h : RM B w p l c) : l.length ≤ 1000000 := by
 obtain ⟨g, pb, cb, _, _, _, _, _, _, ll⟩ := h
 exact ll
set_option maxHeartbeats 4000000 in
set_option maxRecDepth 100000 in
theorem bytes_m (B : Nat) (p : Option Addr) (l : List Nat) (n c : Nat) (W : World) (h : RM B W p l c) (hB : B ≤ W.heap.size) : Calls Tryz.prog 64 #[.pointer p, .int .u64 (n : Int)] W fun e w' => (∃ v, e = .returned v ∧ OwL W.heap.size w' v (tookS n l c).1) ∧ RM B w' p (tookS n l c).2.1 (tookS n l c).2.2 ∧ W.grownBy w' (some B) := by
 have T := Lib.hid (take_m B p l n c W h hB)
 have tl := took_len n l c
 have ll := rm_len h
 have C := Lib.hid (fun q m d w h => clone_c (tookS n l c).1 q m d (by have := (show SB w (.slice q m d) (tookS n l c).1 from h).len.1; omega) w h)
 clear h tl ll
 go_enter Tryz.func64, Tryz.ntmps64
 go_wp2_with fail
 refine T.out.mono ?_
 rintro _ w1 ⟨⟨v1, rfl, s1⟩, h1, b1⟩
 obtain ⟨q, d, hv⟩ : ∃ q d, v1 = .slice q (tookS n l c).1.length d := by
  obtain ⟨q, d, e, _⟩ := s1
  exact ⟨q, d, e⟩
 subst hv
 have h1 := Lib.hid h1
 have CC := Lib.hid (C.out q _ d w1 s1)
 clear T s1 C
 generalize (tookS n l c).1.length = m at *
 go_wp2_with fail
 refine CC.out.mono ?_
 rintro _ w2 ⟨v2, rfl, O2, b2⟩
 have h2 := h1.out.below b2
 replace O2 := O2.mono_ b1.size
 replace b1 := b1.trans (gb_below b2 _)
 clear CC h1
 go_wp2
 go_ret
 exact ⟨⟨v2, rfl, O2⟩, h2, b1⟩
end Go.Proofs.YtegbnadnodlalaaGreatDoor
