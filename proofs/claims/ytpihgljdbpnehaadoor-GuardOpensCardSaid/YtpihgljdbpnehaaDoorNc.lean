/- A case's head (printed by gen13/nc.py). -/
import Derived.Test.YtpihgljdbpnehaaDoorLq0Nb
import Derived.Test.YtpihgljdbpnehaaDoorHSj
namespace Go.Proofs.YtpihgljdbpnehaaDoor
open Go.RowKit
section
variable {P : Program} {md : Region.Mode} {ops : Array Oper} {Q : Exit → Act → World → Prop} {S : World → Prop}
/-- The one operation that is ready is run. -/
theorem hzstep {z fuel : Nat} {listed : Array Bool} {a : Act} {w : World} (i : Nat) {oi : Oper} (hi : ops.toList[i]? = some oi) (hr : Region.ready md ops listed = [i]) (hgd : oi.guard = none)
  (h : oi.wp P a w (fun a' w' => ((listed.setIfInBounds i true).getD z true = false → S w') ∧ wpAnyZ P md ops Q S z fuel (listed.setIfInBounds i true) a' w') Q) : wpAnyZ P md ops Q S z (fuel + 1) listed a w := by
 refine wpAnyZ_one hr ?_
 unfold wpOp
 rw [← Array.getElem?_toList, hi]
 have hw : Region.wanted oi (yielded ops a.tmps) = true := by simp [Region.wanted, hgd]
 simp only [hw, if_true]
 left
 exact h
/-- One of the two that are ready, whichever. -/
theorem hzsteps {z fuel : Nat} {listed : Array Bool} {a : Act} {w : World} (i j : Nat) {oi oj : Oper} (hi : ops.toList[i]? = some oi) (hj : ops.toList[j]? = some oj) (hr : Region.ready md ops listed = [i, j]) (gi : oi.guard = none) (gj : oj.guard = none)
  (h1 : oi.wp P a w (fun a' w' => ((listed.setIfInBounds i true).getD z true = false → S w') ∧ wpAnyZ P md ops Q S z fuel (listed.setIfInBounds i true) a' w') Q)
  (h2 : oj.wp P a w (fun a' w' => ((listed.setIfInBounds j true).getD z true = false → S w') ∧ wpAnyZ P md ops Q S z fuel (listed.setIfInBounds j true) a' w') Q) : wpAnyZ P md ops Q S z (fuel + 1) listed a w := by
 refine wpAnyZ_two hr ?_ ?_
 ·
  unfold wpOp
  rw [← Array.getElem?_toList, hi]
  have hw : Region.wanted oi (yielded ops a.tmps) = true := by simp [Region.wanted, gi]
  simp only [hw, if_true]
  left
  exact h1
 ·
  unfold wpOp
  rw [← Array.getElem?_toList, hj]
  have hw : Region.wanted oj (yielded ops a.tmps) = true := by simp [Region.wanted, gj]
  simp only [hw, if_true]
  left
  exact h2
end
/-- A head's two names stored anew. -/
theorem hd_names {w : World} {g : Nat} {a b c b' c' : Value} (K : Blk w g 42 #[a, b, c]) : Blk ((w.setCell ⟨g, 1, none⟩ b').setCell ⟨g, 2, none⟩ c') g 42 #[a, b', c'] := (K.set 1 b').set 2 c'
/-- What stands behind the names' storing. -/
structure Named (W : World) (sp : Int) (to fr : List Nat) (s t : Value) (w : World) : Prop where
 blk : Blk w W.heap.size 42 #[.int .i64 sp, s, t]
 to_ : SB w s to
 fr_ : SB w t fr
 bel : Below W.heap.size W w
 lt : W.heap.size < w.heap.size
 ne : (∀ g o n c, s = .slice (some ⟨g, o, none⟩) n c → g ≠ W.heap.size) ∧ ∀ g o n c, t = .slice (some ⟨g, o, none⟩) n c → g ≠ W.heap.size
theorem below_set {W w : World} (h : Below W.heap.size W w) (i : Nat) (v : Value) : Below W.heap.size W (w.setCell ⟨W.heap.size, i, none⟩ v) := ⟨h.os, h.tape, h.output, by simpa using h.size, fun k hk => (heap_setCell_other w _ k v (by show k ≠ W.heap.size; omega)).trans (h.block k hk)⟩
theorem Named.space {W w : World} {sp : Int} {a b : List Nat} {s t : Value} (h : Named W sp a b s t w) (sq : Int) : Named W sq a b s t (w.setCell ⟨W.heap.size, 0, none⟩ (.int .i64 sq)) :=
 ⟨h.blk.set 0 _, sb_set h.to_ h.ne.1 0 _, sb_set h.fr_ h.ne.2 0 _, below_set h.bel 0 _, by have := h.lt; simpa using this, h.ne⟩
theorem named_of {W W2 w : World} {sp : Int} {to fr : List Nat} {a b : Value} (K : Blk W2 W.heap.size 42 #[.int .i64 sp, a, b]) (h0 : Below W.heap.size W W2) (zz : W.heap.size < W2.heap.size) (h : Below W2.heap.size W2 w) {g4 c4 n4 g5 c5 n5 : Nat}
  (O : Own2 W2.heap.size w (.slice (some ⟨g4, 0, none⟩) n4 c4) (to ++ List.replicate 8 0) (.slice (some ⟨g5, 0, none⟩) n5 c5) (fr ++ List.replicate 8 0)) (_h4 : 8 ≤ c4) (_h5 : 8 ≤ c5) :
  Named W sp (pad8 to) (pad8 fr) (.slice (some ⟨g4, 0, none⟩) 8 c4) (.slice (some ⟨g5, 0, none⟩) 8 c5) ((w.setCell ⟨W.heap.size, 1, none⟩ (.slice (some ⟨g4, 0, none⟩) 8 c4)).setCell ⟨W.heap.size, 2, none⟩ (.slice (some ⟨g5, 0, none⟩) 8 c5)) := by
 have e4 := O.fst.own.lt g4 rfl
 have e5 := O.snd.own.lt g5 rfl
 have K' := K.below' h
 have A4 : SB w (.slice (some ⟨g4, 0, none⟩) 8 c4) (pad8 to) := by
  have := O.fst.own.sb
  obtain ⟨l1, l2⟩ := this.len
  have := this.head 8 (by rw [l1, List.length_append, List.length_replicate]; omega)
  exact this
 have A5 : SB w (.slice (some ⟨g5, 0, none⟩) 8 c5) (pad8 fr) := by
  have := O.snd.own.sb
  obtain ⟨l1, l2⟩ := this.len
  have := this.head 8 (by rw [l1, List.length_append, List.length_replicate]; omega)
  exact this
 have n4 : ∀ g o n c, Value.slice (some ⟨g4, 0, none⟩) 8 c4 = .slice (some ⟨g, o, none⟩) n c → g ≠ W.heap.size := by
  intro g o n c e
  simp only [Value.slice.injEq, Option.some.injEq, Addr.mk.injEq] at e
  omega
 have n5 : ∀ g o n c, Value.slice (some ⟨g5, 0, none⟩) 8 c5 = .slice (some ⟨g, o, none⟩) n c → g ≠ W.heap.size := by
  intro g o n c e
  simp only [Value.slice.injEq, Option.some.injEq, Addr.mk.injEq] at e
  omega
 have b' := h0.trans (h.mono h0.size)
 have sz := h.size
 exact ⟨hd_names K', sb_set (sb_set A4 n4 1 _) n4 2 _, sb_set (sb_set A5 n5 1 _) n5 2 _, below_set (below_set b' 1 _) 2 _, by simp; omega, n4, n5⟩
theorem cell_one (q : Int) (p1 p2 : Option Addr) (n1 n2 c1 c2 : Nat) : (#[Value.int .i64 q, .slice p1 n1 c1, .slice p2 n2 c2] : Array Value).all (·.oneCell') = true := by simp [Value.oneCell']
theorem load_hdS {ops : Array Oper} {S : World → Prop} {o : Oper} {a : Act} (hgd : Region.wanted o (yielded ops a.tmps) = true) (x : Operand) (ho : o.op = .load 42 x) (g : Nat) (hx : a.eval x = .pointer (some ⟨g, 0, none⟩)) (sp : Int) (vt vf : Value) (K : ∀ w, S w → Blk w g 42 #[.int .i64 sp, vt, vf]) : YieldsIf Tryd.prog ops S o (.agg #[.int .i64 sp, vt, vf]) a :=
 yieldsIf_load_mid (S := S) hgd 42 x ho g 0 hx [.int .i64 sp, vt, vf] _ (fun w h => blk_range (K w h)) Tryd.underlying42 rfl info_hd
theorem results_cell2 {P : Program} {fn : Func} {p u v : Tmp} {ty : TypeId} (h : fn.results = #[.cell p ty, .tmp u, .tmp v]) (tmps : Array Value) (w : World) (g : Nat) (t : TypeId) (cs : Array Value) (d : TypeDesc)
  (hp : tmps.getD p undef = .pointer (some ⟨g, 0, none⟩)) (hg : Blk w g t cs) (hu : P.underlying ty = some d) (hd : (match d with | .struct _ | .array _ _ => true | _ => false) = true) (hi : (P.info? ty).map (·.size) = some cs.size) :
  (results fn tmps).run P w = .ok (.tuple #[.agg cs, tmps.getD u undef, tmps.getD v undef]) w := by
 have hp' : tmps[p]?.getD undef = .pointer (some ⟨g, 0, none⟩) := by simpa using hp
 simp [results, h, hp', asAddr, run_loadVar_row w g t ty cs (0, 0) d hg hu hd hi]
theorem SB.rowfar {w : World} {v : Value} {l : List Nat} (h : SB w v l) {g : Nat} (ne : ∀ g1 o n c, v = .slice (some ⟨g1, o, none⟩) n c → l = [] ∨ g1 ≠ g) (cs : Array Value) : SB (w.setRow g cs) v l := by
 obtain ⟨p, c, rfl, hc, h0 | ⟨g1, o, rfl, A⟩⟩ := h
 · exact ⟨p, c, rfl, hc, Or.inl h0⟩
 ·
  rcases ne g1 o _ _ rfl with e | e
  · exact ⟨_, c, rfl, hc, Or.inl e⟩
  · exact ⟨_, c, rfl, hc, Or.inr ⟨g1, o, rfl, A.of_block (setRow_other w g g1 cs e)⟩⟩
/-- Bytes that were there ahead lie in no block that came later. -/
theorem SB.old {W : World} {p : Option Addr} {k c : Nat} {l : List Nat} (h : SB W (.slice p k c) l) {g : Nat} (hg : W.heap.size ≤ g) : ∀ g1 o n d, Value.slice p k c = .slice (some ⟨g1, o, none⟩) n d → l = [] ∨ g1 ≠ g := fun g1 o n d e => by
 obtain ⟨q, c2, e2, _, h0 | ⟨g2, o2, rfl, A⟩⟩ := h
 · exact Or.inl h0
 ·
  simp only [Value.slice.injEq] at e e2
  have := A.blk
  obtain ⟨rfl, _, _⟩ := e2
  obtain ⟨e3, _, _⟩ := e
  simp only [Option.some.injEq, Addr.mk.injEq] at e3
  exact Or.inr (by omega)
/-- A case's head, made right if that is wanted: the space, the names, the numbers. -/
structure CH where
 sp : Int
 to : List Nat
 fr : List Nat
 pn : Nat
 ac : Nat
def caseH (sp : Int) (to fr : List Nat) (pn ac : Nat) (r : Bool) : CH :=
 if r then ⟨(((IntKind.u64.wrap sp).toNat % 3 : Nat) : Int), pad8 to, pad8 fr, pn % 4611686018427387904, pn % 4611686018427387904 - min (pn % 4611686018427387904) (ac % 70000)⟩ else ⟨sp, to, fr, pn, ac⟩
/-- What a case's head answers. -/
def CaseP (V : World) (c : CH) (e : Ending) (w' : World) : Prop :=
 ∃ vt vf, e = .returned (.tuple #[.agg #[.int .i64 c.sp, vt, vf], .int .u64 (c.pn : Int), .int .u64 (c.ac : Int)]) ∧ SB w' vt c.to ∧ SB w' vf c.fr ∧ Below V.heap.size V w'
set_option maxHeartbeats 8000000 in
set_option maxRecDepth 100000 in
theorem chead_c (s to fr : List Nat) (sp : Int) (pn ac : Nat) (r : Bool) (vt vf vb : Value) (V : World) (ls : s.length = 32) (hm : to.length ≤ 50) (hn : fr.length ≤ 50) (hp : pn < 18446744073709551616) (ha : ac < 18446744073709551616) (h1 : SB V vt to) (h2 : SB V vf fr) :
  Calls Tryd.prog 15 #[.agg (csA s (csT sp vt vf pn ac r vb))] V (CaseP V (caseH sp to fr pn ac r)) := by
 obtain ⟨p1, c1, rfl⟩ := h1.shape
 obtain ⟨p2, c2, rfl⟩ := h2.shape
 have LL := Lib.hid (And.intro hm hn)
 clear hm hn
 obtain ⟨m, hm⟩ : ∃ m, to.length = m := ⟨_, rfl⟩
 obtain ⟨n, hn⟩ : ∃ n, fr.length = n := ⟨_, rfl⟩
 rw [hm] at h1
 rw [hn] at h2
 rw [hm, hn]
 have MN := Lib.hid (show to.length = m ∧ fr.length = n ∧ m ≤ 100 ∧ n ≤ 100 by have := LL.out; omega)
 clear hm hn LL
 obtain ⟨CS, hCS⟩ : ∃ CS, csA s (csT sp (.slice p1 m c1) (.slice p2 n c2) pn ac r vb) = CS := ⟨_, rfl⟩
 rw [hCS]
 have HCS := Lib.hid hCS
 have PA := Lib.hid (And.intro hp ha)
 clear hCS hp ha
 obtain ⟨C, hC⟩ : ∃ C, caseH sp to fr pn ac r = C := ⟨_, rfl⟩
 rw [hC]
 have HC := Lib.hid hC
 clear hC
 go_enter Tryd.func15, Tryd.ntmps15
 go_upto_region 0 with fail
 rename_i aK
 refine wp_region_seq ?_
 refine wpSeq_wp rfl ?_
 unfold Oper.wp execOp
 go_simp
 refine wpSeq_wp rfl ?_
 unfold Oper.wp execOp
 go_simp
 refine sas (.int .u64 0) rfl rfl rfl ?_
 simp only [AP]
 refine sas (.int .u64 0) rfl rfl rfl ?_
 simp only [AP]
 refine wpSeq_nil ?_
 refine aK _ _ ?_
 clear aK
 have b0 := ((Below.refl V.heap.size V).alloc (Nat.le_refl _) (.cells CS 40)).alloc (by rw [size_alloc1]; omega) (.cells #[.int .i64 0, .slice none 0 0, .slice none 0 0] 42)
 have RES := Blk.new (V.alloc (.cells CS 40)) 42 #[.int .i64 0, .slice none 0 0, .slice none 0 0]
 rw [size_alloc1] at RES
 have KC := (Blk.new V 40 CS).alloc (.cells #[.int .i64 0, .slice none 0 0, .slice none 0 0] 42)
 have VW : V.heap.size + 2 ≤ ((V.alloc (.cells CS 40)).alloc (.cells #[.int .i64 0, .slice none 0 0, .slice none 0 0] 42)).heap.size := by rw [size_alloc1, size_alloc1]; omega
 generalize World.alloc (World.alloc V _) _ = W at *
 have O1 := Lib.hid (h1.old (Nat.le_succ V.heap.size))
 have O2 := Lib.hid (h2.old (Nat.le_succ V.heap.size))
 replace h1 := h1.below b0
 replace h2 := h2.below b0
 rw [← HCS.out] at KC
 obtain ⟨y32, y33, y34, -, -, -, -⟩ := cs_cells KC ls
 replace KC := Lib.hid KC
 replace RES := Lib.hid RES
 go_upto_region 1 with fail
 rename_i aK
 refine wp_region_seq ?_
 refine svl (.pointer (some ⟨V.heap.size, 32, none⟩)) (.inl ⟨by rfl, fun w' _ => by go_simp⟩) ?_
 simp only [AP]
 refine wpSeq_yield (S := fun w' => w' = W) (v := .int .i64 sp) (Or.inl ⟨by rfl, fun w' hw' => by (rw [hw']; go_simp)⟩) rfl ?_
 simp only [AP]
 refine svl (.pointer (some ⟨V.heap.size, 33, none⟩)) (.inl ⟨by rfl, fun w' _ => by go_simp⟩) ?_
 simp only [AP]
 refine wpSeq_yield (S := fun w' => w' = W) (v := .slice p1 m c1) (Or.inl ⟨by rfl, fun w' hw' => by (rw [hw']; go_simp)⟩) rfl ?_
 simp only [AP]
 refine svl (.pointer (some ⟨V.heap.size, 34, none⟩)) (.inl ⟨by rfl, fun w' _ => by go_simp⟩) ?_
 simp only [AP]
 refine wpSeq_yield (S := fun w' => w' = W) (v := .slice p2 n c2) (Or.inl ⟨by rfl, fun w' hw' => by (rw [hw']; go_simp)⟩) rfl ?_
 simp only [AP]
 refine svl (.agg #[.int .i64 sp, .slice p1 m c1, .slice p2 n c2]) (.inl ⟨by rfl, fun w' _ => by go_simp⟩) ?_
 simp only [AP]
 refine wpSeq_wp rfl ?_
 unfold Oper.wp execOp
 go_simp
 refine wpSeq_store_row rfl 42 _ _ rfl (W.heap.size) #[.int .i64 sp, .slice p1 m c1, .slice p2 n c2] rfl rfl _ _ (Blk.new _ _ _) info_hd rfl (cell_one _ _ _ _ _ _ _) ?_
 simp only [Act.put]
 refine wpSeq_nil ?_
 refine (by assumption : ∀ (a : Act) (w : World), _ → _) _ _ ?_
 have b := below_setRow ((Below.refl W.heap.size W).alloc (Nat.le_refl _) (.cells #[.int .i64 0, .slice none 0 0, .slice none 0 0] 42)) (Nat.le_refl _) #[.int .i64 sp, .slice p1 m c1, .slice p2 n c2]
 have K : Blk ((W.alloc (.cells #[.int .i64 0, .slice none 0 0, .slice none 0 0] 42)).setRow W.heap.size #[.int .i64 sp, .slice p1 m c1, .slice p2 n c2]) W.heap.size 42 #[.int .i64 sp, .slice p1 m c1, .slice p2 n c2] := (Blk.new W 42 #[.int .i64 0, .slice none 0 0, .slice none 0 0]).row _
 clear y32 y33 y34
 generalize World.setRow _ _ _ = W2 at *
 have zz : W.heap.size < W2.heap.size := K.lt
 have KC2 := KC.out.below b (by omega)
 obtain ⟨-, -, -, y35, y36, y37, -⟩ := cs_cells KC2 ls
 replace h1 := Lib.hid (h1.below b)
 replace h2 := Lib.hid (h2.below b)
 replace K := Lib.hid K
 replace b := Lib.hid b
 replace b0 := Lib.hid b0
 go_upto_region 2 with fail
 rename_i aK
 refine wp_region_seq ?_
 refine svl (.pointer (some ⟨V.heap.size, 37, none⟩)) (.inl ⟨by rfl, fun w' _ => by go_simp⟩) ?_
 simp only [AP]
 refine wpSeq_yield (S := fun w' => w' = W2) (v := .bool r) (Or.inl ⟨by rfl, fun w' hw' => by (rw [hw']; go_simp)⟩) rfl ?_
 simp only [AP]
 refine wpSeq_nil ?_
 refine (by assumption : ∀ (a : Act) (w : World), _ → _) _ _ ?_
 cases r with
 | false =>
  have bd := below_drew (Below.refl W2.heap.size W2)
  have K7 := (K.out).below' bd
  obtain ⟨-, -, -, z35, z36, -, -⟩ := cs_cells ((KC2).below' bd) ls
  have R7 := (RES.out.below b.out (by omega)).below' bd
  have t7 := (h1.out).below bd
  have f7 := (h2.out).below bd
  have b7 := (b0.out.trans (b.out.mono b0.out.size)).trans (bd.mono (b0.out.trans (b.out.mono b0.out.size)).size)
  clear bd
  go_upto_region 7 with fail
  rename_i aK
  refine wp_region_S (S := fun w' => Blk w' W.heap.size 42 #[.int .i64 sp, .slice p1 m c1, .slice p2 n c2] ∧ w'.cell? ⟨V.heap.size, 35, none⟩ = some (.int .u64 (pn : Int)) ∧ w'.cell? ⟨V.heap.size, 36, none⟩ = some (.int .u64 (ac : Int))) (by kernel_rfl) ?_
  generalize World.drew W2 = w9 at *
  have hS := And.intro K7 (And.intro z35 z36)
  refine wpAnyS_takeL 0 (v := .agg #[.int .i64 sp, .slice p1 m c1, .slice p2 n c2]) rfl (by kernel_rfl) (by kernel_rfl) (by kernel_rfl) (fun _ _ _ H => H) (load_hdS (S := fun w' => Blk w' W.heap.size 42 #[.int .i64 sp, .slice p1 m c1, .slice p2 n c2] ∧ w'.cell? ⟨V.heap.size, 35, none⟩ = some (.int .u64 (pn : Int)) ∧ w'.cell? ⟨V.heap.size, 36, none⟩ = some (.int .u64 (ac : Int))) rfl _ rfl W.heap.size rfl (sp) (.slice p1 m c1) (.slice p2 n c2) (fun _ h => h.1)) hS ?_
  simp only [AP]
  refine wpAnyS_takeL 1 (v := .pointer (some ⟨V.heap.size, 35, none⟩)) rfl (by kernel_rfl) (by kernel_rfl) (by kernel_rfl) (fun _ _ _ H => H) (Or.inl ⟨by rfl, fun w' hw' => by go_simp⟩) hS ?_
  simp only [AP]
  refine wpAnyS_takeL 2 (v := .int .u64 (pn : Int)) rfl (by kernel_rfl) (by kernel_rfl) (by kernel_rfl) (fun _ _ _ H => H) (Or.inl ⟨by rfl, fun w' hw' => by (have cc := hw'.2.1; go_simp)⟩) hS ?_
  simp only [AP]
  refine wpAnyS_takeL 3 (v := .pointer (some ⟨V.heap.size, 36, none⟩)) rfl (by kernel_rfl) (by kernel_rfl) (by kernel_rfl) (fun _ _ _ H => H) (Or.inl ⟨by rfl, fun w' hw' => by go_simp⟩) hS ?_
  simp only [AP]
  refine wpAnyS_takeL 4 (v := .int .u64 (ac : Int)) rfl (by kernel_rfl) (by kernel_rfl) (by kernel_rfl) (fun _ _ _ H => H) (Or.inl ⟨by rfl, fun w' hw' => by (have cc := hw'.2.2; go_simp)⟩) hS ?_
  simp only [AP]
  refine gstep 5 rfl rfl (by kernel_rfl) (wp_store_row 42 _ _ rfl (V.heap.size + 1) #[.int .i64 sp, .slice p1 m c1, .slice p2 n c2] rfl rfl _ _ R7 info_hd rfl (cell_one _ _ _ _ _ _ _) ⟨?_, ?_⟩)
  · exact ⟨K7.rowFar (by omega) _, (cell_congr (setRow_other w9 (V.heap.size + 1) V.heap.size _ (by omega))).trans z35, (cell_congr (setRow_other w9 (V.heap.size + 1) V.heap.size _ (by omega))).trans z36⟩
  simp only [Act.put]
  have hS2 : (fun w' => Blk w' W.heap.size 42 #[.int .i64 sp, .slice p1 m c1, .slice p2 n c2] ∧ w'.cell? ⟨V.heap.size, 35, none⟩ = some (.int .u64 (pn : Int)) ∧ w'.cell? ⟨V.heap.size, 36, none⟩ = some (.int .u64 (ac : Int))) (w9.setRow (V.heap.size + 1) #[.int .i64 sp, .slice p1 m c1, .slice p2 n c2]) := ⟨K7.rowFar (by omega) _, (cell_congr (setRow_other w9 (V.heap.size + 1) V.heap.size _ (by omega))).trans z35, (cell_congr (setRow_other w9 (V.heap.size + 1) V.heap.size _ (by omega))).trans z36⟩
  refine wpAnyS_takeL 6 (v := .int .u64 (pn : Int)) rfl (by kernel_rfl) (by kernel_rfl) (by kernel_rfl) (fun _ _ _ H => H) (yieldsIf_assign rfl _ rfl (.int .u64 (pn : Int)) rfl) hS2 ?_
  simp only [AP]
  refine wpAnyS_takeL 7 (v := .int .u64 (ac : Int)) rfl (by kernel_rfl) (by kernel_rfl) (by kernel_rfl) (fun _ _ _ H => H) (yieldsIf_assign rfl _ rfl (.int .u64 (ac : Int)) rfl) hS2 ?_
  simp only [AP]
  refine wpAnyS_done (by kernel_rfl) ?_ _
  refine (by assumption : ∀ (a : Act) (w : World), _ → _) _ _ ?_
  have R8 := R7.row #[.int .i64 sp, .slice p1 m c1, .slice p2 n c2]
  have b8 := below_setRow b7 (show V.heap.size ≤ V.heap.size + 1 by omega) #[.int .i64 sp, .slice p1 m c1, .slice p2 n c2]
  have t8 := SB.rowfar t7 (g := V.heap.size + 1) (O1.out) #[.int .i64 sp, .slice p1 m c1, .slice p2 n c2]
  have f8 := SB.rowfar f7 (g := V.heap.size + 1) (O2.out) #[.int .i64 sp, .slice p1 m c1, .slice p2 n c2]
  clear hS hS2 z35 z36 K7 R7 t7 f7 b7
  generalize World.setRow w9 _ _ = w10 at *
  go_wp2
  refine bodyPost_ret (results_cell2 rfl _ _ _ _ _ _ rfl R8 Tryd.underlying42 rfl info_hd) rfl ?_
  unfold CaseP
  rw [← HC.out]
  rw [show caseH sp to fr pn ac false = ⟨sp, to, fr, pn, ac⟩ from rfl]
  exact ⟨_, _, rfl, t8, f8, b8⟩
 | true =>
  clear y37
  go_upto_region 3 with fail
  rename_i KK aK
  have AK : ∀ (e0 v3 e6 v9 : Value) (g4 c4 g5 c5 : Nat) (w' : World), W2.heap.size ≤ g4 → W2.heap.size ≤ g5 → Named W sp (pad8 to) (pad8 fr) (.slice (some ⟨g4, 0, none⟩) 8 c4) (.slice (some ⟨g5, 0, none⟩) 8 c5) w' → KK { tmps := #[.agg CS, .pointer (some ⟨V.heap.size, 0, none⟩), .pointer (some ⟨V.heap.size + 1, 0, none⟩), .int .u64 0, .int .u64 0, .pointer (some ⟨W.heap.size, 0, none⟩), .pointer (some ⟨V.heap.size, 32, none⟩), .int .i64 sp, .pointer (some ⟨V.heap.size, 33, none⟩), .slice p1 m c1, .pointer (some ⟨V.heap.size, 34, none⟩), .slice p2 n c2, .agg #[.int .i64 sp, .slice p1 m c1, .slice p2 n c2], .pointer (some ⟨V.heap.size, 37, none⟩), .bool true, e0, .pointer (some ⟨W.heap.size, 1, none⟩), .slice p1 m c1, v3, .slice (some ⟨g4, 0, none⟩) (m + 8) c4, .slice (some ⟨g4, 0, none⟩) 8 c4, e6, .pointer (some ⟨W.heap.size, 2, none⟩), .slice p2 n c2, v9, .slice (some ⟨g5, 0, none⟩) (n + 8) c5, .slice (some ⟨g5, 0, none⟩) 8 c5, .pointer (some ⟨W.heap.size, 1, none⟩), .pointer (some ⟨W.heap.size, 2, none⟩), undef, undef, undef, undef, undef, undef, undef, undef, undef, undef, undef, undef, undef, undef, undef, undef, undef, undef, undef, undef, undef, undef, undef, undef, undef], defers := [] } w' := by
   intro e0 v3 e6 v9 g4 c4 g5 c5 w6 lg4 lg5 NM
   refine aK _ _ ?_
   clear aK K h1 h2 b KC2 y35 y36
   obtain ⟨u, hu⟩ := Int.eq_ofNat_of_zero_le (show 0 ≤ IntKind.u64.wrap sp by rw [IntKind.wrap_u64]; omega)
   obtain ⟨sx, hs3⟩ : ∃ sx, u % 3 = sx := ⟨_, rfl⟩
   have a_u : (u : Int).tmod 3 = (sx : Int) := by rw [Int.tmod_eq_emod_of_nonneg (by omega)]; omega
   have b_u : IntKind.u64.wrap (sx : Int) = (sx : Int) := by rw [IntKind.wrap_u64]; omega
   have c_u : IntKind.i64.wrap (sx : Int) = (sx : Int) := by rw [IntKind.wrap_i64]; omega
   have SX := Lib.hid (show (((IntKind.u64.wrap sp).toNat % 3 : Nat) : Int) = (sx : Int) by rw [hu, ← hs3]; rfl)
   clear hs3
   have y0 : w6.cell? ⟨W.heap.size, 0, none⟩ = some (.int .i64 sp) := NM.blk.cell 0
   have y1 := NM.blk.frozen 0
   have lv : V.heap.size < W.heap.size := by omega
   go_upto_region 4 with fail
   rename_i aK
   refine wp_region_seq ?_
   refine svl (.pointer (some ⟨W.heap.size, 0, none⟩)) (.inl ⟨by rfl, fun w' _ => by go_simp⟩) ?_
   simp only [AP]
   refine wpSeq_yield (S := fun w' => w' = w6) (v := .int .i64 sp) (Or.inl ⟨by rfl, fun w' hw' => by (rw [hw']; go_simp)⟩) rfl ?_
   simp only [AP]
   refine svl (.int .u64 (u : Int)) (.inl ⟨by rfl, fun w' _ => by go_simp⟩) ?_
   simp only [AP]
   refine svl (.int .u64 (sx : Int)) (.inl ⟨by rfl, fun w' _ => by (go_simp; try omega)⟩) ?_
   simp only [AP]
   refine svl (.int .i64 (sx : Int)) (.inl ⟨by rfl, fun w' _ => by go_simp⟩) ?_
   simp only [AP]
   refine svl (.pointer (some ⟨W.heap.size, 0, none⟩)) (.inl ⟨by rfl, fun w' _ => by go_simp⟩) ?_
   simp only [AP]
   refine wpSeq_wp rfl ?_
   unfold Oper.wp execOp
   go_simp
   refine wpSeq_nil ?_
   refine (by assumption : ∀ (a : Act) (w : World), _ → _) _ _ ?_
   have NM7 : Named W (sx : Int) (pad8 to) (pad8 fr) (.slice (some ⟨g4, 0, none⟩) 8 c4) (.slice (some ⟨g5, 0, none⟩) 8 c5) (w6.setCell ⟨W.heap.size, 0, none⟩ (.int .i64 (sx : Int))) := NM.space _
   clear NM y0 y1 a_u b_u c_u hu
   generalize World.setCell w6 _ _ = w7 at *
   have KC7 := KC.out.below NM7.bel lv
   have RE7 := RES.out.below NM7.bel (show V.heap.size + 1 < W.heap.size by omega)
   have be7 := b0.out.trans (NM7.bel.mono b0.out.size)
   have BH := Lib.hid NM7.blk
   have BT := Lib.hid NM7.to_
   have BF := Lib.hid NM7.fr_
   clear NM7
   obtain ⟨-, -, -, x35, x36, -, -⟩ := cs_cells KC7 ls
   have f35 := KC7.frozen 35
   have f36 := KC7.frozen 36
   obtain ⟨q, hq⟩ : ∃ q, pn % 4611686018427387904 = q := ⟨_, rfl⟩
   have a_q : (pn : Int).tmod 4611686018427387904 = (q : Int) := by rw [Int.tmod_eq_emod_of_nonneg (by omega)]; omega
   have b_q : IntKind.u64.wrap (q : Int) = (q : Int) := by rw [IntKind.wrap_u64]; omega
   have QQ := Lib.hid hq
   go_upto_region 5 with fail
   rename_i aK
   refine wp_region_seq ?_
   refine svl (.pointer (some ⟨V.heap.size, 35, none⟩)) (.inl ⟨by rfl, fun w' _ => by go_simp⟩) ?_
   simp only [AP]
   refine wpSeq_yield (S := fun w' => w' = w7) (v := .int .u64 (pn : Int)) (Or.inl ⟨by rfl, fun w' hw' => by (rw [hw']; go_simp)⟩) rfl ?_
   simp only [AP]
   refine svl (.int .u64 (q : Int)) (.inl ⟨by rfl, fun w' _ => by (go_simp; try omega)⟩) ?_
   simp only [AP]
   refine svl (.pointer (some ⟨V.heap.size, 35, none⟩)) (.inl ⟨by rfl, fun w' _ => by go_simp⟩) ?_
   simp only [AP]
   refine wpSeq_wp rfl ?_
   unfold Oper.wp execOp
   go_simp
   refine wpSeq_nil ?_
   refine (by assumption : ∀ (a : Act) (w : World), _ → _) _ _ ?_
   have KC8 : Blk (w7.setCell ⟨V.heap.size, 35, none⟩ (.int .u64 (q : Int))) V.heap.size 40 (csA s (csT sp (.slice p1 m c1) (.slice p2 n c2) q ac true vb)) := by
    have x := KC7.set 35 (.int .u64 (q : Int))
    rw [show (35 : Nat) = 32 + 3 from rfl, csA_set ls] at x
    exact x
   have BH8 := BH.out.far (p := ⟨V.heap.size, 35, none⟩) (Nat.ne_of_gt lv) (.int .u64 (q : Int))
   have RE8 := RE7.far (p := ⟨V.heap.size, 35, none⟩) (by show V.heap.size + 1 ≠ V.heap.size; omega) (.int .u64 (q : Int))
   have BT8 := sb_set BT.out (a := V.heap.size) (by intro g o n c e; simp only [Value.slice.injEq, Option.some.injEq, Addr.mk.injEq] at e; omega) 35 (.int .u64 (q : Int))
   have BF8 := sb_set BF.out (a := V.heap.size) (by intro g o n c e; simp only [Value.slice.injEq, Option.some.injEq, Addr.mk.injEq] at e; omega) 35 (.int .u64 (q : Int))
   have be8 := be7.setCell (p := ⟨V.heap.size, 35, none⟩) (Nat.le_refl V.heap.size) (.int .u64 (q : Int))
   clear KC7 BH BT BF RE7 be7 x35 x36 f35 f36 a_q b_q
   generalize World.setCell w7 _ _ = w8 at *
   obtain ⟨-, -, -, x35, x36, -, -⟩ := cs_cells KC8 ls
   have f36 := KC8.frozen 36
   obtain ⟨t, ht⟩ : ∃ t, ac % 70000 = t := ⟨_, rfl⟩
   obtain ⟨mn, hmn⟩ : ∃ mn, min q t = mn := ⟨_, rfl⟩
   obtain ⟨z, hz⟩ : ∃ z, q - mn = z := ⟨_, rfl⟩
   have a_t : (ac : Int).tmod 70000 = (t : Int) := by rw [Int.tmod_eq_emod_of_nonneg (by omega)]; omega
   have b_t : IntKind.u64.wrap (t : Int) = (t : Int) := by rw [IntKind.wrap_u64]; omega
   have c_t : min (q : Int) (t : Int) = (mn : Int) := by omega
   have d_t : IntKind.u64.wrap ((q : Int) - (mn : Int)) = (z : Int) := by rw [IntKind.wrap_u64]; omega
   have ZZ := Lib.hid (show pn % 4611686018427387904 - min (pn % 4611686018427387904) (ac % 70000) = z by rw [QQ.out, ht, hmn, hz])
   clear ht hmn hz hq
   go_upto_region 6 with fail
   rename_i aK
   refine wp_region_seq ?_
   refine svl (.pointer (some ⟨V.heap.size, 35, none⟩)) (.inl ⟨by rfl, fun w' _ => by go_simp⟩) ?_
   simp only [AP]
   refine wpSeq_yield (S := fun w' => w' = w8) (v := .int .u64 (q : Int)) (Or.inl ⟨by rfl, fun w' hw' => by (rw [hw']; go_simp)⟩) rfl ?_
   simp only [AP]
   refine svl (.pointer (some ⟨V.heap.size, 35, none⟩)) (.inl ⟨by rfl, fun w' _ => by go_simp⟩) ?_
   simp only [AP]
   refine wpSeq_yield (S := fun w' => w' = w8) (v := .int .u64 (q : Int)) (Or.inl ⟨by rfl, fun w' hw' => by (rw [hw']; go_simp)⟩) rfl ?_
   simp only [AP]
   refine svl (.pointer (some ⟨V.heap.size, 36, none⟩)) (.inl ⟨by rfl, fun w' _ => by go_simp⟩) ?_
   simp only [AP]
   refine wpSeq_yield (S := fun w' => w' = w8) (v := .int .u64 (ac : Int)) (Or.inl ⟨by rfl, fun w' hw' => by (rw [hw']; go_simp)⟩) rfl ?_
   simp only [AP]
   refine svl (.int .u64 (t : Int)) (.inl ⟨by rfl, fun w' _ => by (go_simp; try omega)⟩) ?_
   simp only [AP]
   refine svl (.int .u64 (mn : Int)) (.inl ⟨by rfl, fun w' _ => by (go_simp; try omega)⟩) ?_
   simp only [AP]
   refine svl (.int .u64 (z : Int)) (.inl ⟨by rfl, fun w' _ => by go_simp⟩) ?_
   simp only [AP]
   refine svl (.pointer (some ⟨V.heap.size, 36, none⟩)) (.inl ⟨by rfl, fun w' _ => by go_simp⟩) ?_
   simp only [AP]
   refine wpSeq_wp rfl ?_
   unfold Oper.wp execOp
   go_simp
   refine wpSeq_nil ?_
   refine (by assumption : ∀ (a : Act) (w : World), _ → _) _ _ ?_
   have KCA : Blk (w8.setCell ⟨V.heap.size, 36, none⟩ (.int .u64 (z : Int))) V.heap.size 40 (csA s (csT sp (.slice p1 m c1) (.slice p2 n c2) q z true vb)) := by
    have x := KC8.set 36 (.int .u64 (z : Int))
    rw [show (36 : Nat) = 32 + 4 from rfl, csA_set ls] at x
    exact x
   have BHA := BH8.far (p := ⟨V.heap.size, 36, none⟩) (Nat.ne_of_gt lv) (.int .u64 (z : Int))
   have REA := RE8.far (p := ⟨V.heap.size, 36, none⟩) (by show V.heap.size + 1 ≠ V.heap.size; omega) (.int .u64 (z : Int))
   have BTA := sb_set BT8 (a := V.heap.size) (by intro g o n c e; simp only [Value.slice.injEq, Option.some.injEq, Addr.mk.injEq] at e; omega) 36 (.int .u64 (z : Int))
   have BFA := sb_set BF8 (a := V.heap.size) (by intro g o n c e; simp only [Value.slice.injEq, Option.some.injEq, Addr.mk.injEq] at e; omega) 36 (.int .u64 (z : Int))
   have beA := be8.setCell (p := ⟨V.heap.size, 36, none⟩) (Nat.le_refl V.heap.size) (.int .u64 (z : Int))
   clear KC8 BH8 BT8 BF8 RE8 be8 x35 x36 f36 a_t b_t c_t d_t
   generalize World.setCell w8 _ _ = wA at *
   have bd := below_drew (Below.refl wA.heap.size wA)
   have K7 := (BHA).below' bd
   obtain ⟨-, -, -, z35, z36, -, -⟩ := cs_cells ((KCA).below' bd) ls
   have R7 := (REA).below' bd
   have t7 := (BTA).below bd
   have f7 := (BFA).below bd
   have b7 := (beA).trans (bd.mono (beA).size)
   clear bd
   go_upto_region 7 with fail
   rename_i aK
   refine wp_region_S (S := fun w' => Blk w' W.heap.size 42 #[.int .i64 (sx : Int), .slice (some ⟨g4, 0, none⟩) 8 c4, .slice (some ⟨g5, 0, none⟩) 8 c5] ∧ w'.cell? ⟨V.heap.size, 35, none⟩ = some (.int .u64 (q : Int)) ∧ w'.cell? ⟨V.heap.size, 36, none⟩ = some (.int .u64 (z : Int))) (by kernel_rfl) ?_
   generalize World.drew wA = w9 at *
   have hS := And.intro K7 (And.intro z35 z36)
   refine wpAnyS_takeL 0 (v := .agg #[.int .i64 (sx : Int), .slice (some ⟨g4, 0, none⟩) 8 c4, .slice (some ⟨g5, 0, none⟩) 8 c5]) rfl (by kernel_rfl) (by kernel_rfl) (by kernel_rfl) (fun _ _ _ H => H) (load_hdS (S := fun w' => Blk w' W.heap.size 42 #[.int .i64 (sx : Int), .slice (some ⟨g4, 0, none⟩) 8 c4, .slice (some ⟨g5, 0, none⟩) 8 c5] ∧ w'.cell? ⟨V.heap.size, 35, none⟩ = some (.int .u64 (q : Int)) ∧ w'.cell? ⟨V.heap.size, 36, none⟩ = some (.int .u64 (z : Int))) rfl _ rfl W.heap.size rfl ((sx : Int)) (.slice (some ⟨g4, 0, none⟩) 8 c4) (.slice (some ⟨g5, 0, none⟩) 8 c5) (fun _ h => h.1)) hS ?_
   simp only [AP]
   refine wpAnyS_takeL 1 (v := .pointer (some ⟨V.heap.size, 35, none⟩)) rfl (by kernel_rfl) (by kernel_rfl) (by kernel_rfl) (fun _ _ _ H => H) (Or.inl ⟨by rfl, fun w' hw' => by go_simp⟩) hS ?_
   simp only [AP]
   refine wpAnyS_takeL 2 (v := .int .u64 (q : Int)) rfl (by kernel_rfl) (by kernel_rfl) (by kernel_rfl) (fun _ _ _ H => H) (Or.inl ⟨by rfl, fun w' hw' => by (have cc := hw'.2.1; go_simp)⟩) hS ?_
   simp only [AP]
   refine wpAnyS_takeL 3 (v := .pointer (some ⟨V.heap.size, 36, none⟩)) rfl (by kernel_rfl) (by kernel_rfl) (by kernel_rfl) (fun _ _ _ H => H) (Or.inl ⟨by rfl, fun w' hw' => by go_simp⟩) hS ?_
   simp only [AP]
   refine wpAnyS_takeL 4 (v := .int .u64 (z : Int)) rfl (by kernel_rfl) (by kernel_rfl) (by kernel_rfl) (fun _ _ _ H => H) (Or.inl ⟨by rfl, fun w' hw' => by (have cc := hw'.2.2; go_simp)⟩) hS ?_
   simp only [AP]
   refine gstep 5 rfl rfl (by kernel_rfl) (wp_store_row 42 _ _ rfl (V.heap.size + 1) #[.int .i64 (sx : Int), .slice (some ⟨g4, 0, none⟩) 8 c4, .slice (some ⟨g5, 0, none⟩) 8 c5] rfl rfl _ _ R7 info_hd rfl (cell_one _ _ _ _ _ _ _) ⟨?_, ?_⟩)
   · exact ⟨K7.rowFar (by omega) _, (cell_congr (setRow_other w9 (V.heap.size + 1) V.heap.size _ (by omega))).trans z35, (cell_congr (setRow_other w9 (V.heap.size + 1) V.heap.size _ (by omega))).trans z36⟩
   simp only [Act.put]
   have hS2 : (fun w' => Blk w' W.heap.size 42 #[.int .i64 (sx : Int), .slice (some ⟨g4, 0, none⟩) 8 c4, .slice (some ⟨g5, 0, none⟩) 8 c5] ∧ w'.cell? ⟨V.heap.size, 35, none⟩ = some (.int .u64 (q : Int)) ∧ w'.cell? ⟨V.heap.size, 36, none⟩ = some (.int .u64 (z : Int))) (w9.setRow (V.heap.size + 1) #[.int .i64 (sx : Int), .slice (some ⟨g4, 0, none⟩) 8 c4, .slice (some ⟨g5, 0, none⟩) 8 c5]) := ⟨K7.rowFar (by omega) _, (cell_congr (setRow_other w9 (V.heap.size + 1) V.heap.size _ (by omega))).trans z35, (cell_congr (setRow_other w9 (V.heap.size + 1) V.heap.size _ (by omega))).trans z36⟩
   refine wpAnyS_takeL 6 (v := .int .u64 (q : Int)) rfl (by kernel_rfl) (by kernel_rfl) (by kernel_rfl) (fun _ _ _ H => H) (yieldsIf_assign rfl _ rfl (.int .u64 (q : Int)) rfl) hS2 ?_
   simp only [AP]
   refine wpAnyS_takeL 7 (v := .int .u64 (z : Int)) rfl (by kernel_rfl) (by kernel_rfl) (by kernel_rfl) (fun _ _ _ H => H) (yieldsIf_assign rfl _ rfl (.int .u64 (z : Int)) rfl) hS2 ?_
   simp only [AP]
   refine wpAnyS_done (by kernel_rfl) ?_ _
   refine (by assumption : ∀ (a : Act) (w : World), _ → _) _ _ ?_
   have R8 := R7.row #[.int .i64 (sx : Int), .slice (some ⟨g4, 0, none⟩) 8 c4, .slice (some ⟨g5, 0, none⟩) 8 c5]
   have b8 := below_setRow b7 (show V.heap.size ≤ V.heap.size + 1 by omega) #[.int .i64 (sx : Int), .slice (some ⟨g4, 0, none⟩) 8 c4, .slice (some ⟨g5, 0, none⟩) 8 c5]
   have t8 := SB.rowfar t7 (g := V.heap.size + 1) ((by intro g o n c e; simp only [Value.slice.injEq, Option.some.injEq, Addr.mk.injEq] at e; exact Or.inr (by omega))) #[.int .i64 (sx : Int), .slice (some ⟨g4, 0, none⟩) 8 c4, .slice (some ⟨g5, 0, none⟩) 8 c5]
   have f8 := SB.rowfar f7 (g := V.heap.size + 1) ((by intro g o n c e; simp only [Value.slice.injEq, Option.some.injEq, Addr.mk.injEq] at e; exact Or.inr (by omega))) #[.int .i64 (sx : Int), .slice (some ⟨g4, 0, none⟩) 8 c4, .slice (some ⟨g5, 0, none⟩) 8 c5]
   clear hS hS2 z35 z36 K7 R7 t7 f7 b7
   generalize World.setRow w9 _ _ = w10 at *
   go_wp2
   refine bodyPost_ret (results_cell2 rfl _ _ _ _ _ _ rfl R8 Tryd.underlying42 rfl info_hd) rfl ?_
   unfold CaseP
   rw [← HC.out]
   rw [show caseH sp to fr pn ac true = ⟨(sx : Int), pad8 to, pad8 fr, q, z⟩ by unfold caseH; rw [if_pos rfl, SX.out, ZZ.out, QQ.out]]
   exact ⟨_, _, rfl, t8, f8, b8⟩
  clear aK HC HCS
  refine wp_region_Z (S := fun w' => Below W2.heap.size W2 w') 13 (by kernel_rfl) ?_
  have bd := below_drew (Below.refl W2.heap.size W2)
  generalize W2.drew = W3 at *
  refine wpAnyZ_takeL 1 (v := .pointer (some ⟨W.heap.size, 1, none⟩)) rfl (by kernel_rfl) (by kernel_rfl) (by kernel_rfl) (by kernel_rfl) (by kernel_rfl) (fun _ _ _ H => H) (Or.inl ⟨by rfl, fun w' hw' => by go_simp⟩) bd ?_
  simp only [AP]
  refine wpAnyZ_takeL 2 (v := .slice p1 m c1) rfl (by kernel_rfl) (by kernel_rfl) (by kernel_rfl) (by kernel_rfl) (by kernel_rfl) (fun _ _ _ H => H) (Or.inl ⟨by rfl, fun w' hw' => by (have x : w'.cell? ⟨W.heap.size, 1, none⟩ = some (.slice p1 m c1) := (K.out.below' hw').cell 1; go_simp)⟩) bd ?_
  simp only [AP]
  refine wpAnyZ_takeL 7 (v := .pointer (some ⟨W.heap.size, 2, none⟩)) rfl (by kernel_rfl) (by kernel_rfl) (by kernel_rfl) (by kernel_rfl) (by kernel_rfl) (fun _ _ _ H => H) (Or.inl ⟨by rfl, fun w' hw' => by go_simp⟩) bd ?_
  simp only [AP]
  refine wpAnyZ_takeL 8 (v := .slice p2 n c2) rfl (by kernel_rfl) (by kernel_rfl) (by kernel_rfl) (by kernel_rfl) (by kernel_rfl) (fun _ _ _ H => H) (Or.inl ⟨by rfl, fun w' hw' => by (have x : w'.cell? ⟨W.heap.size, 2, none⟩ = some (.slice p2 n c2) := (K.out.below' hw').cell 2; go_simp)⟩) bd ?_
  simp only [AP]
  refine hzsteps 0 6 rfl rfl (by kernel_rfl) rfl rfl ?_ ?_
  ·
   skip
   have O1 := Own1.build W2.heap.size W3 bd.size
   have b1 := bd.alloc bd.size (.cells #[] 5)
   skip
   refine (wp_build_run _ rfl _ _ (run_buildSlice_none _) ⟨fun _ => b1, ?_⟩)
   simp only [AP]
   obtain ⟨e1, he1⟩ : ∃ e, Value.slice (some ⟨W3.heap.size, 0, none⟩) 0 0 = e := ⟨_, rfl⟩
   rw [he1] at O1 ⊢
   generalize World.alloc W3 _ = w1 at *
   refine hzsteps 3 6 rfl rfl (by kernel_rfl) rfl rfl ?_ ?_
   ·
    skip
    obtain ⟨v2, w2, hr2, O2, b2⟩ := own1_bytes 24 (.slice p1 m c1) _ O1 (h1.out.below b1) (by have := MN.out; (try simp only [List.length_nil, List.length_append, List.length_replicate]); omega) b1 b1.size
    rw [List.nil_append] at O2
    refine (wp_append_run _ _ _ _ rfl _ _ rfl rfl _ w2 hr2 ⟨fun _ => b2, ?_⟩)
    simp only [AP]
    clear hr2
    refine hzsteps 4 6 rfl rfl (by kernel_rfl) rfl rfl ?_ ?_
    ·
     skip
     obtain ⟨v3, w3, hr3, O3, b3⟩ := own1_noughts 24 8 (by decide) (by decide) O2 (by have := MN.out; (try simp only [List.length_nil, List.length_append, List.length_replicate]); omega) b2 b2.size
     obtain ⟨g4, c4, hv, lg4, hc4, _⟩ := (O3).slice
     rw [List.length_append, List.length_replicate, MN.out.1] at hv hc4
     subst hv
     refine (wp_append_run _ _ _ _ rfl _ _ rfl rfl _ w3 hr3 ⟨fun _ => b3, ?_⟩)
     simp only [AP]
     clear hr3
     refine wpAnyZ_takeL 5 (v := .slice (some ⟨g4, 0, none⟩) 8 c4) rfl (by kernel_rfl) (by kernel_rfl) (by kernel_rfl) (by kernel_rfl) (by kernel_rfl) (fun _ _ _ H => H) (Or.inl ⟨by rfl, fun w' hw' => by (have q1 : (8 : Int) ≤ (c4 : Int) := (by omega); go_simp)⟩) b3 ?_
     simp only [AP]
     refine wpAnyZ_takeL 12 (v := .pointer (some ⟨W.heap.size, 1, none⟩)) rfl (by kernel_rfl) (by kernel_rfl) (by kernel_rfl) (by kernel_rfl) (by kernel_rfl) (fun _ _ _ H => H) (Or.inl ⟨by rfl, fun w' hw' => by go_simp⟩) b3 ?_
     simp only [AP]
     have O4 := Own1.two O3 b3.size
     have b4 := b3.alloc b3.size (.cells #[] 5)
     skip
     refine hzstep 6 rfl (by kernel_rfl) rfl (wp_build_run _ rfl _ _ (run_buildSlice_none _) ⟨fun _ => b4, ?_⟩)
     simp only [AP]
     obtain ⟨e4, he4⟩ : ∃ e, Value.slice (some ⟨w3.heap.size, 0, none⟩) 0 0 = e := ⟨_, rfl⟩
     rw [he4] at O4 ⊢
     generalize World.alloc w3 _ = w4 at *
     obtain ⟨v5, w5, hr5, O5, b5⟩ := own2_bytes 24 (.slice p2 n c2) _ O4.swap (h2.out.below b4) (by have := MN.out; (try simp only [List.length_nil, List.length_append, List.length_replicate]); omega) b4 b4.size
     rw [List.nil_append] at O5
     refine hzstep 9 rfl (by kernel_rfl) rfl (wp_append_run _ _ _ _ rfl _ _ rfl rfl _ w5 hr5 ⟨fun _ => b5, ?_⟩)
     simp only [AP]
     clear hr5
     obtain ⟨v6, w6, hr6, O6, b6⟩ := own2_noughts 24 8 (by decide) (by decide) O5 (by have := MN.out; (try simp only [List.length_nil, List.length_append, List.length_replicate]); omega) b5 b5.size
     obtain ⟨g5, c5, hv, lg5, hc5, _⟩ := (O6.fst).slice
     rw [List.length_append, List.length_replicate, MN.out.2.1] at hv hc5
     subst hv
     refine hzstep 10 rfl (by kernel_rfl) rfl (wp_append_run _ _ _ _ rfl _ _ rfl rfl _ w6 hr6 ⟨fun _ => b6, ?_⟩)
     simp only [AP]
     clear hr6
     have NM := named_of K.out b.out zz b6 O6.swap (by omega) (by omega)
     have KW := K.out.below' b6
     have f1 := KW.frozen 1
     have f2 := KW.frozen 2
     have y1 : w6.cell? ⟨W.heap.size, 1, none⟩ = some (.slice p1 m c1) := KW.cell 1
     have y2 : (w6.setCell ⟨W.heap.size, 1, none⟩ (.slice (some ⟨g4, 0, none⟩) 8 c4)).cell? ⟨W.heap.size, 2, none⟩ = some (.slice p2 n c2) := (KW.set 1 _).cell 2
     have f3 := (KW.set 1 (.slice (some ⟨g4, 0, none⟩) 8 c4)).frozen 2
     have q1 : (8 : Int) ≤ (c5 : Int) := by omega
     refine hzsteps 11 13 rfl rfl (by kernel_rfl) rfl rfl ?_ ?_
     ·
      skip
      unfold Oper.wp execOp
      go_simp
      refine hzstep 13 rfl (by kernel_rfl) rfl ?_
      unfold Oper.wp execOp
      go_simp
      refine hzstep 14 rfl (by kernel_rfl) rfl ?_
      unfold Oper.wp execOp
      go_simp
      refine hzstep 15 rfl (by kernel_rfl) rfl ?_
      unfold Oper.wp execOp
      go_simp
      refine wpAnyZ_done (by kernel_rfl) ?_ _
      exact AK e1 v2 e4 v5 _ _ _ _ _ lg4 lg5 NM
     ·
      skip
      unfold Oper.wp execOp
      go_simp
      refine hzstep 11 rfl (by kernel_rfl) rfl ?_
      unfold Oper.wp execOp
      go_simp
      refine hzstep 14 rfl (by kernel_rfl) rfl ?_
      unfold Oper.wp execOp
      go_simp
      refine hzstep 15 rfl (by kernel_rfl) rfl ?_
      unfold Oper.wp execOp
      go_simp
      refine wpAnyZ_done (by kernel_rfl) ?_ _
      exact AK e1 v2 e4 v5 _ _ _ _ _ lg4 lg5 NM
    ·
     skip
     have O7 := Own1.two O2 b2.size
     have b7 := b2.alloc b2.size (.cells #[] 5)
     skip
     refine (wp_build_run _ rfl _ _ (run_buildSlice_none _) ⟨fun _ => b7, ?_⟩)
     simp only [AP]
     obtain ⟨e7, he7⟩ : ∃ e, Value.slice (some ⟨w2.heap.size, 0, none⟩) 0 0 = e := ⟨_, rfl⟩
     rw [he7] at O7 ⊢
     generalize World.alloc w2 _ = w7 at *
     obtain ⟨v8, w8, hr8, O8, b8⟩ := own2_noughts 24 8 (by decide) (by decide) O7 (by have := MN.out; (try simp only [List.length_nil, List.length_append, List.length_replicate]); omega) b7 b7.size
     obtain ⟨g4, c4, hv, lg4, hc4, _⟩ := (O8.fst).slice
     rw [List.length_append, List.length_replicate, MN.out.1] at hv hc4
     subst hv
     refine hzstep 4 rfl (by kernel_rfl) rfl (wp_append_run _ _ _ _ rfl _ _ rfl rfl _ w8 hr8 ⟨fun _ => b8, ?_⟩)
     simp only [AP]
     clear hr8
     refine wpAnyZ_takeL 5 (v := .slice (some ⟨g4, 0, none⟩) 8 c4) rfl (by kernel_rfl) (by kernel_rfl) (by kernel_rfl) (by kernel_rfl) (by kernel_rfl) (fun _ _ _ H => H) (Or.inl ⟨by rfl, fun w' hw' => by (have q1 : (8 : Int) ≤ (c4 : Int) := (by omega); go_simp)⟩) b8 ?_
     simp only [AP]
     refine wpAnyZ_takeL 12 (v := .pointer (some ⟨W.heap.size, 1, none⟩)) rfl (by kernel_rfl) (by kernel_rfl) (by kernel_rfl) (by kernel_rfl) (by kernel_rfl) (fun _ _ _ H => H) (Or.inl ⟨by rfl, fun w' hw' => by go_simp⟩) b8 ?_
     simp only [AP]
     obtain ⟨v9, w9, hr9, O9, b9⟩ := own2_bytes 24 (.slice p2 n c2) _ O8.swap (h2.out.below b8) (by have := MN.out; (try simp only [List.length_nil, List.length_append, List.length_replicate]); omega) b8 b8.size
     rw [List.nil_append] at O9
     refine hzstep 9 rfl (by kernel_rfl) rfl (wp_append_run _ _ _ _ rfl _ _ rfl rfl _ w9 hr9 ⟨fun _ => b9, ?_⟩)
     simp only [AP]
     clear hr9
     obtain ⟨v10, w10, hr10, O10, b10⟩ := own2_noughts 24 8 (by decide) (by decide) O9 (by have := MN.out; (try simp only [List.length_nil, List.length_append, List.length_replicate]); omega) b9 b9.size
     obtain ⟨g5, c5, hv, lg5, hc5, _⟩ := (O10.fst).slice
     rw [List.length_append, List.length_replicate, MN.out.2.1] at hv hc5
     subst hv
     refine hzstep 10 rfl (by kernel_rfl) rfl (wp_append_run _ _ _ _ rfl _ _ rfl rfl _ w10 hr10 ⟨fun _ => b10, ?_⟩)
     simp only [AP]
     clear hr10
     have NM := named_of K.out b.out zz b10 O10.swap (by omega) (by omega)
     have KW := K.out.below' b10
     have f1 := KW.frozen 1
     have f2 := KW.frozen 2
     have y1 : w10.cell? ⟨W.heap.size, 1, none⟩ = some (.slice p1 m c1) := KW.cell 1
     have y2 : (w10.setCell ⟨W.heap.size, 1, none⟩ (.slice (some ⟨g4, 0, none⟩) 8 c4)).cell? ⟨W.heap.size, 2, none⟩ = some (.slice p2 n c2) := (KW.set 1 _).cell 2
     have f3 := (KW.set 1 (.slice (some ⟨g4, 0, none⟩) 8 c4)).frozen 2
     have q1 : (8 : Int) ≤ (c5 : Int) := by omega
     refine hzsteps 11 13 rfl rfl (by kernel_rfl) rfl rfl ?_ ?_
     ·
      skip
      unfold Oper.wp execOp
      go_simp
      refine hzstep 13 rfl (by kernel_rfl) rfl ?_
      unfold Oper.wp execOp
      go_simp
      refine hzstep 14 rfl (by kernel_rfl) rfl ?_
      unfold Oper.wp execOp
      go_simp
      refine hzstep 15 rfl (by kernel_rfl) rfl ?_
      unfold Oper.wp execOp
      go_simp
      refine wpAnyZ_done (by kernel_rfl) ?_ _
      exact AK e1 v2 e7 v9 _ _ _ _ _ lg4 lg5 NM
     ·
      skip
      unfold Oper.wp execOp
      go_simp
      refine hzstep 11 rfl (by kernel_rfl) rfl ?_
      unfold Oper.wp execOp
      go_simp
      refine hzstep 14 rfl (by kernel_rfl) rfl ?_
      unfold Oper.wp execOp
      go_simp
      refine hzstep 15 rfl (by kernel_rfl) rfl ?_
      unfold Oper.wp execOp
      go_simp
      refine wpAnyZ_done (by kernel_rfl) ?_ _
      exact AK e1 v2 e7 v9 _ _ _ _ _ lg4 lg5 NM
   ·
    skip
    have O11 := Own1.two O1 b1.size
    have b11 := b1.alloc b1.size (.cells #[] 5)
    skip
    refine (wp_build_run _ rfl _ _ (run_buildSlice_none _) ⟨fun _ => b11, ?_⟩)
    simp only [AP]
    obtain ⟨e11, he11⟩ : ∃ e, Value.slice (some ⟨w1.heap.size, 0, none⟩) 0 0 = e := ⟨_, rfl⟩
    rw [he11] at O11 ⊢
    generalize World.alloc w1 _ = w11 at *
    obtain ⟨v12, w12, hr12, O12, b12⟩ := own2_bytes 24 (.slice p1 m c1) _ O11 (h1.out.below b11) (by have := MN.out; (try simp only [List.length_nil, List.length_append, List.length_replicate]); omega) b11 b11.size
    rw [List.nil_append] at O12
    refine hzstep 3 rfl (by kernel_rfl) rfl (wp_append_run _ _ _ _ rfl _ _ rfl rfl _ w12 hr12 ⟨fun _ => b12, ?_⟩)
    simp only [AP]
    clear hr12
    obtain ⟨v13, w13, hr13, O13, b13⟩ := own2_noughts 24 8 (by decide) (by decide) O12 (by have := MN.out; (try simp only [List.length_nil, List.length_append, List.length_replicate]); omega) b12 b12.size
    obtain ⟨g4, c4, hv, lg4, hc4, _⟩ := (O13.fst).slice
    rw [List.length_append, List.length_replicate, MN.out.1] at hv hc4
    subst hv
    refine hzstep 4 rfl (by kernel_rfl) rfl (wp_append_run _ _ _ _ rfl _ _ rfl rfl _ w13 hr13 ⟨fun _ => b13, ?_⟩)
    simp only [AP]
    clear hr13
    refine wpAnyZ_takeL 5 (v := .slice (some ⟨g4, 0, none⟩) 8 c4) rfl (by kernel_rfl) (by kernel_rfl) (by kernel_rfl) (by kernel_rfl) (by kernel_rfl) (fun _ _ _ H => H) (Or.inl ⟨by rfl, fun w' hw' => by (have q1 : (8 : Int) ≤ (c4 : Int) := (by omega); go_simp)⟩) b13 ?_
    simp only [AP]
    refine wpAnyZ_takeL 12 (v := .pointer (some ⟨W.heap.size, 1, none⟩)) rfl (by kernel_rfl) (by kernel_rfl) (by kernel_rfl) (by kernel_rfl) (by kernel_rfl) (fun _ _ _ H => H) (Or.inl ⟨by rfl, fun w' hw' => by go_simp⟩) b13 ?_
    simp only [AP]
    obtain ⟨v14, w14, hr14, O14, b14⟩ := own2_bytes 24 (.slice p2 n c2) _ O13.swap (h2.out.below b13) (by have := MN.out; (try simp only [List.length_nil, List.length_append, List.length_replicate]); omega) b13 b13.size
    rw [List.nil_append] at O14
    refine hzstep 9 rfl (by kernel_rfl) rfl (wp_append_run _ _ _ _ rfl _ _ rfl rfl _ w14 hr14 ⟨fun _ => b14, ?_⟩)
    simp only [AP]
    clear hr14
    obtain ⟨v15, w15, hr15, O15, b15⟩ := own2_noughts 24 8 (by decide) (by decide) O14 (by have := MN.out; (try simp only [List.length_nil, List.length_append, List.length_replicate]); omega) b14 b14.size
    obtain ⟨g5, c5, hv, lg5, hc5, _⟩ := (O15.fst).slice
    rw [List.length_append, List.length_replicate, MN.out.2.1] at hv hc5
    subst hv
    refine hzstep 10 rfl (by kernel_rfl) rfl (wp_append_run _ _ _ _ rfl _ _ rfl rfl _ w15 hr15 ⟨fun _ => b15, ?_⟩)
    simp only [AP]
    clear hr15
    have NM := named_of K.out b.out zz b15 O15.swap (by omega) (by omega)
    have KW := K.out.below' b15
    have f1 := KW.frozen 1
    have f2 := KW.frozen 2
    have y1 : w15.cell? ⟨W.heap.size, 1, none⟩ = some (.slice p1 m c1) := KW.cell 1
    have y2 : (w15.setCell ⟨W.heap.size, 1, none⟩ (.slice (some ⟨g4, 0, none⟩) 8 c4)).cell? ⟨W.heap.size, 2, none⟩ = some (.slice p2 n c2) := (KW.set 1 _).cell 2
    have f3 := (KW.set 1 (.slice (some ⟨g4, 0, none⟩) 8 c4)).frozen 2
    have q1 : (8 : Int) ≤ (c5 : Int) := by omega
    refine hzsteps 11 13 rfl rfl (by kernel_rfl) rfl rfl ?_ ?_
    ·
     skip
     unfold Oper.wp execOp
     go_simp
     refine hzstep 13 rfl (by kernel_rfl) rfl ?_
     unfold Oper.wp execOp
     go_simp
     refine hzstep 14 rfl (by kernel_rfl) rfl ?_
     unfold Oper.wp execOp
     go_simp
     refine hzstep 15 rfl (by kernel_rfl) rfl ?_
     unfold Oper.wp execOp
     go_simp
     refine wpAnyZ_done (by kernel_rfl) ?_ _
     exact AK e1 v12 e11 v14 _ _ _ _ _ lg4 lg5 NM
    ·
     skip
     unfold Oper.wp execOp
     go_simp
     refine hzstep 11 rfl (by kernel_rfl) rfl ?_
     unfold Oper.wp execOp
     go_simp
     refine hzstep 14 rfl (by kernel_rfl) rfl ?_
     unfold Oper.wp execOp
     go_simp
     refine hzstep 15 rfl (by kernel_rfl) rfl ?_
     unfold Oper.wp execOp
     go_simp
     refine wpAnyZ_done (by kernel_rfl) ?_ _
     exact AK e1 v12 e11 v14 _ _ _ _ _ lg4 lg5 NM
  ·
   skip
   have O16 := Own1.build W2.heap.size W3 bd.size
   have b16 := bd.alloc bd.size (.cells #[] 5)
   skip
   refine (wp_build_run _ rfl _ _ (run_buildSlice_none _) ⟨fun _ => b16, ?_⟩)
   simp only [AP]
   obtain ⟨e16, he16⟩ : ∃ e, Value.slice (some ⟨W3.heap.size, 0, none⟩) 0 0 = e := ⟨_, rfl⟩
   rw [he16] at O16 ⊢
   generalize World.alloc W3 _ = w16 at *
   have O17 := Own1.two O16 b16.size
   have b17 := b16.alloc b16.size (.cells #[] 5)
   skip
   refine hzstep 0 rfl (by kernel_rfl) rfl (wp_build_run _ rfl _ _ (run_buildSlice_none _) ⟨fun _ => b17, ?_⟩)
   simp only [AP]
   obtain ⟨e17, he17⟩ : ∃ e, Value.slice (some ⟨w16.heap.size, 0, none⟩) 0 0 = e := ⟨_, rfl⟩
   rw [he17] at O17 ⊢
   generalize World.alloc w16 _ = w17 at *
   obtain ⟨v18, w18, hr18, O18, b18⟩ := own2_bytes 24 (.slice p1 m c1) _ O17.swap (h1.out.below b17) (by have := MN.out; (try simp only [List.length_nil, List.length_append, List.length_replicate]); omega) b17 b17.size
   rw [List.nil_append] at O18
   refine hzstep 3 rfl (by kernel_rfl) rfl (wp_append_run _ _ _ _ rfl _ _ rfl rfl _ w18 hr18 ⟨fun _ => b18, ?_⟩)
   simp only [AP]
   clear hr18
   obtain ⟨v19, w19, hr19, O19, b19⟩ := own2_noughts 24 8 (by decide) (by decide) O18 (by have := MN.out; (try simp only [List.length_nil, List.length_append, List.length_replicate]); omega) b18 b18.size
   obtain ⟨g4, c4, hv, lg4, hc4, _⟩ := (O19.fst).slice
   rw [List.length_append, List.length_replicate, MN.out.1] at hv hc4
   subst hv
   refine hzstep 4 rfl (by kernel_rfl) rfl (wp_append_run _ _ _ _ rfl _ _ rfl rfl _ w19 hr19 ⟨fun _ => b19, ?_⟩)
   simp only [AP]
   clear hr19
   refine wpAnyZ_takeL 5 (v := .slice (some ⟨g4, 0, none⟩) 8 c4) rfl (by kernel_rfl) (by kernel_rfl) (by kernel_rfl) (by kernel_rfl) (by kernel_rfl) (fun _ _ _ H => H) (Or.inl ⟨by rfl, fun w' hw' => by (have q1 : (8 : Int) ≤ (c4 : Int) := (by omega); go_simp)⟩) b19 ?_
   simp only [AP]
   refine wpAnyZ_takeL 12 (v := .pointer (some ⟨W.heap.size, 1, none⟩)) rfl (by kernel_rfl) (by kernel_rfl) (by kernel_rfl) (by kernel_rfl) (by kernel_rfl) (fun _ _ _ H => H) (Or.inl ⟨by rfl, fun w' hw' => by go_simp⟩) b19 ?_
   simp only [AP]
   obtain ⟨v20, w20, hr20, O20, b20⟩ := own2_bytes 24 (.slice p2 n c2) _ O19.swap (h2.out.below b19) (by have := MN.out; (try simp only [List.length_nil, List.length_append, List.length_replicate]); omega) b19 b19.size
   rw [List.nil_append] at O20
   refine hzstep 9 rfl (by kernel_rfl) rfl (wp_append_run _ _ _ _ rfl _ _ rfl rfl _ w20 hr20 ⟨fun _ => b20, ?_⟩)
   simp only [AP]
   clear hr20
   obtain ⟨v21, w21, hr21, O21, b21⟩ := own2_noughts 24 8 (by decide) (by decide) O20 (by have := MN.out; (try simp only [List.length_nil, List.length_append, List.length_replicate]); omega) b20 b20.size
   obtain ⟨g5, c5, hv, lg5, hc5, _⟩ := (O21.fst).slice
   rw [List.length_append, List.length_replicate, MN.out.2.1] at hv hc5
   subst hv
   refine hzstep 10 rfl (by kernel_rfl) rfl (wp_append_run _ _ _ _ rfl _ _ rfl rfl _ w21 hr21 ⟨fun _ => b21, ?_⟩)
   simp only [AP]
   clear hr21
   have NM := named_of K.out b.out zz b21 O21.swap (by omega) (by omega)
   have KW := K.out.below' b21
   have f1 := KW.frozen 1
   have f2 := KW.frozen 2
   have y1 : w21.cell? ⟨W.heap.size, 1, none⟩ = some (.slice p1 m c1) := KW.cell 1
   have y2 : (w21.setCell ⟨W.heap.size, 1, none⟩ (.slice (some ⟨g4, 0, none⟩) 8 c4)).cell? ⟨W.heap.size, 2, none⟩ = some (.slice p2 n c2) := (KW.set 1 _).cell 2
   have f3 := (KW.set 1 (.slice (some ⟨g4, 0, none⟩) 8 c4)).frozen 2
   have q1 : (8 : Int) ≤ (c5 : Int) := by omega
   refine hzsteps 11 13 rfl rfl (by kernel_rfl) rfl rfl ?_ ?_
   ·
    skip
    unfold Oper.wp execOp
    go_simp
    refine hzstep 13 rfl (by kernel_rfl) rfl ?_
    unfold Oper.wp execOp
    go_simp
    refine hzstep 14 rfl (by kernel_rfl) rfl ?_
    unfold Oper.wp execOp
    go_simp
    refine hzstep 15 rfl (by kernel_rfl) rfl ?_
    unfold Oper.wp execOp
    go_simp
    refine wpAnyZ_done (by kernel_rfl) ?_ _
    exact AK e17 v18 e16 v20 _ _ _ _ _ lg4 lg5 NM
   ·
    skip
    unfold Oper.wp execOp
    go_simp
    refine hzstep 11 rfl (by kernel_rfl) rfl ?_
    unfold Oper.wp execOp
    go_simp
    refine hzstep 14 rfl (by kernel_rfl) rfl ?_
    unfold Oper.wp execOp
    go_simp
    refine hzstep 15 rfl (by kernel_rfl) rfl ?_
    unfold Oper.wp execOp
    go_simp
    refine wpAnyZ_done (by kernel_rfl) ?_ _
    exact AK e17 v18 e16 v20 _ _ _ _ _ lg4 lg5 NM
end Go.Proofs.YtpihgljdbpnehaaDoor
