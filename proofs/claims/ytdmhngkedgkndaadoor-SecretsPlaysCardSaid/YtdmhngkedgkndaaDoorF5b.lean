/- The program's Traffic (printed by gen15/fg.py). -/
import Derived.Test.YtdmhngkedgkndaaDoorF5a
namespace Go.Proofs.YtdmhngkedgkndaaDoor
open Go.RowKit
theorem results_cells {P : Program} {fn : Func} {p q : Tmp} {ty : TypeId} (h : fn.results = #[.cell p ty, .cell q ty]) (tmps : Array Value) (w : World) (g g2 : Nat) (t : TypeId) (cs ds : Array Value) (d : TypeDesc)
    (hp : tmps.getD p undef = .pointer (some ⟨g, 0, none⟩)) (hq : tmps.getD q undef = .pointer (some ⟨g2, 0, none⟩)) (hg : Blk w g t cs) (hg2 : Blk w g2 t ds) (hu : P.underlying ty = some d) (hd : (match d with | .struct _ | .array _ _ => true | _ => false) = true) (hi : (P.info? ty).map (·.size) = some cs.size) (hi2 : (P.info? ty).map (·.size) = some ds.size) :
    (results fn tmps).run P w = .ok (.tuple #[.agg cs, .agg ds]) w := by
  have hp' : tmps[p]?.getD undef = .pointer (some ⟨g, 0, none⟩) := by simpa using hp
  have hq' : tmps[q]?.getD undef = .pointer (some ⟨g2, 0, none⟩) := by simpa using hq
  simp [results, h, hp', hq', asAddr, run_loadVar_row w g t ty cs (0, 0) d hg hu hd hi, run_loadVar_row w g2 t ty ds (0, 0) d hg2 hu hd hi2]
theorem four_alloc (W : World) (t1 t2 t3 t4 : TypeId) (Z1 Z2 Z3 Z4 : Array Value) (w : World) (hw : w = (((W.alloc (.cells Z1 t1)).alloc (.cells Z2 t2)).alloc (.cells Z3 t3)).alloc (.cells Z4 t4)) : Blk w W.heap.size t1 Z1 ∧ Blk w (W.heap.size + 1) t2 Z2 ∧ Blk w (W.heap.size + 2) t3 Z3 ∧ Blk w (W.heap.size + 3) t4 Z4 ∧ Below W.heap.size W w := by
  subst hw
  obtain ⟨h1, h2, h3, b⟩ := three_alloc W t1 t2 t3 Z1 Z2 Z3
  have sz : (((W.alloc (.cells Z1 t1)).alloc (.cells Z2 t2)).alloc (.cells Z3 t3)).heap.size = W.heap.size + 3 := by rw [size_alloc1, size_alloc1, size_alloc1]
  have K := Blk.new (((W.alloc (.cells Z1 t1)).alloc (.cells Z2 t2)).alloc (.cells Z3 t3)) t4 Z4
  rw [sz] at K
  exact ⟨h1.alloc _, h2.alloc _, h3.alloc _, K, b.alloc (by rw [sz]; omega) _⟩
def blS : ByteArray := ⟨#[32]⟩
def trS : ByteArray := ⟨#[32, 116, 114, 97, 102, 102, 105, 99]⟩
/-- The label of a side's secret. -/
def sideS (wh t : ByteArray) : ByteArray := wh ++ blS ++ t ++ trS
theorem sideS_size (wh t : ByteArray) : (sideS wh t).size = wh.size + t.size + 9 := by
  unfold sideS
  simp only [ByteArray.size_append]
  have h1 : blS.size = 1 := by decide
  have h2 : trS.size = 8 := by decide
  omega
structure TrC (B g : Nat) (v : Value) (m s : List Nat) (t : ByteArray) (b1 b2 : Nat) (w : World) : Prop where
  sch : SS B w g v m s
  k1 : w.cell? ⟨b1, 0, none⟩ = some (.pointer (some ⟨g, 0, none⟩))
  k2 : w.cell? ⟨b2, 0, none⟩ = some (.string t)
  l1 : b1 < w.heap.size
  l2 : b2 < w.heap.size
theorem TrC.below {B g : Nat} {v : Value} {m s : List Nat} {t : ByteArray} {b1 b2 : Nat} {w w' : World} (h : TrC B g v m s t b1 b2 w) (b : Below w.heap.size w w') : TrC B g v m s t b1 b2 w' :=
  ⟨h.sch.below b, (b.cell (p := ⟨b1, 0, none⟩) h.l1).trans h.k1, (b.cell (p := ⟨b2, 0, none⟩) h.l2).trans h.k2, Nat.lt_of_lt_of_le h.l1 b.size, Nat.lt_of_lt_of_le h.l2 b.size⟩
set_option maxHeartbeats 8000000 in
set_option maxRecDepth 100000 in
theorem side_c (B g : Nat) (v : Value) (m s x : List Nat) (t wh : ByteArray) (b1 b2 b3 : Nat) (W : World) (h : TrC B g v m s t b1 b2 W) (K3 : Blk W b3 28 (Iv .u8 (NI x))) (lx : x.length = 32) (bx : Bytes x) (ht : wh.size + t.size ≤ 200) (T : Tab W cuT) (S : Sq W sqT) :
    Calls Tryd.prog 28 #[.string wh, .pointer (some ⟨b1, 0, none⟩), .pointer (some ⟨b2, 0, none⟩), .pointer (some ⟨b3, 0, none⟩)] W fun e w' => e = .returned (.agg (Iv .u8 (NI (labL s (sideS wh t) x 32)))) ∧ Below W.heap.size W w' := by
  have KC := Lib.hid (fun (w : World) (b : Below W.heap.size W w) (cv : Value) (hc : SB w cv x) => key_ok w s (sideS wh t) x cv (T.below b) (S.below b) hc h.sch.ls h.sch.bs bx (by rw [sideS_size]; omega) (by omega))
  have lX := Lib.hid (labL_length s (sideS wh t) x 32)
  generalize labL s (sideS wh t) x 32 = X at *
  replace lx := Lib.hid lx
  have H := Lib.hid h
  have zb : blS.size = 1 := by decide
  have z1 : ¬ 9223372036854775807 < wh.size + 1 := by omega
  have z2 : wh.size + blS.size + t.size ≤ 9223372036854775807 := by omega
  have z3 : ¬ 9223372036854775807 < wh.size + blS.size + t.size + 8 := by omega
  clear T S bx ht h zb
  go_enter Tryd.func28, Tryd.ntmps28
  go_upto_region 0 with fail
  rename_i aK
  refine wp_region_seq ?_
  refine wpSeq_wp rfl ?_
  unfold Oper.wp execOp
  go_simp
  refine wpSeq_nil ?_
  refine (by assumption : ∀ (a : Act) (w : World), _ → _) _ _ ?_
  have b := (Below.refl W.heap.size W).alloc (Nat.le_refl _) (.cells (Iv .u8 (NI z32)) 28)
  have K : Blk (W.alloc (.cells (Iv .u8 (NI z32)) 28)) W.heap.size 28 (Iv .u8 (NI z32)) := Blk.new _ _ _
  change Code.wp _ _ _ _ (World.alloc W (.cells (Iv .u8 (NI z32)) 28))
  generalize World.alloc W _ = w1 at *
  replace K3 := K3.below' b
  have bd := below_drew (Below.refl w1.heap.size w1)
  replace K := K.below' bd
  replace K3 := K3.below' bd
  replace b := b.trans (bd.mono b.size)
  have hS := H.out.below b
  clear bd
  go_upto_region 1 with fail
  refine wp_region_Z (S := TrC B g v m s t b1 b2) 11 (by kernel_rfl) ?_
  generalize w1.drew = w2 at *
  have C3 := sb_key K3 lx.out
  have KC2 := Lib.hid (KC.out w2 b _ C3)
  clear K3 C3 KC
  refine wpAnyZ_takeL 0 (v := .pointer (some ⟨g, 0, none⟩)) rfl (by kernel_rfl) (by kernel_rfl) (by kernel_rfl) (by kernel_rfl) (by kernel_rfl) (fun _ _ _ H => H) (Or.inl ⟨by rfl, fun w' hw' => by (have h0 := hw'.k1; go_simp)⟩) hS ?_
  simp only [AP]
  refine wpAnyZ_takeL 1 (v := .pointer (some ⟨g, 0, none⟩)) rfl (by kernel_rfl) (by kernel_rfl) (by kernel_rfl) (by kernel_rfl) (by kernel_rfl) (fun _ _ _ H => H) (Or.inl ⟨by rfl, fun w' hw' => by go_simp⟩) hS ?_
  simp only [AP]
  refine wpAnyZ_takeL 2 (v := .pointer (some ⟨g, 1, none⟩)) rfl (by kernel_rfl) (by kernel_rfl) (by kernel_rfl) (by kernel_rfl) (by kernel_rfl) (fun _ _ _ H => H) (Or.inl ⟨by rfl, fun w' hw' => by (go_simp)⟩) hS ?_
  simp only [AP]
  refine wpAnyZ_takeL 3 (v := .agg (Iv .u8 (NI s))) rfl (by kernel_rfl) (by kernel_rfl) (by kernel_rfl) (by kernel_rfl) (by kernel_rfl) (fun _ _ _ H => H) (show YieldsIf _ _ _ _ (.agg (Iv .u8 (NI s))) _ from yieldsIf_secret (S := TrC B g v m s t b1 b2) rfl _ rfl B g v m s rfl (fun _ h => h.sch)) hS ?_
  simp only [AP]
  refine wpAnyZ_takeL 4 (v := .string wh) rfl (by kernel_rfl) (by kernel_rfl) (by kernel_rfl) (by kernel_rfl) (by kernel_rfl) (fun _ _ _ H => H) (yieldsIf_move rfl _ rfl (.string wh) rfl) hS ?_
  simp only [AP]
  refine wpAnyZ_takeL 5 (v := .string (wh ++ blS)) rfl (by kernel_rfl) (by kernel_rfl) (by kernel_rfl) (by kernel_rfl) (by kernel_rfl) (fun _ _ _ H => H) (Or.inl ⟨by rfl, fun w' hw' => by (go_simp; rfl)⟩) hS ?_
  simp only [AP]
  refine wpAnyZ_takeL 6 (v := .string t) rfl (by kernel_rfl) (by kernel_rfl) (by kernel_rfl) (by kernel_rfl) (by kernel_rfl) (fun _ _ _ H => H) (Or.inl ⟨by rfl, fun w' hw' => by (have h0 := hw'.k2; go_simp)⟩) hS ?_
  simp only [AP]
  refine wpAnyZ_takeL 7 (v := .string (wh ++ blS ++ t)) rfl (by kernel_rfl) (by kernel_rfl) (by kernel_rfl) (by kernel_rfl) (by kernel_rfl) (fun _ _ _ H => H) (Or.inl ⟨by rfl, fun w' hw' => by (go_simp)⟩) hS ?_
  simp only [AP]
  refine wpAnyZ_takeL 8 (v := .string (sideS wh t)) rfl (by kernel_rfl) (by kernel_rfl) (by kernel_rfl) (by kernel_rfl) (by kernel_rfl) (fun _ _ _ H => H) (Or.inl ⟨by rfl, fun w' hw' => by (go_simp; rfl)⟩) hS ?_
  simp only [AP]
  refine wpAnyZ_takeL 9 (v := .slice (some ⟨b3, 0, none⟩) 32 32) rfl (by kernel_rfl) (by kernel_rfl) (by kernel_rfl) (by kernel_rfl) (by kernel_rfl) (fun _ _ _ H => H) (Or.inl ⟨by rfl, fun w' hw' => by (go_simp)⟩) hS ?_
  simp only [AP]
  refine hzstep 10 rfl (by kernel_rfl) rfl ?_
  unfold Oper.wp execOp
  go_simp
  refine KC2.out.mono ?_
  rintro _ w4 ⟨rfl, b4⟩
  have hS4 := hS.below b4
  replace K := K.below' b4
  replace b := b.trans (b4.mono b.size)
  clear b4 KC2 hS
  refine ⟨hS4, ?_⟩
  refine hzstep 11 rfl (by kernel_rfl) rfl ?_
  refine wp_store_row 28 _ _ rfl W.heap.size (Iv .u8 (NI X)) rfl rfl 28 _ K (info_k32 X lX.out) (size_32 z32_length lX.out) (Iv_one _ _) ?_
  refine ⟨fun e => Bool.noConfusion ((e.symm.trans (show _ = true from rfl) : false = true)), ?_⟩
  simp only [Act.put]
  have KR := K.row (Iv .u8 (NI X))
  have b9 := below_setRow b (Nat.le_refl _) (Iv .u8 (NI X))
  generalize World.setRow w4 _ _ = w9 at *
  clear K b hS4
  refine wpAnyZ_done (by kernel_rfl) ?_ _
  refine (by assumption : ∀ (a : Act) (w : World), _ → _) _ _ ?_
  go_wp2
  exact bodyPost_ret (results_cell_row rfl _ _ _ 28 _ (0, 0) _ rfl KR Tryd.underlying28 rfl (info_k32 X lX.out)) rfl ⟨rfl, b9⟩
set_option maxHeartbeats 8000000 in
set_option maxRecDepth 100000 in
theorem traf_nil (t : ByteArray) (W : World) :
    Calls Tryd.prog 16 #[.pointer none, .string t] W fun e w' => e = .returned (.tuple #[.agg (Iv .u8 (NI z32)), .agg (Iv .u8 (NI z32))]) ∧ Below W.heap.size W w' := by
  go_enter Tryd.func16, Tryd.ntmps16
  go_upto_region 0 with fail
  rename_i aK
  refine wp_region_seq ?_
  refine wpSeq_wp rfl ?_
  unfold Oper.wp execOp
  go_simp
  refine wpSeq_wp rfl ?_
  unfold Oper.wp execOp
  go_simp
  refine wpSeq_wp rfl ?_
  unfold Oper.wp execOp
  go_simp
  refine wpSeq_wp rfl ?_
  unfold Oper.wp execOp
  go_simp
  refine wpSeq_nil ?_
  refine (by assumption : ∀ (a : Act) (w : World), _ → _) _ _ ?_
  generalize hW : World.alloc (World.alloc (World.alloc (World.alloc W _) _) _) _ = w1
  obtain ⟨Z1, Z2, hZ1, hZ2, K0, K1, K2, K3, b⟩ : ∃ Z1 Z2 : Array Value, Z1.size = 32 ∧ Z2.size = 32 ∧ Blk w1 W.heap.size 25 #[.pointer none] ∧ Blk w1 (W.heap.size + 1) 9 #[.string t] ∧ Blk w1 (W.heap.size + 2) 28 Z1 ∧ Blk w1 (W.heap.size + 3) 28 Z2 ∧ Below W.heap.size W w1 := by
    exact ⟨_, _, rfl, rfl, four_alloc W _ _ _ _ _ _ _ _ _ hW.symm⟩
  clear hW
  have c0 : w1.cell? ⟨W.heap.size, 0, none⟩ = some (.pointer none) := K0.cell 0
  go_upto_region 1 with fail
  rename_i aK
  refine wp_region_seq ?_
  refine wpSeq_yield (S := fun w' => w' = w1) (v := .pointer none) (Or.inl ⟨by rfl, fun w' hw' => by (rw [hw']; go_simp)⟩) rfl ?_
  simp only [AP]
  refine wpSeq_yield (S := fun _ => True) (v := .bool true) (Or.inl ⟨by rfl, fun w' hw' => by (go_simp; try omega)⟩) trivial ?_
  simp only [AP]
  refine wpSeq_nil ?_
  refine (by assumption : ∀ (a : Act) (w : World), _ → _) _ _ ?_
  go_upto_region 2 with fail
  rename_i aK
  refine wp_region_seq ?_
  refine wpSeq_yield (S := fun _ => True) (show YieldsIf _ _ _ _ (.agg (Iv .u8 (NI z32))) _ from yieldsIf_zero rfl rfl) trivial ?_
  simp only [AP]
  refine wpSeq_yield (S := fun _ => True) (show YieldsIf _ _ _ _ (.agg (Iv .u8 (NI z32))) _ from yieldsIf_zero rfl rfl) trivial ?_
  simp only [AP]
  refine wpSeq_store_row rfl 28 _ _ rfl (W.heap.size + 2) (Iv .u8 (NI z32)) rfl rfl _ _ K2 (info_k32 z32 z32_length) (by rw [Iv_size, NI_length, z32_length]; exact hZ1) (u8s_one _) ?_
  simp only [Act.put]
  have J2 := K2.row (Iv .u8 (NI z32))
  have J3 : Blk (w1.setRow (W.heap.size + 2) (Iv .u8 (NI z32))) (W.heap.size + 3) 28 Z2 := K3.rowFar (by omega) _
  have b7 := below_setRow b (by omega : W.heap.size ≤ W.heap.size + 2) (Iv .u8 (NI z32))
  generalize World.setRow w1 _ _ = w7 at *
  clear K2 K3 b
  refine wpSeq_store_row rfl 28 _ _ rfl (W.heap.size + 3) (Iv .u8 (NI z32)) rfl rfl _ _ J3 (info_k32 z32 z32_length) (by rw [Iv_size, NI_length, z32_length]; exact hZ2) (u8s_one _) ?_
  simp only [Act.put]
  have KR2 : Blk (w7.setRow (W.heap.size + 3) (Iv .u8 (NI z32))) (W.heap.size + 2) 28 (Iv .u8 (NI z32)) := J2.rowFar (by omega) _
  have KR3 := J3.row (Iv .u8 (NI z32))
  have b8 := below_setRow b7 (by omega : W.heap.size ≤ W.heap.size + 3) (Iv .u8 (NI z32))
  generalize World.setRow w7 _ _ = w8 at *
  clear J2 J3 b7
  refine wpSeq_nil ?_
  refine (by assumption : ∀ (a : Act) (w : World), _ → _) _ _ ?_
  go_wp2
  exact bodyPost_ret (results_cells rfl _ _ _ _ 28 _ _ _ rfl rfl KR2 KR3 Tryd.underlying28 rfl (info_k32 z32 z32_length) (info_k32 z32 z32_length)) rfl ⟨rfl, b8⟩
def cS : ByteArray := ⟨#[99]⟩
def sS : ByteArray := ⟨#[115]⟩
def cliL (m s : List Nat) (t : ByteArray) : List Nat := labL s (sideS cS t) (sha cuT sqT m) 32
def srvL (m s : List Nat) (t : ByteArray) : List Nat := labL s (sideS sS t) (sha cuT sqT m) 32
set_option maxHeartbeats 8000000 in
set_option maxRecDepth 100000 in
theorem traf_c (B g : Nat) (v : Value) (m s : List Nat) (t : ByteArray) (W : World) (h : SS B W g v m s) (T : Tab W cuT) (S : Sq W sqT) (hm : m.length ≤ 100000) (ht : t.size ≤ 190) :
    Calls Tryd.prog 16 #[.pointer (some ⟨g, 0, none⟩), .string t] W fun e w' => e = .returned (.tuple #[.agg (Iv .u8 (NI (cliL m s t))), .agg (Iv .u8 (NI (srvL m s t)))]) ∧ Below W.heap.size W w' := by
  have MC := Lib.hid (fun (w : World) (b : Below W.heap.size W w) => msum_c B g v m s [] none 0 0 w (h.below b) (T.below b) (S.below b) (sp_nil w) (fun l h => by cases h) hm (by simp) (by simp))
  have SC := Lib.hid (fun (w : World) (b : Below W.heap.size W w) (wh : ByteArray) (hw : wh.size ≤ 1) (b1 b2 b3 : Nat) (k1 : w.cell? ⟨b1, 0, none⟩ = some (.pointer (some ⟨g, 0, none⟩))) (k2 : w.cell? ⟨b2, 0, none⟩ = some (.string t)) (l1 : b1 < w.heap.size) (l2 : b2 < w.heap.size) (K3 : Blk w b3 28 (Iv .u8 (NI (sha cuT sqT (m ++ [].flatten))))) =>
    side_c B g v m s (sha cuT sqT (m ++ [].flatten)) t wh b1 b2 b3 w ⟨h.below b, k1, k2, l1, l2⟩ K3 (sha_length _ _ _) (sha_bytes _ _ _) (by omega) (T.below b) (S.below b))
  rw [show m ++ ([] : List (List Nat)).flatten = m by simp] at SC MC
  have XC := fun w b => SC.out w b cS (by decide)
  have XS := fun w b => SC.out w b sS (by decide)
  rw [show labL s (sideS cS t) (sha cuT sqT m) 32 = cliL m s t from rfl] at XC
  rw [show labL s (sideS sS t) (sha cuT sqT m) 32 = srvL m s t from rfl] at XS
  replace XC := Lib.hid XC
  replace XS := Lib.hid XS
  have lC := Lib.hid (show (cliL m s t).length = 32 from labL_length _ _ _ _)
  have lV := Lib.hid (show (srvL m s t).length = 32 from labL_length _ _ _ _)
  have lX := Lib.hid (sha_length cuT sqT m)
  generalize cliL m s t = CL at *
  generalize srvL m s t = SV at *
  generalize sha cuT sqT m = X at *
  clear SC T S hm ht h
  go_enter Tryd.func16, Tryd.ntmps16
  go_upto_region 0 with fail
  rename_i aK
  refine wp_region_seq ?_
  refine wpSeq_wp rfl ?_
  unfold Oper.wp execOp
  go_simp
  refine wpSeq_wp rfl ?_
  unfold Oper.wp execOp
  go_simp
  refine wpSeq_wp rfl ?_
  unfold Oper.wp execOp
  go_simp
  refine wpSeq_wp rfl ?_
  unfold Oper.wp execOp
  go_simp
  refine wpSeq_nil ?_
  refine (by assumption : ∀ (a : Act) (w : World), _ → _) _ _ ?_
  generalize hW : World.alloc (World.alloc (World.alloc (World.alloc W _) _) _) _ = w1
  obtain ⟨Z1, Z2, hZ1, hZ2, K0, K1, K2, K3, b⟩ : ∃ Z1 Z2 : Array Value, Z1.size = 32 ∧ Z2.size = 32 ∧ Blk w1 W.heap.size 25 #[.pointer (some ⟨g, 0, none⟩)] ∧ Blk w1 (W.heap.size + 1) 9 #[.string t] ∧ Blk w1 (W.heap.size + 2) 28 Z1 ∧ Blk w1 (W.heap.size + 3) 28 Z2 ∧ Below W.heap.size W w1 := by
    exact ⟨_, _, rfl, rfl, four_alloc W _ _ _ _ _ _ _ _ _ hW.symm⟩
  clear hW
  have c0 : w1.cell? ⟨W.heap.size, 0, none⟩ = some (.pointer (some ⟨g, 0, none⟩)) := K0.cell 0
  go_upto_region 1 with fail
  rename_i aK
  refine wp_region_seq ?_
  refine wpSeq_yield (S := fun w' => w' = w1) (v := .pointer (some ⟨g, 0, none⟩)) (Or.inl ⟨by rfl, fun w' hw' => by (rw [hw']; go_simp)⟩) rfl ?_
  simp only [AP]
  refine wpSeq_yield (S := fun _ => True) (v := .bool false) (Or.inl ⟨by rfl, fun w' hw' => by (go_simp; try omega)⟩) trivial ?_
  simp only [AP]
  refine wpSeq_nil ?_
  refine (by assumption : ∀ (a : Act) (w : World), _ → _) _ _ ?_
  go_upto_region 3 with fail
  rename_i aK
  refine wp_region_seq ?_
  refine wpSeq_yield (S := fun w' => w' = w1) (v := .pointer (some ⟨g, 0, none⟩)) (Or.inl ⟨by rfl, fun w' hw' => by (rw [hw']; go_simp)⟩) rfl ?_
  simp only [AP]
  refine wpSeq_yield (S := fun _ => True) (v := .pointer (some ⟨g, 0, none⟩)) (Or.inl ⟨by rfl, fun w' hw' => by go_simp⟩) trivial ?_
  simp only [AP]
  refine wpSeq_yield (S := fun _ => True) (v := .pointer (some ⟨g, 0, none⟩)) (Or.inl ⟨by rfl, fun w' hw' => by go_simp⟩) trivial ?_
  simp only [AP]
  refine wpSeq_wp rfl ?_
  unfold Oper.wp execOp
  go_simp
  refine (MC.out w1 b).mono ?_
  rintro _ w2 ⟨rfl, b2⟩
  replace K0 := K0.below' b2
  replace K1 := K1.below' b2
  replace K2 := K2.below' b2
  replace K3 := K3.below' b2
  replace b := b.trans (b2.mono b.size)
  clear b2 MC c0
  go_simp
  refine wpSeq_wp rfl ?_
  unfold Oper.wp execOp
  go_simp
  refine wpSeq_store_row rfl 28 _ _ rfl w2.heap.size (Iv .u8 (NI X)) rfl rfl _ _ (Blk.new w2 _ _) (info_k32 X lX.out) (size_32 (rfl : (List.replicate 32 0).length = 32) lX.out) (u8s_one _) ?_
  simp only [Act.put]
  refine wpSeq_nil ?_
  refine (by assumption : ∀ (a : Act) (w : World), _ → _) _ _ ?_
  generalize hwx : World.setRow _ w2.heap.size _ = w3
  have FX : Blk w3 w2.heap.size 28 (Iv .u8 (NI X)) ∧ Below w2.heap.size w2 w3 := by
    rw [← hwx]
    exact one_row _ _ _ _
  clear hwx
  obtain ⟨KX, bx⟩ := FX
  replace K0 := K0.below' bx
  replace K1 := K1.below' bx
  replace K2 := K2.below' bx
  replace K3 := K3.below' bx
  replace b := b.trans (bx.mono b.size)
  clear bx
  obtain ⟨gn, hgn⟩ : ∃ k, w2.heap.size = k := ⟨_, rfl⟩
  rw [hgn] at KX ⊢
  clear hgn
  have k0 := K0.cell 0
  have k1 := K1.cell 0
  have l0 := K0.lt
  have l1 := K1.lt
  go_upto_region 4 with fail
  rename_i aK
  refine wp_region_seq ?_
  refine wpSeq_wp rfl ?_
  unfold Oper.wp execOp
  go_simp
  refine wpSeq_yield (S := fun _ => True) (yieldsIf_assign rfl _ rfl (.func (.func 28) #[] #[.pointer (some ⟨W.heap.size, 0, none⟩), .pointer (some ⟨W.heap.size + 1, 0, none⟩), .pointer (some ⟨gn, 0, none⟩)]) rfl) trivial ?_
  simp only [AP]
  refine wpSeq_nil ?_
  refine (by assumption : ∀ (a : Act) (w : World), _ → _) _ _ ?_
  go_upto_region 5 with fail
  rename_i aK
  refine wp_region_seq ?_
  refine wpSeq_yield (S := fun _ => True) (yieldsIf_move rfl _ rfl (.func (.func 28) #[] #[.pointer (some ⟨W.heap.size, 0, none⟩), .pointer (some ⟨W.heap.size + 1, 0, none⟩), .pointer (some ⟨gn, 0, none⟩)]) rfl) trivial ?_
  simp only [AP]
  refine wpSeq_wp rfl ?_
  unfold Oper.wp execOp
  go_simp
  refine (XC.out w3 b W.heap.size (W.heap.size + 1) gn k0 k1 l0 l1 KX).mono ?_
  rintro _ w4 ⟨rfl, b4⟩
  replace K0 := K0.below' b4
  replace K1 := K1.below' b4
  replace K2 := K2.below' b4
  replace K3 := K3.below' b4
  replace KX := KX.below' b4
  replace b := b.trans (b4.mono b.size)
  clear b4 XC k0 k1 l0 l1
  have k0 := K0.cell 0
  have k1 := K1.cell 0
  have l0 := K0.lt
  have l1 := K1.lt
  go_simp
  refine wpSeq_yield (S := fun _ => True) (yieldsIf_move rfl _ rfl (.func (.func 28) #[] #[.pointer (some ⟨W.heap.size, 0, none⟩), .pointer (some ⟨W.heap.size + 1, 0, none⟩), .pointer (some ⟨gn, 0, none⟩)]) rfl) trivial ?_
  simp only [AP]
  refine wpSeq_wp rfl ?_
  unfold Oper.wp execOp
  go_simp
  refine (XS.out w4 b W.heap.size (W.heap.size + 1) gn k0 k1 l0 l1 KX).mono ?_
  rintro _ w5 ⟨rfl, b5⟩
  replace K2 := K2.below' b5
  replace K3 := K3.below' b5
  replace b := b.trans (b5.mono b.size)
  clear b5 XS k0 k1 l0 l1 KX K0 K1
  go_simp
  refine wpSeq_store_row rfl 28 _ _ rfl (W.heap.size + 2) (Iv .u8 (NI CL)) rfl rfl _ _ K2 (info_k32 CL lC.out) (by rw [Iv_size, NI_length, lC.out]; exact hZ1) (u8s_one _) ?_
  simp only [Act.put]
  have J2 := K2.row (Iv .u8 (NI CL))
  have J3 : Blk (w5.setRow (W.heap.size + 2) (Iv .u8 (NI CL))) (W.heap.size + 3) 28 Z2 := K3.rowFar (by omega) _
  have b7 := below_setRow b (by omega : W.heap.size ≤ W.heap.size + 2) (Iv .u8 (NI CL))
  generalize World.setRow w5 _ _ = w7 at *
  clear K2 K3 b
  refine wpSeq_store_row rfl 28 _ _ rfl (W.heap.size + 3) (Iv .u8 (NI SV)) rfl rfl _ _ J3 (info_k32 SV lV.out) (by rw [Iv_size, NI_length, lV.out]; exact hZ2) (u8s_one _) ?_
  simp only [Act.put]
  have KR2 : Blk (w7.setRow (W.heap.size + 3) (Iv .u8 (NI SV))) (W.heap.size + 2) 28 (Iv .u8 (NI CL)) := J2.rowFar (by omega) _
  have KR3 := J3.row (Iv .u8 (NI SV))
  have b8 := below_setRow b7 (by omega : W.heap.size ≤ W.heap.size + 3) (Iv .u8 (NI SV))
  generalize World.setRow w7 _ _ = w8 at *
  clear J2 J3 b7
  refine wpSeq_nil ?_
  refine (by assumption : ∀ (a : Act) (w : World), _ → _) _ _ ?_
  go_wp2
  exact bodyPost_ret (results_cells rfl _ _ _ _ 28 _ _ _ rfl rfl KR2 KR3 Tryd.underlying28 rfl (info_k32 CL lC.out) (info_k32 SV lV.out)) rfl ⟨rfl, b8⟩
end Go.Proofs.YtdmhngkedgkndaaDoor
