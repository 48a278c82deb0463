/- The program's Take (printed by gen12/pk.py). -/
import Derived.Test.YtfhiflakglhneaaPh
import Derived.Test.YtfhiflakglhneaaPi
import Derived.Test.YtfhiflakglhneaaPj
namespace Go.Proofs.Ytfhiflakglhneaa
open Go.RowKit

theorem head_m (B : Nat) (p : Option Addr) (b : List Nat) (W : World) (h : RM B W p b 0) : Calls Try.prog 21 #[.agg #[.pointer p]] W fun e w' =>
    ∃ (sp : Nat) (vt vf : Value) (to fr : List Nat) (zz : Nat) (rest : List Nat) (code : Nat), e = .returned (.tuple #[.agg #[.int .i64 (sp : Int), vt, vf], .int .i64 (zz : Int)]) ∧ OwL W.heap.size w' vt to ∧ OwL W.heap.size w' vf fr ∧ RM B w' p rest code ∧ W.grownBy w' (some B) ∧ takeF b = outF b.length sp to fr zz rest code ∧ rest.length ≤ b.length ∧ zz ≤ rest.length := by
  show Calls Try.prog 21 #[.agg #[.pointer p]] W (HeadPost B p b W)
  obtain ⟨⟨x1, l1, c1⟩, h1⟩ : ∃ q, tkS 1 b 0 = q := ⟨_, rfl⟩
  by_cases y1 : x1.getD 0 0 < 128
  · by_cases y2 : x1.getD 0 0 < 64
    · exact short_a B p b W h x1 l1 c1 h1 y2
    · exact short_d B p b W h x1 l1 c1 h1 ⟨by omega, y1⟩
  · have y5 : 128 ≤ x1.getD 0 0 := by omega
    by_cases z : x1.getD 0 0 / 32 % 2 = 0
    · by_cases y3 : x1.getD 0 0 / 64 % 2 = 0
      · exact long_a0 B p b W h x1 l1 c1 h1 ⟨y3, y5, z⟩
      · by_cases y4 : x1.getD 0 0 / 16 % 2 = 0
        · exact long_c0 B p b W h x1 l1 c1 h1 ⟨by omega, y4, y5, z⟩
        · exact long_b0 B p b W h x1 l1 c1 h1 ⟨by omega, by omega, y5, z⟩
    · by_cases y3 : x1.getD 0 0 / 64 % 2 = 0
      · exact long_a1 B p b W h x1 l1 c1 h1 ⟨y3, y5, by omega⟩
      · by_cases y4 : x1.getD 0 0 / 16 % 2 = 0
        · exact long_c1 B p b W h x1 l1 c1 h1 ⟨by omega, y4, y5, by omega⟩
        · exact long_b1 B p b W h x1 l1 c1 h1 ⟨by omega, by omega, y5, by omega⟩
def nu8 : Value → Bool
  | .int .u8 _ => false
  | _ => true
theorem nu8_at {L : List Value} (h : L.all nu8 = true) : ∀ (i : Nat) (x : Int), L.toArray[i]? ≠ some (.int .u8 x) := fun i x e => by
  rw [List.getElem?_toArray] at e
  have := List.all_eq_true.1 h _ (List.mem_of_getElem? e)
  cases this
/-- A store of a whole row into a block that holds no bytes. -/
theorem RM.row_own {B gf : Nat} {w : World} {p : Option Addr} {l : List Nat} {c : Nat} {t : TypeId} {cs : Array Value} (h : RM B w p l c) (K : Blk w gf t cs) (ne : gf ≠ B) (hu : ∀ (i : Nat) (x : Int), cs[i]? ≠ some (.int .u8 x)) (cs' : Array Value) : RM B (w.setRow gf cs') p l c := by
  obtain ⟨g, pb, cb, e, hg, KB, S, n, bb, ll⟩ := h
  refine ⟨g, pb, cb, e, hg, KB.rowFar (by rw [← hg]; exact fun e => ne e.symm) cs', ?_, n, bb, ll⟩
  obtain ⟨q, d, e2, hc, h0 | ⟨g1, o1, rfl, A⟩⟩ := S
  · exact ⟨q, d, e2, hc, Or.inl h0⟩
  · by_cases h0 : l = []
    · exact ⟨_, d, e2, hc, Or.inl h0⟩
    · refine ⟨_, d, e2, hc, Or.inr ⟨g1, o1, rfl, A.of_block (setRow_other w gf g1 cs' ?_)⟩⟩
      intro e1
      subst e1
      have := A.cell 0 (List.length_pos_iff.2 h0)
      rw [K.cell] at this
      exact hu _ _ this
set_option maxHeartbeats 8000000 in
set_option maxRecDepth 100000 in
/-- The program's Take. -/
theorem take_c : TakeC := by
  intro b p n c bb hn W hs
  have nl := hs.len.1
  have LN := Lib.hid nl
  clear nl
  go_enter Try.func16, Try.ntmps16
  go_upto_region 0 with fail
  rename_i aK
  refine wp_region_seq ?_
  refine wpSeq_wp rfl ?_
  unfold Oper.wp execOp
  go_simp
  refine wpSeq_yield (S := fun _ => True) (yieldsIf_assign rfl _ rfl (.int .i64 0) rfl) trivial ?_
  simp only [AP]
  refine wpSeq_yield (S := fun _ => True) (yieldsIf_assign rfl _ rfl (.int .i64 0) rfl) trivial ?_
  simp only [AP]
  refine wpSeq_yield (S := fun _ => True) (yieldsIf_assign rfl _ rfl (.int .i64 0) rfl) trivial ?_
  simp only [AP]
  refine wpSeq_nil ?_
  refine aK _ _ ?_
  clear aK
  have b0 := (Below.refl W.heap.size W).alloc (Nat.le_refl _) (.cells #[.int .i64 0, .slice none 0 0, .slice none 0 0] 31)
  have RES := Lib.hid (Blk.new W 31 #[.int .i64 0, .slice none 0 0, .slice none 0 0])
  generalize World.alloc W _ = w2 at *
  have NM := Lib.hid (new_m b p n c bb (by omega) w2 (hs.below b0))
  have G2 := Lib.hid RES.out.lt
  replace b0 := Lib.hid b0
  clear hs bb
  go_upto_region 1 with fail
  rename_i aK
  refine wp_region_seq ?_
  refine wpSeq_yield (S := fun _ => True) (yieldsIf_move rfl _ rfl (.slice p n c) rfl) trivial ?_
  simp only [AP]
  refine wpSeq_wp rfl ?_
  unfold Oper.wp execOp
  go_simp
  refine NM.out.mono ?_
  rintro _ w3 ⟨g, rfl, hg, RD, b3⟩
  replace RES := Lib.hid (RES.out.below' b3)
  replace b0 := Lib.hid (b0.out.trans (b3.mono b0.out.size))
  replace G2 := Lib.hid (show W.heap.size < g by have := G2.out; omega)
  have L3 := Lib.hid RD.lt
  clear NM b3 hg
  go_simp
  refine wpSeq_yield (S := fun _ => True) (v := .agg #[.pointer (some ⟨g, 0, none⟩)]) (Or.inl ⟨by rfl, fun w' hw' => by go_simp⟩) trivial ?_
  simp only [AP]
  refine wpSeq_wp rfl ?_
  unfold Oper.wp execOp
  go_simp
  refine wpSeq_store_row rfl 51 _ _ rfl (w3.heap.size) #[.pointer (some ⟨g, 0, none⟩)] rfl rfl _ _ (Blk.new _ _ _) info_rd rfl (by simp [Value.oneCell']) ?_
  simp only [Act.put]
  refine wpSeq_nil ?_
  refine (by assumption : ∀ (a : Act) (w : World), _ → _) _ _ ?_
  have hb := below_setRow ((Below.refl w3.heap.size w3).alloc (Nat.le_refl _) (.cells #[.pointer none] 51)) (Nat.le_refl _) #[.pointer (some ⟨g, 0, none⟩)]
  have KB : Blk ((w3.alloc (.cells #[.pointer none] 51)).setRow w3.heap.size #[.pointer (some ⟨g, 0, none⟩)]) w3.heap.size 51 #[.pointer (some ⟨g, 0, none⟩)] := (Blk.new w3 51 #[.pointer none]).row _
  generalize World.setRow _ _ _ = w4 at *
  replace RES := Lib.hid (RES.out.below' hb)
  replace RD := Lib.hid (RD.below hb)
  replace b0 := Lib.hid (b0.out.trans (hb.mono b0.out.size))
  replace KB := Lib.hid KB
  have HM := Lib.hid (head_m g (some ⟨g, 0, none⟩) b w4 RD.out)
  clear hb RD
  go_upto_region 2 with fail
  rename_i aK
  refine wp_region_seq ?_
  refine wpSeq_yield (S := fun w' => w' = w4) (show YieldsIf _ _ _ _ (.agg #[.pointer (some ⟨g, 0, none⟩)]) _ from yieldsIf_load_mid (S := fun w' => w' = w4) rfl 51 _ rfl w3.heap.size 0 rfl [.pointer (some ⟨g, 0, none⟩)] _ (fun _ h => h ▸ blk_range KB.out) Try.underlying51 rfl info_rd) rfl ?_
  simp only [AP]
  refine wpSeq_wp rfl ?_
  unfold Oper.wp execOp
  go_simp
  refine HM.out.mono ?_
  rintro _ w5 ⟨sp, vt, vf, to, fr, zz, rest, code, rfl, Ot, Of, RD, k5, et, lr, lz⟩
  obtain ⟨pt, ct, ht⟩ := Ot.shape
  subst ht
  obtain ⟨pf, cf, hf⟩ := Of.shape
  subst hf
  replace RES := Lib.hid (blk_gb k5 RES.out (Nat.ne_of_lt G2.out))
  have L4 := Lib.hid KB.out.lt
  replace KB := Lib.hid (blk_gb k5 KB.out (Nat.ne_of_gt L3.out))
  replace b0 := Lib.hid (below_gb b0.out k5 (Nat.le_of_lt G2.out) b0.out.size)
  replace Ot := Lib.hid Ot
  replace Of := Lib.hid Of
  replace RD := Lib.hid RD
  have ET := Lib.hid et
  have LL := Lib.hid (And.intro lr lz)
  clear k5 et lr lz HM
  go_simp
  refine wpSeq_yield (S := fun _ => True) (yieldsIf_move rfl _ rfl (.tuple #[.agg #[.int .i64 (sp : Int), .slice pt to.length ct, .slice pf fr.length cf], .int .i64 (zz : Int)]) rfl) trivial ?_
  simp only [AP]
  refine wpSeq_yield (S := fun _ => True) (v := .agg #[.int .i64 (sp : Int), .slice pt to.length ct, .slice pf fr.length cf]) (Or.inl ⟨by rfl, fun w' hw' => by go_simp⟩) trivial ?_
  simp only [AP]
  refine wpSeq_yield (S := fun _ => True) (v := .int .i64 (zz : Int)) (Or.inl ⟨by rfl, fun w' hw' => by go_simp⟩) trivial ?_
  simp only [AP]
  refine wpSeq_store_row rfl 31 _ _ rfl (W.heap.size) #[.int .i64 (sp : Int), .slice pt to.length ct, .slice pf fr.length cf] rfl rfl _ _ RES.out info_hd rfl (cell_one _ _ _ _ _ _ _) ?_
  simp only [Act.put]
  refine wpSeq_yield (S := fun _ => True) (yieldsIf_assign rfl _ rfl (.int .i64 (zz : Int)) rfl) trivial ?_
  simp only [AP]
  refine wpSeq_nil ?_
  refine (by assumption : ∀ (a : Act) (w : World), _ → _) _ _ ?_
  replace RD := Lib.hid (RD.out.row_own RES.out (Nat.ne_of_lt G2.out) (nu8_at rfl) #[.int .i64 (sp : Int), .slice pt to.length ct, .slice pf fr.length cf])
  have kk := gb_row w5 W.heap.size #[.int .i64 (sp : Int), .slice pt to.length ct, .slice pf fr.length cf]
  have RES2 : Blk (w5.setRow W.heap.size #[.int .i64 (sp : Int), .slice pt to.length ct, .slice pf fr.length cf]) W.heap.size 31 #[.int .i64 (sp : Int), .slice pt to.length ct, .slice pf fr.length cf] := RES.out.row _
  replace RES := Lib.hid RES2
  replace KB := Lib.hid (KB.out.rowFar (Nat.ne_of_gt (Nat.lt_trans G2.out L3.out)) #[.int .i64 (sp : Int), .slice pt to.length ct, .slice pf fr.length cf])
  replace b0 := Lib.hid (below_setRow b0.out (Nat.le_refl _) #[.int .i64 (sp : Int), .slice pt to.length ct, .slice pf fr.length cf])
  have lw : W.heap.size < w4.heap.size := by have := G2.out; have := L3.out; have := L4.out; omega
  replace Ot := Lib.hid (Ot.out.gb kk lw)
  replace Of := Lib.hid (Of.out.gb kk lw)
  clear kk RES2 lw
  generalize World.setRow w5 _ _ = w6 at *
  have CM := Lib.hid (fun w h hB => code_m g (some ⟨g, 0, none⟩) rest code w h hB)
  go_upto_region 3 with fail
  rename_i aK
  refine wp_region_seq ?_
  refine wpSeq_yield (S := fun _ => True) (v := .pointer (some ⟨w3.heap.size, 0, none⟩)) (Or.inl ⟨by rfl, fun w' hw' => by go_simp⟩) trivial ?_
  simp only [AP]
  refine wpSeq_yield (S := fun w' => w' = w6) (v := .pointer (some ⟨g, 0, none⟩)) (Or.inl ⟨by rfl, fun w' hw' => by (rw [hw']; have cc : w6.cell? ⟨w3.heap.size, 0, none⟩ = some (.pointer (some ⟨g, 0, none⟩)) := KB.out.cell 0; go_simp)⟩) rfl ?_
  simp only [AP]
  refine wpSeq_wp rfl ?_
  unfold Oper.wp execOp
  go_simp
  refine (CM.out _ RD.out (Nat.le_of_lt RD.out.lt)).mono ?_
  rintro _ w7 ⟨rfl, R1, k1⟩
  replace RES := Lib.hid (blk_gb k1 RES.out (Nat.ne_of_lt G2.out))
  replace KB := Lib.hid (blk_gb k1 KB.out (Nat.ne_of_gt L3.out))
  replace b0 := Lib.hid (below_gb b0.out k1 (Nat.le_of_lt G2.out) b0.out.size)
  have lg : g < w4.heap.size := Nat.lt_trans L3.out L4.out
  replace Ot := Lib.hid (Ot.out.gb k1 lg)
  replace Of := Lib.hid (Of.out.gb k1 lg)
  replace RD := Lib.hid R1
  clear k1 R1 lg CM
  go_simp
  refine wpSeq_yield (S := fun _ => True) (yieldsIf_assign rfl _ rfl (.int .i64 (code : Int)) rfl) trivial ?_
  simp only [AP]
  refine wpSeq_nil ?_
  refine (by assumption : ∀ (a : Act) (w : World), _ → _) _ _ ?_
  by_cases c0 : code = 0
  · subst c0
    go_upto_region 4 with fail
    rename_i aK
    refine wp_region_seq ?_
    refine wpSeq_yield (S := fun _ => True) (yieldsIf_move rfl _ rfl (.int .i64 ((0 : Nat) : Int)) rfl) trivial ?_
    simp only [AP]
    refine wpSeq_yield (S := fun _ => True) (v := .bool false) (Or.inl ⟨by rfl, fun w' hw' => by (go_simp; try omega)⟩) trivial ?_
    simp only [AP]
    refine wpSeq_nil ?_
    refine (by assumption : ∀ (a : Act) (w : World), _ → _) _ _ ?_
    have LM := Lib.hid (fun w h hB => left_m g (some ⟨g, 0, none⟩) rest 0 w h hB)
    obtain ⟨q, hq⟩ : ∃ q, b.length - rest.length = q := ⟨_, rfl⟩
    obtain ⟨q2, hq2⟩ : ∃ q2, q + zz = q2 := ⟨_, rfl⟩
    have s1 : IntKind.i64.wrap ((n : Int) - (rest.length : Int)) = (q : Int) := by
      have := LL.out
      have := LN.out
      rw [IntKind.wrap_i64]
      omega
    have s2 : IntKind.i64.wrap ((q : Int) + (zz : Int)) = (q2 : Int) := by
      have := LL.out
      have := LN.out
      rw [IntKind.wrap_i64]
      omega
    have QQ := Lib.hid (And.intro hq hq2)
    clear hq hq2
    go_upto_region 6 with fail
    rename_i aK
    refine wp_region_seq ?_
    refine wpSeq_yield (S := fun _ => True) (yieldsIf_move rfl _ rfl (.slice p n c) rfl) trivial ?_
    simp only [AP]
    refine wpSeq_yield (S := fun _ => True) (v := .int .i64 (n : Int)) (Or.inl ⟨by rfl, fun w' hw' => by go_simp⟩) trivial ?_
    simp only [AP]
    refine wpSeq_yield (S := fun _ => True) (v := .pointer (some ⟨w3.heap.size, 0, none⟩)) (Or.inl ⟨by rfl, fun w' hw' => by go_simp⟩) trivial ?_
    simp only [AP]
    refine wpSeq_yield (S := fun w' => w' = w7) (v := .pointer (some ⟨g, 0, none⟩)) (Or.inl ⟨by rfl, fun w' hw' => by (rw [hw']; have cc : w7.cell? ⟨w3.heap.size, 0, none⟩ = some (.pointer (some ⟨g, 0, none⟩)) := KB.out.cell 0; go_simp)⟩) rfl ?_
    simp only [AP]
    refine wpSeq_wp rfl ?_
    unfold Oper.wp execOp
    go_simp
    refine (LM.out _ RD.out (Nat.le_of_lt RD.out.lt)).mono ?_
    rintro _ w8 ⟨rfl, R1, k1⟩
    replace RES := Lib.hid (blk_gb k1 RES.out (Nat.ne_of_lt G2.out))
    replace KB := Lib.hid (blk_gb k1 KB.out (Nat.ne_of_gt L3.out))
    replace b0 := Lib.hid (below_gb b0.out k1 (Nat.le_of_lt G2.out) b0.out.size)
    have lg : g < w4.heap.size := Nat.lt_trans L3.out L4.out
    replace Ot := Lib.hid (Ot.out.gb k1 lg)
    replace Of := Lib.hid (Of.out.gb k1 lg)
    replace RD := Lib.hid R1
    clear k1 R1 lg LM
    go_simp
    refine wpSeq_yield (S := fun _ => True) (v := .int .i64 (q : Int)) (Or.inl ⟨by rfl, fun w' hw' => by go_simp⟩) trivial ?_
    simp only [AP]
    refine wpSeq_yield (S := fun _ => True) (yieldsIf_assign rfl _ rfl (.int .i64 (q : Int)) rfl) trivial ?_
    simp only [AP]
    refine wpSeq_nil ?_
    refine (by assumption : ∀ (a : Act) (w : World), _ → _) _ _ ?_
    go_upto_region 7 with fail
    rename_i aK
    refine wp_region_seq ?_
    refine wpSeq_yield (S := fun w' => w' = w8) (load_hd rfl _ rfl W.heap.size rfl (sp : Int) (.slice pt to.length ct) (.slice pf fr.length cf) w8 RES.out) rfl ?_
    simp only [AP]
    refine wpSeq_yield (S := fun _ => True) (yieldsIf_move rfl _ rfl (.int .i64 (q : Int)) rfl) trivial ?_
    simp only [AP]
    refine wpSeq_yield (S := fun _ => True) (yieldsIf_move rfl _ rfl (.int .i64 (q : Int)) rfl) trivial ?_
    simp only [AP]
    refine wpSeq_yield (S := fun _ => True) (yieldsIf_move rfl _ rfl (.int .i64 (zz : Int)) rfl) trivial ?_
    simp only [AP]
    refine wpSeq_yield (S := fun _ => True) (v := .int .i64 (q2 : Int)) (Or.inl ⟨by rfl, fun w' hw' => by go_simp⟩) trivial ?_
    simp only [AP]
    refine wpSeq_store_row rfl 31 _ _ rfl (W.heap.size) #[.int .i64 (sp : Int), .slice pt to.length ct, .slice pf fr.length cf] rfl rfl _ _ RES.out info_hd rfl (cell_one _ _ _ _ _ _ _) ?_
    simp only [Act.put]
    refine wpSeq_yield (S := fun _ => True) (yieldsIf_assign rfl _ rfl (.int .i64 (q : Int)) rfl) trivial ?_
    simp only [AP]
    refine wpSeq_yield (S := fun _ => True) (yieldsIf_assign rfl _ rfl (.int .i64 (q2 : Int)) rfl) trivial ?_
    simp only [AP]
    refine wpSeq_yield (S := fun _ => True) (yieldsIf_assign rfl _ rfl (.int .i64 0) rfl) trivial ?_
    simp only [AP]
    refine wpSeq_nil ?_
    refine (by assumption : ∀ (a : Act) (w : World), _ → _) _ _ ?_
    have kk := gb_row w8 W.heap.size #[.int .i64 (sp : Int), .slice pt to.length ct, .slice pf fr.length cf]
    have RES2 : Blk (w8.setRow W.heap.size #[.int .i64 (sp : Int), .slice pt to.length ct, .slice pf fr.length cf]) W.heap.size 31 #[.int .i64 (sp : Int), .slice pt to.length ct, .slice pf fr.length cf] := RES.out.row _
    replace RES := Lib.hid RES2
    replace KB := Lib.hid (KB.out.rowFar (Nat.ne_of_gt (Nat.lt_trans G2.out L3.out)) #[.int .i64 (sp : Int), .slice pt to.length ct, .slice pf fr.length cf])
    replace b0 := Lib.hid (below_setRow b0.out (Nat.le_refl _) #[.int .i64 (sp : Int), .slice pt to.length ct, .slice pf fr.length cf])
    have lw : W.heap.size < w4.heap.size := by have := G2.out; have := L3.out; have := L4.out; omega
    replace Ot := Lib.hid (Ot.out.gb kk lw)
    replace Of := Lib.hid (Of.out.gb kk lw)
    clear kk RES2 lw
    generalize World.setRow w8 _ _ = w9 at *
    go_wp2
    refine bodyPost_ret (results_cell3 rfl _ _ _ _ _ _ rfl RES.out Try.underlying31 rfl info_hd) rfl ?_
    rw [show takeF b = ⟨sp, to, fr, b.length - rest.length, b.length - rest.length + zz, 0⟩ from ET.out.trans (if_pos rfl)]
    dsimp only
    rw [QQ.out.1, QQ.out.2]
    exact ⟨_, _, rfl, Ot.out.sb, Of.out.sb, b0.out⟩
  · skip
    go_upto_region 4 with fail
    rename_i aK
    refine wp_region_seq ?_
    refine wpSeq_yield (S := fun _ => True) (yieldsIf_move rfl _ rfl (.int .i64 (code : Int)) rfl) trivial ?_
    simp only [AP]
    refine wpSeq_yield (S := fun _ => True) (v := .bool true) (Or.inl ⟨by rfl, fun w' hw' => by (go_simp; try omega)⟩) trivial ?_
    simp only [AP]
    refine wpSeq_nil ?_
    refine (by assumption : ∀ (a : Act) (w : World), _ → _) _ _ ?_
    go_upto_region 5 with fail
    rename_i aK
    refine wp_region_seq ?_
    refine wpSeq_yield (S := fun _ => True) (v := .agg #[.int .i64 0, .slice none 0 0, .slice none 0 0]) (Or.inl ⟨by rfl, fun w' hw' => by go_simp⟩) trivial ?_
    simp only [AP]
    refine wpSeq_yield (S := fun _ => True) (yieldsIf_move rfl _ rfl (.int .i64 (code : Int)) rfl) trivial ?_
    simp only [AP]
    refine wpSeq_store_row rfl 31 _ _ rfl (W.heap.size) #[.int .i64 0, .slice none 0 0, .slice none 0 0] rfl rfl _ _ RES.out info_hd rfl (cell_one _ _ _ _ _ _ _) ?_
    simp only [Act.put]
    refine wpSeq_yield (S := fun _ => True) (yieldsIf_assign rfl _ rfl (.int .i64 0) rfl) trivial ?_
    simp only [AP]
    refine wpSeq_yield (S := fun _ => True) (yieldsIf_assign rfl _ rfl (.int .i64 0) rfl) trivial ?_
    simp only [AP]
    refine wpSeq_yield (S := fun _ => True) (yieldsIf_assign rfl _ rfl (.int .i64 (code : Int)) rfl) trivial ?_
    simp only [AP]
    refine wpSeq_nil ?_
    refine (by assumption : ∀ (a : Act) (w : World), _ → _) _ _ ?_
    have kk := gb_row w7 W.heap.size #[.int .i64 0, .slice none 0 0, .slice none 0 0]
    have RES2 : Blk (w7.setRow W.heap.size #[.int .i64 0, .slice none 0 0, .slice none 0 0]) W.heap.size 31 #[.int .i64 0, .slice none 0 0, .slice none 0 0] := RES.out.row _
    replace RES := Lib.hid RES2
    replace KB := Lib.hid (KB.out.rowFar (Nat.ne_of_gt (Nat.lt_trans G2.out L3.out)) #[.int .i64 0, .slice none 0 0, .slice none 0 0])
    replace b0 := Lib.hid (below_setRow b0.out (Nat.le_refl _) #[.int .i64 0, .slice none 0 0, .slice none 0 0])
    have lw : W.heap.size < w4.heap.size := by have := G2.out; have := L3.out; have := L4.out; omega
    replace Ot := Lib.hid (Ot.out.gb kk lw)
    replace Of := Lib.hid (Of.out.gb kk lw)
    clear kk RES2 lw
    generalize World.setRow w7 _ _ = w8 at *
    go_wp2
    refine bodyPost_ret (results_cell3 rfl _ _ _ _ _ _ rfl RES.out Try.underlying31 rfl info_hd) rfl ?_
    rw [show takeF b = noHd code from ET.out.trans (if_neg c0)]
    exact ⟨_, _, rfl, SB.nil _ _ _, SB.nil _ _ _, b0.out⟩
end Go.Proofs.Ytfhiflakglhneaa
