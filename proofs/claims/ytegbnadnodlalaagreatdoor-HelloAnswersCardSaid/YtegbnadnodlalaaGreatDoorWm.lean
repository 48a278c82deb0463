/- Law HelloAnswers by contract (printed by gen14/wm.py). -/
import Derived.Test.YtegbnadnodlalaaGreatDoorE3c0E4a
import Derived.Test.YtegbnadnodlalaaGreatDoorE8a
import Derived.Test.YtegbnadnodlalaaGreatDoorE7b0Wa
import Derived.Test.YtegbnadnodlalaaGreatDoorWb0Wd
import Derived.Test.YtegbnadnodlalaaGreatDoorWf
import Derived.Test.YtegbnadnodlalaaGreatDoorWk0Wl
namespace Go.Proofs.YtegbnadnodlalaaGreatDoor
open Go.RowKit
def m4 (a b c d : Int) : Int := if d > (if c > (if b > a then b else a) then c else (if b > a then b else a)) then d else (if c > (if b > a then b else a) then c else (if b > a then b else a))
theorem run_max4 {P : Program} {w : World} (ts : Array TypeId) (t : TypeId) (k : IntKind) (x y z u : Int) : (Builtin.max_ ts t #[.int k x, .int k y, .int k z, .int k u]).run P w = .ok (.int k (m4 x y z u)) w := by
 simp [Builtin.max_, Builtin.max2, m4]
theorem m4_big (a b c d : Nat) : ∃ M : Nat, m4 a b c d = (M : Int) ∧ (bigP a b c d ↔ (4611686018427387903 : Int) < (M : Int)) := by
 refine ⟨max (max (max a b) c) d, ?_, ?_⟩
 ·
  unfold m4
  split <;> split <;> split <;> omega
 ·
  unfold bigP
  omega
theorem yieldsIf_max4 {P : Program} {ops : Array Oper} {S : World → Prop} {o : Oper} {a : Act} (hgd : Region.wanted o (yielded ops a.tmps) = true) (c : Call) (ho : o.op = .call c) (hc : c.callee = .builtin .max) (x0 x1 x2 x3 : Operand) (ha : c.args = #[x0, x1, x2, x3]) (x y z u : Int) (h0 : a.eval x0 = .int .u64 x) (h1 : a.eval x1 = .int .u64 y) (h2 : a.eval x2 = .int .u64 z) (h3 : a.eval x3 = .int .u64 u) (M : Int) (hM : m4 x y z u = M) : YieldsIf P ops S o (.int .u64 M) a := by
 refine Or.inl ⟨hgd, fun w _ => ?_⟩
 obtain ⟨ce, ar, at_⟩ := c
 dsimp only at hc ha
 subst hc ha hM
 simp only [execOp, ho, resolve, invoke, builtin, Sem.run_bind, Sem.run_pure, Result.andThen_ok, List.map_toArray, List.map_cons, List.map_nil, h0, h1, h2, h3, run_max4]
theorem wq_four {o : Oper} {a : Act} {w : World} {K : Act → World → Prop} {Q : Exit → Act → World → Prop} (x0 x1 x2 x3 : Operand) (ho : o.op = .buildSlice 41 4 #[(0, x0), (1, x1), (2, x2), (3, x3)]) (v0 v1 v2 v3 : Value) (h0 : a.eval x0 = v0) (h1 : a.eval x1 = v1) (h2 : a.eval x2 = v2) (h3 : a.eval x3 = v3) (l0 l1 l2 l3 : List Nat) (s0 : SB w v0 l0) (s1 : SB w v1 l1) (s2 : SB w v2 l2) (s3 : SB w v3 l3)
  (h : ∀ g w', Blk w' g 29 #[v0, v1, v2, v3] → w.heap.size ≤ g → Below w.heap.size w w' → K (a.put o.dst (.slice (some ⟨g, 0, none⟩) 4 4)) w') : o.wp Tryz.prog a w K Q := by
 refine wq_lists 4 _ ho [v0, v1, v2, v3] (by simp [h0, h1, h2, h3]) rfl (by decide) (by decide) (by
  intro v hv
  simp only [List.mem_cons, List.not_mem_nil, or_false] at hv
  rcases hv with rfl | rfl | rfl | rfl
  · exact sb_cells s0
  · exact sb_cells s1
  · exact sb_cells s2
  · exact sb_cells s3) ?_
 exact h _ _ (Blk.new w 29 #[v0, v1, v2, v3]) (Nat.le_refl _) ((Below.refl _ _).alloc (Nat.le_refl _) _)
theorem readA_len (z : List Nat) : (readA z).2.1.length = 32 ∧ (readA z).2.2.1.length = 32 := by
 obtain ⟨T1, T2, y, l3, c3, c4, f, H⟩ := RA.mk' z
 rw [H.is]
 by_cases f0 : f = 0
 ·
  rw [if_neg (fun e => e f0)]
  exact H.full f0
 ·
  rw [if_pos f0]
  exact ⟨z32_length, z32_length⟩
theorem za_four {w : World} {g : Nat} {q0 q1 q2 q3 : Option Addr} {k0 k1 k2 k3 : Nat} {z0 z1 z2 z3 : List Nat} (K : Blk w g 29 #[.slice q0 z0.length k0, .slice q1 z1.length k1, .slice q2 z2.length k2, .slice q3 z3.length k3])
  (s0 : SB w (.slice q0 z0.length k0) z0) (s1 : SB w (.slice q1 z1.length k1) z1) (s2 : SB w (.slice q2 z2.length k2) z2) (s3 : SB w (.slice q3 z3.length k3) z3) (b0 : Bytes z0) (b1 : Bytes z1) (b2 : Bytes z2) (b3 : Bytes z3) (l0 : z0.length ≤ 1000000) (l1 : z1.length ≤ 1000000) (l2 : z2.length ≤ 1000000) (l3 : z3.length ≤ 1000000) : ∀ j, j < 4 → ∃ z, ZA w (some ⟨g, 0, none⟩) j z := by
 intro j hj
 have : j = 0 ∨ j = 1 ∨ j = 2 ∨ j = 3 := by omega
 rcases this with rfl | rfl | rfl | rfl
 · exact ⟨z0, ⟨g, 0, q0, k0, rfl, K.lt, K.cell 0, s0⟩, b0, l0⟩
 · exact ⟨z1, ⟨g, 0, q1, k1, rfl, K.lt, K.cell 1, s1⟩, b1, l1⟩
 · exact ⟨z2, ⟨g, 0, q2, k2, rfl, K.lt, K.cell 2, s2⟩, b2, l2⟩
 · exact ⟨z3, ⟨g, 0, q3, k3, rfl, K.lt, K.cell 3, s3⟩, b3, l3⟩
theorem ans_bytes {r s : List Nat} (br : Bytes r) (bs : Bytes s) (q : Bool) : Bytes (ansB r s q) := br.append (bs.append (fun x hx => by
 rw [List.mem_singleton.1 hx]
 cases q <;> decide))
theorem par_bytes {a b c d : Nat} (h : ¬ bigP a b c d) : Bytes (parB a b c d) ∧ (parB a b c d).length ≤ 32 := by
 unfold bigP at h
 refine ⟨Bytes.append (vput_bytes a (by omega)) (Bytes.append (vput_bytes b (by omega)) (Bytes.append (vput_bytes c (by omega)) (vput_bytes d (by omega)))), ?_⟩
 have v8 : ∀ n, (vput n).length ≤ 8 := fun n => by
  rw [vput_length]
  exact Nat.pow_le_pow_right (show 0 < 2 by decide) (vtop_le n)
 unfold parB
 rw [List.length_append, List.length_append, List.length_append]
 have := v8 a; have := v8 b; have := v8 c; have := v8 d
 omega
set_option maxHeartbeats 8000000 in
set_option maxRecDepth 100000 in
theorem answers_c (r s : List Nat) (q : Bool) (lr : r.length = 32) (ls : s.length = 32) (br : Bytes r) (bs : Bytes s) (a b c d : Nat) (ha : a < 18446744073709551616) (hb : b < 18446744073709551616) (hc : c < 18446744073709551616) (hd : d < 18446744073709551616) (l : List Nat) (bl : Bytes l) (pb : Option Addr) (cb : Nat) (pa : Option Addr) (na ca : Nat) (y : List Nat) (by_ : Bytes y) (py : Option Addr) (ny cy : Nat) (W : World) (hs : SB W (.slice pb l.length cb) l) (hat : IA W pa na) (hy : SB W (.slice py ny cy) y) (AW : AwakeC W) :
  Calls Tryz.prog 3 #[.agg (ansV r s q), .agg (parV a b c d), .slice pb l.length cb, .slice pa na ca, .slice py ny cy] W fun e w' => e = .returned (.bool true) ∧ Below W.heap.size W w' := by
 have AW := Lib.hid AW
 have CA := Lib.hid (fun (w : World) => hanswer_c r s q lr ls w)
 have CP := Lib.hid (fun (w : World) => hparams_c a b c d ha hb hc hd w)
 have cz := ansV_size lr ls q
 have CZ := info_ansV cz
 have pz : (parV a b c d).size = 4 := rfl
 have PZ := info_parV pz
 have LK := Lib.hid (And.intro lr (And.intro ls (And.intro br bs)))
 have HS := Lib.hid (fun (w : World) (h : Below W.heap.size W w) => hs.below h)
 have HY := Lib.hid (fun (w : World) (h : Below W.heap.size W w) => hy.below h)
 have HA := Lib.hid (fun (w : World) (h : Below W.heap.size W w) => show IA w pa na from fun j hj => by
  obtain ⟨g, o, z, e, lg, c⟩ := hat j hj
  exact ⟨g, o, z, e, Nat.lt_of_lt_of_le lg h.size, (h.cell (p := ⟨g, o + j, none⟩) lg).trans c⟩)
 have BL := Lib.hid (And.intro bl by_)
 obtain ⟨nb, hnb⟩ : ∃ n, l.length = n := ⟨_, rfl⟩
 rw [hnb] at HS ⊢
 have HNB := Lib.hid hnb
 clear hs hat hy br bs bl by_ lr ls hnb ha hb hc hd
 go_enter Tryz.func3, Tryz.ntmps3
 go_upto_region 0 with fail
 rename_i aK
 refine wp_region_seq ?_
 refine wpSeq_wp rfl ?_
 unfold Oper.wp execOp
 go_simp
 refine wpSeq_wp rfl ?_
 unfold Oper.wp execOp
 go_simp
 refine sas (.bool false) rfl rfl rfl ?_
 simp only [AP]
 refine wpSeq_nil ?_
 refine aK _ _ ?_
 clear aK
 have K0 := (Blk.new W 25 (ansV r s q)).alloc (.cells (parV a b c d) 28)
 have K1 := Blk.new (World.alloc W (.cells (ansV r s q) 25)) 28 (parV a b c d)
 have b0 := ((Below.refl W.heap.size W).alloc (Nat.le_refl _) (.cells (ansV r s q) 25)).alloc (by simp) (.cells (parV a b c d) 28)
 rw [show (World.alloc W (.cells (ansV r s q) 25)).heap.size = W.heap.size + 1 by simp] at K1
 generalize World.alloc (World.alloc W _) _ = w1 at *
 go_wp2_with fail
 refine (AW.out w1 b0).mono ?_
 rintro _ w2 ⟨rfl, b1⟩
 replace K0 := K0.below' b1
 replace K1 := K1.below' b1
 replace b0 := b0.trans (b1.mono b0.size)
 clear b1 AW
 by_cases g2 : 1000 < nb
 ·
  have z2 : (1000 : Int) < (nb : Int) := by omega
  clear HS HY HA CA CP K0 K1 g2
  go_wp2
  go_ret
  exact ⟨rfl, b0⟩
 have z2 : ¬ (1000 : Int) < (nb : Int) := by omega
 have LN := Lib.hid (show nb ≤ 1000 by omega)
 have cl : (ansB r s q).length = 65 := by
  unfold ansB
  rw [List.length_append, List.length_append, LK.out.1, LK.out.2.1]
  rfl
 have cb2 := ans_bytes LK.out.2.2.1 LK.out.2.2.2 q
 have mb : Bytes (msgB 2 (ansB r s q)) := msgB_bytes (by decide) cb2 (by omega)
 have md : (msgB 2 (ansB r s q)).drop 4 = ansB r s q := rfl
 have m0 : (msgB 2 (ansB r s q)).getD 0 0 = 2 := rfl
 have ml : (msgB 2 (ansB r s q)).length = 69 := by rw [msgB_length, cl]
 have rb := readA_back r s q LK.out.1 LK.out.2.1
 obtain ⟨N9, hN9⟩ : ∃ n, 69 = n := ⟨_, rfl⟩
 rw [hN9] at ml
 have ML := Lib.hid ml
 have CB := Lib.hid (show Bytes (ansB r s q) ∧ (ansB r s q).length = N9 - 4 ∧ N9 = 69 ∧ readA (ansB r s q) = (0, r, s, q) from ⟨cb2, by omega, hN9.symm, rb⟩)
 have MD := Lib.hid md
 have M0 := Lib.hid m0
 have z9 : (N9 : Int) = 69 := by omega
 clear mb md ml cb2 rb cl hN9 m0 g2
 generalize msgB 2 (ansB r s q) = MM at *
 generalize ansB r s q = CE at *
 go_upto_region 5 with fail
 rename_i aK
 refine wp_region_seq ?_
 refine wpSeq_yield (S := fun w' => w' = w2) (show YieldsIf _ _ _ _ (.agg (ansV r s q)) _ from yieldsIf_row_wanted (S := fun w' => w' = w2) rfl 25 _ rfl (W.heap.size) rfl 25 _ _ (fun _ h => h ▸ K0) Tryz.underlying25 rfl CZ) rfl ?_
 simp only [AP]
 refine wpSeq_wp rfl ?_
 unfold Oper.wp execOp
 go_simp
 refine (CA.out w2).mono ?_
 rintro _ w3 ⟨v9, rfl, O9, b1⟩
 replace O9 := O9.mono b0.size
 replace K0 := K0.below' b1
 replace K1 := K1.below' b1
 replace b0 := b0.trans (b1.mono b0.size)
 clear b1 CA
 obtain ⟨p9, c9, hv⟩ := O9.shape
 try dsimp only at hv O9
 rw [ML.out] at hv
 subst hv
 go_simp
 refine sas (.slice p9 N9 c9) rfl rfl rfl ?_
 simp only [AP]
 refine wpSeq_nil ?_
 refine (by assumption : ∀ (a : Act) (w : World), _ → _) _ _ ?_
 have c49 := Lib.hid (show 4 ≤ N9 ∧ N9 ≤ c9 from ⟨by have := CB.out.2.2.1; omega, by have := O9.sb.len.2; have := ML.out; omega⟩)
 have ST := O9.sb.tail 4 c49.out.1
 rw [MD.out] at ST
 have RD := readanswer_m CE (tailP p9 c9 4) (N9 - 4) (c9 - 4) CB.out.1 (by have := CB.out.2.2.1; omega) w3 ST
 rw [CB.out.2.2.2] at RD
 have RD := Lib.hid RD
 clear ST
 go_upto_region 6 with fail
 rename_i aK
 refine wp_region_seq ?_
 refine smv (.slice p9 N9 c9) rfl rfl rfl ?_
 simp only [AP]
 refine wpSeq_yield (S := fun _ => True) (yieldsIf_tailK rfl _ _ .i64 rfl p9 N9 c9 4 rfl rfl c49.out.1 c49.out.2) trivial ?_
 simp only [AP]
 refine wpSeq_wp rfl ?_
 unfold Oper.wp execOp
 go_simp
 refine RD.out.mono ?_
 rintro _ w4 ⟨rfl, bb⟩
 replace K0 := K0.below' bb
 replace K1 := K1.below' bb
 replace O9 := O9.below bb
 replace b0 := b0.trans (bb.mono b0.size)
 clear RD bb
 go_simp
 refine smv (.tuple #[.agg (ansV r s q), .int .i64 0]) rfl rfl rfl ?_
 simp only [AP]
 refine svl (.agg (ansV r s q)) (.inl ⟨by rfl, fun w' _ => by go_simp⟩) ?_
 simp only [AP]
 refine svl (.int .i64 0) (.inl ⟨by rfl, fun w' _ => by go_simp⟩) ?_
 simp only [AP]
 refine wpSeq_wp rfl ?_
 unfold Oper.wp execOp
 go_simp
 generalize hW : World.alloc w4 _ = w5
 obtain ⟨Zg12, hZg12, Kg12, bb⟩ : ∃ Z : Array Value, Z.size = 65 ∧ Blk w5 w4.heap.size 25 Z ∧ Below w4.heap.size w4 w5 := by
  rw [← hW]
  exact ⟨_, rfl, Blk.new _ _ _, (Below.refl _ _).alloc (Nat.le_refl _) _⟩
 clear hW
 have Lg12 := Lib.hid (show W.heap.size ≤ w4.heap.size ∧ W.heap.size + 1 < w4.heap.size ∧ ∀ j, (Value.slice p9 N9 c9).ownBlock = some j → j < w4.heap.size from ⟨b0.size, K1.lt, fun j h => (O9.lt j h).2⟩)
 replace K0 := K0.below' bb
 replace K1 := K1.below' bb
 replace O9 := O9.below bb
 replace b0 := b0.trans (bb.mono b0.size)
 obtain ⟨g12, hg12⟩ : ∃ g, w4.heap.size = g := ⟨_, rfl⟩
 rw [hg12] at Kg12 Lg12 ⊢
 clear hg12 bb
 refine wpSeq_store_row rfl 25 _ _ rfl g12 (ansV r s q) rfl rfl _ _ Kg12 CZ (by rw [hZg12, cz]) (ansV_one _ _ _) ?_
 simp only [Act.put]
 replace Kg12 := Kg12.row (ansV r s q)
 replace K0 : Blk (w5.setRow g12 (ansV r s q)) W.heap.size 25 (ansV r s q) := K0.rowFar (by have := Lg12.out; omega) _
 replace K1 : Blk (w5.setRow g12 (ansV r s q)) (W.heap.size + 1) 28 (parV a b c d) := K1.rowFar (by have := Lg12.out; omega) _
 replace O9 : OwL W.heap.size (w5.setRow g12 (ansV r s q)) (.slice p9 N9 c9) MM := O9.of_block fun j hj => setRow_other w5 g12 j _ (by have := Lg12.out.2.2 j hj; omega)
 have l1 := Lg12.out.1
 replace b0 := below_setRow b0 l1 (ansV r s q)
 clear l1
 generalize World.setRow w5 g12 _ = w6 at *
 refine sas (.int .i64 0) rfl rfl rfl ?_
 simp only [AP]
 refine wpSeq_nil ?_
 refine (by assumption : ∀ (a : Act) (w : World), _ → _) _ _ ?_
 obtain ⟨g9, hp9, A9⟩ : ∃ g9, p9 = some ⟨g9, 0, none⟩ ∧ BA w6 g9 0 MM := by
  rcases O9.row with ⟨_, e⟩ | ⟨g9, cap, e, _, _, _, A9, _⟩
  ·
   have := ML.out
   rw [e] at this
   have := CB.out
   simp only [List.length_nil] at *
   omega
  ·
   simp only [Value.slice.injEq] at e
   exact ⟨g9, e.1, A9⟩
 subst hp9
 have c9a := A9.cell 0 (by have := ML.out; have := CB.out; omega)
 rw [Nat.add_zero] at c9a
 have m0 := M0.out
 rw [List.getD_eq_getElem?_getD, List.getElem?_eq_getElem (by have := ML.out; have := CB.out; omega)] at m0
 rw [show MM[0]'(by have := ML.out; have := CB.out; omega) = 2 from m0] at c9a
 replace c9a : w6.cell? ⟨g9, 0, none⟩ = some (.int .u8 2) := c9a
 have z7 : (0 : Int) < (N9 : Int) := by have := CB.out; omega
 have z8 : ¬ N9 = 0 := by have := CB.out; omega
 clear A9 m0
 go_upto_region 7 with fail
 rename_i aK
 refine wp_region_seq ?_
 refine smv (.int .i64 0) rfl rfl rfl ?_
 simp only [AP]
 refine svl (.bool false) (.inl ⟨by rfl, fun w' _ => by go_simp⟩) ?_
 simp only [AP]
 refine smv (.bool false) rfl rfl rfl ?_
 simp only [AP]
 refine wpSeq_yield (S := fun w' => w' = w6) (show YieldsIf _ _ _ _ (.agg (ansV r s q)) _ from yieldsIf_row_wanted (S := fun w' => w' = w6) rfl 25 _ rfl (g12) rfl 25 _ _ (fun _ h => h ▸ Kg12) Tryz.underlying25 rfl CZ) rfl ?_
 simp only [AP]
 refine wpSeq_yield (S := fun w' => w' = w6) (show YieldsIf _ _ _ _ (.agg (ansV r s q)) _ from yieldsIf_row_wanted (S := fun w' => w' = w6) rfl 25 _ rfl (W.heap.size) rfl 25 _ _ (fun _ h => h ▸ K0) Tryz.underlying25 rfl CZ) rfl ?_
 simp only [AP]
 refine wpSeq_yield (S := fun _ => True) (yieldsIf_neqans rfl _ _ rfl r s q LK.out.1 LK.out.2.1 rfl rfl) trivial ?_
 simp only [AP]
 refine wpSeq_yield (S := fun _ => True) (yieldsIf_pick rfl _ _ _ rfl false rfl (.bool false) rfl) trivial ?_
 simp only [AP]
 refine smv (.bool false) rfl rfl rfl ?_
 simp only [AP]
 refine smv (.slice (some ⟨g9, 0, none⟩) N9 c9) rfl rfl rfl ?_
 simp only [AP]
 refine svl (.pointer (some ⟨g9, 0, none⟩)) (.inl ⟨by rfl, fun w' _ => by (go_simp)⟩) ?_
 simp only [AP]
 refine wpSeq_yield (S := fun w' => w' = w6) (v := .int .u8 2) (Or.inl ⟨by rfl, fun w' hw' => by (rw [hw']; go_simp)⟩) rfl ?_
 simp only [AP]
 refine svl (.bool false) (.inl ⟨by rfl, fun w' _ => by go_simp⟩) ?_
 simp only [AP]
 refine wpSeq_yield (S := fun _ => True) (yieldsIf_pick rfl _ _ _ rfl false rfl (.bool false) rfl) trivial ?_
 simp only [AP]
 refine smv (.bool false) rfl rfl rfl ?_
 simp only [AP]
 refine smv (.slice (some ⟨g9, 0, none⟩) N9 c9) rfl rfl rfl ?_
 simp only [AP]
 refine svl (.int .i64 (N9 : Int)) (.inl ⟨by rfl, fun w' _ => by go_simp⟩) ?_
 simp only [AP]
 refine svl (.bool false) (.inl ⟨by rfl, fun w' _ => by (go_simp; try omega)⟩) ?_
 simp only [AP]
 refine wpSeq_yield (S := fun _ => True) (yieldsIf_pick rfl _ _ _ rfl false rfl (.bool false) rfl) trivial ?_
 simp only [AP]
 refine wpSeq_nil ?_
 refine (by assumption : ∀ (a : Act) (w : World), _ → _) _ _ ?_
 clear c9a z7 z8 Kg12 Lg12 z9 K0 c49 M0
 obtain ⟨M, hM, hbig⟩ := m4_big a b c d
 have HM := Lib.hid hM
 by_cases hP : bigP a b c d
 ·
  have hb2 := hbig.1 hP
  have fe : parF a b c d = (2, []) := if_pos hP
  have xb : Bytes ([] : List Nat) ∧ ([] : List Nat).length ≤ 32 := ⟨(fun x hx => by cases hx), by decide⟩
  rw [fe] at CP
  have CP := Lib.hid CP.out
  obtain ⟨xs, hxs⟩ : ∃ xs, ([] : List Nat) = xs := ⟨_, rfl⟩
  rw [hxs] at CP xb
  have XB := Lib.hid xb
  clear fe xb hxs hP hbig hM
  go_upto_region 9 with fail
  rename_i aK
  refine wp_region_seq ?_
  refine wpSeq_yield (S := fun w' => w' = w6) (show YieldsIf _ _ _ _ (.agg (parV a b c d)) _ from yieldsIf_row_wanted (S := fun w' => w' = w6) rfl 28 _ rfl (W.heap.size + 1) rfl 28 _ _ (fun _ h => h ▸ K1) Tryz.underlying28 rfl PZ) rfl ?_
  simp only [AP]
  refine wpSeq_wp rfl ?_
  unfold Oper.wp execOp
  go_simp
  refine (CP.out w6).mono ?_
  rintro _ w7 ⟨vx, rfl, Ox, bb⟩
  replace Ox := Ox.mono b0.size
  replace K1 := K1.below' bb
  replace O9 := O9.below bb
  replace b0 := b0.trans (bb.mono b0.size)
  clear bb CP
  obtain ⟨px, cx, hv⟩ := Ox.shape
  obtain ⟨nx, hnx⟩ : ∃ n, xs.length = n := ⟨_, rfl⟩
  try dsimp only at hv Ox
  rw [hnx] at hv
  subst hv
  go_simp
  refine smv (.tuple #[.slice px nx cx, .int .i64 2]) rfl rfl rfl ?_
  simp only [AP]
  refine svl (.slice px nx cx) (.inl ⟨by rfl, fun w' _ => by go_simp⟩) ?_
  simp only [AP]
  refine svl (.int .i64 2) (.inl ⟨by rfl, fun w' _ => by go_simp⟩) ?_
  simp only [AP]
  refine sas (.slice px nx cx) rfl rfl rfl ?_
  simp only [AP]
  refine sas (.int .i64 2) rfl rfl rfl ?_
  simp only [AP]
  refine wpSeq_nil ?_
  refine (by assumption : ∀ (a : Act) (w : World), _ → _) _ _ ?_
  have q0 : w7.cell? ⟨W.heap.size + 1, 0, none⟩ = some (.int .u64 (a : Int)) := K1.cell 0
  have q1 : w7.cell? ⟨W.heap.size + 1, 1, none⟩ = some (.int .u64 (b : Int)) := K1.cell 1
  have q2 : w7.cell? ⟨W.heap.size + 1, 2, none⟩ = some (.int .u64 (c : Int)) := K1.cell 2
  have q3 : w7.cell? ⟨W.heap.size + 1, 3, none⟩ = some (.int .u64 (d : Int)) := K1.cell 3
  go_upto_region 10 with fail
  rename_i aK
  refine wp_region_seq ?_
  refine svl (.pointer (some ⟨W.heap.size + 1, 0, none⟩)) (.inl ⟨by rfl, fun w' _ => by (go_simp)⟩) ?_
  simp only [AP]
  refine wpSeq_yield (S := fun w' => w' = w7) (v := .int .u64 (a : Int)) (Or.inl ⟨by rfl, fun w' hw' => by (rw [hw']; go_simp)⟩) rfl ?_
  simp only [AP]
  refine svl (.pointer (some ⟨W.heap.size + 1, 1, none⟩)) (.inl ⟨by rfl, fun w' _ => by (go_simp)⟩) ?_
  simp only [AP]
  refine wpSeq_yield (S := fun w' => w' = w7) (v := .int .u64 (b : Int)) (Or.inl ⟨by rfl, fun w' hw' => by (rw [hw']; go_simp)⟩) rfl ?_
  simp only [AP]
  refine svl (.pointer (some ⟨W.heap.size + 1, 2, none⟩)) (.inl ⟨by rfl, fun w' _ => by (go_simp)⟩) ?_
  simp only [AP]
  refine wpSeq_yield (S := fun w' => w' = w7) (v := .int .u64 (c : Int)) (Or.inl ⟨by rfl, fun w' hw' => by (rw [hw']; go_simp)⟩) rfl ?_
  simp only [AP]
  refine svl (.pointer (some ⟨W.heap.size + 1, 3, none⟩)) (.inl ⟨by rfl, fun w' _ => by (go_simp)⟩) ?_
  simp only [AP]
  refine wpSeq_yield (S := fun w' => w' = w7) (v := .int .u64 (d : Int)) (Or.inl ⟨by rfl, fun w' hw' => by (rw [hw']; go_simp)⟩) rfl ?_
  simp only [AP]
  refine wpSeq_yield (S := fun _ => True) (yieldsIf_max4 rfl _ rfl rfl _ _ _ _ rfl _ _ _ _ rfl rfl rfl rfl _ HM.out) trivial ?_
  simp only [AP]
  refine svl (.bool true) (.inl ⟨by rfl, fun w' _ => by (go_simp; try omega)⟩) ?_
  simp only [AP]
  refine sas (.bool true) rfl rfl rfl ?_
  simp only [AP]
  refine wpSeq_nil ?_
  refine (by assumption : ∀ (a : Act) (w : World), _ → _) _ _ ?_
  clear q0 q1 q2 q3 HM hb2
  go_upto_region 11 with fail
  rename_i aK
  refine wp_region_seq ?_
  refine smv (.bool true) rfl rfl rfl ?_
  simp only [AP]
  refine smv (.int .i64 2) rfl rfl rfl ?_
  simp only [AP]
  refine svl (.bool true) (.inl ⟨by rfl, fun w' _ => by go_simp⟩) ?_
  simp only [AP]
  refine svl (.bool false) (.inl ⟨by rfl, fun w' _ => by (go_simp)⟩) ?_
  simp only [AP]
  refine smv (.bool false) rfl rfl rfl ?_
  simp only [AP]
  refine smv (.bool true) rfl rfl rfl ?_
  simp only [AP]
  refine svl (.bool false) (.inl ⟨by rfl, fun w' _ => by (go_simp)⟩) ?_
  simp only [AP]
  refine smv (.bool false) rfl rfl rfl ?_
  simp only [AP]
  refine wpSeq_yield (S := fun _ => True) (yieldsIf_off rfl) trivial ?_
  simp only [AP]
  refine wpSeq_yield (S := fun _ => True) (yieldsIf_off rfl) trivial ?_
  simp only [AP]
  refine wpSeq_yield (S := fun _ => True) (yieldsIf_pick rfl _ _ _ rfl false rfl (.bool false) rfl) trivial ?_
  simp only [AP]
  refine wpSeq_yield (S := fun _ => True) (yieldsIf_pick rfl _ _ _ rfl false rfl (.bool false) rfl) trivial ?_
  simp only [AP]
  refine wpSeq_nil ?_
  refine (by assumption : ∀ (a : Act) (w : World), _ → _) _ _ ?_
  have SX := Ox.sb
  have RX := readparams_m xs px nx cx XB.out.1 (by have := XB.out.2; omega) w7 SX
  have RX := Lib.hid RX
  clear SX
  generalize (readP xs).2.1 = y1 at *
  generalize (readP xs).2.2.1 = y2 at *
  generalize (readP xs).2.2.2.1 = y3 at *
  generalize (readP xs).2.2.2.2 = y4 at *
  generalize (readP xs).1 = fx at *
  have qz : (parV y1 y2 y3 y4).size = 4 := rfl
  have QZ := info_parV qz
  go_upto_region 13 with fail
  rename_i aK
  refine wp_region_seq ?_
  refine smv (.slice px nx cx) rfl rfl rfl ?_
  simp only [AP]
  refine wpSeq_wp rfl ?_
  unfold Oper.wp execOp
  go_simp
  refine RX.out.mono ?_
  rintro _ w8 ⟨rfl, bb⟩
  replace K1 := K1.below' bb
  replace O9 := O9.below bb
  replace b0 := b0.trans (bb.mono b0.size)
  replace Ox := Ox.below bb
  clear RX bb
  go_simp
  refine smv (.tuple #[.agg (parV y1 y2 y3 y4), .int .i64 (fx : Int)]) rfl rfl rfl ?_
  simp only [AP]
  refine svl (.agg (parV y1 y2 y3 y4)) (.inl ⟨by rfl, fun w' _ => by go_simp⟩) ?_
  simp only [AP]
  refine svl (.int .i64 (fx : Int)) (.inl ⟨by rfl, fun w' _ => by go_simp⟩) ?_
  simp only [AP]
  refine wpSeq_wp rfl ?_
  unfold Oper.wp execOp
  go_simp
  generalize hW : World.alloc w8 _ = w9
  obtain ⟨Zg17, hZg17, Kg17, bb⟩ : ∃ Z : Array Value, Z.size = 4 ∧ Blk w9 w8.heap.size 28 Z ∧ Below w8.heap.size w8 w9 := by
   rw [← hW]
   exact ⟨_, rfl, Blk.new _ _ _, (Below.refl _ _).alloc (Nat.le_refl _) _⟩
  clear hW
  have Lg17 := Lib.hid (show W.heap.size + 1 < w8.heap.size ∧ (∀ j, (Value.slice (some ⟨g9, 0, none⟩) N9 c9).ownBlock = some j → j < w8.heap.size) ∧ ∀ j, (Value.slice px nx cx).ownBlock = some j → j < w8.heap.size from ⟨K1.lt, fun j h => (O9.lt j h).2, fun j h => (Ox.lt j h).2⟩)
  replace K1 := K1.below' bb
  replace O9 := O9.below bb
  replace b0 := b0.trans (bb.mono b0.size)
  replace Ox := Ox.below bb
  obtain ⟨g17, hg17⟩ : ∃ g, w8.heap.size = g := ⟨_, rfl⟩
  rw [hg17] at Kg17 Lg17 ⊢
  clear hg17 bb
  refine wpSeq_store_row rfl 28 _ _ rfl g17 (parV y1 y2 y3 y4) rfl rfl _ _ Kg17 QZ (by rw [hZg17, qz]) (parV_one _ _ _ _) ?_
  simp only [Act.put]
  replace Kg17 := Kg17.row (parV y1 y2 y3 y4)
  replace K1 : Blk (w9.setRow g17 (parV y1 y2 y3 y4)) (W.heap.size + 1) 28 (parV a b c d) := K1.rowFar (by have := Lg17.out.1; omega) _
  replace O9 : OwL W.heap.size (w9.setRow g17 (parV y1 y2 y3 y4)) (.slice (some ⟨g9, 0, none⟩) N9 c9) MM := O9.of_block fun j hj => setRow_other w9 g17 j _ (by have := Lg17.out.2.1 j hj; omega)
  replace Ox : OwL W.heap.size (w9.setRow g17 (parV y1 y2 y3 y4)) (.slice px nx cx) xs := Ox.of_block fun j hj => setRow_other w9 g17 j _ (by have := Lg17.out.2.2 j hj; omega)
  have l1 : W.heap.size ≤ g17 := by have := Lg17.out.1; omega
  replace b0 := below_setRow b0 l1 (parV y1 y2 y3 y4)
  clear l1
  generalize World.setRow w9 g17 _ = w10 at *
  refine sas (.int .i64 (fx : Int)) rfl rfl rfl ?_
  simp only [AP]
  refine wpSeq_nil ?_
  refine (by assumption : ∀ (a : Act) (w : World), _ → _) _ _ ?_
  go_upto_region 14 with fail
  rename_i aK
  refine wp_region_seq ?_
  refine smv (.int .i64 2) rfl rfl rfl ?_
  simp only [AP]
  refine svl (.bool false) (.inl ⟨by rfl, fun w' _ => by go_simp⟩) ?_
  simp only [AP]
  refine smv (.bool false) rfl rfl rfl ?_
  simp only [AP]
  refine wpSeq_yield (S := fun _ => True) (yieldsIf_off rfl) trivial ?_
  simp only [AP]
  refine wpSeq_yield (S := fun _ => True) (yieldsIf_off rfl) trivial ?_
  simp only [AP]
  refine wpSeq_yield (S := fun _ => True) (yieldsIf_off rfl) trivial ?_
  simp only [AP]
  refine wpSeq_yield (S := fun _ => True) (yieldsIf_off rfl) trivial ?_
  simp only [AP]
  refine wpSeq_yield (S := fun _ => True) (yieldsIf_off rfl) trivial ?_
  simp only [AP]
  refine wpSeq_yield (S := fun _ => True) (yieldsIf_off rfl) trivial ?_
  simp only [AP]
  refine wpSeq_yield (S := fun _ => True) (yieldsIf_off rfl) trivial ?_
  simp only [AP]
  refine wpSeq_yield (S := fun _ => True) (yieldsIf_pick rfl _ _ _ rfl false rfl (.bool false) rfl) trivial ?_
  simp only [AP]
  refine wpSeq_nil ?_
  refine (by assumption : ∀ (a : Act) (w : World), _ → _) _ _ ?_
  clear Kg17 K1
  have bd := below_drew (Below.refl w10.heap.size w10)
  replace O9 := O9.below bd
  replace Ox := Ox.below bd
  replace b0 := b0.trans (bd.mono b0.size)
  clear bd
  go_upto_region 16 with fail
  rename_i aK
  refine wp_region_S (S := fun _ => True) (by kernel_rfl) ?_
  generalize w10.drew = w11 at *
  have hS := trivial
  have S9 := O9.sb
  have c49 := Lib.hid (show 4 ≤ N9 ∧ N9 ≤ c9 from ⟨by have := CB.out.2.2.1; omega, by have := S9.len.2; have := ML.out; omega⟩)
  have ST := S9.tail 4 c49.out.1
  rw [MD.out] at ST
  have SX := Ox.sb
  refine wpAnyS_takeL 0 (v := .slice pb nb cb) rfl (by kernel_rfl) (by kernel_rfl) (by kernel_rfl) (fun _ _ _ H => H) (yieldsIf_move rfl _ rfl (.slice pb nb cb) rfl) hS ?_
  simp only [AP]
  refine wpAnyS_takeL 1 (v := .slice (some ⟨g9, 0, none⟩) N9 c9) rfl (by kernel_rfl) (by kernel_rfl) (by kernel_rfl) (fun _ _ _ H => H) (yieldsIf_move rfl _ rfl (.slice (some ⟨g9, 0, none⟩) N9 c9) rfl) hS ?_
  simp only [AP]
  refine wpAnyS_takeL 2 (v := .slice (tailP (some ⟨g9, 0, none⟩) c9 4) (N9 - 4) (c9 - 4)) rfl (by kernel_rfl) (by kernel_rfl) (by kernel_rfl) (fun _ _ _ H => H) (yieldsIf_tailK rfl _ _ .i64 rfl (some ⟨g9, 0, none⟩) N9 c9 4 rfl rfl c49.out.1 c49.out.2) hS ?_
  simp only [AP]
  refine wpAnyS_takeL 3 (v := .slice (some ⟨g9, 0, none⟩) N9 c9) rfl (by kernel_rfl) (by kernel_rfl) (by kernel_rfl) (fun _ _ _ H => H) (yieldsIf_move rfl _ rfl (.slice (some ⟨g9, 0, none⟩) N9 c9) rfl) hS ?_
  simp only [AP]
  refine wpAnyS_takeL 4 (v := .slice (tailP (some ⟨g9, 0, none⟩) c9 4) (N9 - 4) (c9 - 4)) rfl (by kernel_rfl) (by kernel_rfl) (by kernel_rfl) (fun _ _ _ H => H) (yieldsIf_tailK rfl _ _ .i64 rfl (some ⟨g9, 0, none⟩) N9 c9 4 rfl rfl c49.out.1 c49.out.2) hS ?_
  simp only [AP]
  refine wpAnyS_takeL 5 (v := .slice pa na ca) rfl (by kernel_rfl) (by kernel_rfl) (by kernel_rfl) (fun _ _ _ H => H) (yieldsIf_move rfl _ rfl (.slice pa na ca) rfl) hS ?_
  simp only [AP]
  refine wpAnyS_takeL 6 (v := .slice py ny cy) rfl (by kernel_rfl) (by kernel_rfl) (by kernel_rfl) (fun _ _ _ H => H) (yieldsIf_move rfl _ rfl (.slice py ny cy) rfl) hS ?_
  simp only [AP]
  refine wpAnyS_takeL 8 (v := .slice px nx cx) rfl (by kernel_rfl) (by kernel_rfl) (by kernel_rfl) (fun _ _ _ H => H) (yieldsIf_move rfl _ rfl (.slice px nx cx) rfl) hS ?_
  simp only [AP]
  refine wpAnyS_takeL 9 (v := .slice pa na ca) rfl (by kernel_rfl) (by kernel_rfl) (by kernel_rfl) (fun _ _ _ H => H) (yieldsIf_move rfl _ rfl (.slice pa na ca) rfl) hS ?_
  simp only [AP]
  refine wpAnyS_takeL 10 (v := .slice py ny cy) rfl (by kernel_rfl) (by kernel_rfl) (by kernel_rfl) (fun _ _ _ H => H) (yieldsIf_move rfl _ rfl (.slice py ny cy) rfl) hS ?_
  simp only [AP]
  refine wpAnyS_takeL 14 (v := .int .i64 0) rfl (by kernel_rfl) (by kernel_rfl) (by kernel_rfl) (fun _ _ _ H => H) (yieldsIf_move rfl _ rfl (.int .i64 0) rfl) hS ?_
  simp only [AP]
  refine gstep 7 rfl rfl (by kernel_rfl) ?_
  unfold Oper.wp execOp
  go_simp
  refine (turned_c CE (tailP (some ⟨g9, 0, none⟩) c9 4) (N9 - 4) (c9 - 4) (by have := CB.out.2.2.1; omega) CB.out.1 pa na ca y py ny cy w11 ST (HA.out w11 b0) BL.out.2 (HY.out w11 b0)).mono ?_
  rintro _ w12 ⟨⟨v75, zt, rfl, S75, B75, L75⟩, bb⟩
  obtain ⟨p75, c75, hv⟩ := S75.shape
  subst hv
  replace ST := ST.below bb
  replace SX := SX.below bb
  replace b0 := b0.trans (bb.mono b0.size)
  clear bb S9 O9 Ox
  refine gstep 11 rfl rfl (by kernel_rfl) ?_
  unfold Oper.wp execOp
  go_simp
  refine (turned_c xs px nx cx (by have := XB.out.2; have := SX.len.1; omega) XB.out.1 pa na ca y py ny cy w12 SX (HA.out w12 b0) BL.out.2 (HY.out w12 b0)).mono ?_
  rintro _ w13 ⟨⟨v76, zu, rfl, S76, B76, L76⟩, bb⟩
  obtain ⟨p76, c76, hv⟩ := S76.shape
  subst hv
  replace ST := ST.below bb
  replace S75 := S75.below bb
  replace b0 := b0.trans (bb.mono b0.size)
  clear bb SX
  refine gstep 12 rfl rfl (by kernel_rfl) ?_
  refine wq_four _ _ _ _ rfl _ _ _ _ rfl rfl rfl rfl l CE zt zu (HS.out w13 b0) ST S75 S76 ?_
  intro g12 w14 K12 l12 bb
  simp only [AP]
  replace ST := ST.below bb
  replace S75 := S75.below bb
  replace S76 := S76.below bb
  replace b0 := b0.trans (bb.mono b0.size)
  clear bb
  have H12 := HS.out w14 b0
  rw [← HNB.out] at K12 H12
  have l9 := CB.out.2.1
  rw [← l9] at K12 ST
  have ZZ := Lib.hid (za_four K12 H12 ST S75 S76 BL.out.1 CB.out.1 B75 B76 (by have := LN.out; have := HNB.out; omega) (by have := CB.out.2.2.1; omega) (by have := CB.out.2.2.1; omega) (by have := XB.out.2; omega))
  clear K12 H12 ST S75 S76 B75 B76 L75 L76 l12 l9
  refine ⟨trivial, ?_⟩
  refine wpAnyS_takeL 13 (v := .int .i64 4) rfl (by kernel_rfl) (by kernel_rfl) (by kernel_rfl) (fun _ _ _ H => H) (Or.inl ⟨by rfl, fun w' hw' => by go_simp⟩) hS ?_
  simp only [AP]
  refine wpAnyS_done (by kernel_rfl) ?_ _
  refine (by assumption : ∀ (a : Act) (w : World), _ → _) _ _ ?_
  clear aK hS z2 c49 ML CB MD
  have D := Lib.hid (Below.refl w14.heap.size w14)
  have HB := Lib.hid b0
  clear HS HY HA
  go_upto_region 17 with fail
  go_loopw [20, 21, 22, 23, 24, 25, 26, 27, 28, 117] (fun _ _ _ _ _ _ _ _ _ v wr => ∃ j : Nat, j ≤ 4 ∧ v = .int .i64 (j : Int) ∧ Below w14.heap.size w14 wr) (fun _ _ _ _ _ _ _ _ _ v _ => (4 - intOf v).toNat)
  case atStart => exact ⟨0, by omega, rfl, D.out⟩
  case round =>
   clear D
   obtain ⟨j, jm, rfl, bw⟩ := hrel
   by_cases jj : j = 4
   ·
    subst jj
    have bT := HB.out.trans (bw.mono HB.out.size)
    clear b0 bw jm
    go_wp2
    go_ret
    exact ⟨rfl, bT⟩
   ·
    have jl : j < 4 := by omega
    obtain ⟨z, ⟨gz, oz, pz, cz2, hpz, lgz, caz, SZ⟩, bz, lz⟩ := ZZ.out j jl
    simp only [Option.some.injEq, Addr.mk.injEq] at hpz
    obtain ⟨rfl, rfl, _⟩ := hpz
    have R1 := Lib.hid (fun (w : World) (h : Below w14.heap.size w14 w) => readanswer_m z pz z.length cz2 bz lz w (SZ.below h))
    have R2 := Lib.hid (fun (w : World) (h : Below w14.heap.size w14 w) => rreadanswer_m z pz z.length cz2 bz lz w (SZ.below h))
    have R3 := Lib.hid (fun (w : World) (h : Below w14.heap.size w14 w) => readparams_m z pz z.length cz2 bz lz w (SZ.below h))
    have R4 := Lib.hid (fun (w : World) (h : Below w14.heap.size w14 w) => rreadparams_m z pz z.length cz2 bz lz w (SZ.below h))
    have lr := readA_len z
    generalize (readA z).2.1 = rz at *
    generalize (readA z).2.2.1 = sz at *
    generalize (readA z).2.2.2 = qz at *
    generalize (readA z).1 = ez at *
    generalize (readP z).2.1 = z1 at *
    generalize (readP z).2.2.1 = z2' at *
    generalize (readP z).2.2.2.1 = z3' at *
    generalize (readP z).2.2.2.2 = z4 at *
    generalize (readP z).1 = fz at *
    have czz := ansV_size lr.1 lr.2 qz
    have CZz := info_ansV czz
    have pzz : (parV z1 z2' z3' z4).size = 4 := rfl
    have PZz := info_parV pzz
    have LR := Lib.hid lr
    have caw : wr.cell? ⟨g12, 0 + j, none⟩ = some (.slice pz z.length cz2) := (bw.cell (p := ⟨g12, 0 + j, none⟩) lgz).trans caz
    rw [Nat.zero_add] at caw
    have z3 : (j : Int) < 4 := by omega
    have z0 : (0 : Int) ≤ (j : Int) := by omega
    have e5 : IntKind.i64.wrap ((j : Int) + 1) = ((j + 1 : Nat) : Int) := by rw [IntKind.wrap_i64]; omega
    have e5 := Lib.hid e5
    have ee : ¬ ¬ (ez : Int) = (ez : Int) := fun h => h rfl
    have ef : ¬ ¬ (fz : Int) = (fz : Int) := fun h => h rfl
    clear jj jm lgz caz SZ bz lz lr b0
    go_upto_region 17 with fail
    rename_i aK
    refine wp_region_seq ?_
    refine svl (.bool true) (.inl ⟨by rfl, fun w' _ => by (go_simp; try omega)⟩) ?_
    simp only [AP]
    refine wpSeq_nil ?_
    refine (by assumption : ∀ (a : Act) (w : World), _ → _) _ _ ?_
    go_upto_region 18 with fail
    rename_i aK
    refine wp_region_seq ?_
    refine svl (.pointer (some ⟨g12, j, none⟩)) (.inl ⟨by rfl, fun w' _ => by (go_simp)⟩) ?_
    simp only [AP]
    refine wpSeq_yield (S := fun w' => w' = wr) (v := .slice pz z.length cz2) (Or.inl ⟨by rfl, fun w' hw' => by (rw [hw']; go_simp)⟩) rfl ?_
    simp only [AP]
    refine sas (.slice pz z.length cz2) rfl rfl rfl ?_
    simp only [AP]
    refine wpSeq_nil ?_
    refine (by assumption : ∀ (a : Act) (w : World), _ → _) _ _ ?_
    go_upto_region 19 with fail
    rename_i aK
    refine wp_region_seq ?_
    refine smv (.slice pz z.length cz2) rfl rfl rfl ?_
    simp only [AP]
    refine wpSeq_wp rfl ?_
    unfold Oper.wp execOp
    go_simp
    refine (R1.out wr bw).mono ?_
    rintro _ w21 ⟨rfl, bb⟩
    replace bw := bw.trans (bb.mono bw.size)
    clear R1 bb caw
    go_simp
    refine smv (.tuple #[.agg (ansV rz sz qz), .int .i64 (ez : Int)]) rfl rfl rfl ?_
    simp only [AP]
    refine svl (.agg (ansV rz sz qz)) (.inl ⟨by rfl, fun w' _ => by go_simp⟩) ?_
    simp only [AP]
    refine svl (.int .i64 (ez : Int)) (.inl ⟨by rfl, fun w' _ => by go_simp⟩) ?_
    simp only [AP]
    refine wpSeq_wp rfl ?_
    unfold Oper.wp execOp
    go_simp
    generalize hW : World.alloc w21 _ = w22
    obtain ⟨Zga, hZga, Kga, bb⟩ : ∃ Z : Array Value, Z.size = 65 ∧ Blk w22 w21.heap.size 25 Z ∧ Below w21.heap.size w21 w22 := by
     rw [← hW]
     exact ⟨_, rfl, Blk.new _ _ _, (Below.refl _ _).alloc (Nat.le_refl _) _⟩
    clear hW
    have Lga := Lib.hid (show w14.heap.size ≤ w21.heap.size ∧ True from ⟨bw.size, trivial⟩)
    replace bw := bw.trans (bb.mono bw.size)
    obtain ⟨ga, hga⟩ : ∃ g, w21.heap.size = g := ⟨_, rfl⟩
    rw [hga] at Kga Lga ⊢
    clear hga bb
    refine wpSeq_store_row rfl 25 _ _ rfl ga (ansV rz sz qz) rfl rfl _ _ Kga CZz (by rw [hZga, czz]) (ansV_one _ _ _) ?_
    simp only [Act.put]
    replace Kga := Kga.row (ansV rz sz qz)
    have l1 := Lga.out.1
    replace bw := below_setRow bw l1 (ansV rz sz qz)
    clear l1
    generalize World.setRow w22 ga _ = w23 at *
    refine sas (.int .i64 (ez : Int)) rfl rfl rfl ?_
    simp only [AP]
    refine wpSeq_nil ?_
    refine (by assumption : ∀ (a : Act) (w : World), _ → _) _ _ ?_
    go_upto_region 20 with fail
    rename_i aK
    refine wp_region_seq ?_
    refine smv (.slice pz z.length cz2) rfl rfl rfl ?_
    simp only [AP]
    refine wpSeq_wp rfl ?_
    unfold Oper.wp execOp
    go_simp
    refine (R2.out w23 bw).mono ?_
    rintro _ w24 ⟨rfl, bb⟩
    replace bw := bw.trans (bb.mono bw.size)
    replace Kga := Kga.below' bb
    clear R2 bb
    go_simp
    refine smv (.tuple #[.agg (ansV rz sz qz), .int .i64 (ez : Int)]) rfl rfl rfl ?_
    simp only [AP]
    refine svl (.agg (ansV rz sz qz)) (.inl ⟨by rfl, fun w' _ => by go_simp⟩) ?_
    simp only [AP]
    refine svl (.int .i64 (ez : Int)) (.inl ⟨by rfl, fun w' _ => by go_simp⟩) ?_
    simp only [AP]
    refine wpSeq_wp rfl ?_
    unfold Oper.wp execOp
    go_simp
    generalize hW : World.alloc w24 _ = w25
    obtain ⟨Zgb, hZgb, Kgb, bb⟩ : ∃ Z : Array Value, Z.size = 65 ∧ Blk w25 w24.heap.size 25 Z ∧ Below w24.heap.size w24 w25 := by
     rw [← hW]
     exact ⟨_, rfl, Blk.new _ _ _, (Below.refl _ _).alloc (Nat.le_refl _) _⟩
    clear hW
    have Lgb := Lib.hid (show w14.heap.size ≤ w24.heap.size ∧ ga < w24.heap.size ∧ True from ⟨bw.size, Kga.lt, trivial⟩)
    replace bw := bw.trans (bb.mono bw.size)
    replace Kga := Kga.below' bb
    obtain ⟨gb, hgb⟩ : ∃ g, w24.heap.size = g := ⟨_, rfl⟩
    rw [hgb] at Kgb Lgb ⊢
    clear hgb bb
    refine wpSeq_store_row rfl 25 _ _ rfl gb (ansV rz sz qz) rfl rfl _ _ Kgb CZz (by rw [hZgb, czz]) (ansV_one _ _ _) ?_
    simp only [Act.put]
    replace Kgb := Kgb.row (ansV rz sz qz)
    replace Kga : Blk (w25.setRow gb (ansV rz sz qz)) ga 25 (ansV rz sz qz) := Kga.rowFar (by have := Lgb.out; omega) _
    have l1 := Lgb.out.1
    replace bw := below_setRow bw l1 (ansV rz sz qz)
    clear l1
    generalize World.setRow w25 gb _ = w26 at *
    refine sas (.int .i64 (ez : Int)) rfl rfl rfl ?_
    simp only [AP]
    refine wpSeq_nil ?_
    refine (by assumption : ∀ (a : Act) (w : World), _ → _) _ _ ?_
    go_upto_region 21 with fail
    rename_i aK
    refine wp_region_seq ?_
    refine smv (.slice pz z.length cz2) rfl rfl rfl ?_
    simp only [AP]
    refine wpSeq_wp rfl ?_
    unfold Oper.wp execOp
    go_simp
    refine (R3.out w26 bw).mono ?_
    rintro _ w27 ⟨rfl, bb⟩
    replace bw := bw.trans (bb.mono bw.size)
    replace Kga := Kga.below' bb
    replace Kgb := Kgb.below' bb
    clear R3 bb
    go_simp
    refine smv (.tuple #[.agg (parV z1 z2' z3' z4), .int .i64 (fz : Int)]) rfl rfl rfl ?_
    simp only [AP]
    refine svl (.agg (parV z1 z2' z3' z4)) (.inl ⟨by rfl, fun w' _ => by go_simp⟩) ?_
    simp only [AP]
    refine svl (.int .i64 (fz : Int)) (.inl ⟨by rfl, fun w' _ => by go_simp⟩) ?_
    simp only [AP]
    refine wpSeq_wp rfl ?_
    unfold Oper.wp execOp
    go_simp
    generalize hW : World.alloc w27 _ = w28
    obtain ⟨Zgc, hZgc, Kgc, bb⟩ : ∃ Z : Array Value, Z.size = 4 ∧ Blk w28 w27.heap.size 28 Z ∧ Below w27.heap.size w27 w28 := by
     rw [← hW]
     exact ⟨_, rfl, Blk.new _ _ _, (Below.refl _ _).alloc (Nat.le_refl _) _⟩
    clear hW
    have Lgc := Lib.hid (show w14.heap.size ≤ w27.heap.size ∧ ga < w27.heap.size ∧ gb < w27.heap.size ∧ True from ⟨bw.size, Kga.lt, Kgb.lt, trivial⟩)
    replace bw := bw.trans (bb.mono bw.size)
    replace Kga := Kga.below' bb
    replace Kgb := Kgb.below' bb
    obtain ⟨gc, hgc⟩ : ∃ g, w27.heap.size = g := ⟨_, rfl⟩
    rw [hgc] at Kgc Lgc ⊢
    clear hgc bb
    refine wpSeq_store_row rfl 28 _ _ rfl gc (parV z1 z2' z3' z4) rfl rfl _ _ Kgc PZz (by rw [hZgc, pzz]) (parV_one _ _ _ _) ?_
    simp only [Act.put]
    replace Kgc := Kgc.row (parV z1 z2' z3' z4)
    replace Kga : Blk (w28.setRow gc (parV z1 z2' z3' z4)) ga 25 (ansV rz sz qz) := Kga.rowFar (by have := Lgc.out; omega) _
    replace Kgb : Blk (w28.setRow gc (parV z1 z2' z3' z4)) gb 25 (ansV rz sz qz) := Kgb.rowFar (by have := Lgc.out; omega) _
    have l1 := Lgc.out.1
    replace bw := below_setRow bw l1 (parV z1 z2' z3' z4)
    clear l1
    generalize World.setRow w28 gc _ = w29 at *
    refine sas (.int .i64 (fz : Int)) rfl rfl rfl ?_
    simp only [AP]
    refine wpSeq_nil ?_
    refine (by assumption : ∀ (a : Act) (w : World), _ → _) _ _ ?_
    go_upto_region 22 with fail
    rename_i aK
    refine wp_region_seq ?_
    refine smv (.slice pz z.length cz2) rfl rfl rfl ?_
    simp only [AP]
    refine wpSeq_wp rfl ?_
    unfold Oper.wp execOp
    go_simp
    refine (R4.out w29 bw).mono ?_
    rintro _ w30 ⟨rfl, bb⟩
    replace bw := bw.trans (bb.mono bw.size)
    replace Kga := Kga.below' bb
    replace Kgb := Kgb.below' bb
    replace Kgc := Kgc.below' bb
    clear R4 bb
    go_simp
    refine smv (.tuple #[.agg (parV z1 z2' z3' z4), .int .i64 (fz : Int)]) rfl rfl rfl ?_
    simp only [AP]
    refine svl (.agg (parV z1 z2' z3' z4)) (.inl ⟨by rfl, fun w' _ => by go_simp⟩) ?_
    simp only [AP]
    refine svl (.int .i64 (fz : Int)) (.inl ⟨by rfl, fun w' _ => by go_simp⟩) ?_
    simp only [AP]
    refine wpSeq_wp rfl ?_
    unfold Oper.wp execOp
    go_simp
    generalize hW : World.alloc w30 _ = w31
    obtain ⟨Zgd, hZgd, Kgd, bb⟩ : ∃ Z : Array Value, Z.size = 4 ∧ Blk w31 w30.heap.size 28 Z ∧ Below w30.heap.size w30 w31 := by
     rw [← hW]
     exact ⟨_, rfl, Blk.new _ _ _, (Below.refl _ _).alloc (Nat.le_refl _) _⟩
    clear hW
    have Lgd := Lib.hid (show w14.heap.size ≤ w30.heap.size ∧ ga < w30.heap.size ∧ gb < w30.heap.size ∧ gc < w30.heap.size ∧ True from ⟨bw.size, Kga.lt, Kgb.lt, Kgc.lt, trivial⟩)
    replace bw := bw.trans (bb.mono bw.size)
    replace Kga := Kga.below' bb
    replace Kgb := Kgb.below' bb
    replace Kgc := Kgc.below' bb
    obtain ⟨gd, hgd⟩ : ∃ g, w30.heap.size = g := ⟨_, rfl⟩
    rw [hgd] at Kgd Lgd ⊢
    clear hgd bb
    refine wpSeq_store_row rfl 28 _ _ rfl gd (parV z1 z2' z3' z4) rfl rfl _ _ Kgd PZz (by rw [hZgd, pzz]) (parV_one _ _ _ _) ?_
    simp only [Act.put]
    replace Kgd := Kgd.row (parV z1 z2' z3' z4)
    replace Kga : Blk (w31.setRow gd (parV z1 z2' z3' z4)) ga 25 (ansV rz sz qz) := Kga.rowFar (by have := Lgd.out; omega) _
    replace Kgb : Blk (w31.setRow gd (parV z1 z2' z3' z4)) gb 25 (ansV rz sz qz) := Kgb.rowFar (by have := Lgd.out; omega) _
    replace Kgc : Blk (w31.setRow gd (parV z1 z2' z3' z4)) gc 28 (parV z1 z2' z3' z4) := Kgc.rowFar (by have := Lgd.out; omega) _
    have l1 := Lgd.out.1
    replace bw := below_setRow bw l1 (parV z1 z2' z3' z4)
    clear l1
    generalize World.setRow w31 gd _ = w32 at *
    refine sas (.int .i64 (fz : Int)) rfl rfl rfl ?_
    simp only [AP]
    refine wpSeq_nil ?_
    refine (by assumption : ∀ (a : Act) (w : World), _ → _) _ _ ?_
    go_upto_region 23 with fail
    rename_i aK
    refine wp_region_seq ?_
    refine smv (.int .i64 (ez : Int)) rfl rfl rfl ?_
    simp only [AP]
    refine smv (.int .i64 (ez : Int)) rfl rfl rfl ?_
    simp only [AP]
    refine svl (.bool false) (.inl ⟨by rfl, fun w' _ => by go_simp⟩) ?_
    simp only [AP]
    refine smv (.bool false) rfl rfl rfl ?_
    simp only [AP]
    refine wpSeq_yield (S := fun w' => w' = w32) (show YieldsIf _ _ _ _ (.agg (ansV rz sz qz)) _ from yieldsIf_row_wanted (S := fun w' => w' = w32) rfl 25 _ rfl (ga) rfl 25 _ _ (fun _ h => h ▸ Kga) Tryz.underlying25 rfl CZz) rfl ?_
    simp only [AP]
    refine wpSeq_yield (S := fun w' => w' = w32) (show YieldsIf _ _ _ _ (.agg (ansV rz sz qz)) _ from yieldsIf_row_wanted (S := fun w' => w' = w32) rfl 25 _ rfl (gb) rfl 25 _ _ (fun _ h => h ▸ Kgb) Tryz.underlying25 rfl CZz) rfl ?_
    simp only [AP]
    refine wpSeq_yield (S := fun _ => True) (yieldsIf_neqans rfl _ _ rfl rz sz qz LR.out.1 LR.out.2 rfl rfl) trivial ?_
    simp only [AP]
    refine wpSeq_yield (S := fun _ => True) (yieldsIf_pick rfl _ _ _ rfl false rfl (.bool false) rfl) trivial ?_
    simp only [AP]
    refine smv (.bool false) rfl rfl rfl ?_
    simp only [AP]
    refine smv (.int .i64 (fz : Int)) rfl rfl rfl ?_
    simp only [AP]
    refine smv (.int .i64 (fz : Int)) rfl rfl rfl ?_
    simp only [AP]
    refine svl (.bool false) (.inl ⟨by rfl, fun w' _ => by go_simp⟩) ?_
    simp only [AP]
    refine wpSeq_yield (S := fun _ => True) (yieldsIf_pick rfl _ _ _ rfl false rfl (.bool false) rfl) trivial ?_
    simp only [AP]
    refine smv (.bool false) rfl rfl rfl ?_
    simp only [AP]
    refine wpSeq_yield (S := fun w' => w' = w32) (show YieldsIf _ _ _ _ (.agg (parV z1 z2' z3' z4)) _ from yieldsIf_row_wanted (S := fun w' => w' = w32) rfl 28 _ rfl (gc) rfl 28 _ _ (fun _ h => h ▸ Kgc) Tryz.underlying28 rfl PZz) rfl ?_
    simp only [AP]
    refine wpSeq_yield (S := fun w' => w' = w32) (show YieldsIf _ _ _ _ (.agg (parV z1 z2' z3' z4)) _ from yieldsIf_row_wanted (S := fun w' => w' = w32) rfl 28 _ rfl (gd) rfl 28 _ _ (fun _ h => h ▸ Kgd) Tryz.underlying28 rfl PZz) rfl ?_
    simp only [AP]
    refine wpSeq_yield (S := fun _ => True) (yieldsIf_neqpar rfl _ _ rfl z1 z2' z3' z4 rfl rfl) trivial ?_
    simp only [AP]
    refine wpSeq_yield (S := fun _ => True) (yieldsIf_pick rfl _ _ _ rfl false rfl (.bool false) rfl) trivial ?_
    simp only [AP]
    refine wpSeq_nil ?_
    refine (by assumption : ∀ (a : Act) (w : World), _ → _) _ _ ?_
    clear Kga Kgb Kgc Kgd ee ef
    have e5 := e5.out
    go_upto_region 25 with fail
    rename_i aK
    refine wp_region_seq ?_
    refine svl (.int .i64 ((j + 1 : Nat) : Int)) (.inl ⟨by rfl, fun w' _ => by go_simp⟩) ?_
    simp only [AP]
    refine smv (.int .i64 ((j + 1 : Nat) : Int)) rfl rfl rfl ?_
    simp only [AP]
    refine wpSeq_nil ?_
    go_wp2
    exact ⟨⟨j + 1, by omega, rfl, bw⟩, by simp only [intOf]; omega⟩
 ·
  have hb2 : ¬ (4611686018427387903 : Int) < (M : Int) := fun h => hP (hbig.2 h)
  have fe : parF a b c d = (0, parB a b c d) := if_neg hP
  have xb := par_bytes hP
  have rp := Lib.hid (readP_back a b c d hP)
  rw [fe] at CP
  have CP := Lib.hid CP.out
  obtain ⟨xs, hxs⟩ : ∃ xs, parB a b c d = xs := ⟨_, rfl⟩
  rw [hxs] at CP xb rp
  have XB := Lib.hid xb
  clear fe xb hxs hP hbig hM
  go_upto_region 9 with fail
  rename_i aK
  refine wp_region_seq ?_
  refine wpSeq_yield (S := fun w' => w' = w6) (show YieldsIf _ _ _ _ (.agg (parV a b c d)) _ from yieldsIf_row_wanted (S := fun w' => w' = w6) rfl 28 _ rfl (W.heap.size + 1) rfl 28 _ _ (fun _ h => h ▸ K1) Tryz.underlying28 rfl PZ) rfl ?_
  simp only [AP]
  refine wpSeq_wp rfl ?_
  unfold Oper.wp execOp
  go_simp
  refine (CP.out w6).mono ?_
  rintro _ w7 ⟨vx, rfl, Ox, bb⟩
  replace Ox := Ox.mono b0.size
  replace K1 := K1.below' bb
  replace O9 := O9.below bb
  replace b0 := b0.trans (bb.mono b0.size)
  clear bb CP
  obtain ⟨px, cx, hv⟩ := Ox.shape
  obtain ⟨nx, hnx⟩ : ∃ n, xs.length = n := ⟨_, rfl⟩
  try dsimp only at hv Ox
  rw [hnx] at hv
  subst hv
  go_simp
  refine smv (.tuple #[.slice px nx cx, .int .i64 0]) rfl rfl rfl ?_
  simp only [AP]
  refine svl (.slice px nx cx) (.inl ⟨by rfl, fun w' _ => by go_simp⟩) ?_
  simp only [AP]
  refine svl (.int .i64 0) (.inl ⟨by rfl, fun w' _ => by go_simp⟩) ?_
  simp only [AP]
  refine sas (.slice px nx cx) rfl rfl rfl ?_
  simp only [AP]
  refine sas (.int .i64 0) rfl rfl rfl ?_
  simp only [AP]
  refine wpSeq_nil ?_
  refine (by assumption : ∀ (a : Act) (w : World), _ → _) _ _ ?_
  have q0 : w7.cell? ⟨W.heap.size + 1, 0, none⟩ = some (.int .u64 (a : Int)) := K1.cell 0
  have q1 : w7.cell? ⟨W.heap.size + 1, 1, none⟩ = some (.int .u64 (b : Int)) := K1.cell 1
  have q2 : w7.cell? ⟨W.heap.size + 1, 2, none⟩ = some (.int .u64 (c : Int)) := K1.cell 2
  have q3 : w7.cell? ⟨W.heap.size + 1, 3, none⟩ = some (.int .u64 (d : Int)) := K1.cell 3
  go_upto_region 10 with fail
  rename_i aK
  refine wp_region_seq ?_
  refine svl (.pointer (some ⟨W.heap.size + 1, 0, none⟩)) (.inl ⟨by rfl, fun w' _ => by (go_simp)⟩) ?_
  simp only [AP]
  refine wpSeq_yield (S := fun w' => w' = w7) (v := .int .u64 (a : Int)) (Or.inl ⟨by rfl, fun w' hw' => by (rw [hw']; go_simp)⟩) rfl ?_
  simp only [AP]
  refine svl (.pointer (some ⟨W.heap.size + 1, 1, none⟩)) (.inl ⟨by rfl, fun w' _ => by (go_simp)⟩) ?_
  simp only [AP]
  refine wpSeq_yield (S := fun w' => w' = w7) (v := .int .u64 (b : Int)) (Or.inl ⟨by rfl, fun w' hw' => by (rw [hw']; go_simp)⟩) rfl ?_
  simp only [AP]
  refine svl (.pointer (some ⟨W.heap.size + 1, 2, none⟩)) (.inl ⟨by rfl, fun w' _ => by (go_simp)⟩) ?_
  simp only [AP]
  refine wpSeq_yield (S := fun w' => w' = w7) (v := .int .u64 (c : Int)) (Or.inl ⟨by rfl, fun w' hw' => by (rw [hw']; go_simp)⟩) rfl ?_
  simp only [AP]
  refine svl (.pointer (some ⟨W.heap.size + 1, 3, none⟩)) (.inl ⟨by rfl, fun w' _ => by (go_simp)⟩) ?_
  simp only [AP]
  refine wpSeq_yield (S := fun w' => w' = w7) (v := .int .u64 (d : Int)) (Or.inl ⟨by rfl, fun w' hw' => by (rw [hw']; go_simp)⟩) rfl ?_
  simp only [AP]
  refine wpSeq_yield (S := fun _ => True) (yieldsIf_max4 rfl _ rfl rfl _ _ _ _ rfl _ _ _ _ rfl rfl rfl rfl _ HM.out) trivial ?_
  simp only [AP]
  refine svl (.bool false) (.inl ⟨by rfl, fun w' _ => by (go_simp; try omega)⟩) ?_
  simp only [AP]
  refine sas (.bool false) rfl rfl rfl ?_
  simp only [AP]
  refine wpSeq_nil ?_
  refine (by assumption : ∀ (a : Act) (w : World), _ → _) _ _ ?_
  clear q0 q1 q2 q3 HM hb2
  go_upto_region 11 with fail
  rename_i aK
  refine wp_region_seq ?_
  refine smv (.bool false) rfl rfl rfl ?_
  simp only [AP]
  refine smv (.int .i64 0) rfl rfl rfl ?_
  simp only [AP]
  refine svl (.bool false) (.inl ⟨by rfl, fun w' _ => by go_simp⟩) ?_
  simp only [AP]
  refine svl (.bool false) (.inl ⟨by rfl, fun w' _ => by (go_simp)⟩) ?_
  simp only [AP]
  refine smv (.bool false) rfl rfl rfl ?_
  simp only [AP]
  refine smv (.bool false) rfl rfl rfl ?_
  simp only [AP]
  refine svl (.bool true) (.inl ⟨by rfl, fun w' _ => by (go_simp)⟩) ?_
  simp only [AP]
  refine smv (.bool true) rfl rfl rfl ?_
  simp only [AP]
  refine smv (.int .i64 0) rfl rfl rfl ?_
  simp only [AP]
  refine svl (.bool false) (.inl ⟨by rfl, fun w' _ => by go_simp⟩) ?_
  simp only [AP]
  refine wpSeq_yield (S := fun _ => True) (yieldsIf_pick rfl _ _ _ rfl true rfl (.bool false) rfl) trivial ?_
  simp only [AP]
  refine wpSeq_yield (S := fun _ => True) (yieldsIf_pick rfl _ _ _ rfl false rfl (.bool false) rfl) trivial ?_
  simp only [AP]
  refine wpSeq_nil ?_
  refine (by assumption : ∀ (a : Act) (w : World), _ → _) _ _ ?_
  have SX := Ox.sb
  have RX := readparams_m xs px nx cx XB.out.1 (by have := XB.out.2; omega) w7 SX
  rw [rp.out] at RX
  have RX := Lib.hid RX
  clear SX
  have qz : (parV a b c d).size = 4 := rfl
  have QZ := info_parV qz
  go_upto_region 13 with fail
  rename_i aK
  refine wp_region_seq ?_
  refine smv (.slice px nx cx) rfl rfl rfl ?_
  simp only [AP]
  refine wpSeq_wp rfl ?_
  unfold Oper.wp execOp
  go_simp
  refine RX.out.mono ?_
  rintro _ w8 ⟨rfl, bb⟩
  replace K1 := K1.below' bb
  replace O9 := O9.below bb
  replace b0 := b0.trans (bb.mono b0.size)
  replace Ox := Ox.below bb
  clear RX bb
  go_simp
  refine smv (.tuple #[.agg (parV a b c d), .int .i64 0]) rfl rfl rfl ?_
  simp only [AP]
  refine svl (.agg (parV a b c d)) (.inl ⟨by rfl, fun w' _ => by go_simp⟩) ?_
  simp only [AP]
  refine svl (.int .i64 0) (.inl ⟨by rfl, fun w' _ => by go_simp⟩) ?_
  simp only [AP]
  refine wpSeq_wp rfl ?_
  unfold Oper.wp execOp
  go_simp
  generalize hW : World.alloc w8 _ = w9
  obtain ⟨Zg17, hZg17, Kg17, bb⟩ : ∃ Z : Array Value, Z.size = 4 ∧ Blk w9 w8.heap.size 28 Z ∧ Below w8.heap.size w8 w9 := by
   rw [← hW]
   exact ⟨_, rfl, Blk.new _ _ _, (Below.refl _ _).alloc (Nat.le_refl _) _⟩
  clear hW
  have Lg17 := Lib.hid (show W.heap.size + 1 < w8.heap.size ∧ (∀ j, (Value.slice (some ⟨g9, 0, none⟩) N9 c9).ownBlock = some j → j < w8.heap.size) ∧ ∀ j, (Value.slice px nx cx).ownBlock = some j → j < w8.heap.size from ⟨K1.lt, fun j h => (O9.lt j h).2, fun j h => (Ox.lt j h).2⟩)
  replace K1 := K1.below' bb
  replace O9 := O9.below bb
  replace b0 := b0.trans (bb.mono b0.size)
  replace Ox := Ox.below bb
  obtain ⟨g17, hg17⟩ : ∃ g, w8.heap.size = g := ⟨_, rfl⟩
  rw [hg17] at Kg17 Lg17 ⊢
  clear hg17 bb
  refine wpSeq_store_row rfl 28 _ _ rfl g17 (parV a b c d) rfl rfl _ _ Kg17 QZ (by rw [hZg17, qz]) (parV_one _ _ _ _) ?_
  simp only [Act.put]
  replace Kg17 := Kg17.row (parV a b c d)
  replace K1 : Blk (w9.setRow g17 (parV a b c d)) (W.heap.size + 1) 28 (parV a b c d) := K1.rowFar (by have := Lg17.out.1; omega) _
  replace O9 : OwL W.heap.size (w9.setRow g17 (parV a b c d)) (.slice (some ⟨g9, 0, none⟩) N9 c9) MM := O9.of_block fun j hj => setRow_other w9 g17 j _ (by have := Lg17.out.2.1 j hj; omega)
  replace Ox : OwL W.heap.size (w9.setRow g17 (parV a b c d)) (.slice px nx cx) xs := Ox.of_block fun j hj => setRow_other w9 g17 j _ (by have := Lg17.out.2.2 j hj; omega)
  have l1 : W.heap.size ≤ g17 := by have := Lg17.out.1; omega
  replace b0 := below_setRow b0 l1 (parV a b c d)
  clear l1
  generalize World.setRow w9 g17 _ = w10 at *
  refine sas (.int .i64 0) rfl rfl rfl ?_
  simp only [AP]
  refine wpSeq_nil ?_
  refine (by assumption : ∀ (a : Act) (w : World), _ → _) _ _ ?_
  go_upto_region 14 with fail
  rename_i aK
  refine wp_region_seq ?_
  refine smv (.int .i64 0) rfl rfl rfl ?_
  simp only [AP]
  refine svl (.bool true) (.inl ⟨by rfl, fun w' _ => by go_simp⟩) ?_
  simp only [AP]
  refine smv (.bool true) rfl rfl rfl ?_
  simp only [AP]
  refine smv (.int .i64 0) rfl rfl rfl ?_
  simp only [AP]
  refine svl (.bool false) (.inl ⟨by rfl, fun w' _ => by go_simp⟩) ?_
  simp only [AP]
  refine smv (.bool false) rfl rfl rfl ?_
  simp only [AP]
  refine wpSeq_yield (S := fun w' => w' = w10) (show YieldsIf _ _ _ _ (.agg (parV a b c d)) _ from yieldsIf_row_wanted (S := fun w' => w' = w10) rfl 28 _ rfl (g17) rfl 28 _ _ (fun _ h => h ▸ Kg17) Tryz.underlying28 rfl QZ) rfl ?_
  simp only [AP]
  refine wpSeq_yield (S := fun w' => w' = w10) (show YieldsIf _ _ _ _ (.agg (parV a b c d)) _ from yieldsIf_row_wanted (S := fun w' => w' = w10) rfl 28 _ rfl (W.heap.size + 1) rfl 28 _ _ (fun _ h => h ▸ K1) Tryz.underlying28 rfl PZ) rfl ?_
  simp only [AP]
  refine wpSeq_yield (S := fun _ => True) (yieldsIf_neqpar rfl _ _ rfl a b c d rfl rfl) trivial ?_
  simp only [AP]
  refine wpSeq_yield (S := fun _ => True) (yieldsIf_pick rfl _ _ _ rfl false rfl (.bool false) rfl) trivial ?_
  simp only [AP]
  refine wpSeq_yield (S := fun _ => True) (yieldsIf_pick rfl _ _ _ rfl true rfl (.bool false) rfl) trivial ?_
  simp only [AP]
  refine wpSeq_nil ?_
  refine (by assumption : ∀ (a : Act) (w : World), _ → _) _ _ ?_
  clear Kg17 K1
  have bd := below_drew (Below.refl w10.heap.size w10)
  replace O9 := O9.below bd
  replace Ox := Ox.below bd
  replace b0 := b0.trans (bd.mono b0.size)
  clear bd
  go_upto_region 16 with fail
  rename_i aK
  refine wp_region_S (S := fun _ => True) (by kernel_rfl) ?_
  generalize w10.drew = w11 at *
  have hS := trivial
  have S9 := O9.sb
  have c49 := Lib.hid (show 4 ≤ N9 ∧ N9 ≤ c9 from ⟨by have := CB.out.2.2.1; omega, by have := S9.len.2; have := ML.out; omega⟩)
  have ST := S9.tail 4 c49.out.1
  rw [MD.out] at ST
  have SX := Ox.sb
  refine wpAnyS_takeL 0 (v := .slice pb nb cb) rfl (by kernel_rfl) (by kernel_rfl) (by kernel_rfl) (fun _ _ _ H => H) (yieldsIf_move rfl _ rfl (.slice pb nb cb) rfl) hS ?_
  simp only [AP]
  refine wpAnyS_takeL 1 (v := .slice (some ⟨g9, 0, none⟩) N9 c9) rfl (by kernel_rfl) (by kernel_rfl) (by kernel_rfl) (fun _ _ _ H => H) (yieldsIf_move rfl _ rfl (.slice (some ⟨g9, 0, none⟩) N9 c9) rfl) hS ?_
  simp only [AP]
  refine wpAnyS_takeL 2 (v := .slice (tailP (some ⟨g9, 0, none⟩) c9 4) (N9 - 4) (c9 - 4)) rfl (by kernel_rfl) (by kernel_rfl) (by kernel_rfl) (fun _ _ _ H => H) (yieldsIf_tailK rfl _ _ .i64 rfl (some ⟨g9, 0, none⟩) N9 c9 4 rfl rfl c49.out.1 c49.out.2) hS ?_
  simp only [AP]
  refine wpAnyS_takeL 3 (v := .slice (some ⟨g9, 0, none⟩) N9 c9) rfl (by kernel_rfl) (by kernel_rfl) (by kernel_rfl) (fun _ _ _ H => H) (yieldsIf_move rfl _ rfl (.slice (some ⟨g9, 0, none⟩) N9 c9) rfl) hS ?_
  simp only [AP]
  refine wpAnyS_takeL 4 (v := .slice (tailP (some ⟨g9, 0, none⟩) c9 4) (N9 - 4) (c9 - 4)) rfl (by kernel_rfl) (by kernel_rfl) (by kernel_rfl) (fun _ _ _ H => H) (yieldsIf_tailK rfl _ _ .i64 rfl (some ⟨g9, 0, none⟩) N9 c9 4 rfl rfl c49.out.1 c49.out.2) hS ?_
  simp only [AP]
  refine wpAnyS_takeL 5 (v := .slice pa na ca) rfl (by kernel_rfl) (by kernel_rfl) (by kernel_rfl) (fun _ _ _ H => H) (yieldsIf_move rfl _ rfl (.slice pa na ca) rfl) hS ?_
  simp only [AP]
  refine wpAnyS_takeL 6 (v := .slice py ny cy) rfl (by kernel_rfl) (by kernel_rfl) (by kernel_rfl) (fun _ _ _ H => H) (yieldsIf_move rfl _ rfl (.slice py ny cy) rfl) hS ?_
  simp only [AP]
  refine wpAnyS_takeL 8 (v := .slice px nx cx) rfl (by kernel_rfl) (by kernel_rfl) (by kernel_rfl) (fun _ _ _ H => H) (yieldsIf_move rfl _ rfl (.slice px nx cx) rfl) hS ?_
  simp only [AP]
  refine wpAnyS_takeL 9 (v := .slice pa na ca) rfl (by kernel_rfl) (by kernel_rfl) (by kernel_rfl) (fun _ _ _ H => H) (yieldsIf_move rfl _ rfl (.slice pa na ca) rfl) hS ?_
  simp only [AP]
  refine wpAnyS_takeL 10 (v := .slice py ny cy) rfl (by kernel_rfl) (by kernel_rfl) (by kernel_rfl) (fun _ _ _ H => H) (yieldsIf_move rfl _ rfl (.slice py ny cy) rfl) hS ?_
  simp only [AP]
  refine wpAnyS_takeL 14 (v := .int .i64 0) rfl (by kernel_rfl) (by kernel_rfl) (by kernel_rfl) (fun _ _ _ H => H) (yieldsIf_move rfl _ rfl (.int .i64 0) rfl) hS ?_
  simp only [AP]
  refine gstep 7 rfl rfl (by kernel_rfl) ?_
  unfold Oper.wp execOp
  go_simp
  refine (turned_c CE (tailP (some ⟨g9, 0, none⟩) c9 4) (N9 - 4) (c9 - 4) (by have := CB.out.2.2.1; omega) CB.out.1 pa na ca y py ny cy w11 ST (HA.out w11 b0) BL.out.2 (HY.out w11 b0)).mono ?_
  rintro _ w12 ⟨⟨v75, zt, rfl, S75, B75, L75⟩, bb⟩
  obtain ⟨p75, c75, hv⟩ := S75.shape
  subst hv
  replace ST := ST.below bb
  replace SX := SX.below bb
  replace b0 := b0.trans (bb.mono b0.size)
  clear bb S9 O9 Ox
  refine gstep 11 rfl rfl (by kernel_rfl) ?_
  unfold Oper.wp execOp
  go_simp
  refine (turned_c xs px nx cx (by have := XB.out.2; have := SX.len.1; omega) XB.out.1 pa na ca y py ny cy w12 SX (HA.out w12 b0) BL.out.2 (HY.out w12 b0)).mono ?_
  rintro _ w13 ⟨⟨v76, zu, rfl, S76, B76, L76⟩, bb⟩
  obtain ⟨p76, c76, hv⟩ := S76.shape
  subst hv
  replace ST := ST.below bb
  replace S75 := S75.below bb
  replace b0 := b0.trans (bb.mono b0.size)
  clear bb SX
  refine gstep 12 rfl rfl (by kernel_rfl) ?_
  refine wq_four _ _ _ _ rfl _ _ _ _ rfl rfl rfl rfl l CE zt zu (HS.out w13 b0) ST S75 S76 ?_
  intro g12 w14 K12 l12 bb
  simp only [AP]
  replace ST := ST.below bb
  replace S75 := S75.below bb
  replace S76 := S76.below bb
  replace b0 := b0.trans (bb.mono b0.size)
  clear bb
  have H12 := HS.out w14 b0
  rw [← HNB.out] at K12 H12
  have l9 := CB.out.2.1
  rw [← l9] at K12 ST
  have ZZ := Lib.hid (za_four K12 H12 ST S75 S76 BL.out.1 CB.out.1 B75 B76 (by have := LN.out; have := HNB.out; omega) (by have := CB.out.2.2.1; omega) (by have := CB.out.2.2.1; omega) (by have := XB.out.2; omega))
  clear K12 H12 ST S75 S76 B75 B76 L75 L76 l12 l9
  refine ⟨trivial, ?_⟩
  refine wpAnyS_takeL 13 (v := .int .i64 4) rfl (by kernel_rfl) (by kernel_rfl) (by kernel_rfl) (fun _ _ _ H => H) (Or.inl ⟨by rfl, fun w' hw' => by go_simp⟩) hS ?_
  simp only [AP]
  refine wpAnyS_done (by kernel_rfl) ?_ _
  refine (by assumption : ∀ (a : Act) (w : World), _ → _) _ _ ?_
  clear aK hS z2 c49 ML CB MD
  have D := Lib.hid (Below.refl w14.heap.size w14)
  have HB := Lib.hid b0
  clear HS HY HA
  go_upto_region 17 with fail
  go_loopw [20, 21, 22, 23, 24, 25, 26, 27, 28, 117] (fun _ _ _ _ _ _ _ _ _ v wr => ∃ j : Nat, j ≤ 4 ∧ v = .int .i64 (j : Int) ∧ Below w14.heap.size w14 wr) (fun _ _ _ _ _ _ _ _ _ v _ => (4 - intOf v).toNat)
  case atStart => exact ⟨0, by omega, rfl, D.out⟩
  case round =>
   clear D
   obtain ⟨j, jm, rfl, bw⟩ := hrel
   by_cases jj : j = 4
   ·
    subst jj
    have bT := HB.out.trans (bw.mono HB.out.size)
    clear b0 bw jm
    go_wp2
    go_ret
    exact ⟨rfl, bT⟩
   ·
    have jl : j < 4 := by omega
    obtain ⟨z, ⟨gz, oz, pz, cz2, hpz, lgz, caz, SZ⟩, bz, lz⟩ := ZZ.out j jl
    simp only [Option.some.injEq, Addr.mk.injEq] at hpz
    obtain ⟨rfl, rfl, _⟩ := hpz
    have R1 := Lib.hid (fun (w : World) (h : Below w14.heap.size w14 w) => readanswer_m z pz z.length cz2 bz lz w (SZ.below h))
    have R2 := Lib.hid (fun (w : World) (h : Below w14.heap.size w14 w) => rreadanswer_m z pz z.length cz2 bz lz w (SZ.below h))
    have R3 := Lib.hid (fun (w : World) (h : Below w14.heap.size w14 w) => readparams_m z pz z.length cz2 bz lz w (SZ.below h))
    have R4 := Lib.hid (fun (w : World) (h : Below w14.heap.size w14 w) => rreadparams_m z pz z.length cz2 bz lz w (SZ.below h))
    have lr := readA_len z
    generalize (readA z).2.1 = rz at *
    generalize (readA z).2.2.1 = sz at *
    generalize (readA z).2.2.2 = qz at *
    generalize (readA z).1 = ez at *
    generalize (readP z).2.1 = z1 at *
    generalize (readP z).2.2.1 = z2' at *
    generalize (readP z).2.2.2.1 = z3' at *
    generalize (readP z).2.2.2.2 = z4 at *
    generalize (readP z).1 = fz at *
    have czz := ansV_size lr.1 lr.2 qz
    have CZz := info_ansV czz
    have pzz : (parV z1 z2' z3' z4).size = 4 := rfl
    have PZz := info_parV pzz
    have LR := Lib.hid lr
    have caw : wr.cell? ⟨g12, 0 + j, none⟩ = some (.slice pz z.length cz2) := (bw.cell (p := ⟨g12, 0 + j, none⟩) lgz).trans caz
    rw [Nat.zero_add] at caw
    have z3 : (j : Int) < 4 := by omega
    have z0 : (0 : Int) ≤ (j : Int) := by omega
    have e5 : IntKind.i64.wrap ((j : Int) + 1) = ((j + 1 : Nat) : Int) := by rw [IntKind.wrap_i64]; omega
    have e5 := Lib.hid e5
    have ee : ¬ ¬ (ez : Int) = (ez : Int) := fun h => h rfl
    have ef : ¬ ¬ (fz : Int) = (fz : Int) := fun h => h rfl
    clear jj jm lgz caz SZ bz lz lr b0
    go_upto_region 17 with fail
    rename_i aK
    refine wp_region_seq ?_
    refine svl (.bool true) (.inl ⟨by rfl, fun w' _ => by (go_simp; try omega)⟩) ?_
    simp only [AP]
    refine wpSeq_nil ?_
    refine (by assumption : ∀ (a : Act) (w : World), _ → _) _ _ ?_
    go_upto_region 18 with fail
    rename_i aK
    refine wp_region_seq ?_
    refine svl (.pointer (some ⟨g12, j, none⟩)) (.inl ⟨by rfl, fun w' _ => by (go_simp)⟩) ?_
    simp only [AP]
    refine wpSeq_yield (S := fun w' => w' = wr) (v := .slice pz z.length cz2) (Or.inl ⟨by rfl, fun w' hw' => by (rw [hw']; go_simp)⟩) rfl ?_
    simp only [AP]
    refine sas (.slice pz z.length cz2) rfl rfl rfl ?_
    simp only [AP]
    refine wpSeq_nil ?_
    refine (by assumption : ∀ (a : Act) (w : World), _ → _) _ _ ?_
    go_upto_region 19 with fail
    rename_i aK
    refine wp_region_seq ?_
    refine smv (.slice pz z.length cz2) rfl rfl rfl ?_
    simp only [AP]
    refine wpSeq_wp rfl ?_
    unfold Oper.wp execOp
    go_simp
    refine (R1.out wr bw).mono ?_
    rintro _ w33 ⟨rfl, bb⟩
    replace bw := bw.trans (bb.mono bw.size)
    clear R1 bb caw
    go_simp
    refine smv (.tuple #[.agg (ansV rz sz qz), .int .i64 (ez : Int)]) rfl rfl rfl ?_
    simp only [AP]
    refine svl (.agg (ansV rz sz qz)) (.inl ⟨by rfl, fun w' _ => by go_simp⟩) ?_
    simp only [AP]
    refine svl (.int .i64 (ez : Int)) (.inl ⟨by rfl, fun w' _ => by go_simp⟩) ?_
    simp only [AP]
    refine wpSeq_wp rfl ?_
    unfold Oper.wp execOp
    go_simp
    generalize hW : World.alloc w33 _ = w34
    obtain ⟨Zga, hZga, Kga, bb⟩ : ∃ Z : Array Value, Z.size = 65 ∧ Blk w34 w33.heap.size 25 Z ∧ Below w33.heap.size w33 w34 := by
     rw [← hW]
     exact ⟨_, rfl, Blk.new _ _ _, (Below.refl _ _).alloc (Nat.le_refl _) _⟩
    clear hW
    have Lga := Lib.hid (show w14.heap.size ≤ w33.heap.size ∧ True from ⟨bw.size, trivial⟩)
    replace bw := bw.trans (bb.mono bw.size)
    obtain ⟨ga, hga⟩ : ∃ g, w33.heap.size = g := ⟨_, rfl⟩
    rw [hga] at Kga Lga ⊢
    clear hga bb
    refine wpSeq_store_row rfl 25 _ _ rfl ga (ansV rz sz qz) rfl rfl _ _ Kga CZz (by rw [hZga, czz]) (ansV_one _ _ _) ?_
    simp only [Act.put]
    replace Kga := Kga.row (ansV rz sz qz)
    have l1 := Lga.out.1
    replace bw := below_setRow bw l1 (ansV rz sz qz)
    clear l1
    generalize World.setRow w34 ga _ = w35 at *
    refine sas (.int .i64 (ez : Int)) rfl rfl rfl ?_
    simp only [AP]
    refine wpSeq_nil ?_
    refine (by assumption : ∀ (a : Act) (w : World), _ → _) _ _ ?_
    go_upto_region 20 with fail
    rename_i aK
    refine wp_region_seq ?_
    refine smv (.slice pz z.length cz2) rfl rfl rfl ?_
    simp only [AP]
    refine wpSeq_wp rfl ?_
    unfold Oper.wp execOp
    go_simp
    refine (R2.out w35 bw).mono ?_
    rintro _ w36 ⟨rfl, bb⟩
    replace bw := bw.trans (bb.mono bw.size)
    replace Kga := Kga.below' bb
    clear R2 bb
    go_simp
    refine smv (.tuple #[.agg (ansV rz sz qz), .int .i64 (ez : Int)]) rfl rfl rfl ?_
    simp only [AP]
    refine svl (.agg (ansV rz sz qz)) (.inl ⟨by rfl, fun w' _ => by go_simp⟩) ?_
    simp only [AP]
    refine svl (.int .i64 (ez : Int)) (.inl ⟨by rfl, fun w' _ => by go_simp⟩) ?_
    simp only [AP]
    refine wpSeq_wp rfl ?_
    unfold Oper.wp execOp
    go_simp
    generalize hW : World.alloc w36 _ = w37
    obtain ⟨Zgb, hZgb, Kgb, bb⟩ : ∃ Z : Array Value, Z.size = 65 ∧ Blk w37 w36.heap.size 25 Z ∧ Below w36.heap.size w36 w37 := by
     rw [← hW]
     exact ⟨_, rfl, Blk.new _ _ _, (Below.refl _ _).alloc (Nat.le_refl _) _⟩
    clear hW
    have Lgb := Lib.hid (show w14.heap.size ≤ w36.heap.size ∧ ga < w36.heap.size ∧ True from ⟨bw.size, Kga.lt, trivial⟩)
    replace bw := bw.trans (bb.mono bw.size)
    replace Kga := Kga.below' bb
    obtain ⟨gb, hgb⟩ : ∃ g, w36.heap.size = g := ⟨_, rfl⟩
    rw [hgb] at Kgb Lgb ⊢
    clear hgb bb
    refine wpSeq_store_row rfl 25 _ _ rfl gb (ansV rz sz qz) rfl rfl _ _ Kgb CZz (by rw [hZgb, czz]) (ansV_one _ _ _) ?_
    simp only [Act.put]
    replace Kgb := Kgb.row (ansV rz sz qz)
    replace Kga : Blk (w37.setRow gb (ansV rz sz qz)) ga 25 (ansV rz sz qz) := Kga.rowFar (by have := Lgb.out; omega) _
    have l1 := Lgb.out.1
    replace bw := below_setRow bw l1 (ansV rz sz qz)
    clear l1
    generalize World.setRow w37 gb _ = w38 at *
    refine sas (.int .i64 (ez : Int)) rfl rfl rfl ?_
    simp only [AP]
    refine wpSeq_nil ?_
    refine (by assumption : ∀ (a : Act) (w : World), _ → _) _ _ ?_
    go_upto_region 21 with fail
    rename_i aK
    refine wp_region_seq ?_
    refine smv (.slice pz z.length cz2) rfl rfl rfl ?_
    simp only [AP]
    refine wpSeq_wp rfl ?_
    unfold Oper.wp execOp
    go_simp
    refine (R3.out w38 bw).mono ?_
    rintro _ w39 ⟨rfl, bb⟩
    replace bw := bw.trans (bb.mono bw.size)
    replace Kga := Kga.below' bb
    replace Kgb := Kgb.below' bb
    clear R3 bb
    go_simp
    refine smv (.tuple #[.agg (parV z1 z2' z3' z4), .int .i64 (fz : Int)]) rfl rfl rfl ?_
    simp only [AP]
    refine svl (.agg (parV z1 z2' z3' z4)) (.inl ⟨by rfl, fun w' _ => by go_simp⟩) ?_
    simp only [AP]
    refine svl (.int .i64 (fz : Int)) (.inl ⟨by rfl, fun w' _ => by go_simp⟩) ?_
    simp only [AP]
    refine wpSeq_wp rfl ?_
    unfold Oper.wp execOp
    go_simp
    generalize hW : World.alloc w39 _ = w40
    obtain ⟨Zgc, hZgc, Kgc, bb⟩ : ∃ Z : Array Value, Z.size = 4 ∧ Blk w40 w39.heap.size 28 Z ∧ Below w39.heap.size w39 w40 := by
     rw [← hW]
     exact ⟨_, rfl, Blk.new _ _ _, (Below.refl _ _).alloc (Nat.le_refl _) _⟩
    clear hW
    have Lgc := Lib.hid (show w14.heap.size ≤ w39.heap.size ∧ ga < w39.heap.size ∧ gb < w39.heap.size ∧ True from ⟨bw.size, Kga.lt, Kgb.lt, trivial⟩)
    replace bw := bw.trans (bb.mono bw.size)
    replace Kga := Kga.below' bb
    replace Kgb := Kgb.below' bb
    obtain ⟨gc, hgc⟩ : ∃ g, w39.heap.size = g := ⟨_, rfl⟩
    rw [hgc] at Kgc Lgc ⊢
    clear hgc bb
    refine wpSeq_store_row rfl 28 _ _ rfl gc (parV z1 z2' z3' z4) rfl rfl _ _ Kgc PZz (by rw [hZgc, pzz]) (parV_one _ _ _ _) ?_
    simp only [Act.put]
    replace Kgc := Kgc.row (parV z1 z2' z3' z4)
    replace Kga : Blk (w40.setRow gc (parV z1 z2' z3' z4)) ga 25 (ansV rz sz qz) := Kga.rowFar (by have := Lgc.out; omega) _
    replace Kgb : Blk (w40.setRow gc (parV z1 z2' z3' z4)) gb 25 (ansV rz sz qz) := Kgb.rowFar (by have := Lgc.out; omega) _
    have l1 := Lgc.out.1
    replace bw := below_setRow bw l1 (parV z1 z2' z3' z4)
    clear l1
    generalize World.setRow w40 gc _ = w41 at *
    refine sas (.int .i64 (fz : Int)) rfl rfl rfl ?_
    simp only [AP]
    refine wpSeq_nil ?_
    refine (by assumption : ∀ (a : Act) (w : World), _ → _) _ _ ?_
    go_upto_region 22 with fail
    rename_i aK
    refine wp_region_seq ?_
    refine smv (.slice pz z.length cz2) rfl rfl rfl ?_
    simp only [AP]
    refine wpSeq_wp rfl ?_
    unfold Oper.wp execOp
    go_simp
    refine (R4.out w41 bw).mono ?_
    rintro _ w42 ⟨rfl, bb⟩
    replace bw := bw.trans (bb.mono bw.size)
    replace Kga := Kga.below' bb
    replace Kgb := Kgb.below' bb
    replace Kgc := Kgc.below' bb
    clear R4 bb
    go_simp
    refine smv (.tuple #[.agg (parV z1 z2' z3' z4), .int .i64 (fz : Int)]) rfl rfl rfl ?_
    simp only [AP]
    refine svl (.agg (parV z1 z2' z3' z4)) (.inl ⟨by rfl, fun w' _ => by go_simp⟩) ?_
    simp only [AP]
    refine svl (.int .i64 (fz : Int)) (.inl ⟨by rfl, fun w' _ => by go_simp⟩) ?_
    simp only [AP]
    refine wpSeq_wp rfl ?_
    unfold Oper.wp execOp
    go_simp
    generalize hW : World.alloc w42 _ = w43
    obtain ⟨Zgd, hZgd, Kgd, bb⟩ : ∃ Z : Array Value, Z.size = 4 ∧ Blk w43 w42.heap.size 28 Z ∧ Below w42.heap.size w42 w43 := by
     rw [← hW]
     exact ⟨_, rfl, Blk.new _ _ _, (Below.refl _ _).alloc (Nat.le_refl _) _⟩
    clear hW
    have Lgd := Lib.hid (show w14.heap.size ≤ w42.heap.size ∧ ga < w42.heap.size ∧ gb < w42.heap.size ∧ gc < w42.heap.size ∧ True from ⟨bw.size, Kga.lt, Kgb.lt, Kgc.lt, trivial⟩)
    replace bw := bw.trans (bb.mono bw.size)
    replace Kga := Kga.below' bb
    replace Kgb := Kgb.below' bb
    replace Kgc := Kgc.below' bb
    obtain ⟨gd, hgd⟩ : ∃ g, w42.heap.size = g := ⟨_, rfl⟩
    rw [hgd] at Kgd Lgd ⊢
    clear hgd bb
    refine wpSeq_store_row rfl 28 _ _ rfl gd (parV z1 z2' z3' z4) rfl rfl _ _ Kgd PZz (by rw [hZgd, pzz]) (parV_one _ _ _ _) ?_
    simp only [Act.put]
    replace Kgd := Kgd.row (parV z1 z2' z3' z4)
    replace Kga : Blk (w43.setRow gd (parV z1 z2' z3' z4)) ga 25 (ansV rz sz qz) := Kga.rowFar (by have := Lgd.out; omega) _
    replace Kgb : Blk (w43.setRow gd (parV z1 z2' z3' z4)) gb 25 (ansV rz sz qz) := Kgb.rowFar (by have := Lgd.out; omega) _
    replace Kgc : Blk (w43.setRow gd (parV z1 z2' z3' z4)) gc 28 (parV z1 z2' z3' z4) := Kgc.rowFar (by have := Lgd.out; omega) _
    have l1 := Lgd.out.1
    replace bw := below_setRow bw l1 (parV z1 z2' z3' z4)
    clear l1
    generalize World.setRow w43 gd _ = w44 at *
    refine sas (.int .i64 (fz : Int)) rfl rfl rfl ?_
    simp only [AP]
    refine wpSeq_nil ?_
    refine (by assumption : ∀ (a : Act) (w : World), _ → _) _ _ ?_
    go_upto_region 23 with fail
    rename_i aK
    refine wp_region_seq ?_
    refine smv (.int .i64 (ez : Int)) rfl rfl rfl ?_
    simp only [AP]
    refine smv (.int .i64 (ez : Int)) rfl rfl rfl ?_
    simp only [AP]
    refine svl (.bool false) (.inl ⟨by rfl, fun w' _ => by go_simp⟩) ?_
    simp only [AP]
    refine smv (.bool false) rfl rfl rfl ?_
    simp only [AP]
    refine wpSeq_yield (S := fun w' => w' = w44) (show YieldsIf _ _ _ _ (.agg (ansV rz sz qz)) _ from yieldsIf_row_wanted (S := fun w' => w' = w44) rfl 25 _ rfl (ga) rfl 25 _ _ (fun _ h => h ▸ Kga) Tryz.underlying25 rfl CZz) rfl ?_
    simp only [AP]
    refine wpSeq_yield (S := fun w' => w' = w44) (show YieldsIf _ _ _ _ (.agg (ansV rz sz qz)) _ from yieldsIf_row_wanted (S := fun w' => w' = w44) rfl 25 _ rfl (gb) rfl 25 _ _ (fun _ h => h ▸ Kgb) Tryz.underlying25 rfl CZz) rfl ?_
    simp only [AP]
    refine wpSeq_yield (S := fun _ => True) (yieldsIf_neqans rfl _ _ rfl rz sz qz LR.out.1 LR.out.2 rfl rfl) trivial ?_
    simp only [AP]
    refine wpSeq_yield (S := fun _ => True) (yieldsIf_pick rfl _ _ _ rfl false rfl (.bool false) rfl) trivial ?_
    simp only [AP]
    refine smv (.bool false) rfl rfl rfl ?_
    simp only [AP]
    refine smv (.int .i64 (fz : Int)) rfl rfl rfl ?_
    simp only [AP]
    refine smv (.int .i64 (fz : Int)) rfl rfl rfl ?_
    simp only [AP]
    refine svl (.bool false) (.inl ⟨by rfl, fun w' _ => by go_simp⟩) ?_
    simp only [AP]
    refine wpSeq_yield (S := fun _ => True) (yieldsIf_pick rfl _ _ _ rfl false rfl (.bool false) rfl) trivial ?_
    simp only [AP]
    refine smv (.bool false) rfl rfl rfl ?_
    simp only [AP]
    refine wpSeq_yield (S := fun w' => w' = w44) (show YieldsIf _ _ _ _ (.agg (parV z1 z2' z3' z4)) _ from yieldsIf_row_wanted (S := fun w' => w' = w44) rfl 28 _ rfl (gc) rfl 28 _ _ (fun _ h => h ▸ Kgc) Tryz.underlying28 rfl PZz) rfl ?_
    simp only [AP]
    refine wpSeq_yield (S := fun w' => w' = w44) (show YieldsIf _ _ _ _ (.agg (parV z1 z2' z3' z4)) _ from yieldsIf_row_wanted (S := fun w' => w' = w44) rfl 28 _ rfl (gd) rfl 28 _ _ (fun _ h => h ▸ Kgd) Tryz.underlying28 rfl PZz) rfl ?_
    simp only [AP]
    refine wpSeq_yield (S := fun _ => True) (yieldsIf_neqpar rfl _ _ rfl z1 z2' z3' z4 rfl rfl) trivial ?_
    simp only [AP]
    refine wpSeq_yield (S := fun _ => True) (yieldsIf_pick rfl _ _ _ rfl false rfl (.bool false) rfl) trivial ?_
    simp only [AP]
    refine wpSeq_nil ?_
    refine (by assumption : ∀ (a : Act) (w : World), _ → _) _ _ ?_
    clear Kga Kgb Kgc Kgd ee ef
    have e5 := e5.out
    go_upto_region 25 with fail
    rename_i aK
    refine wp_region_seq ?_
    refine svl (.int .i64 ((j + 1 : Nat) : Int)) (.inl ⟨by rfl, fun w' _ => by go_simp⟩) ?_
    simp only [AP]
    refine smv (.int .i64 ((j + 1 : Nat) : Int)) rfl rfl rfl ?_
    simp only [AP]
    refine wpSeq_nil ?_
    go_wp2
    exact ⟨⟨j + 1, by omega, rfl, bw⟩, by simp only [intOf]; omega⟩
end Go.Proofs.YtegbnadnodlalaaGreatDoor
