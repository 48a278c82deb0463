/- Law HelloCerts by contract (printed by gen14/eq.py). -/
import Derived.Test.YtegbnadnodlalaaDoorE3c0E4a
import Derived.Test.YtegbnadnodlalaaDoorE6d0E6a
import Derived.Test.YtegbnadnodlalaaDoorE7c
import Derived.Test.YtegbnadnodlalaaDoorE8a
import Derived.Test.YtegbnadnodlalaaDoorE8b
namespace Go.Proofs.YtegbnadnodlalaaDoor
open Go.RowKit
theorem wq_one {o : Oper} {a : Act} {w : World} {K : Act → World → Prop} {Q : Exit → Act → World → Prop} (x0 : Operand) (ho : o.op = .buildSlice 40 1 #[(0, x0)]) (v0 : Value) (h0 : a.eval x0 = v0) (l0 : List Nat) (s0 : SB w v0 l0)
    (h : ∀ g w', Blk w' g 22 #[v0] → w.heap.size ≤ g → Below w.heap.size w w' → K (a.put o.dst (.slice (some ⟨g, 0, none⟩) 1 1)) w') : o.wp Tryd.prog a w K Q := by
  refine wq_lists 1 _ ho [v0] (by simp [h0]) rfl (by decide) (by decide) (by
    intro v hv
    rw [List.mem_singleton.1 hv]
    exact sb_cells s0) ?_
  exact h _ _ (Blk.new w 22 #[v0]) (Nat.le_refl _) ((Below.refl _ _).alloc (Nat.le_refl _) _)
theorem wq_two {o : Oper} {a : Act} {w : World} {K : Act → World → Prop} {Q : Exit → Act → World → Prop} (x0 x1 : Operand) (ho : o.op = .buildSlice 40 2 #[(0, x0), (1, x1)]) (v0 v1 : Value) (h0 : a.eval x0 = v0) (h1 : a.eval x1 = v1) (l0 l1 : List Nat) (s0 : SB w v0 l0) (s1 : SB w v1 l1)
    (h : ∀ g w', Blk w' g 22 #[v0, v1] → w.heap.size ≤ g → Below w.heap.size w w' → K (a.put o.dst (.slice (some ⟨g, 0, none⟩) 2 2)) w') : o.wp Tryd.prog a w K Q := by
  refine wq_lists 2 _ ho [v0, v1] (by simp [h0, h1]) rfl (by decide) (by decide) (by
    intro v hv
    simp only [List.mem_cons, List.not_mem_nil, or_false] at hv
    rcases hv with rfl | rfl
    · exact sb_cells s0
    · exact sb_cells s1) ?_
  exact h _ _ (Blk.new w 22 #[v0, v1]) (Nat.le_refl _) ((Below.refl _ _).alloc (Nat.le_refl _) _)
theorem sl_all : (Tryd.prog.info? 22).map (fun i => (i.size, i.bytes)) = some (1, 24) := by kernel_rfl
theorem sl_zero : (Tryd.prog.info? 22).map (fun i => i.zero) = some (some (.slice none 0 0)) := by kernel_rfl
theorem sl_info : ∃ i, Tryd.prog.info? 22 = some i ∧ i.size = 1 ∧ i.bytes = 24 ∧ i.zero = some (.slice none 0 0) := by
  have h1 := sl_all
  have h2 := sl_zero
  cases h : Tryd.prog.info? 22 with
  | none => rw [h] at h1; cases h1
  | some i =>
    rw [h] at h1 h2
    simp only [Option.map_some, Option.some.injEq, Prod.mk.injEq] at h1 h2
    exact ⟨i, rfl, h1.1, h1.2, h2⟩
/-- What place j of a slice of slices reads. -/
structure ZA (w : World) (p : Option Addr) (j : Nat) (z : List Nat) : Prop where
  ex : ∃ g o q k, p = some ⟨g, o, none⟩ ∧ g < w.heap.size ∧ w.cell? ⟨g, o + j, none⟩ = some (.slice q z.length k) ∧ SB w (.slice q z.length k) z
  by_ : Bytes z
  len : z.length ≤ 1000000
theorem ZA.one {w : World} {g : Nat} {q : Option Addr} {k : Nat} {z : List Nat} (h : Blk w g 22 #[.slice q z.length k]) (s : SB w (.slice q z.length k) z) (hb : Bytes z) (hl : z.length ≤ 1000000) (j : Nat) (hj : j < 1) : ZA w (some ⟨g, 0, none⟩) j z := by
  obtain rfl : j = 0 := by omega
  exact ⟨⟨g, 0, q, k, rfl, h.lt, h.cell 0, s⟩, hb, hl⟩
/-- Two more behind the one. -/
theorem more_two (w : World) (ty : TypeId) (g g2 : Nat) (q0 q1 q2 : Option Addr) (k0 k1 k2 : Nat) (z0 z1 z2 : List Nat) (K : Blk w g 22 #[.slice q0 z0.length k0]) (K2 : Blk w g2 22 #[.slice q1 z1.length k1, .slice q2 z2.length k2])
    (s0 : SB w (.slice q0 z0.length k0) z0) (s1 : SB w (.slice q1 z1.length k1) z1) (s2 : SB w (.slice q2 z2.length k2) z2) (b0 : Bytes z0) (b1 : Bytes z1) (b2 : Bytes z2) (l0 : z0.length ≤ 1000000) (l1 : z1.length ≤ 1000000) (l2 : z2.length ≤ 1000000) :
    ∃ p c w', (Builtin.append_ #[40, 40] ty #[.slice (some ⟨g, 0, none⟩) 1 1, .slice (some ⟨g2, 0, none⟩) 2 2]).run Tryd.prog w = .ok (.slice p 3 c) w' ∧ Below w.heap.size w w' ∧ ∀ j, j < 3 → ∃ z, ZA w' p j z := by
  obtain ⟨i, hi, hs, hy, hz⟩ := sl_info
  obtain ⟨v', w', hr, h2, h3⟩ := run_append_arg_grows (P := Tryd.prog) w 40 ty 22 i (.slice none 0 0) 1 24 Tryd.underlying40 hi hz hs hy rfl (by decide) ⟨g, 0, none⟩ 1 1 [.slice q0 z0.length k0] rfl (fun j u hu => by
    rw [Addr.add_lit, Nat.zero_add, K.cell]
    exact List.getElem?_toArray.trans hu) ⟨g2, 0, none⟩ 2 2 [.slice q1 z1.length k1, .slice q2 z2.length k2] rfl (fun j u hu => by
    rw [Addr.add_lit, Nat.zero_add, K2.cell]
    exact List.getElem?_toArray.trans hu) (by omega) (by simp only [maxLen]; omega) (by omega)
  have bb : Below w.heap.size w w' := ⟨h3.os, h3.tape, h3.output, h3.size, fun k hk => h3.block k hk (fun e => by cases e)⟩
  obtain ⟨hl, hr2⟩ := h2
  rcases hr2 with ⟨_, h0⟩ | ⟨g3, cap, cur, rfl, hB, hg, hnc, hcm, hcs, htake⟩
  · cases h0
  have cell : ∀ j u, ([.slice q0 z0.length k0, .slice q1 z1.length k1, .slice q2 z2.length k2] : List Value)[j]? = some u → w'.cell? ⟨g3, 0 + j, none⟩ = some u := fun j u hu => by
    rw [Nat.zero_add, cell_of_row w' g3 j cur _ _ hg, ← Array.getElem?_toList]
    have hj : j < 3 := (List.getElem?_eq_some_iff.1 hu).1
    have := List.getElem?_take (l := cur.toList) (i := 3) (j := j)
    rw [if_pos hj] at this
    rw [← this]
    rw [show cur.toList.take 3 = [.slice q0 z0.length k0, .slice q1 z1.length k1, .slice q2 z2.length k2] from htake]
    exact hu
  have lt3 : g3 < w'.heap.size := by
    rcases Nat.lt_or_ge g3 w'.heap.size with h | h
    · exact h
    · rw [Array.getElem?_eq_none h] at hg
      cases hg
  refine ⟨_, cap, w', hr, bb, fun j hj => ?_⟩
  have : j = 0 ∨ j = 1 ∨ j = 2 := by omega
  rcases this with rfl | rfl | rfl
  · exact ⟨z0, ⟨g3, 0, q0, k0, rfl, lt3, cell 0 _ rfl, s0.below bb⟩, b0, l0⟩
  · exact ⟨z1, ⟨g3, 0, q1, k1, rfl, lt3, cell 1 _ rfl, s1.below bb⟩, b1, l1⟩
  · exact ⟨z2, ⟨g3, 0, q2, k2, rfl, lt3, cell 2 _ rfl, s2.below bb⟩, b2, l2⟩
theorem readC_len (z : List Nat) : (readC z).2.2.1.length = 32 ∧ (readC z).2.2.2.length = 64 := by
  obtain ⟨y, l1, c1, c2, T3, T4, T5, f, H⟩ := RC.mk' z
  rw [H.is]
  by_cases f0 : f = 0
  · rw [if_neg (fun e => e f0)]
    exact H.full f0
  · rw [if_pos f0]
    exact ⟨z32_length, z64_length⟩
theorem cer_bytes (t : ByteArray) {k s : List Nat} (bk : Bytes k) (bs : Bytes s) (ht : t.size ≤ 32) : Bytes (cerB (bL t) k s) := by
  unfold cerB
  intro x hx
  rcases List.mem_cons.1 hx with rfl | hx
  · rw [bL_length]
    omega
  · exact (bL_bytes t).append (bk.append bs) x hx
set_option maxHeartbeats 8000000 in
set_option maxRecDepth 100000 in
theorem certs_c (t : ByteArray) (k s : List Nat) (lk : k.length = 32) (ls : s.length = 64) (bk : Bytes k) (bs : Bytes s) (l : List Nat) (bl : Bytes l) (pb : Option Addr) (cb : Nat) (pa : Option Addr) (na ca : Nat) (y : List Nat) (by_ : Bytes y) (py : Option Addr) (ny cy : Nat) (W : World) (hs : SB W (.slice pb l.length cb) l) (ha : IA W pa na) (hy : SB W (.slice py ny cy) y) (AW : AwakeC W) :
    Calls Tryd.prog 4 #[.agg (cerV t k s), .slice pb l.length cb, .slice pa na ca, .slice py ny cy] W fun e w' => e = .returned (.bool true) ∧ Below W.heap.size W w' := by
  have AW := Lib.hid AW
  have CC := Lib.hid (fun (w : World) => cert_c t k s lk ls w)
  have CZ := info_cerV t lk ls
  have cz := cerV_size t lk ls
  have LK := Lib.hid (And.intro lk (And.intro ls (And.intro bk bs)))
  have HS := Lib.hid (fun (w : World) (h : Below W.heap.size W w) => hs.below h)
  have HY := Lib.hid (fun (w : World) (h : Below W.heap.size W w) => hy.below h)
  have HA := Lib.hid (fun (w : World) (h : Below W.heap.size W w) => show IA w pa na from fun j hj => by
    obtain ⟨g, o, z, e, lg, c⟩ := ha j hj
    exact ⟨g, o, z, e, Nat.lt_of_lt_of_le lg h.size, (h.cell (p := ⟨g, o + j, none⟩) lg).trans c⟩)
  have BL := Lib.hid (And.intro bl by_)
  have KN := Lib.hid (fun (w : World) (h : Blk w W.heap.size 37 (cerV t k s)) => cert_name h)
  obtain ⟨nb, hnb⟩ : ∃ n, l.length = n := ⟨_, rfl⟩
  rw [hnb] at HS ⊢
  have HNB := Lib.hid hnb
  clear hs ha hy bk bs bl by_ lk ls hnb
  go_enter Tryd.func4, Tryd.ntmps4
  go_upto_region 0 with fail
  rename_i aK
  refine wp_region_seq ?_
  refine wpSeq_wp rfl ?_
  unfold Oper.wp execOp
  go_simp
  refine wpSeq_yield (S := fun _ => True) (yieldsIf_assign rfl _ rfl (.bool false) rfl) trivial ?_
  simp only [AP]
  refine wpSeq_nil ?_
  refine aK _ _ ?_
  clear aK
  have K0 := Blk.new W 37 (cerV t k s)
  have b0 := (Below.refl W.heap.size W).alloc (Nat.le_refl _) (.cells (cerV t k s) 37)
  generalize World.alloc W _ = w1 at *
  go_wp2_with fail
  refine (AW.out w1 b0).mono ?_
  rintro _ w2 ⟨rfl, b1⟩
  replace K0 := K0.below' b1
  replace b0 := b0.trans (b1.mono b0.size)
  clear b1 AW
  have c0 := KN.out w2 K0
  by_cases g1 : 200 < t.size
  · have z1 : (200 : Int) < (t.size : Int) := by omega
    clear HS HY HA CC KN K0 g1
    go_wp2
    go_ret
    exact ⟨rfl, b0⟩
  have z1 : ¬ (200 : Int) < (t.size : Int) := by omega
  by_cases g2 : 1000 < nb
  · have z2 : (1000 : Int) < (nb : Int) := by omega
    clear HS HY HA CC KN K0 g1 g2
    go_wp2
    go_ret
    exact ⟨rfl, b0⟩
  have z2 : ¬ (1000 : Int) < (nb : Int) := by omega
  have LN := Lib.hid (show nb ≤ 1000 by omega)
  clear g1 g2
  by_cases hr : 1 ≤ t.size ∧ t.size ≤ 32
  · have fe : cerF (bL t) k s = (0, msgB 11 (cerB (bL t) k s)) := by
      unfold cerF
      rw [bL_length, if_neg (by omega)]
    rw [fe] at CC
    have ts : t.size ≤ 32 := hr.2
    have cl : (cerB (bL t) k s).length = 1 + (t.size + 96) := by
      unfold cerB
      rw [List.length_cons, List.length_append, List.length_append, bL_length, LK.out.1, LK.out.2.1]
      omega
    have mb : Bytes (msgB 11 (cerB (bL t) k s)) := msgB_bytes (by decide) (cer_bytes t LK.out.2.2.1 LK.out.2.2.2 ts) (by omega)
    have md : (msgB 11 (cerB (bL t) k s)).drop 4 = cerB (bL t) k s := rfl
    have m0 : (msgB 11 (cerB (bL t) k s)).getD 0 0 = 11 := rfl
    have ml : (msgB 11 (cerB (bL t) k s)).length = 101 + t.size := by rw [msgB_length, cl]; omega
    have cb2 := cer_bytes t LK.out.2.2.1 LK.out.2.2.2 ts
    have rb := readC_back (bL t) k s (by rw [bL_length]; exact hr.1) (by rw [bL_length]; exact hr.2) LK.out.1 LK.out.2.1
    obtain ⟨N9, hN9⟩ : ∃ n, 101 + t.size = n := ⟨_, rfl⟩
    rw [hN9] at ml
    have z5 : (1 : Int) ≤ (t.size : Int) := by omega
    have z6 : (t.size : Int) ≤ 32 := by omega
    have ML := Lib.hid ml
    have CB := Lib.hid (show Bytes (cerB (bL t) k s) ∧ (cerB (bL t) k s).length = N9 - 4 ∧ 4 ≤ N9 ∧ N9 ≤ 200 ∧ readC (cerB (bL t) k s) = (0, bL t, k, s) from ⟨cb2, by omega, by omega, by omega, rb⟩)
    have MD := Lib.hid md
    have M0 := Lib.hid m0
    have CC := Lib.hid CC.out
    clear fe ts mb md ml cb2 rb cl hr hN9 m0
    generalize msgB 11 (cerB (bL t) k s) = MM at *
    generalize cerB (bL t) k s = CE at *
    go_upto_region 5 with fail
    rename_i aK
    refine wp_region_seq ?_
    refine wpSeq_yield (S := fun w' => w' = w2) (show YieldsIf _ _ _ _ (.agg (cerV t k s)) _ from yieldsIf_row_wanted (S := fun w' => w' = w2) rfl 37 _ rfl W.heap.size rfl 37 _ _ (fun _ h => h ▸ K0) Tryd.underlying37 rfl CZ) rfl ?_
    simp only [AP]
    refine wpSeq_wp rfl ?_
    unfold Oper.wp execOp
    go_simp
    refine (CC.out w2).mono ?_
    rintro _ w3 ⟨v9, rfl, O9, b1⟩
    replace O9 := O9.mono b0.size
    replace K0 := K0.below' b1
    replace b0 := b0.trans (b1.mono b0.size)
    clear b1 CC c0
    obtain ⟨p9, c9, hv⟩ := O9.shape
    try dsimp only at hv O9
    rw [ML.out] at hv
    subst hv
    have c0 := KN.out w3 K0
    go_simp
    refine wpSeq_yield (S := fun _ => True) (yieldsIf_move rfl _ rfl (.tuple #[.slice p9 N9 c9, .int .i64 0]) rfl) trivial ?_
    simp only [AP]
    refine wpSeq_yield (S := fun _ => True) (v := .slice p9 N9 c9) (Or.inl ⟨by rfl, fun w' hw' => by go_simp⟩) trivial ?_
    simp only [AP]
    refine wpSeq_yield (S := fun _ => True) (v := .int .i64 0) (Or.inl ⟨by rfl, fun w' hw' => by go_simp⟩) trivial ?_
    simp only [AP]
    refine wpSeq_yield (S := fun _ => True) (yieldsIf_assign rfl _ rfl (.slice p9 N9 c9) rfl) trivial ?_
    simp only [AP]
    refine wpSeq_yield (S := fun _ => True) (yieldsIf_assign rfl _ rfl (.int .i64 0) rfl) trivial ?_
    simp only [AP]
    refine wpSeq_nil ?_
    refine (by assumption : ∀ (a : Act) (w : World), _ → _) _ _ ?_
    go_upto_region 6 with fail
    rename_i aK
    refine wp_region_seq ?_
    refine wpSeq_yield (S := fun _ => True) (v := .pointer (some ⟨W.heap.size, 0, none⟩)) (Or.inl ⟨by rfl, fun w' hw' => by go_simp⟩) trivial ?_
    simp only [AP]
    refine wpSeq_yield (S := fun w' => w' = w3) (v := .string t) (Or.inl ⟨by rfl, fun w' hw' => by (rw [hw']; go_simp)⟩) rfl ?_
    simp only [AP]
    refine wpSeq_yield (S := fun _ => True) (v := .int .i64 (t.size : Int)) (Or.inl ⟨by rfl, fun w' hw' => by go_simp⟩) trivial ?_
    simp only [AP]
    refine wpSeq_yield (S := fun _ => True) (v := .bool true) (Or.inl ⟨by rfl, fun w' hw' => by (go_simp; try omega)⟩) trivial ?_
    simp only [AP]
    refine wpSeq_yield (S := fun _ => True) (yieldsIf_move rfl _ rfl (.bool true) rfl) trivial ?_
    simp only [AP]
    refine wpSeq_yield (S := fun _ => True) (v := .pointer (some ⟨W.heap.size, 0, none⟩)) (Or.inl ⟨by rfl, fun w' hw' => by go_simp⟩) trivial ?_
    simp only [AP]
    refine wpSeq_yield (S := fun w' => w' = w3) (v := .string t) (Or.inl ⟨by rfl, fun w' hw' => by (rw [hw']; go_simp)⟩) rfl ?_
    simp only [AP]
    refine wpSeq_yield (S := fun _ => True) (v := .int .i64 (t.size : Int)) (Or.inl ⟨by rfl, fun w' hw' => by go_simp⟩) trivial ?_
    simp only [AP]
    refine wpSeq_yield (S := fun _ => True) (v := .bool true) (Or.inl ⟨by rfl, fun w' hw' => by (go_simp; try omega)⟩) trivial ?_
    simp only [AP]
    refine wpSeq_yield (S := fun _ => True) (yieldsIf_pick rfl _ _ _ rfl true rfl (.bool true) rfl) trivial ?_
    simp only [AP]
    refine wpSeq_yield (S := fun _ => True) (yieldsIf_assign rfl _ rfl (.bool true) rfl) trivial ?_
    simp only [AP]
    refine wpSeq_nil ?_
    refine (by assumption : ∀ (a : Act) (w : World), _ → _) _ _ ?_
    go_upto_region 7 with fail
    rename_i aK
    refine wp_region_seq ?_
    refine wpSeq_yield (S := fun _ => True) (yieldsIf_move rfl _ rfl (.bool true) rfl) trivial ?_
    simp only [AP]
    refine wpSeq_yield (S := fun _ => True) (yieldsIf_move rfl _ rfl (.int .i64 0) rfl) trivial ?_
    simp only [AP]
    refine wpSeq_yield (S := fun _ => True) (v := .bool true) (Or.inl ⟨by rfl, fun w' hw' => by go_simp⟩) trivial ?_
    simp only [AP]
    refine wpSeq_yield (S := fun _ => True) (v := .bool false) (Or.inl ⟨by rfl, fun w' hw' => by go_simp⟩) trivial ?_
    simp only [AP]
    refine wpSeq_yield (S := fun _ => True) (yieldsIf_move rfl _ rfl (.bool false) rfl) trivial ?_
    simp only [AP]
    refine wpSeq_yield (S := fun _ => True) (yieldsIf_move rfl _ rfl (.bool true) rfl) trivial ?_
    simp only [AP]
    refine wpSeq_yield (S := fun _ => True) (v := .bool false) (Or.inl ⟨by rfl, fun w' hw' => by go_simp⟩) trivial ?_
    simp only [AP]
    refine wpSeq_yield (S := fun _ => True) (yieldsIf_move rfl _ rfl (.bool false) rfl) trivial ?_
    simp only [AP]
    refine wpSeq_yield (S := fun _ => True) (yieldsIf_off rfl) trivial ?_
    simp only [AP]
    refine wpSeq_yield (S := fun _ => True) (yieldsIf_off rfl) trivial ?_
    simp only [AP]
    refine wpSeq_yield (S := fun _ => True) (yieldsIf_off rfl) trivial ?_
    simp only [AP]
    refine wpSeq_yield (S := fun _ => True) (yieldsIf_off rfl) trivial ?_
    simp only [AP]
    refine wpSeq_yield (S := fun _ => True) (yieldsIf_off rfl) trivial ?_
    simp only [AP]
    refine wpSeq_yield (S := fun _ => True) (yieldsIf_off rfl) trivial ?_
    simp only [AP]
    refine wpSeq_yield (S := fun _ => True) (yieldsIf_off rfl) trivial ?_
    simp only [AP]
    refine wpSeq_yield (S := fun _ => True) (yieldsIf_pick rfl _ _ _ rfl false rfl (.bool false) rfl) trivial ?_
    simp only [AP]
    refine wpSeq_yield (S := fun _ => True) (yieldsIf_pick rfl _ _ _ rfl false rfl (.bool false) rfl) trivial ?_
    simp only [AP]
    refine wpSeq_nil ?_
    refine (by assumption : ∀ (a : Act) (w : World), _ → _) _ _ ?_
    go_upto_region 9 with fail
    rename_i aK
    refine wp_region_seq ?_
    refine wpSeq_yield (S := fun _ => True) (yieldsIf_move rfl _ rfl (.slice pb nb cb) rfl) trivial ?_
    simp only [AP]
    refine wpSeq_wp rfl (wq_one _ rfl (.slice pb nb cb) rfl l (HS.out w3 b0) ?_)
    intro g12 w4 K12 l12 bb
    simp only [AP]
    replace b0 := b0.trans (bb.mono b0.size)
    replace K0 := K0.below' bb
    refine wpSeq_yield (S := fun _ => True) (yieldsIf_assign rfl _ rfl (.slice (some ⟨g12, 0, none⟩) 1 1) rfl) trivial ?_
    simp only [AP]
    refine wpSeq_nil ?_
    refine (by assumption : ∀ (a : Act) (w : World), _ → _) _ _ ?_
    go_upto_region 10 with fail
    rename_i aK
    refine wp_region_seq ?_
    refine wpSeq_yield (S := fun _ => True) (yieldsIf_move rfl _ rfl (.int .i64 0) rfl) trivial ?_
    simp only [AP]
    refine wpSeq_yield (S := fun _ => True) (v := .bool true) (Or.inl ⟨by rfl, fun w' hw' => by go_simp⟩) trivial ?_
    simp only [AP]
    refine wpSeq_nil ?_
    refine (by assumption : ∀ (a : Act) (w : World), _ → _) _ _ ?_
    replace O9 := O9.below bb
    clear bb
    have bd := below_drew (Below.refl w4.heap.size w4)
    replace O9 := O9.below bd
    replace K0 := K0.below' bd
    replace K12 := K12.below' bd
    replace b0 := b0.trans (bd.mono b0.size)
    clear bd
    go_upto_region 11 with fail
    rename_i aK
    refine wp_region_S (S := fun _ => True) (by kernel_rfl) ?_
    generalize w4.drew = w5 at *
    have hS := trivial
    have S9 := O9.sb
    have c49 := Lib.hid (show 4 ≤ N9 ∧ N9 ≤ c9 from ⟨CB.out.2.2.1, by have := S9.len.2; have := ML.out; omega⟩)
    have ST := S9.tail 4 c49.out.1
    rw [MD.out] at ST
    refine wpAnyS_takeL 0 (v := .slice (some ⟨g12, 0, none⟩) 1 1) rfl (by kernel_rfl) (by kernel_rfl) (by kernel_rfl) (fun _ _ _ H => H) (yieldsIf_move rfl _ rfl (.slice (some ⟨g12, 0, none⟩) 1 1) rfl) hS ?_
    simp only [AP]
    refine wpAnyS_takeL 1 (v := .slice p9 N9 c9) rfl (by kernel_rfl) (by kernel_rfl) (by kernel_rfl) (fun _ _ _ H => H) (yieldsIf_move rfl _ rfl (.slice p9 N9 c9) rfl) hS ?_
    simp only [AP]
    refine wpAnyS_takeL 2 (v := .slice (tailP p9 c9 4) (N9 - 4) (c9 - 4)) rfl (by kernel_rfl) (by kernel_rfl) (by kernel_rfl) (fun _ _ _ H => H) (yieldsIf_tailK rfl _ _ .i64 rfl p9 N9 c9 4 rfl rfl c49.out.1 c49.out.2) hS ?_
    simp only [AP]
    refine wpAnyS_takeL 3 (v := .slice p9 N9 c9) rfl (by kernel_rfl) (by kernel_rfl) (by kernel_rfl) (fun _ _ _ H => H) (yieldsIf_move rfl _ rfl (.slice p9 N9 c9) rfl) hS ?_
    simp only [AP]
    refine wpAnyS_takeL 4 (v := .slice (tailP p9 c9 4) (N9 - 4) (c9 - 4)) rfl (by kernel_rfl) (by kernel_rfl) (by kernel_rfl) (fun _ _ _ H => H) (yieldsIf_tailK rfl _ _ .i64 rfl p9 N9 c9 4 rfl rfl c49.out.1 c49.out.2) hS ?_
    simp only [AP]
    refine wpAnyS_takeL 5 (v := .slice pa na ca) rfl (by kernel_rfl) (by kernel_rfl) (by kernel_rfl) (fun _ _ _ H => H) (yieldsIf_move rfl _ rfl (.slice pa na ca) rfl) hS ?_
    simp only [AP]
    refine wpAnyS_takeL 6 (v := .slice py ny cy) rfl (by kernel_rfl) (by kernel_rfl) (by kernel_rfl) (fun _ _ _ H => H) (yieldsIf_move rfl _ rfl (.slice py ny cy) rfl) hS ?_
    simp only [AP]
    refine gstep 7 rfl rfl (by kernel_rfl) ?_
    unfold Oper.wp execOp
    go_simp
    refine (turned_c CE (tailP p9 c9 4) (N9 - 4) (c9 - 4) (by have := CB.out; omega) CB.out.1 pa na ca y py ny cy w5 ST (HA.out w5 b0) BL.out.2 (HY.out w5 b0)).mono ?_
    rintro _ w6 ⟨⟨v75, zt, rfl, S75, B75, L75⟩, bb⟩
    obtain ⟨p75, c75, hv⟩ := S75.shape
    subst hv
    replace O9 := O9.below bb
    replace ST := ST.below bb
    replace K0 := K0.below' bb
    replace K12 := K12.below' bb
    replace b0 := b0.trans (bb.mono b0.size)
    clear bb S9
    refine gstep 8 rfl rfl (by kernel_rfl) ?_
    refine wq_two _ _ rfl _ _ rfl rfl CE zt ST S75 ?_
    intro g76 w7 K76 l76 bb
    simp only [AP]
    replace O9 := O9.below bb
    replace ST := ST.below bb
    replace S75 := S75.below bb
    replace K0 := K0.below' bb
    replace K12 := K12.below' bb
    replace b0 := b0.trans (bb.mono b0.size)
    clear bb
    refine ⟨trivial, ?_⟩
    have H12 := HS.out w7 b0
    rw [← HNB.out] at K12 H12
    have l9 := CB.out.2.1
    rw [← l9] at K76 ST
    obtain ⟨p12, c12, w8, h1, bb, ZZ⟩ := more_two w7 40 g12 g76 pb (tailP p9 c9 4) p75 cb (c9 - 4) c75 l CE zt K12 K76 H12 ST S75 BL.out.1 CB.out.1 B75 (by have := LN.out; have := HNB.out; omega) (by have := CB.out; omega) (by have := CB.out; omega)
    replace h1 := Lib.hid h1
    replace O9 := O9.below bb
    replace K0 := K0.below' bb
    replace b0 := b0.trans (bb.mono b0.size)
    clear bb K12 K76 H12 ST S75 B75 L75 l12 l76 l9
    refine gstep 9 rfl rfl (by kernel_rfl) (wp_append_run _ _ _ _ rfl _ _ rfl rfl _ w8 h1.out ?_)
    simp only [AP]
    refine ⟨trivial, ?_⟩
    clear h1
    refine wpAnyS_takeL 10 (v := .slice p12 3 c12) rfl (by kernel_rfl) (by kernel_rfl) (by kernel_rfl) (fun _ _ _ H => H) (yieldsIf_assign rfl _ rfl (.slice p12 3 c12) rfl) hS ?_
    simp only [AP]
    refine wpAnyS_done (by kernel_rfl) ?_ _
    refine (by assumption : ∀ (a : Act) (w : World), _ → _) _ _ ?_
    clear aK hS
    have S9 := O9.sb
    have ST := S9.tail 4 c49.out.1
    rw [MD.out] at ST
    have RD := readcert_m CE (tailP p9 c9 4) (N9 - 4) (c9 - 4) CB.out.1 (by have := CB.out; omega) w8 ST
    rw [CB.out.2.2.2.2, strB_bL] at RD
    have RD := Lib.hid RD
    have ZZ := Lib.hid ZZ
    go_upto_region 12 with fail
    rename_i aK
    refine wp_region_seq ?_
    refine wpSeq_yield (S := fun _ => True) (yieldsIf_move rfl _ rfl (.slice p9 N9 c9) rfl) trivial ?_
    simp only [AP]
    refine wpSeq_yield (S := fun _ => True) (yieldsIf_tailK rfl _ _ .i64 rfl p9 N9 c9 4 rfl rfl c49.out.1 c49.out.2) trivial ?_
    simp only [AP]
    refine wpSeq_wp rfl ?_
    unfold Oper.wp execOp
    go_simp
    refine RD.out.mono ?_
    rintro _ w9 ⟨rfl, bb⟩
    replace O9 := O9.below bb
    replace K0 := K0.below' bb
    have bw := bb
    clear RD bb S9 ST
    go_simp
    refine wpSeq_yield (S := fun _ => True) (yieldsIf_move rfl _ rfl (.tuple #[.agg (cerV t k s), .int .i64 0]) rfl) trivial ?_
    simp only [AP]
    refine wpSeq_yield (S := fun _ => True) (v := .agg (cerV t k s)) (Or.inl ⟨by rfl, fun w' hw' => by go_simp⟩) trivial ?_
    simp only [AP]
    refine wpSeq_yield (S := fun _ => True) (v := .int .i64 0) (Or.inl ⟨by rfl, fun w' hw' => by go_simp⟩) trivial ?_
    simp only [AP]
    refine wpSeq_wp rfl ?_
    unfold Oper.wp execOp
    go_simp
    generalize hW : World.alloc w9 _ = w10
    obtain ⟨Zg13, hZg13, Kg13, bb⟩ : ∃ Z : Array Value, Z.size = 97 ∧ Blk w10 w9.heap.size 37 Z ∧ Below w9.heap.size w9 w10 := by
      rw [← hW]
      exact ⟨_, rfl, Blk.new _ _ _, (Below.refl _ _).alloc (Nat.le_refl _) _⟩
    clear hW
    have Lg13 := Lib.hid (show w8.heap.size ≤ w9.heap.size ∧ W.heap.size < w9.heap.size ∧ ∀ j, (Value.slice p9 N9 c9).ownBlock = some j → j < w9.heap.size from ⟨bw.size, K0.lt, fun j h => (O9.lt j h).2⟩)
    replace O9 := O9.below bb
    replace K0 := K0.below' bb
    replace bw := bw.trans (bb.mono bw.size)
    obtain ⟨g13, hg13⟩ : ∃ g, w9.heap.size = g := ⟨_, rfl⟩
    rw [hg13] at Kg13 Lg13 ⊢
    clear hg13 bb
    refine wpSeq_store_row rfl 37 _ _ rfl g13 (cerV t k s) rfl rfl _ _ Kg13 CZ (by rw [hZg13, cz]) (cerV_one _ _ _) ?_
    simp only [Act.put]
    replace Kg13 := Kg13.row (cerV t k s)
    replace K0 : Blk (w10.setRow g13 (cerV t k s)) W.heap.size 37 (cerV t k s) := K0.rowFar (by have := Lg13.out; omega) _
    replace O9 : OwL W.heap.size (w10.setRow g13 (cerV t k s)) (.slice p9 N9 c9) MM := O9.of_block fun j hj => setRow_other w10 g13 j _ (by have := Lg13.out.2.2 j hj; omega)
    have l1 := Lg13.out.1
    replace bw := below_setRow bw l1 (cerV t k s)
    clear l1
    generalize World.setRow w10 g13 _ = w11 at *
    refine wpSeq_yield (S := fun _ => True) (yieldsIf_assign rfl _ rfl (.int .i64 0) rfl) trivial ?_
    simp only [AP]
    refine wpSeq_nil ?_
    refine (by assumption : ∀ (a : Act) (w : World), _ → _) _ _ ?_
    obtain ⟨g9, hp9, A9⟩ : ∃ g9, p9 = some ⟨g9, 0, none⟩ ∧ BA w11 g9 0 MM := by
      rcases O9.row with ⟨_, e⟩ | ⟨g9, cap, e, _, _, _, A9, _⟩
      · have := ML.out
        rw [e] at this
        have := CB.out
        simp only [List.length_nil] at *
        omega
      · simp only [Value.slice.injEq] at e
        exact ⟨g9, e.1, A9⟩
    subst hp9
    have c9a := A9.cell 0 (by have := ML.out; have := CB.out; omega)
    rw [Nat.add_zero] at c9a
    have m0 := M0.out
    rw [List.getD_eq_getElem?_getD, List.getElem?_eq_getElem (by have := ML.out; have := CB.out; omega)] at m0
    rw [show MM[0]'(by have := ML.out; have := CB.out; omega) = 11 from m0] at c9a
    replace c9a : w11.cell? ⟨g9, 0, none⟩ = some (.int .u8 11) := c9a
    have z7 : (0 : Int) < (N9 : Int) := by have := CB.out; omega
    have z8 : ¬ N9 = 0 := by have := CB.out; omega
    clear A9 m0
    go_upto_region 13 with fail
    rename_i aK
    refine wp_region_seq ?_
    refine wpSeq_yield (S := fun _ => True) (yieldsIf_move rfl _ rfl (.int .i64 0) rfl) trivial ?_
    simp only [AP]
    refine wpSeq_yield (S := fun _ => True) (v := .bool false) (Or.inl ⟨by rfl, fun w' hw' => by go_simp⟩) trivial ?_
    simp only [AP]
    refine wpSeq_yield (S := fun _ => True) (yieldsIf_move rfl _ rfl (.bool false) rfl) trivial ?_
    simp only [AP]
    refine wpSeq_yield (S := fun w' => w' = w11) (show YieldsIf _ _ _ _ (.agg (cerV t k s)) _ from yieldsIf_row_wanted (S := fun w' => w' = w11) rfl 37 _ rfl g13 rfl 37 _ _ (fun _ h => h ▸ Kg13) Tryd.underlying37 rfl CZ) rfl ?_
    simp only [AP]
    refine wpSeq_yield (S := fun w' => w' = w11) (show YieldsIf _ _ _ _ (.agg (cerV t k s)) _ from yieldsIf_row_wanted (S := fun w' => w' = w11) rfl 37 _ rfl W.heap.size rfl 37 _ _ (fun _ h => h ▸ K0) Tryd.underlying37 rfl CZ) rfl ?_
    simp only [AP]
    refine wpSeq_yield (S := fun _ => True) (yieldsIf_neqcert rfl _ _ rfl t k s LK.out.1 LK.out.2.1 rfl rfl) trivial ?_
    simp only [AP]
    refine wpSeq_yield (S := fun _ => True) (yieldsIf_pick rfl _ _ _ rfl false rfl (.bool false) rfl) trivial ?_
    simp only [AP]
    refine wpSeq_yield (S := fun _ => True) (yieldsIf_move rfl _ rfl (.bool false) rfl) trivial ?_
    simp only [AP]
    refine wpSeq_yield (S := fun _ => True) (yieldsIf_move rfl _ rfl (.slice (some ⟨g9, 0, none⟩) N9 c9) rfl) trivial ?_
    simp only [AP]
    refine wpSeq_yield (S := fun _ => True) (v := .pointer (some ⟨g9, 0, none⟩)) (Or.inl ⟨by rfl, fun w' hw' => by (go_simp)⟩) trivial ?_
    simp only [AP]
    refine wpSeq_yield (S := fun w' => w' = w11) (v := .int .u8 11) (Or.inl ⟨by rfl, fun w' hw' => by (rw [hw']; go_simp)⟩) rfl ?_
    simp only [AP]
    refine wpSeq_yield (S := fun _ => True) (v := .bool false) (Or.inl ⟨by rfl, fun w' hw' => by go_simp⟩) trivial ?_
    simp only [AP]
    refine wpSeq_yield (S := fun _ => True) (yieldsIf_pick rfl _ _ _ rfl false rfl (.bool false) rfl) trivial ?_
    simp only [AP]
    refine wpSeq_nil ?_
    refine (by assumption : ∀ (a : Act) (w : World), _ → _) _ _ ?_
    replace b0 := b0.trans (bw.mono b0.size)
    replace ZZ := Lib.hid (fun j (hj : j < 3) => show ∃ z, ZA w11 p12 j z from by
      obtain ⟨z, ⟨gz, oz, pz, cz2, hpz, lgz, caz, SZ⟩, bz, lz⟩ := ZZ.out j hj
      exact ⟨z, ⟨gz, oz, pz, cz2, hpz, Nat.lt_of_lt_of_le lgz bw.size, (bw.cell (p := ⟨gz, oz + j, none⟩) lgz).trans caz, SZ.below bw⟩, bz, lz⟩)
    clear bw Kg13 K0 O9 c9a z7 z8 z5 z6 z1 z2 c0 KN ML CB MD M0 c49
    go_upto_region 15 with fail
    rename_i aK
    refine wp_region_seq ?_
    refine wpSeq_yield (S := fun _ => True) (yieldsIf_move rfl _ rfl (.slice p12 3 c12) rfl) trivial ?_
    simp only [AP]
    refine wpSeq_yield (S := fun _ => True) (v := .int .i64 3) (Or.inl ⟨by rfl, fun w' hw' => by go_simp⟩) trivial ?_
    simp only [AP]
    refine wpSeq_yield (S := fun _ => True) (yieldsIf_move rfl _ rfl (.int .i64 0) rfl) trivial ?_
    simp only [AP]
    refine wpSeq_nil ?_
    refine (by assumption : ∀ (a : Act) (w : World), _ → _) _ _ ?_
    have D := Lib.hid (Below.refl w11.heap.size w11)
    have HB := Lib.hid b0
    clear HS HY HA
    go_upto_region 16 with fail
    go_loopw [16, 17, 18, 19, 20, 99] (fun _ _ _ _ _ v wr => ∃ j : Nat, j ≤ 3 ∧ v = .int .i64 (j : Int) ∧ Below w11.heap.size w11 wr) (fun _ _ _ _ _ v _ => (3 - intOf v).toNat)
    case atStart => exact ⟨0, by omega, rfl, D.out⟩
    case round =>
      clear D
      obtain ⟨j, jm, rfl, bw⟩ := hrel
      by_cases jj : j = 3
      · subst jj
        have bT := HB.out.trans (bw.mono HB.out.size)
        clear b0 bw jm
        go_wp2
        go_ret
        exact ⟨rfl, bT⟩
      · have jl : j < 3 := by omega
        obtain ⟨z, ⟨gz, oz, pz, cz2, hpz, lgz, caz, SZ⟩, bz, lz⟩ := ZZ.out j jl
        subst hpz
        have RD := Lib.hid (fun (w : World) (h : Below w11.heap.size w11 w) => readcert_m z pz z.length cz2 bz lz w (SZ.below h))
        have RE := Lib.hid (fun (w : World) (h : Below w11.heap.size w11 w) => rcert_m z pz z.length cz2 bz lz w (SZ.below h))
        have lr := readC_len z
        generalize strB (readC z).2.1 = tz at *
        generalize (readC z).2.2.1 = kz at *
        generalize (readC z).2.2.2 = sz at *
        generalize (readC z).1 = ez at *
        have CZz := info_cerV tz lr.1 lr.2
        have czz := cerV_size tz lr.1 lr.2
        have LR := Lib.hid lr
        have caw : wr.cell? ⟨gz, oz + j, none⟩ = some (.slice pz z.length cz2) := (bw.cell (p := ⟨gz, oz + j, none⟩) lgz).trans caz
        have z3 : (j : Int) < 3 := by omega
        have z0 : (0 : Int) ≤ (j : Int) := by omega
        have e5 : IntKind.i64.wrap ((j : Int) + 1) = ((j + 1 : Nat) : Int) := by rw [IntKind.wrap_i64]; omega
        have e5 := Lib.hid e5
        have ee : ¬ ¬ (ez : Int) = (ez : Int) := fun h => h rfl
        clear jj jm lgz caz SZ bz lz lr b0
        go_upto_region 16 with fail
        rename_i aK
        refine wp_region_seq ?_
        refine wpSeq_yield (S := fun _ => True) (v := .bool true) (Or.inl ⟨by rfl, fun w' hw' => by (go_simp; try omega)⟩) trivial ?_
        simp only [AP]
        refine wpSeq_nil ?_
        refine (by assumption : ∀ (a : Act) (w : World), _ → _) _ _ ?_
        go_upto_region 17 with fail
        rename_i aK
        refine wp_region_seq ?_
        refine wpSeq_yield (S := fun _ => True) (v := .pointer (some ⟨gz, oz + j, none⟩)) (Or.inl ⟨by rfl, fun w' hw' => by (go_simp)⟩) trivial ?_
        simp only [AP]
        refine wpSeq_yield (S := fun w' => w' = wr) (v := .slice pz z.length cz2) (Or.inl ⟨by rfl, fun w' hw' => by (rw [hw']; go_simp)⟩) rfl ?_
        simp only [AP]
        refine wpSeq_yield (S := fun _ => True) (yieldsIf_assign rfl _ rfl (.slice pz z.length cz2) rfl) trivial ?_
        simp only [AP]
        refine wpSeq_nil ?_
        refine (by assumption : ∀ (a : Act) (w : World), _ → _) _ _ ?_
        go_upto_region 18 with fail
        rename_i aK
        refine wp_region_seq ?_
        refine wpSeq_yield (S := fun _ => True) (yieldsIf_move rfl _ rfl (.slice pz z.length cz2) rfl) trivial ?_
        simp only [AP]
        refine wpSeq_wp rfl ?_
        unfold Oper.wp execOp
        go_simp
        refine (RD.out wr bw).mono ?_
        rintro _ w21 ⟨rfl, bb⟩
        replace bw := bw.trans (bb.mono bw.size)
        clear RD bb caw
        go_simp
        refine wpSeq_yield (S := fun _ => True) (yieldsIf_move rfl _ rfl (.tuple #[.agg (cerV tz kz sz), .int .i64 (ez : Int)]) rfl) trivial ?_
        simp only [AP]
        refine wpSeq_yield (S := fun _ => True) (v := .agg (cerV tz kz sz)) (Or.inl ⟨by rfl, fun w' hw' => by go_simp⟩) trivial ?_
        simp only [AP]
        refine wpSeq_yield (S := fun _ => True) (v := .int .i64 (ez : Int)) (Or.inl ⟨by rfl, fun w' hw' => by go_simp⟩) trivial ?_
        simp only [AP]
        refine wpSeq_wp rfl ?_
        unfold Oper.wp execOp
        go_simp
        generalize hW : World.alloc w21 _ = w22
        obtain ⟨Zgd, hZgd, Kgd, bb⟩ : ∃ Z : Array Value, Z.size = 97 ∧ Blk w22 w21.heap.size 37 Z ∧ Below w21.heap.size w21 w22 := by
          rw [← hW]
          exact ⟨_, rfl, Blk.new _ _ _, (Below.refl _ _).alloc (Nat.le_refl _) _⟩
        clear hW
        have Lgd := Lib.hid (show w11.heap.size ≤ w21.heap.size from bw.size)
        replace bw := bw.trans (bb.mono bw.size)
        obtain ⟨gd, hgd⟩ : ∃ g, w21.heap.size = g := ⟨_, rfl⟩
        rw [hgd] at Kgd Lgd ⊢
        clear hgd bb
        refine wpSeq_store_row rfl 37 _ _ rfl gd (cerV tz kz sz) rfl rfl _ _ Kgd CZz (by rw [hZgd, czz]) (cerV_one _ _ _) ?_
        simp only [Act.put]
        replace Kgd := Kgd.row (cerV tz kz sz)
        have l1 := Lgd.out
        replace bw := below_setRow bw l1 (cerV tz kz sz)
        clear l1
        generalize World.setRow w22 gd _ = w23 at *
        refine wpSeq_yield (S := fun _ => True) (yieldsIf_assign rfl _ rfl (.int .i64 (ez : Int)) rfl) trivial ?_
        simp only [AP]
        refine wpSeq_nil ?_
        refine (by assumption : ∀ (a : Act) (w : World), _ → _) _ _ ?_
        go_upto_region 19 with fail
        rename_i aK
        refine wp_region_seq ?_
        refine wpSeq_yield (S := fun _ => True) (yieldsIf_move rfl _ rfl (.slice pz z.length cz2) rfl) trivial ?_
        simp only [AP]
        refine wpSeq_wp rfl ?_
        unfold Oper.wp execOp
        go_simp
        refine (RE.out w23 bw).mono ?_
        rintro _ w25 ⟨rfl, bb⟩
        replace bw := bw.trans (bb.mono bw.size)
        replace Kgd := Kgd.below' bb
        clear RE bb
        go_simp
        refine wpSeq_yield (S := fun _ => True) (yieldsIf_move rfl _ rfl (.tuple #[.agg (cerV tz kz sz), .int .i64 (ez : Int)]) rfl) trivial ?_
        simp only [AP]
        refine wpSeq_yield (S := fun _ => True) (v := .agg (cerV tz kz sz)) (Or.inl ⟨by rfl, fun w' hw' => by go_simp⟩) trivial ?_
        simp only [AP]
        refine wpSeq_yield (S := fun _ => True) (v := .int .i64 (ez : Int)) (Or.inl ⟨by rfl, fun w' hw' => by go_simp⟩) trivial ?_
        simp only [AP]
        refine wpSeq_wp rfl ?_
        unfold Oper.wp execOp
        go_simp
        generalize hW : World.alloc w25 _ = w26
        obtain ⟨Zgw, hZgw, Kgw, bb⟩ : ∃ Z : Array Value, Z.size = 97 ∧ Blk w26 w25.heap.size 37 Z ∧ Below w25.heap.size w25 w26 := by
          rw [← hW]
          exact ⟨_, rfl, Blk.new _ _ _, (Below.refl _ _).alloc (Nat.le_refl _) _⟩
        clear hW
        have Lgw := Lib.hid (show w11.heap.size ≤ w25.heap.size ∧ gd < w25.heap.size from ⟨bw.size, Kgd.lt⟩)
        replace bw := bw.trans (bb.mono bw.size)
        replace Kgd := Kgd.below' bb
        obtain ⟨gw, hgw⟩ : ∃ g, w25.heap.size = g := ⟨_, rfl⟩
        rw [hgw] at Kgw Lgw ⊢
        clear hgw bb
        refine wpSeq_store_row rfl 37 _ _ rfl gw (cerV tz kz sz) rfl rfl _ _ Kgw CZz (by rw [hZgw, czz]) (cerV_one _ _ _) ?_
        simp only [Act.put]
        replace Kgw := Kgw.row (cerV tz kz sz)
        replace Kgd : Blk (w26.setRow gw (cerV tz kz sz)) gd 37 (cerV tz kz sz) := Kgd.rowFar (by have := Lgw.out; omega) _
        have l1 := Lgw.out.1
        replace bw := below_setRow bw l1 (cerV tz kz sz)
        clear l1
        generalize World.setRow w26 gw _ = w27 at *
        refine wpSeq_yield (S := fun _ => True) (yieldsIf_assign rfl _ rfl (.int .i64 (ez : Int)) rfl) trivial ?_
        simp only [AP]
        refine wpSeq_nil ?_
        refine (by assumption : ∀ (a : Act) (w : World), _ → _) _ _ ?_
        go_upto_region 20 with fail
        rename_i aK
        refine wp_region_seq ?_
        refine wpSeq_yield (S := fun _ => True) (yieldsIf_move rfl _ rfl (.int .i64 (ez : Int)) rfl) trivial ?_
        simp only [AP]
        refine wpSeq_yield (S := fun _ => True) (yieldsIf_move rfl _ rfl (.int .i64 (ez : Int)) rfl) trivial ?_
        simp only [AP]
        refine wpSeq_yield (S := fun _ => True) (v := .bool false) (Or.inl ⟨by rfl, fun w' hw' => by go_simp⟩) trivial ?_
        simp only [AP]
        refine wpSeq_yield (S := fun _ => True) (yieldsIf_move rfl _ rfl (.bool false) rfl) trivial ?_
        simp only [AP]
        refine wpSeq_yield (S := fun w' => w' = w27) (show YieldsIf _ _ _ _ (.agg (cerV tz kz sz)) _ from yieldsIf_row_wanted (S := fun w' => w' = w27) rfl 37 _ rfl gd rfl 37 _ _ (fun _ h => h ▸ Kgd) Tryd.underlying37 rfl CZz) rfl ?_
        simp only [AP]
        refine wpSeq_yield (S := fun w' => w' = w27) (show YieldsIf _ _ _ _ (.agg (cerV tz kz sz)) _ from yieldsIf_row_wanted (S := fun w' => w' = w27) rfl 37 _ rfl gw rfl 37 _ _ (fun _ h => h ▸ Kgw) Tryd.underlying37 rfl CZz) rfl ?_
        simp only [AP]
        refine wpSeq_yield (S := fun _ => True) (yieldsIf_neqcert rfl _ _ rfl tz kz sz LR.out.1 LR.out.2 rfl rfl) trivial ?_
        simp only [AP]
        refine wpSeq_yield (S := fun _ => True) (yieldsIf_pick rfl _ _ _ rfl false rfl (.bool false) rfl) trivial ?_
        simp only [AP]
        refine wpSeq_nil ?_
        refine (by assumption : ∀ (a : Act) (w : World), _ → _) _ _ ?_
        clear Kgd Kgw ee
        have e5 := e5.out
        go_upto_region 22 with fail
        rename_i aK
        refine wp_region_seq ?_
        refine wpSeq_yield (S := fun _ => True) (v := .int .i64 ((j + 1 : Nat) : Int)) (Or.inl ⟨by rfl, fun w' hw' => by go_simp⟩) trivial ?_
        simp only [AP]
        refine wpSeq_yield (S := fun _ => True) (yieldsIf_move rfl _ rfl (.int .i64 ((j + 1 : Nat) : Int)) rfl) trivial ?_
        simp only [AP]
        refine wpSeq_nil ?_
        go_wp2
        exact ⟨⟨j + 1, by omega, rfl, bw⟩, by simp only [intOf]; omega⟩
  have fe : cerF (bL t) k s = (2, []) := by
    unfold cerF
    rw [bL_length, if_pos (by omega)]
  rw [fe] at CC
  clear fe
  have HR := Lib.hid hr
  go_upto_region 5 with fail
  rename_i aK
  refine wp_region_seq ?_
  refine wpSeq_yield (S := fun w' => w' = w2) (show YieldsIf _ _ _ _ (.agg (cerV t k s)) _ from yieldsIf_row_wanted (S := fun w' => w' = w2) rfl 37 _ rfl W.heap.size rfl 37 _ _ (fun _ h => h ▸ K0) Tryd.underlying37 rfl CZ) rfl ?_
  simp only [AP]
  refine wpSeq_wp rfl ?_
  unfold Oper.wp execOp
  go_simp
  refine (CC.out w2).mono ?_
  rintro _ w3 ⟨v9, rfl, O9, b1⟩
  replace O9 := O9.mono b0.size
  replace K0 := K0.below' b1
  replace b0 := b0.trans (b1.mono b0.size)
  clear b1 CC c0
  obtain ⟨p9, c9, hv⟩ := O9.shape
  try dsimp only at hv O9
  rw [show ([] : List Nat).length = 0 from rfl] at hv
  subst hv
  have c0 := KN.out w3 K0
  go_simp
  refine wpSeq_yield (S := fun _ => True) (yieldsIf_move rfl _ rfl (.tuple #[.slice p9 0 c9, .int .i64 2]) rfl) trivial ?_
  simp only [AP]
  refine wpSeq_yield (S := fun _ => True) (v := .slice p9 0 c9) (Or.inl ⟨by rfl, fun w' hw' => by go_simp⟩) trivial ?_
  simp only [AP]
  refine wpSeq_yield (S := fun _ => True) (v := .int .i64 2) (Or.inl ⟨by rfl, fun w' hw' => by go_simp⟩) trivial ?_
  simp only [AP]
  refine wpSeq_yield (S := fun _ => True) (yieldsIf_assign rfl _ rfl (.slice p9 0 c9) rfl) trivial ?_
  simp only [AP]
  refine wpSeq_yield (S := fun _ => True) (yieldsIf_assign rfl _ rfl (.int .i64 2) rfl) trivial ?_
  simp only [AP]
  refine wpSeq_nil ?_
  refine (by assumption : ∀ (a : Act) (w : World), _ → _) _ _ ?_
  by_cases g5 : 1 ≤ t.size
  · have z5 : (1 : Int) ≤ (t.size : Int) := by omega
    have z6 : ¬ (t.size : Int) ≤ 32 := by omega
    go_upto_region 6 with fail
    rename_i aK
    refine wp_region_seq ?_
    refine wpSeq_yield (S := fun _ => True) (v := .pointer (some ⟨W.heap.size, 0, none⟩)) (Or.inl ⟨by rfl, fun w' hw' => by go_simp⟩) trivial ?_
    simp only [AP]
    refine wpSeq_yield (S := fun w' => w' = w3) (v := .string t) (Or.inl ⟨by rfl, fun w' hw' => by (rw [hw']; go_simp)⟩) rfl ?_
    simp only [AP]
    refine wpSeq_yield (S := fun _ => True) (v := .int .i64 (t.size : Int)) (Or.inl ⟨by rfl, fun w' hw' => by go_simp⟩) trivial ?_
    simp only [AP]
    refine wpSeq_yield (S := fun _ => True) (v := .bool true) (Or.inl ⟨by rfl, fun w' hw' => by (go_simp; try omega)⟩) trivial ?_
    simp only [AP]
    refine wpSeq_yield (S := fun _ => True) (yieldsIf_move rfl _ rfl (.bool true) rfl) trivial ?_
    simp only [AP]
    refine wpSeq_yield (S := fun _ => True) (v := .pointer (some ⟨W.heap.size, 0, none⟩)) (Or.inl ⟨by rfl, fun w' hw' => by go_simp⟩) trivial ?_
    simp only [AP]
    refine wpSeq_yield (S := fun w' => w' = w3) (v := .string t) (Or.inl ⟨by rfl, fun w' hw' => by (rw [hw']; go_simp)⟩) rfl ?_
    simp only [AP]
    refine wpSeq_yield (S := fun _ => True) (v := .int .i64 (t.size : Int)) (Or.inl ⟨by rfl, fun w' hw' => by go_simp⟩) trivial ?_
    simp only [AP]
    refine wpSeq_yield (S := fun _ => True) (v := .bool false) (Or.inl ⟨by rfl, fun w' hw' => by (go_simp; try omega)⟩) trivial ?_
    simp only [AP]
    refine wpSeq_yield (S := fun _ => True) (yieldsIf_pick rfl _ _ _ rfl true rfl (.bool false) rfl) trivial ?_
    simp only [AP]
    refine wpSeq_yield (S := fun _ => True) (yieldsIf_assign rfl _ rfl (.bool false) rfl) trivial ?_
    simp only [AP]
    refine wpSeq_nil ?_
    refine (by assumption : ∀ (a : Act) (w : World), _ → _) _ _ ?_
    clear z5 z6 g5 hr
    go_upto_region 7 with fail
    rename_i aK
    refine wp_region_seq ?_
    refine wpSeq_yield (S := fun _ => True) (yieldsIf_move rfl _ rfl (.bool false) rfl) trivial ?_
    simp only [AP]
    refine wpSeq_yield (S := fun _ => True) (yieldsIf_move rfl _ rfl (.int .i64 2) rfl) trivial ?_
    simp only [AP]
    refine wpSeq_yield (S := fun _ => True) (v := .bool false) (Or.inl ⟨by rfl, fun w' hw' => by go_simp⟩) trivial ?_
    simp only [AP]
    refine wpSeq_yield (S := fun _ => True) (v := .bool false) (Or.inl ⟨by rfl, fun w' hw' => by go_simp⟩) trivial ?_
    simp only [AP]
    refine wpSeq_yield (S := fun _ => True) (yieldsIf_move rfl _ rfl (.bool false) rfl) trivial ?_
    simp only [AP]
    refine wpSeq_yield (S := fun _ => True) (yieldsIf_move rfl _ rfl (.bool false) rfl) trivial ?_
    simp only [AP]
    refine wpSeq_yield (S := fun _ => True) (v := .bool true) (Or.inl ⟨by rfl, fun w' hw' => by go_simp⟩) trivial ?_
    simp only [AP]
    refine wpSeq_yield (S := fun _ => True) (yieldsIf_move rfl _ rfl (.bool true) rfl) trivial ?_
    simp only [AP]
    refine wpSeq_yield (S := fun _ => True) (yieldsIf_move rfl _ rfl (.int .i64 2) rfl) trivial ?_
    simp only [AP]
    refine wpSeq_yield (S := fun _ => True) (v := .bool false) (Or.inl ⟨by rfl, fun w' hw' => by go_simp⟩) trivial ?_
    simp only [AP]
    refine wpSeq_yield (S := fun _ => True) (yieldsIf_move rfl _ rfl (.bool false) rfl) trivial ?_
    simp only [AP]
    refine wpSeq_yield (S := fun _ => True) (yieldsIf_move rfl _ rfl (.slice p9 0 c9) rfl) trivial ?_
    simp only [AP]
    refine wpSeq_yield (S := fun _ => True) (v := .int .i64 0) (Or.inl ⟨by rfl, fun w' hw' => by go_simp⟩) trivial ?_
    simp only [AP]
    refine wpSeq_yield (S := fun _ => True) (v := .bool false) (Or.inl ⟨by rfl, fun w' hw' => by go_simp⟩) trivial ?_
    simp only [AP]
    refine wpSeq_yield (S := fun _ => True) (yieldsIf_pick rfl _ _ _ rfl false rfl (.bool false) rfl) trivial ?_
    simp only [AP]
    refine wpSeq_yield (S := fun _ => True) (yieldsIf_pick rfl _ _ _ rfl true rfl (.bool false) rfl) trivial ?_
    simp only [AP]
    refine wpSeq_yield (S := fun _ => True) (yieldsIf_pick rfl _ _ _ rfl false rfl (.bool false) rfl) trivial ?_
    simp only [AP]
    refine wpSeq_nil ?_
    refine (by assumption : ∀ (a : Act) (w : World), _ → _) _ _ ?_
    go_upto_region 9 with fail
    rename_i aK
    refine wp_region_seq ?_
    refine wpSeq_yield (S := fun _ => True) (yieldsIf_move rfl _ rfl (.slice pb nb cb) rfl) trivial ?_
    simp only [AP]
    refine wpSeq_wp rfl (wq_one _ rfl (.slice pb nb cb) rfl l (HS.out w3 b0) ?_)
    intro g12 w4 K12 l12 bb
    simp only [AP]
    replace b0 := b0.trans (bb.mono b0.size)
    replace K0 := K0.below' bb
    refine wpSeq_yield (S := fun _ => True) (yieldsIf_assign rfl _ rfl (.slice (some ⟨g12, 0, none⟩) 1 1) rfl) trivial ?_
    simp only [AP]
    refine wpSeq_nil ?_
    refine (by assumption : ∀ (a : Act) (w : World), _ → _) _ _ ?_
    go_upto_region 10 with fail
    rename_i aK
    refine wp_region_seq ?_
    refine wpSeq_yield (S := fun _ => True) (yieldsIf_move rfl _ rfl (.int .i64 2) rfl) trivial ?_
    simp only [AP]
    refine wpSeq_yield (S := fun _ => True) (v := .bool false) (Or.inl ⟨by rfl, fun w' hw' => by go_simp⟩) trivial ?_
    simp only [AP]
    refine wpSeq_nil ?_
    refine (by assumption : ∀ (a : Act) (w : World), _ → _) _ _ ?_
    rw [← HNB.out] at K12
    have ZZ := Lib.hid (fun j (hj : j < 1) => show ∃ z, ZA w4 (some ⟨g12, 0, none⟩) j z from ⟨l, ZA.one K12 (HNB.out.symm ▸ HS.out w4 b0) BL.out.1 (by have := LN.out; have := HNB.out; omega) j hj⟩)
    clear K12 l12 bb K0 O9 z1 z2 c0 KN
    generalize hp12 : (some (⟨g12, 0, none⟩ : Addr)) = p12 at *
    clear hp12
    go_upto_region 15 with fail
    rename_i aK
    refine wp_region_seq ?_
    refine wpSeq_yield (S := fun _ => True) (yieldsIf_move rfl _ rfl (.slice p12 1 1) rfl) trivial ?_
    simp only [AP]
    refine wpSeq_yield (S := fun _ => True) (v := .int .i64 1) (Or.inl ⟨by rfl, fun w' hw' => by go_simp⟩) trivial ?_
    simp only [AP]
    refine wpSeq_yield (S := fun _ => True) (yieldsIf_move rfl _ rfl (.int .i64 0) rfl) trivial ?_
    simp only [AP]
    refine wpSeq_nil ?_
    refine (by assumption : ∀ (a : Act) (w : World), _ → _) _ _ ?_
    have D := Lib.hid (Below.refl w4.heap.size w4)
    have HB := Lib.hid b0
    clear HS HY HA
    go_upto_region 16 with fail
    go_loopw [16, 17, 18, 19, 20, 99] (fun _ _ _ _ _ v wr => ∃ j : Nat, j ≤ 1 ∧ v = .int .i64 (j : Int) ∧ Below w4.heap.size w4 wr) (fun _ _ _ _ _ v _ => (1 - intOf v).toNat)
    case atStart => exact ⟨0, by omega, rfl, D.out⟩
    case round =>
      clear D
      obtain ⟨j, jm, rfl, bw⟩ := hrel
      by_cases jj : j = 1
      · subst jj
        have bT := HB.out.trans (bw.mono HB.out.size)
        clear b0 bw jm
        go_wp2
        go_ret
        exact ⟨rfl, bT⟩
      · have jl : j < 1 := by omega
        obtain ⟨z, ⟨gz, oz, pz, cz2, hpz, lgz, caz, SZ⟩, bz, lz⟩ := ZZ.out j jl
        subst hpz
        have RD := Lib.hid (fun (w : World) (h : Below w4.heap.size w4 w) => readcert_m z pz z.length cz2 bz lz w (SZ.below h))
        have RE := Lib.hid (fun (w : World) (h : Below w4.heap.size w4 w) => rcert_m z pz z.length cz2 bz lz w (SZ.below h))
        have lr := readC_len z
        generalize strB (readC z).2.1 = tz at *
        generalize (readC z).2.2.1 = kz at *
        generalize (readC z).2.2.2 = sz at *
        generalize (readC z).1 = ez at *
        have CZz := info_cerV tz lr.1 lr.2
        have czz := cerV_size tz lr.1 lr.2
        have LR := Lib.hid lr
        have caw : wr.cell? ⟨gz, oz + j, none⟩ = some (.slice pz z.length cz2) := (bw.cell (p := ⟨gz, oz + j, none⟩) lgz).trans caz
        have z3 : (j : Int) < 1 := by omega
        have z0 : (0 : Int) ≤ (j : Int) := by omega
        have e5 : IntKind.i64.wrap ((j : Int) + 1) = ((j + 1 : Nat) : Int) := by rw [IntKind.wrap_i64]; omega
        have e5 := Lib.hid e5
        have ee : ¬ ¬ (ez : Int) = (ez : Int) := fun h => h rfl
        clear jj jm lgz caz SZ bz lz lr b0
        go_upto_region 16 with fail
        rename_i aK
        refine wp_region_seq ?_
        refine wpSeq_yield (S := fun _ => True) (v := .bool true) (Or.inl ⟨by rfl, fun w' hw' => by (go_simp; try omega)⟩) trivial ?_
        simp only [AP]
        refine wpSeq_nil ?_
        refine (by assumption : ∀ (a : Act) (w : World), _ → _) _ _ ?_
        go_upto_region 17 with fail
        rename_i aK
        refine wp_region_seq ?_
        refine wpSeq_yield (S := fun _ => True) (v := .pointer (some ⟨gz, oz + j, none⟩)) (Or.inl ⟨by rfl, fun w' hw' => by (go_simp)⟩) trivial ?_
        simp only [AP]
        refine wpSeq_yield (S := fun w' => w' = wr) (v := .slice pz z.length cz2) (Or.inl ⟨by rfl, fun w' hw' => by (rw [hw']; go_simp)⟩) rfl ?_
        simp only [AP]
        refine wpSeq_yield (S := fun _ => True) (yieldsIf_assign rfl _ rfl (.slice pz z.length cz2) rfl) trivial ?_
        simp only [AP]
        refine wpSeq_nil ?_
        refine (by assumption : ∀ (a : Act) (w : World), _ → _) _ _ ?_
        go_upto_region 18 with fail
        rename_i aK
        refine wp_region_seq ?_
        refine wpSeq_yield (S := fun _ => True) (yieldsIf_move rfl _ rfl (.slice pz z.length cz2) rfl) trivial ?_
        simp only [AP]
        refine wpSeq_wp rfl ?_
        unfold Oper.wp execOp
        go_simp
        refine (RD.out wr bw).mono ?_
        rintro _ w28 ⟨rfl, bb⟩
        replace bw := bw.trans (bb.mono bw.size)
        clear RD bb caw
        go_simp
        refine wpSeq_yield (S := fun _ => True) (yieldsIf_move rfl _ rfl (.tuple #[.agg (cerV tz kz sz), .int .i64 (ez : Int)]) rfl) trivial ?_
        simp only [AP]
        refine wpSeq_yield (S := fun _ => True) (v := .agg (cerV tz kz sz)) (Or.inl ⟨by rfl, fun w' hw' => by go_simp⟩) trivial ?_
        simp only [AP]
        refine wpSeq_yield (S := fun _ => True) (v := .int .i64 (ez : Int)) (Or.inl ⟨by rfl, fun w' hw' => by go_simp⟩) trivial ?_
        simp only [AP]
        refine wpSeq_wp rfl ?_
        unfold Oper.wp execOp
        go_simp
        generalize hW : World.alloc w28 _ = w29
        obtain ⟨Zgd, hZgd, Kgd, bb⟩ : ∃ Z : Array Value, Z.size = 97 ∧ Blk w29 w28.heap.size 37 Z ∧ Below w28.heap.size w28 w29 := by
          rw [← hW]
          exact ⟨_, rfl, Blk.new _ _ _, (Below.refl _ _).alloc (Nat.le_refl _) _⟩
        clear hW
        have Lgd := Lib.hid (show w4.heap.size ≤ w28.heap.size from bw.size)
        replace bw := bw.trans (bb.mono bw.size)
        obtain ⟨gd, hgd⟩ : ∃ g, w28.heap.size = g := ⟨_, rfl⟩
        rw [hgd] at Kgd Lgd ⊢
        clear hgd bb
        refine wpSeq_store_row rfl 37 _ _ rfl gd (cerV tz kz sz) rfl rfl _ _ Kgd CZz (by rw [hZgd, czz]) (cerV_one _ _ _) ?_
        simp only [Act.put]
        replace Kgd := Kgd.row (cerV tz kz sz)
        have l1 := Lgd.out
        replace bw := below_setRow bw l1 (cerV tz kz sz)
        clear l1
        generalize World.setRow w29 gd _ = w30 at *
        refine wpSeq_yield (S := fun _ => True) (yieldsIf_assign rfl _ rfl (.int .i64 (ez : Int)) rfl) trivial ?_
        simp only [AP]
        refine wpSeq_nil ?_
        refine (by assumption : ∀ (a : Act) (w : World), _ → _) _ _ ?_
        go_upto_region 19 with fail
        rename_i aK
        refine wp_region_seq ?_
        refine wpSeq_yield (S := fun _ => True) (yieldsIf_move rfl _ rfl (.slice pz z.length cz2) rfl) trivial ?_
        simp only [AP]
        refine wpSeq_wp rfl ?_
        unfold Oper.wp execOp
        go_simp
        refine (RE.out w30 bw).mono ?_
        rintro _ w32 ⟨rfl, bb⟩
        replace bw := bw.trans (bb.mono bw.size)
        replace Kgd := Kgd.below' bb
        clear RE bb
        go_simp
        refine wpSeq_yield (S := fun _ => True) (yieldsIf_move rfl _ rfl (.tuple #[.agg (cerV tz kz sz), .int .i64 (ez : Int)]) rfl) trivial ?_
        simp only [AP]
        refine wpSeq_yield (S := fun _ => True) (v := .agg (cerV tz kz sz)) (Or.inl ⟨by rfl, fun w' hw' => by go_simp⟩) trivial ?_
        simp only [AP]
        refine wpSeq_yield (S := fun _ => True) (v := .int .i64 (ez : Int)) (Or.inl ⟨by rfl, fun w' hw' => by go_simp⟩) trivial ?_
        simp only [AP]
        refine wpSeq_wp rfl ?_
        unfold Oper.wp execOp
        go_simp
        generalize hW : World.alloc w32 _ = w33
        obtain ⟨Zgw, hZgw, Kgw, bb⟩ : ∃ Z : Array Value, Z.size = 97 ∧ Blk w33 w32.heap.size 37 Z ∧ Below w32.heap.size w32 w33 := by
          rw [← hW]
          exact ⟨_, rfl, Blk.new _ _ _, (Below.refl _ _).alloc (Nat.le_refl _) _⟩
        clear hW
        have Lgw := Lib.hid (show w4.heap.size ≤ w32.heap.size ∧ gd < w32.heap.size from ⟨bw.size, Kgd.lt⟩)
        replace bw := bw.trans (bb.mono bw.size)
        replace Kgd := Kgd.below' bb
        obtain ⟨gw, hgw⟩ : ∃ g, w32.heap.size = g := ⟨_, rfl⟩
        rw [hgw] at Kgw Lgw ⊢
        clear hgw bb
        refine wpSeq_store_row rfl 37 _ _ rfl gw (cerV tz kz sz) rfl rfl _ _ Kgw CZz (by rw [hZgw, czz]) (cerV_one _ _ _) ?_
        simp only [Act.put]
        replace Kgw := Kgw.row (cerV tz kz sz)
        replace Kgd : Blk (w33.setRow gw (cerV tz kz sz)) gd 37 (cerV tz kz sz) := Kgd.rowFar (by have := Lgw.out; omega) _
        have l1 := Lgw.out.1
        replace bw := below_setRow bw l1 (cerV tz kz sz)
        clear l1
        generalize World.setRow w33 gw _ = w34 at *
        refine wpSeq_yield (S := fun _ => True) (yieldsIf_assign rfl _ rfl (.int .i64 (ez : Int)) rfl) trivial ?_
        simp only [AP]
        refine wpSeq_nil ?_
        refine (by assumption : ∀ (a : Act) (w : World), _ → _) _ _ ?_
        go_upto_region 20 with fail
        rename_i aK
        refine wp_region_seq ?_
        refine wpSeq_yield (S := fun _ => True) (yieldsIf_move rfl _ rfl (.int .i64 (ez : Int)) rfl) trivial ?_
        simp only [AP]
        refine wpSeq_yield (S := fun _ => True) (yieldsIf_move rfl _ rfl (.int .i64 (ez : Int)) rfl) trivial ?_
        simp only [AP]
        refine wpSeq_yield (S := fun _ => True) (v := .bool false) (Or.inl ⟨by rfl, fun w' hw' => by go_simp⟩) trivial ?_
        simp only [AP]
        refine wpSeq_yield (S := fun _ => True) (yieldsIf_move rfl _ rfl (.bool false) rfl) trivial ?_
        simp only [AP]
        refine wpSeq_yield (S := fun w' => w' = w34) (show YieldsIf _ _ _ _ (.agg (cerV tz kz sz)) _ from yieldsIf_row_wanted (S := fun w' => w' = w34) rfl 37 _ rfl gd rfl 37 _ _ (fun _ h => h ▸ Kgd) Tryd.underlying37 rfl CZz) rfl ?_
        simp only [AP]
        refine wpSeq_yield (S := fun w' => w' = w34) (show YieldsIf _ _ _ _ (.agg (cerV tz kz sz)) _ from yieldsIf_row_wanted (S := fun w' => w' = w34) rfl 37 _ rfl gw rfl 37 _ _ (fun _ h => h ▸ Kgw) Tryd.underlying37 rfl CZz) rfl ?_
        simp only [AP]
        refine wpSeq_yield (S := fun _ => True) (yieldsIf_neqcert rfl _ _ rfl tz kz sz LR.out.1 LR.out.2 rfl rfl) trivial ?_
        simp only [AP]
        refine wpSeq_yield (S := fun _ => True) (yieldsIf_pick rfl _ _ _ rfl false rfl (.bool false) rfl) trivial ?_
        simp only [AP]
        refine wpSeq_nil ?_
        refine (by assumption : ∀ (a : Act) (w : World), _ → _) _ _ ?_
        clear Kgd Kgw ee
        have e5 := e5.out
        go_upto_region 22 with fail
        rename_i aK
        refine wp_region_seq ?_
        refine wpSeq_yield (S := fun _ => True) (v := .int .i64 ((j + 1 : Nat) : Int)) (Or.inl ⟨by rfl, fun w' hw' => by go_simp⟩) trivial ?_
        simp only [AP]
        refine wpSeq_yield (S := fun _ => True) (yieldsIf_move rfl _ rfl (.int .i64 ((j + 1 : Nat) : Int)) rfl) trivial ?_
        simp only [AP]
        refine wpSeq_nil ?_
        go_wp2
        exact ⟨⟨j + 1, by omega, rfl, bw⟩, by simp only [intOf]; omega⟩
  have z5 : ¬ (1 : Int) ≤ (t.size : Int) := by omega
  go_upto_region 6 with fail
  rename_i aK
  refine wp_region_seq ?_
  refine wpSeq_yield (S := fun _ => True) (v := .pointer (some ⟨W.heap.size, 0, none⟩)) (Or.inl ⟨by rfl, fun w' hw' => by go_simp⟩) trivial ?_
  simp only [AP]
  refine wpSeq_yield (S := fun w' => w' = w3) (v := .string t) (Or.inl ⟨by rfl, fun w' hw' => by (rw [hw']; go_simp)⟩) rfl ?_
  simp only [AP]
  refine wpSeq_yield (S := fun _ => True) (v := .int .i64 (t.size : Int)) (Or.inl ⟨by rfl, fun w' hw' => by go_simp⟩) trivial ?_
  simp only [AP]
  refine wpSeq_yield (S := fun _ => True) (v := .bool false) (Or.inl ⟨by rfl, fun w' hw' => by (go_simp; try omega)⟩) trivial ?_
  simp only [AP]
  refine wpSeq_yield (S := fun _ => True) (yieldsIf_move rfl _ rfl (.bool false) rfl) trivial ?_
  simp only [AP]
  refine wpSeq_yield (S := fun _ => True) (yieldsIf_off rfl) trivial ?_
  simp only [AP]
  refine wpSeq_yield (S := fun _ => True) (yieldsIf_off rfl) trivial ?_
  simp only [AP]
  refine wpSeq_yield (S := fun _ => True) (yieldsIf_off rfl) trivial ?_
  simp only [AP]
  refine wpSeq_yield (S := fun _ => True) (yieldsIf_off rfl) trivial ?_
  simp only [AP]
  refine wpSeq_yield (S := fun _ => True) (yieldsIf_pick rfl _ _ _ rfl false rfl (.bool false) rfl) trivial ?_
  simp only [AP]
  refine wpSeq_yield (S := fun _ => True) (yieldsIf_assign rfl _ rfl (.bool false) rfl) trivial ?_
  simp only [AP]
  refine wpSeq_nil ?_
  refine (by assumption : ∀ (a : Act) (w : World), _ → _) _ _ ?_
  clear z5 g5 hr
  go_upto_region 7 with fail
  rename_i aK
  refine wp_region_seq ?_
  refine wpSeq_yield (S := fun _ => True) (yieldsIf_move rfl _ rfl (.bool false) rfl) trivial ?_
  simp only [AP]
  refine wpSeq_yield (S := fun _ => True) (yieldsIf_move rfl _ rfl (.int .i64 2) rfl) trivial ?_
  simp only [AP]
  refine wpSeq_yield (S := fun _ => True) (v := .bool false) (Or.inl ⟨by rfl, fun w' hw' => by go_simp⟩) trivial ?_
  simp only [AP]
  refine wpSeq_yield (S := fun _ => True) (v := .bool false) (Or.inl ⟨by rfl, fun w' hw' => by go_simp⟩) trivial ?_
  simp only [AP]
  refine wpSeq_yield (S := fun _ => True) (yieldsIf_move rfl _ rfl (.bool false) rfl) trivial ?_
  simp only [AP]
  refine wpSeq_yield (S := fun _ => True) (yieldsIf_move rfl _ rfl (.bool false) rfl) trivial ?_
  simp only [AP]
  refine wpSeq_yield (S := fun _ => True) (v := .bool true) (Or.inl ⟨by rfl, fun w' hw' => by go_simp⟩) trivial ?_
  simp only [AP]
  refine wpSeq_yield (S := fun _ => True) (yieldsIf_move rfl _ rfl (.bool true) rfl) trivial ?_
  simp only [AP]
  refine wpSeq_yield (S := fun _ => True) (yieldsIf_move rfl _ rfl (.int .i64 2) rfl) trivial ?_
  simp only [AP]
  refine wpSeq_yield (S := fun _ => True) (v := .bool false) (Or.inl ⟨by rfl, fun w' hw' => by go_simp⟩) trivial ?_
  simp only [AP]
  refine wpSeq_yield (S := fun _ => True) (yieldsIf_move rfl _ rfl (.bool false) rfl) trivial ?_
  simp only [AP]
  refine wpSeq_yield (S := fun _ => True) (yieldsIf_move rfl _ rfl (.slice p9 0 c9) rfl) trivial ?_
  simp only [AP]
  refine wpSeq_yield (S := fun _ => True) (v := .int .i64 0) (Or.inl ⟨by rfl, fun w' hw' => by go_simp⟩) trivial ?_
  simp only [AP]
  refine wpSeq_yield (S := fun _ => True) (v := .bool false) (Or.inl ⟨by rfl, fun w' hw' => by go_simp⟩) trivial ?_
  simp only [AP]
  refine wpSeq_yield (S := fun _ => True) (yieldsIf_pick rfl _ _ _ rfl false rfl (.bool false) rfl) trivial ?_
  simp only [AP]
  refine wpSeq_yield (S := fun _ => True) (yieldsIf_pick rfl _ _ _ rfl true rfl (.bool false) rfl) trivial ?_
  simp only [AP]
  refine wpSeq_yield (S := fun _ => True) (yieldsIf_pick rfl _ _ _ rfl false rfl (.bool false) rfl) trivial ?_
  simp only [AP]
  refine wpSeq_nil ?_
  refine (by assumption : ∀ (a : Act) (w : World), _ → _) _ _ ?_
  go_upto_region 9 with fail
  rename_i aK
  refine wp_region_seq ?_
  refine wpSeq_yield (S := fun _ => True) (yieldsIf_move rfl _ rfl (.slice pb nb cb) rfl) trivial ?_
  simp only [AP]
  refine wpSeq_wp rfl (wq_one _ rfl (.slice pb nb cb) rfl l (HS.out w3 b0) ?_)
  intro g12 w4 K12 l12 bb
  simp only [AP]
  replace b0 := b0.trans (bb.mono b0.size)
  replace K0 := K0.below' bb
  refine wpSeq_yield (S := fun _ => True) (yieldsIf_assign rfl _ rfl (.slice (some ⟨g12, 0, none⟩) 1 1) rfl) trivial ?_
  simp only [AP]
  refine wpSeq_nil ?_
  refine (by assumption : ∀ (a : Act) (w : World), _ → _) _ _ ?_
  go_upto_region 10 with fail
  rename_i aK
  refine wp_region_seq ?_
  refine wpSeq_yield (S := fun _ => True) (yieldsIf_move rfl _ rfl (.int .i64 2) rfl) trivial ?_
  simp only [AP]
  refine wpSeq_yield (S := fun _ => True) (v := .bool false) (Or.inl ⟨by rfl, fun w' hw' => by go_simp⟩) trivial ?_
  simp only [AP]
  refine wpSeq_nil ?_
  refine (by assumption : ∀ (a : Act) (w : World), _ → _) _ _ ?_
  rw [← HNB.out] at K12
  have ZZ := Lib.hid (fun j (hj : j < 1) => show ∃ z, ZA w4 (some ⟨g12, 0, none⟩) j z from ⟨l, ZA.one K12 (HNB.out.symm ▸ HS.out w4 b0) BL.out.1 (by have := LN.out; have := HNB.out; omega) j hj⟩)
  clear K12 l12 bb K0 O9 z1 z2 c0 KN
  generalize hp12 : (some (⟨g12, 0, none⟩ : Addr)) = p12 at *
  clear hp12
  go_upto_region 15 with fail
  rename_i aK
  refine wp_region_seq ?_
  refine wpSeq_yield (S := fun _ => True) (yieldsIf_move rfl _ rfl (.slice p12 1 1) rfl) trivial ?_
  simp only [AP]
  refine wpSeq_yield (S := fun _ => True) (v := .int .i64 1) (Or.inl ⟨by rfl, fun w' hw' => by go_simp⟩) trivial ?_
  simp only [AP]
  refine wpSeq_yield (S := fun _ => True) (yieldsIf_move rfl _ rfl (.int .i64 0) rfl) trivial ?_
  simp only [AP]
  refine wpSeq_nil ?_
  refine (by assumption : ∀ (a : Act) (w : World), _ → _) _ _ ?_
  have D := Lib.hid (Below.refl w4.heap.size w4)
  have HB := Lib.hid b0
  clear HS HY HA
  go_upto_region 16 with fail
  go_loopw [16, 17, 18, 19, 20, 99] (fun _ _ _ _ _ v wr => ∃ j : Nat, j ≤ 1 ∧ v = .int .i64 (j : Int) ∧ Below w4.heap.size w4 wr) (fun _ _ _ _ _ v _ => (1 - intOf v).toNat)
  case atStart => exact ⟨0, by omega, rfl, D.out⟩
  case round =>
    clear D
    obtain ⟨j, jm, rfl, bw⟩ := hrel
    by_cases jj : j = 1
    · subst jj
      have bT := HB.out.trans (bw.mono HB.out.size)
      clear b0 bw jm
      go_wp2
      go_ret
      exact ⟨rfl, bT⟩
    · have jl : j < 1 := by omega
      obtain ⟨z, ⟨gz, oz, pz, cz2, hpz, lgz, caz, SZ⟩, bz, lz⟩ := ZZ.out j jl
      subst hpz
      have RD := Lib.hid (fun (w : World) (h : Below w4.heap.size w4 w) => readcert_m z pz z.length cz2 bz lz w (SZ.below h))
      have RE := Lib.hid (fun (w : World) (h : Below w4.heap.size w4 w) => rcert_m z pz z.length cz2 bz lz w (SZ.below h))
      have lr := readC_len z
      generalize strB (readC z).2.1 = tz at *
      generalize (readC z).2.2.1 = kz at *
      generalize (readC z).2.2.2 = sz at *
      generalize (readC z).1 = ez at *
      have CZz := info_cerV tz lr.1 lr.2
      have czz := cerV_size tz lr.1 lr.2
      have LR := Lib.hid lr
      have caw : wr.cell? ⟨gz, oz + j, none⟩ = some (.slice pz z.length cz2) := (bw.cell (p := ⟨gz, oz + j, none⟩) lgz).trans caz
      have z3 : (j : Int) < 1 := by omega
      have z0 : (0 : Int) ≤ (j : Int) := by omega
      have e5 : IntKind.i64.wrap ((j : Int) + 1) = ((j + 1 : Nat) : Int) := by rw [IntKind.wrap_i64]; omega
      have e5 := Lib.hid e5
      have ee : ¬ ¬ (ez : Int) = (ez : Int) := fun h => h rfl
      clear jj jm lgz caz SZ bz lz lr b0
      go_upto_region 16 with fail
      rename_i aK
      refine wp_region_seq ?_
      refine wpSeq_yield (S := fun _ => True) (v := .bool true) (Or.inl ⟨by rfl, fun w' hw' => by (go_simp; try omega)⟩) trivial ?_
      simp only [AP]
      refine wpSeq_nil ?_
      refine (by assumption : ∀ (a : Act) (w : World), _ → _) _ _ ?_
      go_upto_region 17 with fail
      rename_i aK
      refine wp_region_seq ?_
      refine wpSeq_yield (S := fun _ => True) (v := .pointer (some ⟨gz, oz + j, none⟩)) (Or.inl ⟨by rfl, fun w' hw' => by (go_simp)⟩) trivial ?_
      simp only [AP]
      refine wpSeq_yield (S := fun w' => w' = wr) (v := .slice pz z.length cz2) (Or.inl ⟨by rfl, fun w' hw' => by (rw [hw']; go_simp)⟩) rfl ?_
      simp only [AP]
      refine wpSeq_yield (S := fun _ => True) (yieldsIf_assign rfl _ rfl (.slice pz z.length cz2) rfl) trivial ?_
      simp only [AP]
      refine wpSeq_nil ?_
      refine (by assumption : ∀ (a : Act) (w : World), _ → _) _ _ ?_
      go_upto_region 18 with fail
      rename_i aK
      refine wp_region_seq ?_
      refine wpSeq_yield (S := fun _ => True) (yieldsIf_move rfl _ rfl (.slice pz z.length cz2) rfl) trivial ?_
      simp only [AP]
      refine wpSeq_wp rfl ?_
      unfold Oper.wp execOp
      go_simp
      refine (RD.out wr bw).mono ?_
      rintro _ w35 ⟨rfl, bb⟩
      replace bw := bw.trans (bb.mono bw.size)
      clear RD bb caw
      go_simp
      refine wpSeq_yield (S := fun _ => True) (yieldsIf_move rfl _ rfl (.tuple #[.agg (cerV tz kz sz), .int .i64 (ez : Int)]) rfl) trivial ?_
      simp only [AP]
      refine wpSeq_yield (S := fun _ => True) (v := .agg (cerV tz kz sz)) (Or.inl ⟨by rfl, fun w' hw' => by go_simp⟩) trivial ?_
      simp only [AP]
      refine wpSeq_yield (S := fun _ => True) (v := .int .i64 (ez : Int)) (Or.inl ⟨by rfl, fun w' hw' => by go_simp⟩) trivial ?_
      simp only [AP]
      refine wpSeq_wp rfl ?_
      unfold Oper.wp execOp
      go_simp
      generalize hW : World.alloc w35 _ = w36
      obtain ⟨Zgd, hZgd, Kgd, bb⟩ : ∃ Z : Array Value, Z.size = 97 ∧ Blk w36 w35.heap.size 37 Z ∧ Below w35.heap.size w35 w36 := by
        rw [← hW]
        exact ⟨_, rfl, Blk.new _ _ _, (Below.refl _ _).alloc (Nat.le_refl _) _⟩
      clear hW
      have Lgd := Lib.hid (show w4.heap.size ≤ w35.heap.size from bw.size)
      replace bw := bw.trans (bb.mono bw.size)
      obtain ⟨gd, hgd⟩ : ∃ g, w35.heap.size = g := ⟨_, rfl⟩
      rw [hgd] at Kgd Lgd ⊢
      clear hgd bb
      refine wpSeq_store_row rfl 37 _ _ rfl gd (cerV tz kz sz) rfl rfl _ _ Kgd CZz (by rw [hZgd, czz]) (cerV_one _ _ _) ?_
      simp only [Act.put]
      replace Kgd := Kgd.row (cerV tz kz sz)
      have l1 := Lgd.out
      replace bw := below_setRow bw l1 (cerV tz kz sz)
      clear l1
      generalize World.setRow w36 gd _ = w37 at *
      refine wpSeq_yield (S := fun _ => True) (yieldsIf_assign rfl _ rfl (.int .i64 (ez : Int)) rfl) trivial ?_
      simp only [AP]
      refine wpSeq_nil ?_
      refine (by assumption : ∀ (a : Act) (w : World), _ → _) _ _ ?_
      go_upto_region 19 with fail
      rename_i aK
      refine wp_region_seq ?_
      refine wpSeq_yield (S := fun _ => True) (yieldsIf_move rfl _ rfl (.slice pz z.length cz2) rfl) trivial ?_
      simp only [AP]
      refine wpSeq_wp rfl ?_
      unfold Oper.wp execOp
      go_simp
      refine (RE.out w37 bw).mono ?_
      rintro _ w39 ⟨rfl, bb⟩
      replace bw := bw.trans (bb.mono bw.size)
      replace Kgd := Kgd.below' bb
      clear RE bb
      go_simp
      refine wpSeq_yield (S := fun _ => True) (yieldsIf_move rfl _ rfl (.tuple #[.agg (cerV tz kz sz), .int .i64 (ez : Int)]) rfl) trivial ?_
      simp only [AP]
      refine wpSeq_yield (S := fun _ => True) (v := .agg (cerV tz kz sz)) (Or.inl ⟨by rfl, fun w' hw' => by go_simp⟩) trivial ?_
      simp only [AP]
      refine wpSeq_yield (S := fun _ => True) (v := .int .i64 (ez : Int)) (Or.inl ⟨by rfl, fun w' hw' => by go_simp⟩) trivial ?_
      simp only [AP]
      refine wpSeq_wp rfl ?_
      unfold Oper.wp execOp
      go_simp
      generalize hW : World.alloc w39 _ = w40
      obtain ⟨Zgw, hZgw, Kgw, bb⟩ : ∃ Z : Array Value, Z.size = 97 ∧ Blk w40 w39.heap.size 37 Z ∧ Below w39.heap.size w39 w40 := by
        rw [← hW]
        exact ⟨_, rfl, Blk.new _ _ _, (Below.refl _ _).alloc (Nat.le_refl _) _⟩
      clear hW
      have Lgw := Lib.hid (show w4.heap.size ≤ w39.heap.size ∧ gd < w39.heap.size from ⟨bw.size, Kgd.lt⟩)
      replace bw := bw.trans (bb.mono bw.size)
      replace Kgd := Kgd.below' bb
      obtain ⟨gw, hgw⟩ : ∃ g, w39.heap.size = g := ⟨_, rfl⟩
      rw [hgw] at Kgw Lgw ⊢
      clear hgw bb
      refine wpSeq_store_row rfl 37 _ _ rfl gw (cerV tz kz sz) rfl rfl _ _ Kgw CZz (by rw [hZgw, czz]) (cerV_one _ _ _) ?_
      simp only [Act.put]
      replace Kgw := Kgw.row (cerV tz kz sz)
      replace Kgd : Blk (w40.setRow gw (cerV tz kz sz)) gd 37 (cerV tz kz sz) := Kgd.rowFar (by have := Lgw.out; omega) _
      have l1 := Lgw.out.1
      replace bw := below_setRow bw l1 (cerV tz kz sz)
      clear l1
      generalize World.setRow w40 gw _ = w41 at *
      refine wpSeq_yield (S := fun _ => True) (yieldsIf_assign rfl _ rfl (.int .i64 (ez : Int)) rfl) trivial ?_
      simp only [AP]
      refine wpSeq_nil ?_
      refine (by assumption : ∀ (a : Act) (w : World), _ → _) _ _ ?_
      go_upto_region 20 with fail
      rename_i aK
      refine wp_region_seq ?_
      refine wpSeq_yield (S := fun _ => True) (yieldsIf_move rfl _ rfl (.int .i64 (ez : Int)) rfl) trivial ?_
      simp only [AP]
      refine wpSeq_yield (S := fun _ => True) (yieldsIf_move rfl _ rfl (.int .i64 (ez : Int)) rfl) trivial ?_
      simp only [AP]
      refine wpSeq_yield (S := fun _ => True) (v := .bool false) (Or.inl ⟨by rfl, fun w' hw' => by go_simp⟩) trivial ?_
      simp only [AP]
      refine wpSeq_yield (S := fun _ => True) (yieldsIf_move rfl _ rfl (.bool false) rfl) trivial ?_
      simp only [AP]
      refine wpSeq_yield (S := fun w' => w' = w41) (show YieldsIf _ _ _ _ (.agg (cerV tz kz sz)) _ from yieldsIf_row_wanted (S := fun w' => w' = w41) rfl 37 _ rfl gd rfl 37 _ _ (fun _ h => h ▸ Kgd) Tryd.underlying37 rfl CZz) rfl ?_
      simp only [AP]
      refine wpSeq_yield (S := fun w' => w' = w41) (show YieldsIf _ _ _ _ (.agg (cerV tz kz sz)) _ from yieldsIf_row_wanted (S := fun w' => w' = w41) rfl 37 _ rfl gw rfl 37 _ _ (fun _ h => h ▸ Kgw) Tryd.underlying37 rfl CZz) rfl ?_
      simp only [AP]
      refine wpSeq_yield (S := fun _ => True) (yieldsIf_neqcert rfl _ _ rfl tz kz sz LR.out.1 LR.out.2 rfl rfl) trivial ?_
      simp only [AP]
      refine wpSeq_yield (S := fun _ => True) (yieldsIf_pick rfl _ _ _ rfl false rfl (.bool false) rfl) trivial ?_
      simp only [AP]
      refine wpSeq_nil ?_
      refine (by assumption : ∀ (a : Act) (w : World), _ → _) _ _ ?_
      clear Kgd Kgw ee
      have e5 := e5.out
      go_upto_region 22 with fail
      rename_i aK
      refine wp_region_seq ?_
      refine wpSeq_yield (S := fun _ => True) (v := .int .i64 ((j + 1 : Nat) : Int)) (Or.inl ⟨by rfl, fun w' hw' => by go_simp⟩) trivial ?_
      simp only [AP]
      refine wpSeq_yield (S := fun _ => True) (yieldsIf_move rfl _ rfl (.int .i64 ((j + 1 : Nat) : Int)) rfl) trivial ?_
      simp only [AP]
      refine wpSeq_nil ?_
      go_wp2
      exact ⟨⟨j + 1, by omega, rfl, bw⟩, by simp only [intOf]; omega⟩
end Go.Proofs.YtegbnadnodlalaaDoor
