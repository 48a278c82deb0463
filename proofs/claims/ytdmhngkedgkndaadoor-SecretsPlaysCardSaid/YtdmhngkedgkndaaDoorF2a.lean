/- Schedules in memory; the program's New (printed by gen15/fb.py). -/
import Derived.Test.YtdmhngkedgkndaaDoorF1a
import Derived.Test.YtdmhngkedgkndaaDoorMSe
import Derived.Deep.MidRow
import Derived.Laws.Tables
namespace Go.Proofs.YtdmhngkedgkndaaDoor
open Go.RowKit
theorem info_key32 : (Tryd.prog.info? 28).map (·.size) = some 32 := by kernel_rfl
theorem info_k32 (l : List Nat) (h : l.length = 32) : (Tryd.prog.info? 28).map (·.size) = some (Iv .u8 (NI l)).size := by rw [Iv_size, NI_length, h]; exact info_key32
theorem u8s_one (L : List Nat) : (Iv .u8 (NI L)).all (·.oneCell') = true := Iv_one _ _
theorem one_row (w : World) (t : TypeId) (Z X : Array Value) : Blk ((w.alloc (.cells Z t)).setRow w.heap.size X) w.heap.size t X ∧ Below w.heap.size w ((w.alloc (.cells Z t)).setRow w.heap.size X) :=
  ⟨(Blk.new w t Z).row X, below_setRow ((Below.refl w.heap.size w).alloc (Nat.le_refl _) (.cells Z t)) (Nat.le_refl _) X⟩
theorem two_alloc (W : World) (t1 t2 : TypeId) (Z1 Z2 : Array Value) : Blk ((W.alloc (.cells Z1 t1)).alloc (.cells Z2 t2)) W.heap.size t1 Z1 ∧ Blk ((W.alloc (.cells Z1 t1)).alloc (.cells Z2 t2)) (W.heap.size + 1) t2 Z2 ∧ Below W.heap.size W ((W.alloc (.cells Z1 t1)).alloc (.cells Z2 t2)) := by
  have K := Blk.new (W.alloc (.cells Z1 t1)) t2 Z2
  rw [size_alloc1] at K
  exact ⟨(Blk.new W t1 Z1).alloc (.cells Z2 t2), K, ((Below.refl W.heap.size W).alloc (Nat.le_refl _) (.cells Z1 t1)).alloc (by rw [size_alloc1]; omega) (.cells Z2 t2)⟩
def z32 : List Nat := List.replicate 32 0
theorem z32_length : z32.length = 32 := by decide
theorem z32_bytes : Bytes z32 := Bytes.replicate 32 (by decide)
/-- The cells of bytes. -/
def cl (l : List Nat) : List Value := (NI l).map (Value.int .u8)
theorem cl_iv (l : List Nat) : (cl l).toArray = Iv .u8 (NI l) := rfl
theorem iv_cl (l : List Nat) : (Iv .u8 (NI l)).toList = cl l := by simp [Iv, cl]
theorem cl_length (l : List Nat) : (cl l).length = l.length := by simp [cl, NI]
theorem size_32 {a b : List Nat} (ha : a.length = 32) (hb : b.length = 32) : (Iv .u8 (NI a)).size = (Iv .u8 (NI b)).size := by rw [Iv_size, Iv_size, NI_length, NI_length, ha, hb]
/-- Cells put into a row from a place on. -/
def setA : Array Value → Nat → List Value → Array Value
  | cs, _, [] => cs
  | cs, o, v :: r => setA (cs.setIfInBounds o v) (o + 1) r
theorem blk_setA {t : TypeId} {g : Nat} : ∀ (vs : List Value) (cs : Array Value) (o : Nat) (w : World), Blk w g t cs → Blk (w.setCells g o vs) g t (setA cs o vs)
  | [], _, _, _, h => h
  | v :: r, _cs, o, _w, h => blk_setA r _ (o + 1) _ (Blk.set h o v)
theorem setA_mid : ∀ (vs old pre post : List Value), old.length = vs.length → setA (pre ++ (old ++ post)).toArray pre.length vs = (pre ++ (vs ++ post)).toArray
  | [], old, pre, post, h => by
    have : old = [] := List.eq_nil_of_length_eq_zero h
    subst this
    rfl
  | v :: r, [], pre, post, h => by cases h
  | v :: r, x :: old, pre, post, h => by
    show setA ((pre ++ (x :: old ++ post)).toArray.setIfInBounds pre.length v) (pre.length + 1) r = _
    have e : (pre ++ (x :: old ++ post)).toArray.setIfInBounds pre.length v = ((pre ++ [v]) ++ (old ++ post)).toArray := by
      rw [List.setIfInBounds_toArray]
      congr 1
      rw [List.set_append_right _ _ (Nat.le_refl _), Nat.sub_self]
      simp
    have e2 : pre.length + 1 = (pre ++ [v]).length := by simp
    rw [e, e2, setA_mid r old (pre ++ [v]) post (by simpa using h)]
    simp
theorem blk_setCells_far {t : TypeId} {g k : Nat} {cs : Array Value} (hk : k ≠ g) : ∀ (vs : List Value) (o : Nat) (w : World), Blk w k t cs → Blk (w.setCells g o vs) k t cs
  | [], _, _, h => h
  | v :: r, o, _w, h => blk_setCells_far hk r (o + 1) _ (Blk.far (p := ⟨g, o, none⟩) h hk v)
theorem setCells_gb {g : Nat} : ∀ (vs : List Value) (o : Nat) (w : World), w.grownBy (w.setCells g o vs) (some g)
  | [], _, w => ⟨rfl, rfl, rfl, Nat.le_refl _, fun _ _ _ => rfl⟩
  | v :: r, o, w => World.grownBy.trans (⟨rfl, rfl, rfl, by simp, fun k _ hk => Below.heap_setCell w _ v k (fun e => hk (by rw [e]))⟩ : w.grownBy (w.setCell ⟨g, o, none⟩ v) (some g)) (setCells_gb r (o + 1) _)
/-- A schedule's cells: the messages' slice, the secret. -/
def rowS (v : Value) (s : List Nat) : Array Value := (v :: cl s).toArray
theorem rowS_size (v : Value) (s : List Nat) : (rowS v s).size = s.length + 1 := by simp [rowS, cl_length]
theorem rowS_put (v : Value) (s s' : List Nat) (h : s.length = s'.length) : setA (rowS v s) 1 (cl s') = rowS v s' := by
  have := setA_mid (cl s') (cl s) [v] [] (by rw [cl_length, cl_length, h])
  simpa [rowS] using this
theorem rowS_set (v v' : Value) (s : List Nat) : (rowS v s).setIfInBounds 0 v' = rowS v' s := by
  unfold rowS
  rw [List.setIfInBounds_toArray]
  rfl
/-- But for block g, and o, all is as it was. -/
structure Mine (g : Nat) (o : Option Nat) (w w' : World) : Prop where
  os : w'.os = w.os
  tape : w'.tape = w.tape
  output : w'.output = w.output
  size : w.heap.size ≤ w'.heap.size
  block : ∀ k, k < w.heap.size → k ≠ g → o ≠ some k → w'.heap[k]? = w.heap[k]?
theorem Mine.of {g : Nat} {o : Option Nat} {w w' : World} (h : Below w.heap.size w w') : Mine g o w w' := ⟨h.os, h.tape, h.output, h.size, fun k hk _ _ => h.block k hk⟩
theorem Mine.of_g {g : Nat} {o : Option Nat} {w w' : World} (h : w.grownBy w' (some g)) : Mine g o w w' := ⟨h.os, h.tape, h.output, h.size, fun k hk hg _ => h.block k hk (fun e => hg (Option.some.inj e))⟩
theorem Mine.of_o {g : Nat} {o : Option Nat} {w w' : World} (h : w.grownBy w' o) : Mine g o w w' := ⟨h.os, h.tape, h.output, h.size, fun k hk _ ho => h.block k hk (fun e => ho e.symm)⟩
theorem Mine.trans {g : Nat} {o : Option Nat} {a b c : World} (h : Mine g o a b) (k : Mine g o b c) : Mine g o a c :=
  ⟨k.os.trans h.os, k.tape.trans h.tape, k.output.trans h.output, Nat.le_trans h.size k.size, fun i hi hx hy => (k.block i (Nat.lt_of_lt_of_le hi h.size) hx hy).trans (h.block i hi hx hy)⟩
theorem Mine.below {g B : Nat} {o : Option Nat} {w0 w w' : World} (b : Below B w0 w) (h : Mine g o w w') (hg : B ≤ g) (ho : ∀ k, o = some k → B ≤ k) (hB : B ≤ w.heap.size) : Below B w0 w' :=
  ⟨h.os.trans b.os, h.tape.trans b.tape, h.output.trans b.output, Nat.le_trans b.size h.size, fun k hk => (h.block k (by omega) (by omega) (fun e => by have := ho k e; omega)).trans (b.block k hk)⟩
/-- A schedule with messages m and the secret s. -/
structure SS (B : Nat) (w : World) (g : Nat) (v : Value) (m s : List Nat) : Prop where
  blk : Blk w g 49 (rowS v s)
  hg : B ≤ g
  row : OwL B w v m
  ne : v.ownBlock ≠ some g
  bm : Bytes m
  bs : Bytes s
  ls : s.length = 32
theorem SS.keep {B : Nat} {w w' : World} {g : Nat} {v : Value} {m s : List Nat} (h : SS B w g v m s) (e : w'.heap[g]? = w.heap[g]?) (hv : ∀ k, v.ownBlock = some k → w'.heap[k]? = w.heap[k]?) : SS B w' g v m s :=
  ⟨e.trans h.blk, h.hg, h.row.of_block hv, h.ne, h.bm, h.bs, h.ls⟩
theorem SS.below {B : Nat} {w w' : World} {g : Nat} {v : Value} {m s : List Nat} (h : SS B w g v m s) (b : Below w.heap.size w w') : SS B w' g v m s :=
  h.keep (b.block g h.blk.lt) (fun k e => b.block k (h.row.lt k e).2)
theorem SS.mono {B B' : Nat} {w : World} {g : Nat} {v : Value} {m s : List Nat} (h : SS B w g v m s) (hB : B' ≤ B) : SS B' w g v m s :=
  ⟨h.blk, Nat.le_trans hB h.hg, h.row.mono hB, h.ne, h.bm, h.bs, h.ls⟩
theorem SS.range {B : Nat} {w : World} {g : Nat} {v : Value} {m s : List Nat} (h : SS B w g v m s) : w.rangeAt g 1 (cl s) := fun j x hx => by
  rw [Blk.cell h.blk, Nat.add_comm]
  unfold rowS
  rw [List.getElem?_toArray]
  exact hx
theorem SS.cell {B : Nat} {w : World} {g : Nat} {v : Value} {m s : List Nat} (h : SS B w g v m s) : w.cell? ⟨g, 0, none⟩ = some v := Blk.cell h.blk 0
theorem SS.there {B : Nat} {w : World} {g : Nat} {v : Value} {m s : List Nat} (h : SS B w g v m s) : w.there g 1 32 := fun j hj => by
  refine ⟨?_, Blk.frozen h.blk _⟩
  have := SS.range h j ((cl s)[j]'(by rw [cl_length, h.ls]; exact hj)) (List.getElem?_eq_getElem _)
  rw [this]
  rfl
theorem info_mid32 (l : List Nat) (h : l.length = 32) : (Tryd.prog.info? 28).map (·.size) = some (cl l).length := by
  rw [cl_length, h]
  exact info_key32
/-- A schedule built of its secret. -/
theorem sched_zero : (Tryd.prog.info? 49).bind (·.zero) = some (.agg (rowS (.slice none 0 0) z32)) := by kernel_rfl
theorem sched_places : (match Tryd.prog.underlying 49 with | some (.struct fields) => fields.toList.mapM (fun f => (Tryd.prog.info? f.type).map fun i => (f.offset, i.size)) | _ => none) = some [(0, 1), (1, 32)] := by kernel_rfl
theorem sched_und : ∃ fields, Tryd.prog.underlying 49 = some (.struct fields) := ⟨_, Tryd.underlying49⟩
theorem fold_setA : ∀ (S : List Value) (cs : Array Value) (off j : Nat), (S.zipIdx j).foldl (fun cs (p : Value × Nat) => cs.setIfInBounds (off + p.2) p.1) cs = setA cs (off + j) S
  | [], _, _, _ => rfl
  | v :: r, cs, off, j => by
    show ((r.zipIdx (j + 1)).foldl _ (cs.setIfInBounds (off + j) v)) = _
    rw [fold_setA r _ off (j + 1)]
    rfl
theorem run_sched (w : World) (S : List Nat) (lS : S.length = 32) : (Instr.build 49 #[(1, .agg (Iv .u8 (NI S)))]).run Tryd.prog w = .ok (.agg (rowS (.slice none 0 0) S)) w := by
  refine run_build w 49 _ _ ?_
  unfold Program.built
  have h1 := sched_zero
  have h2 := sched_places
  obtain ⟨fields, hu⟩ := sched_und
  rw [hu] at h2 ⊢
  simp only at h2
  cases hi : Tryd.prog.info? 49 with
  | none => rw [hi] at h1; cases h1
  | some it =>
    rw [hi] at h1
    simp only [Option.bind_some] at h1
    simp only [h1, h2]
    have e := fold_setA (cl S) (rowS (.slice none 0 0) z32) 1 0
    rw [rowS_put _ _ _ (by rw [lS]; exact z32_length)] at e
    have hsz : (Iv .u8 (NI S)).size = 32 := by rw [Iv_size, NI_length, lS]
    have hz : (rowS (.slice none 0 0) z32).size = 33 := by rw [rowS_size, z32_length]
    simp only [Instr.fill, Value.cells, List.getElem?_toArray, List.getElem?_cons_succ, List.getElem?_cons_zero, hsz, hz]
    rw [if_neg (by decide)]
    congr 1
    have ez : (Iv .u8 (NI S)).zipIdx = ((cl S).zipIdx 0).toArray := by rw [← cl_iv]; simp
    rw [ez, List.foldl_toArray]
    exact e
theorem yieldsIf_sched {ops : Array Oper} {S : World → Prop} {o : Oper} {a : Act} (hgd : Region.wanted o (yielded ops a.tmps) = true) (x : Operand) (ho : o.op = .build 49 #[(1, x)]) (s : List Nat) (hx : a.eval x = .agg (Iv .u8 (NI s))) (ls : s.length = 32) : YieldsIf Tryd.prog ops S o (.agg (rowS (.slice none 0 0) s)) a := by
  refine Or.inl ⟨hgd, fun w' hw' => ?_⟩
  simp only [execOp, ho, List.map_toArray, List.map_cons, List.map_nil, hx, Sem.run_bind, Sem.run_pure]
  rw [run_sched w' s ls]
  rfl
theorem key_built : Tryd.prog.built 28 [] = some (Iv .u8 (NI z32)) := by kernel_rfl
theorem yieldsIf_zero {ops : Array Oper} {S : World → Prop} {o : Oper} {a : Act} (hgd : Region.wanted o (yielded ops a.tmps) = true) (ho : o.op = .build 28 #[]) : YieldsIf Tryd.prog ops S o (.agg (Iv .u8 (NI z32))) a := by
  refine Or.inl ⟨hgd, fun w' hw' => ?_⟩
  have hr : (Instr.build 28 #[]).run Tryd.prog w' = .ok (.agg (Iv .u8 (NI z32))) w' := run_build w' 28 #[] _ key_built
  simp only [execOp, ho, Sem.run_bind, Array.map_empty, hr, Result.andThen_ok]
  rfl
def beginL (psk : List Nat) : List Nat := hmac cuT sqT z32 (if psk = [] then z32 else psk)
theorem beginL_length (psk : List Nat) : (beginL psk).length = 32 := hmac_length _ _ _ _
theorem beginL_bytes (psk : List Nat) : Bytes (beginL psk) := hmac_bytes _ _ _ _
theorem sb_key {w : World} {g : Nat} {t : TypeId} {K : List Nat} (h : Blk w g t (Iv .u8 (NI K))) (lK : K.length = 32) : SB w (.slice (some ⟨g, 0, none⟩) 32 32) K := SB.of_ba' (BA.of_blk h) lK.symm (by omega)
set_option maxHeartbeats 8000000 in
set_option maxRecDepth 100000 in
theorem new_nil (psk : List Nat) (p : Option Addr) (n c : Nat) (W : World) (T : Tab W cuT) (S : Sq W sqT) (hp : SB W (.slice p n c) psk) (_bp : Bytes psk) (_hl : psk.length ≤ 100000) (h0 : psk = []) :
    Calls Tryd.prog 8 #[.slice p n c] W fun e w' => ∃ g, e = .returned (.pointer (some ⟨g, 0, none⟩)) ∧ SS W.heap.size w' g (.slice none 0 0) [] (beginL psk) ∧ Below W.heap.size W w' := by
  have EX := fun (w1 : World) T S hz (hp : SB w1 (.slice p n c) psk) => extract_any cuT sqT w1 (.slice (some ⟨W.heap.size, 0, none⟩) 32 32) (.slice (some ⟨W.heap.size, 0, none⟩) 32 32) z32 z32 T S hz hz z32_bytes z32_bytes (by rw [z32_length]; omega) (by rw [z32_length]; omega)
  rw [show hmac cuT sqT z32 z32 = beginL psk by unfold beginL; rw [if_pos h0]] at EX
  have lb := beginL_length psk
  have bb := beginL_bytes psk
  have hn := Lib.hid hp.len.1
  generalize beginL psk = bl at *
  have LB := Lib.hid (And.intro lb bb)
  clear lb bb _hl _bp
  go_enter Tryd.func8, Tryd.ntmps8
  go_upto_region 0 with fail
  rename_i aK
  refine wp_region_seq ?_
  refine wpSeq_yield (S := fun _ => True) (yieldsIf_assign rfl _ rfl (.pointer none) rfl) trivial ?_
  simp only [AP]
  refine wpSeq_nil ?_
  refine (by assumption : ∀ (a : Act) (w : World), _ → _) _ _ ?_
  go_upto_region 1 with fail
  rename_i aK
  refine wp_region_seq ?_
  refine wpSeq_wp rfl ?_
  unfold Oper.wp execOp
  go_simp
  refine wpSeq_nil ?_
  refine (by assumption : ∀ (a : Act) (w : World), _ → _) _ _ ?_
  have b := (Below.refl W.heap.size W).alloc (Nat.le_refl _) (.cells (Iv .u8 (NI z32)) 28)
  have K : Blk (W.alloc (.cells (Iv .u8 (NI z32)) 28)) W.heap.size 28 (Iv .u8 (NI z32)) := Blk.new _ _ _
  change Code.wp _ _ _ _ (World.alloc W (.cells (Iv .u8 (NI z32)) 28))
  generalize World.alloc W _ = w1 at *
  replace T := T.below b
  replace S := S.below b
  have hz := sb_key K z32_length
  replace EX := Lib.hid (EX w1 T S hz (hp.below b))
  clear T S K hp hz
  replace hn := hn.out
  rw [h0, List.length_nil] at hn
  subst hn
  go_upto_region 2 with fail
  rename_i aK
  refine wp_region_seq ?_
  refine wpSeq_yield (S := fun _ => True) (yieldsIf_move rfl _ rfl (.slice p 0 c) rfl) trivial ?_
  simp only [AP]
  refine wpSeq_yield (S := fun _ => True) (v := .int .i64 0) (Or.inl ⟨by rfl, fun w' hw' => by go_simp⟩) trivial ?_
  simp only [AP]
  refine wpSeq_yield (S := fun _ => True) (v := .bool true) (Or.inl ⟨by rfl, fun w' hw' => by (go_simp; try omega)⟩) trivial ?_
  simp only [AP]
  refine wpSeq_nil ?_
  refine (by assumption : ∀ (a : Act) (w : World), _ → _) _ _ ?_
  go_upto_region 3 with fail
  rename_i aK
  refine wp_region_seq ?_
  refine wpSeq_yield (S := fun _ => True) (v := .slice (some ⟨W.heap.size, 0, none⟩) 32 32) (Or.inl ⟨by rfl, fun w' hw' => by go_simp⟩) trivial ?_
  simp only [AP]
  refine wpSeq_yield (S := fun _ => True) (yieldsIf_assign rfl _ rfl (.slice (some ⟨W.heap.size, 0, none⟩) 32 32) rfl) trivial ?_
  simp only [AP]
  refine wpSeq_nil ?_
  refine (by assumption : ∀ (a : Act) (w : World), _ → _) _ _ ?_
  go_upto_region 4 with fail
  rename_i aK
  refine wp_region_seq ?_
  refine wpSeq_yield (S := fun _ => True) (v := .slice (some ⟨W.heap.size, 0, none⟩) 32 32) (Or.inl ⟨by rfl, fun w' hw' => by go_simp⟩) trivial ?_
  simp only [AP]
  refine wpSeq_yield (S := fun _ => True) (yieldsIf_move rfl _ rfl (.slice (some ⟨W.heap.size, 0, none⟩) 32 32) rfl) trivial ?_
  simp only [AP]
  refine wpSeq_wp rfl ?_
  unfold Oper.wp execOp
  go_simp
  refine EX.out.mono ?_
  rintro _ w2 ⟨rfl, b2⟩
  replace b := b.trans (b2.mono b.size)
  clear b2 EX
  go_simp
  refine wpSeq_yield (S := fun _ => True) (yieldsIf_sched rfl _ rfl bl rfl LB.out.1) trivial ?_
  simp only [AP]
  refine wpSeq_wp rfl ?_
  unfold Oper.wp execOp
  go_simp
  refine wpSeq_yield (S := fun _ => True) (yieldsIf_assign rfl _ rfl (.pointer (some ⟨w2.heap.size, 0, none⟩)) rfl) trivial ?_
  simp only [AP]
  refine wpSeq_nil ?_
  refine (by assumption : ∀ (a : Act) (w : World), _ → _) _ _ ?_
  have hsz := b.size
  have b3 := (Below.refl w2.heap.size w2).alloc (Nat.le_refl _) (.cells (rowS (.slice none 0 0) bl) 49)
  have K : Blk (w2.alloc (.cells (rowS (.slice none 0 0) bl) 49)) w2.heap.size 49 (rowS (.slice none 0 0) bl) := Blk.new _ _ _
  have b4 := b.trans (b3.mono b.size)
  clear b b3
  generalize World.alloc w2 _ = w3 at *
  have R := Lib.hid (show SS W.heap.size w3 w2.heap.size (.slice none 0 0) [] bl from ⟨K, hsz, OwL.nil _ _, (fun h => by cases h), Bytes.nil, LB.out.2, LB.out.1⟩)
  clear K hsz
  go_wp2
  go_ret
  exact ⟨_, rfl, R.out, b4⟩
set_option maxHeartbeats 8000000 in
set_option maxRecDepth 100000 in
theorem new_some (psk : List Nat) (p : Option Addr) (n c : Nat) (W : World) (T : Tab W cuT) (S : Sq W sqT) (hp : SB W (.slice p n c) psk) (bp : Bytes psk) (hl : psk.length ≤ 100000) (h0 : psk ≠ []) :
    Calls Tryd.prog 8 #[.slice p n c] W fun e w' => ∃ g, e = .returned (.pointer (some ⟨g, 0, none⟩)) ∧ SS W.heap.size w' g (.slice none 0 0) [] (beginL psk) ∧ Below W.heap.size W w' := by
  have EX := fun (w1 : World) T S hz (hp : SB w1 (.slice p n c) psk) => extract_any cuT sqT w1 (.slice (some ⟨W.heap.size, 0, none⟩) 32 32) (.slice p n c) z32 psk T S hz hp z32_bytes bp (by rw [z32_length]; omega) (by omega)
  rw [show hmac cuT sqT z32 psk = beginL psk by unfold beginL; rw [if_neg h0]] at EX
  have lb := beginL_length psk
  have bb := beginL_bytes psk
  have hn := Lib.hid hp.len.1
  generalize beginL psk = bl at *
  have LB := Lib.hid (And.intro lb bb)
  clear lb bb hl bp
  go_enter Tryd.func8, Tryd.ntmps8
  go_upto_region 0 with fail
  rename_i aK
  refine wp_region_seq ?_
  refine wpSeq_yield (S := fun _ => True) (yieldsIf_assign rfl _ rfl (.pointer none) rfl) trivial ?_
  simp only [AP]
  refine wpSeq_nil ?_
  refine (by assumption : ∀ (a : Act) (w : World), _ → _) _ _ ?_
  go_upto_region 1 with fail
  rename_i aK
  refine wp_region_seq ?_
  refine wpSeq_wp rfl ?_
  unfold Oper.wp execOp
  go_simp
  refine wpSeq_nil ?_
  refine (by assumption : ∀ (a : Act) (w : World), _ → _) _ _ ?_
  have b := (Below.refl W.heap.size W).alloc (Nat.le_refl _) (.cells (Iv .u8 (NI z32)) 28)
  have K : Blk (W.alloc (.cells (Iv .u8 (NI z32)) 28)) W.heap.size 28 (Iv .u8 (NI z32)) := Blk.new _ _ _
  change Code.wp _ _ _ _ (World.alloc W (.cells (Iv .u8 (NI z32)) 28))
  generalize World.alloc W _ = w1 at *
  replace T := T.below b
  replace S := S.below b
  have hz := sb_key K z32_length
  replace EX := Lib.hid (EX w1 T S hz (hp.below b))
  clear T S K hp hz
  have n0 : ¬ (n : Int) = 0 := by
    intro h
    exact h0 (List.eq_nil_of_length_eq_zero (by have := hn.out; omega))
  clear hn
  go_upto_region 2 with fail
  rename_i aK
  refine wp_region_seq ?_
  refine wpSeq_yield (S := fun _ => True) (yieldsIf_move rfl _ rfl (.slice p n c) rfl) trivial ?_
  simp only [AP]
  refine wpSeq_yield (S := fun _ => True) (v := .int .i64 (n : Int)) (Or.inl ⟨by rfl, fun w' hw' => by go_simp⟩) trivial ?_
  simp only [AP]
  refine wpSeq_yield (S := fun _ => True) (v := .bool false) (Or.inl ⟨by rfl, fun w' hw' => by (go_simp; try omega)⟩) trivial ?_
  simp only [AP]
  refine wpSeq_nil ?_
  refine (by assumption : ∀ (a : Act) (w : World), _ → _) _ _ ?_
  go_upto_region 4 with fail
  rename_i aK
  refine wp_region_seq ?_
  refine wpSeq_yield (S := fun _ => True) (v := .slice (some ⟨W.heap.size, 0, none⟩) 32 32) (Or.inl ⟨by rfl, fun w' hw' => by go_simp⟩) trivial ?_
  simp only [AP]
  refine wpSeq_yield (S := fun _ => True) (yieldsIf_move rfl _ rfl (.slice p n c) rfl) trivial ?_
  simp only [AP]
  refine wpSeq_wp rfl ?_
  unfold Oper.wp execOp
  go_simp
  refine EX.out.mono ?_
  rintro _ w2 ⟨rfl, b2⟩
  replace b := b.trans (b2.mono b.size)
  clear b2 EX
  go_simp
  refine wpSeq_yield (S := fun _ => True) (yieldsIf_sched rfl _ rfl bl rfl LB.out.1) trivial ?_
  simp only [AP]
  refine wpSeq_wp rfl ?_
  unfold Oper.wp execOp
  go_simp
  refine wpSeq_yield (S := fun _ => True) (yieldsIf_assign rfl _ rfl (.pointer (some ⟨w2.heap.size, 0, none⟩)) rfl) trivial ?_
  simp only [AP]
  refine wpSeq_nil ?_
  refine (by assumption : ∀ (a : Act) (w : World), _ → _) _ _ ?_
  have hsz := b.size
  have b3 := (Below.refl w2.heap.size w2).alloc (Nat.le_refl _) (.cells (rowS (.slice none 0 0) bl) 49)
  have K : Blk (w2.alloc (.cells (rowS (.slice none 0 0) bl) 49)) w2.heap.size 49 (rowS (.slice none 0 0) bl) := Blk.new _ _ _
  have b4 := b.trans (b3.mono b.size)
  clear b b3
  generalize World.alloc w2 _ = w3 at *
  have R := Lib.hid (show SS W.heap.size w3 w2.heap.size (.slice none 0 0) [] bl from ⟨K, hsz, OwL.nil _ _, (fun h => by cases h), Bytes.nil, LB.out.2, LB.out.1⟩)
  clear K hsz
  go_wp2
  go_ret
  exact ⟨_, rfl, R.out, b4⟩
theorem new_c (psk : List Nat) (p : Option Addr) (n c : Nat) (W : World) (T : Tab W cuT) (S : Sq W sqT) (hp : SB W (.slice p n c) psk) (bp : Bytes psk) (hl : psk.length ≤ 100000) :
    Calls Tryd.prog 8 #[.slice p n c] W fun e w' => ∃ g, e = .returned (.pointer (some ⟨g, 0, none⟩)) ∧ SS W.heap.size w' g (.slice none 0 0) [] (beginL psk) ∧ Below W.heap.size W w' := by
  by_cases h : psk = []
  · exact new_nil psk p n c W T S hp bp hl h
  · exact new_some psk p n c W T S hp bp hl h
end Go.Proofs.YtdmhngkedgkndaaDoor
