/- A Cipher's keys, one by one: sixteen bytes read out of its block, put into it; a Cipher built. The program's New: a key made ready; its contract (printed by genpi.py). -/
import Derived.Test.YtpihgljdbpnehaaDoorPg
import Derived.Laws.Tables
namespace Go.Proofs.YtpihgljdbpnehaaDoor
open Go.RowKit
/-- Numbers put into a list from a place on. -/
def setL : List Nat → Nat → List Nat → List Nat
 | l, _, [] => l
 | l, o, v :: r => setL (l.set o v) (o + 1) r
theorem setL_length : ∀ (vs : List Nat) (l : List Nat) (o : Nat), (setL l o vs).length = l.length
 | [], _, _ => rfl
 | v :: r, l, o => by
  show (setL (l.set o v) (o + 1) r).length = _
  rw [setL_length r, List.length_set]
theorem setL_get : ∀ (vs : List Nat) (l : List Nat) (o t : Nat), o + vs.length ≤ l.length → (setL l o vs).getD t 0 = if o ≤ t ∧ t < o + vs.length then vs.getD (t - o) 0 else l.getD t 0
 | [], l, o, t, _ => by
  show l.getD t 0 = _
  rw [if_neg (by simp only [List.length_nil]; omega)]
 | v :: r, l, o, t, h => by
  have hl : o + 1 + r.length ≤ (l.set o v).length := by rw [List.length_set]; simp only [List.length_cons] at h; omega
  show (setL (l.set o v) (o + 1) r).getD t 0 = _
  rw [setL_get r _ _ _ hl]
  simp only [List.length_cons] at h ⊢
  by_cases h1 : t = o
  ·
   subst h1
   rw [if_neg (by omega), if_pos (by omega), Nat.sub_self, List.getD_eq_getElem?_getD, List.getElem?_set, if_pos rfl, if_pos (by omega)]
   rfl
  ·
   by_cases h2 : o + 1 ≤ t ∧ t < o + 1 + r.length
   ·
    rw [if_pos h2, if_pos (by omega), show t - o = (t - (o + 1)) + 1 by omega]
    rfl
   · rw [if_neg h2, if_neg (by omega), List.getD_eq_getElem?_getD, List.getElem?_set, if_neg (fun e => h1 e.symm), ← List.getD_eq_getElem?_getD]
theorem getD_ext {a b : List Nat} (hl : a.length = b.length) (h : ∀ t, t < a.length → a.getD t 0 = b.getD t 0) : a = b := by
 apply List.ext_getElem hl
 intro i h1 h2
 have := h i h1
 rw [List.getD_eq_getElem?_getD, List.getD_eq_getElem?_getD, List.getElem?_eq_getElem h1, List.getElem?_eq_getElem h2] at this
 exact this
theorem getD_app (a b : List Nat) (t : Nat) : (a ++ b).getD t 0 = if t < a.length then a.getD t 0 else b.getD (t - a.length) 0 := by
 by_cases h : t < a.length
 · rw [if_pos h, List.getD_eq_getElem?_getD, List.getElem?_append_left h, ← List.getD_eq_getElem?_getD]
 · rw [if_neg h, List.getD_eq_getElem?_getD, List.getElem?_append_right (by omega), ← List.getD_eq_getElem?_getD]
/-- The cells of bytes. -/
def cl (l : List Nat) : List Value := (NI l).map (Value.int .u8)
theorem cl_iv (l : List Nat) : (cl l).toArray = Iv .u8 (NI l) := rfl
theorem iv_cl (l : List Nat) : (Iv .u8 (NI l)).toList = cl l := by simp [Iv, cl]
theorem cl_length (l : List Nat) : (cl l).length = l.length := by simp [cl, NI]
theorem cl_get (l : List Nat) (j : Nat) (v : Value) (h : (cl l)[j]? = some v) : j < l.length ∧ v = .int .u8 ((l.getD j 0 : Nat) : Int) := by
 have hj : j < (cl l).length := (List.getElem?_eq_some_iff.1 h).1
 rw [cl_length] at hj
 refine ⟨hj, ?_⟩
 rw [List.getElem?_eq_getElem (by rw [cl_length]; exact hj)] at h
 simp only [Option.some.injEq] at h
 rw [← h]
 simp [cl, NI, List.getD_eq_getElem?_getD, hj]
theorem blk_setCells {t : TypeId} {g : Nat} : ∀ (vs l : List Nat) (o : Nat) (w : World), Blk w g t (Iv .u8 (NI l)) → Blk (w.setCells g o (cl vs)) g t (Iv .u8 (NI (setL l o vs)))
 | [], _, _, _, h => h
 | v :: r, l, o, w, h => by
  show Blk ((w.setCell ⟨g, o, none⟩ (.int .u8 ((v : Nat) : Int))).setCells g (o + 1) (cl r)) g t (Iv .u8 (NI (setL (l.set o v) (o + 1) r)))
  refine blk_setCells r _ _ _ ?_
  have h1 := Blk.set h o (.int .u8 ((v : Nat) : Int))
  rwa [ni_setIf] at h1
theorem blk_setCells_far {t : TypeId} {g k : Nat} {cs : Array Value} (hk : k ≠ g) : ∀ (vs : List Value) (o : Nat) (w : World), Blk w k t cs → Blk (w.setCells g o vs) k t cs
 | [], _, _, h => h
 | v :: r, o, _w, h => blk_setCells_far hk r (o + 1) _ (Blk.far (p := ⟨g, o, none⟩) h hk v)
theorem below_setCells' {B g : Nat} {w0 : World} (hg : B ≤ g) : ∀ (vs : List Value) (o : Nat) (w : World), Below B w0 w → Below B w0 (w.setCells g o vs)
 | [], _, _, h => h
 | v :: r, o, _w, h => below_setCells' hg r (o + 1) _ (h.setCell (p := ⟨g, o, none⟩) hg v)
/-- The keys' bytes, as far as n of them are put. -/
def KM (S k : List Nat) (n : Nat) : List Nat := (List.range 176).map fun t => if t < 16 * n then (ksF S k (t / 16)).1.getD (t % 16) 0 else 0
theorem KM_length (S k : List Nat) (n : Nat) : (KM S k n).length = 176 := by simp [KM]
theorem KM_get (S k : List Nat) (n t : Nat) (h : t < 176) : (KM S k n).getD t 0 = if t < 16 * n then (ksF S k (t / 16)).1.getD (t % 16) 0 else 0 := by
 simp [KM, List.getD_eq_getElem?_getD, List.getElem?_map, List.getElem?_range h]
theorem KM_zero (S k : List Nat) : KM S k 0 = List.replicate 176 0 := by
 refine getD_ext (by rw [KM_length, List.length_replicate]) fun t ht => ?_
 rw [KM_length] at ht
 rw [KM_get _ _ _ _ ht, if_neg (by omega), List.getD_eq_getElem?_getD, List.getElem?_replicate, if_pos ht]
 rfl
theorem KM_next (S k T : List Nat) (hk : k.length = 16) (n : Nat) (hn : n < 11) : setL (KM S k n ++ T) (16 * n) (ksF S k n).1 = KM S k (n + 1) ++ T := by
 have l1 := KM_length S k n
 have l2 := KM_length S k (n + 1)
 have l3 := ksF_length (S := S) hk n
 refine getD_ext (by rw [setL_length, List.length_append, List.length_append, l1, l2]) fun t ht => ?_
 rw [setL_get _ _ _ _ (by rw [List.length_append]; omega), getD_app, getD_app, l1, l2, l3]
 by_cases h : t < 176
 ·
  rw [if_pos h, if_pos h, KM_get _ _ _ _ h, KM_get _ _ _ _ h]
  by_cases h1 : 16 * n ≤ t ∧ t < 16 * n + 16
  · rw [if_pos h1, if_pos (by omega), show t / 16 = n by omega, show t % 16 = t - 16 * n by omega]
  ·
   rw [if_neg h1]
   by_cases h2 : t < 16 * n
   · rw [if_pos h2, if_pos (by omega)]
   · rw [if_neg h2, if_neg (by omega)]
 · rw [if_neg h, if_neg h, if_neg (by omega)]
/-- A key of a Cipher. -/
theorem CI.key {w : World} {g : Nat} {S k T : List Nat} {n : Nat} (h : CI w g (KM S k n) T) (hk : k.length = 16) (i : Nat) (hi : i < n) (hn : n ≤ 11) : w.rangeAt g (16 * i) (cl (ksF S k i).1) := fun j v hv => by
 obtain ⟨hj, rfl⟩ := cl_get _ _ _ hv
 rw [ksF_length hk] at hj
 rw [Blk.cell h, NI_get _ _ (by rw [List.length_append, KM_length]; omega)]
 have e : (KM S k n ++ T).getD (16 * i + j) 0 = (ksF S k i).1.getD j 0 := by
  rw [getD_app, KM_length, if_pos (by omega), KM_get _ _ _ _ (by omega), if_pos (by omega), show (16 * i + j) / 16 = i by omega, show (16 * i + j) % 16 = j by omega]
 rw [← e, List.getD_eq_getElem?_getD, List.getElem?_eq_getElem (show 16 * i + j < (KM S k n ++ T).length by rw [List.length_append, KM_length]; omega)]
 rfl
theorem CI.there {w : World} {g : Nat} {ks T : List Nat} (h : CI w g ks T) (lk : ks.length = 176) (o : Nat) (ho : o + 16 ≤ 176) : w.there g o 16 := fun j hj => by
 refine ⟨?_, Blk.frozen h _⟩
 rw [Blk.cell h, NI_get _ _ (by rw [List.length_append]; omega)]
 rfl
theorem CI.put {w : World} {g : Nat} {S k T : List Nat} {n : Nat} (h : CI w g (KM S k n) T) (hk : k.length = 16) (hn : n < 11) : CI (w.setCells g (16 * n) (cl (ksF S k n).1)) g (KM S k (n + 1)) T := by
 have := blk_setCells (ksF S k n).1 _ (16 * n) w h
 rw [KM_next _ _ _ hk n hn] at this
 exact this
theorem info_mid (l : List Nat) (h : l.length = 16) : (Tryd.prog.info? 27).map (·.size) = some (cl l).length := by
 rw [cl_length, h]
 kernel_rfl
/-- A Cipher built of its Subs. -/
theorem fold_setL : ∀ (S l : List Nat) (off j : Nat), ((cl S).zipIdx j).foldl (fun cs (p : Value × Nat) => cs.setIfInBounds (off + p.2) p.1) (Iv .u8 (NI l)) = Iv .u8 (NI (setL l (off + j) S))
 | [], _, _, _ => rfl
 | v :: r, l, off, j => by
  show ((cl r).zipIdx (j + 1)).foldl _ ((Iv .u8 (NI l)).setIfInBounds (off + j) (.int .u8 ((v : Nat) : Int))) = _
  rw [ni_setIf, fold_setL r _ off (j + 1)]
  rfl
def zC : List Nat := List.replicate 432 0
theorem ciph_zero : (Tryd.prog.info? 114).bind (fun i => i.zero) = some (.agg (Iv .u8 (NI zC))) := by kernel_rfl
theorem ciph_places : (match Tryd.prog.underlying 114 with | some (.struct fields) => fields.toList.mapM (fun f => (Tryd.prog.info? f.type).map fun i => (f.offset, i.size)) | _ => none) = some [(0, 176), (176, 256)] := by kernel_rfl
theorem ciph_und : ∃ fields, Tryd.prog.underlying 114 = some (.struct fields) := ⟨_, Tryd.underlying114⟩
set_option maxRecDepth 100000 in
theorem run_ciph (w : World) (S : List Nat) (lS : S.length = 256) : (Instr.build 114 #[(1, .agg (Iv .u8 (NI S)))]).run Tryd.prog w = .ok (.agg (Iv .u8 (NI (List.replicate 176 0 ++ S)))) w := by
 refine run_build w 114 _ _ ?_
 unfold Program.built
 have h1 := ciph_zero
 have h2 := ciph_places
 obtain ⟨fields, hu⟩ := ciph_und
 rw [hu] at h2 ⊢
 simp only at h2
 cases hi : Tryd.prog.info? 114 with
 | none => rw [hi] at h1; cases h1
 | some it =>
  rw [hi] at h1
  simp only [Option.bind_some] at h1
  simp only [h1, h2]
  have e := fold_setL S zC 176 0
  have e2 : setL zC 176 S = List.replicate 176 0 ++ S := by
   have lz : zC.length = 432 := List.length_replicate
   refine getD_ext (by rw [setL_length, List.length_append, List.length_replicate, lS, lz]) fun t ht => ?_
   rw [setL_length, lz] at ht
   rw [setL_get _ _ _ _ (by omega), getD_app, List.length_replicate]
   by_cases h : t < 176
   ·
    rw [if_neg (by omega), if_pos h]
    unfold zC
    rw [List.getD_eq_getElem?_getD, List.getD_eq_getElem?_getD, List.getElem?_replicate, List.getElem?_replicate, if_pos ht, if_pos h]
   · rw [if_pos (by omega), if_neg h]
  rw [Nat.add_zero, e2] at e
  have hsz : (Iv .u8 (NI S)).size = 256 := by rw [Iv_size, NI_length, lS]
  have hz : (Iv .u8 (NI zC)).size = 432 := by rw [Iv_size, NI_length]; exact List.length_replicate
  simp only [Instr.fill, Value.cells, List.getElem?_toArray, List.getElem?_cons_succ, List.getElem?_cons_zero, hsz, hz]
  rw [if_neg (by decide)]
  congr 1
  have ez : (Iv .u8 (NI S)).zipIdx = ((cl S).zipIdx 0).toArray := by rw [← cl_iv]; simp
  rw [ez, List.foldl_toArray]
  exact e
end Go.Proofs.YtpihgljdbpnehaaDoor
namespace Go.Proofs.YtpihgljdbpnehaaDoor
open Go.RowKit
section
variable {P : Program} {md : Region.Mode} {ops : Array Oper} {Q : Exit → Act → World → Prop} {S : World → Prop}
theorem sstep (i : Nat) {oi : Oper} {fuel : Nat} {listed : Array Bool} {a : Act} {w : World} (hi : ops.toList[i]? = some oi) (hgd : oi.guard = none) (hr : Region.ready md ops listed = [i])
  (h : oi.wp P a w (fun a' w' => S w' ∧ wpAnyS P md ops Q S fuel (listed.setIfInBounds i true) a' w') Q) : wpAnyS P md ops Q S (fuel + 1) listed a w := by
 refine wpAnyS_one hr ?_
 unfold wpOp
 rw [← Array.getElem?_toList, hi]
 have hwd : Region.wanted oi (yielded ops a.tmps) = true := by simp [Region.wanted, hgd]
 simp only [hwd, if_true]
 left
 exact h
end
theorem info_bk (l : List Nat) (h : l.length = 16) : (Tryd.prog.info? 27).map (·.size) = some (Iv .u8 (NI l)).size := info_b l h
theorem CI.below_setCells {w0 w : World} {g : Nat} (hg : w0.heap.size ≤ g) (h : Below w0.heap.size w0 w) (o : Nat) (vs : List Value) : Below w0.heap.size w0 (w.setCells g o vs) := below_setCells' hg vs o w h
theorem range_apart {w : World} {g i n : Nat} {cs vs : List Value} (h : w.rangeAt g (16 * i) cs) (hc : cs.length = 16) (hin : i < n) : (w.setCells g (16 * n) vs).rangeAt g (16 * i) cs :=
 World.rangeAt_setCells_apart h g (16 * n) vs (Or.inr (Or.inl (by omega)))
theorem run_ciph0 (w : World) (k : List Nat) : (Instr.build 114 #[(1, .agg (Iv .u8 (NI boxL)))]).run Tryd.prog w = .ok (.agg (Iv .u8 (NI (KM boxL k 0 ++ boxL)))) w := by
 rw [KM_zero]
 exact run_ciph w boxL boxL_length
set_option maxHeartbeats 8000000 in
set_option maxRecDepth 100000 in
theorem new_any (k : List Nat) (lk : k.length = 16) (bk : ∀ x ∈ k, x < 256) (w : World) :
  Calls Tryd.prog 46 #[.agg (Iv .u8 (NI k))] w fun e w' => ∃ g, e = .returned (.pointer (some ⟨g, 0, none⟩)) ∧ w.heap.size ≤ g ∧ CI w' g (KM boxL k 11) boxL ∧ Below w.heap.size w w' := by
 go_enter Tryd.func46, Tryd.ntmps46
 go_upto_region 1 with fail
 rename_i aK
 have B0 := (Below.refl w.heap.size w).alloc (Nat.le_refl _) (.cells (Iv .u8 (NI k)) 27)
 have K0 : Blk (w.alloc (.cells (Iv .u8 (NI k)) 27)) w.heap.size 27 (Iv .u8 (NI k)) := Blk.new w _ _
 generalize World.alloc w _ = W at *
 refine wp_region_seq ?_
 refine wpSeq_wp rfl ?_
 unfold Oper.wp execOp
 go_simp
 refine (subs_any _).mono ?_
 rintro _ w1 ⟨rfl, b1⟩
 replace K0 := Blk.below' K0 b1
 replace B0 := B0.trans (b1.mono B0.size)
 clear b1
 go_simp
 have lB := boxL_length
 have bB := boxL_bytes
 refine wpSeq_yield (S := fun w' => w' = w1) (v := .agg (Iv .u8 (NI (KM boxL k 0 ++ boxL)))) (Or.inl ⟨rfl, fun w' hw' => ?_⟩) rfl ?_
 ·
  simp only [execOp, List.map_toArray, List.map_cons, List.map_nil, Act.eval, Sem.run_bind, Sem.run_pure]
  show ((Sem.run _ (Instr.build _ #[(1, Value.agg (Iv .u8 (NI boxL)))]) w').andThen _) = _
  rw [run_ciph0 w' k]
  rfl
 refine wpSeq_wp rfl ?_
 unfold Oper.wp execOp
 go_simp
 have C0 : CI (w1.alloc (.cells (Iv .u8 (NI (KM boxL k 0 ++ boxL))) 114)) w1.heap.size (KM boxL k 0) boxL := Blk.new w1 _ _
 have b2 : Below w1.heap.size w1 (w1.alloc (.cells (Iv .u8 (NI (KM boxL k 0 ++ boxL))) 114)) := (Below.refl _ _).alloc (Nat.le_refl _) _
 have lt1 := K0.lt
 replace K0 := Blk.below' K0 b2
 replace B0 := B0.trans (b2.mono B0.size)
 have hgn : w.heap.size ≠ w1.heap.size := by omega
 have hgl : w.heap.size ≤ w1.heap.size := by omega
 clear b2
 generalize World.alloc w1 _ = W2 at *
 generalize w1.heap.size = g at *
 refine wpSeq_yield (S := fun w' => w' = W2) (yieldsIf_assign rfl _ rfl (.pointer (some ⟨g, 0, none⟩)) rfl) rfl ?_
 refine wpSeq_nil ?_
 refine aK _ _ ?_
 clear aK
 go_upto_region 2 with fail
 rename_i aK
 refine wp_region_S (S := fun w' => Blk w' w.heap.size 27 (Iv .u8 (NI k))) (by kernel_rfl) ?_
 have hS : Blk W2.drew w.heap.size 27 (Iv .u8 (NI k)) := K0.drew
 replace C0 : CI W2.drew _ _ _ := C0.of_block rfl
 replace B0 := below_drew B0
 clear K0
 generalize World.drew W2 = V at *
 refine wpAnyS_takeL 0 rfl (by kernel_rfl) (by kernel_rfl) (by kernel_rfl) (fun _ _ _ h => h) (yieldsIf_move rfl _ rfl (Value.pointer (some ⟨g, 0, none⟩)) rfl) hS ?_
 simp only [Act.put, List.setIfInBounds_toArray, List.set_cons_zero, List.set_cons_succ]
 refine wpAnyS_takeL 1 rfl (by kernel_rfl) (by kernel_rfl) (by kernel_rfl) (fun _ _ _ h => h) (yieldsIf_row_wanted rfl 27 _ rfl w.heap.size rfl 27 _ _ (fun _ h => h) Tryd.underlying27 rfl (info_bk k lk)) hS ?_
 simp only [Act.put, List.setIfInBounds_toArray, List.set_cons_zero, List.set_cons_succ]
 refine wpAnyS_takeL 2 (v := (Value.pointer (some ⟨g, 0, none⟩))) rfl (by kernel_rfl) (by kernel_rfl) (by kernel_rfl) (fun _ _ _ h => h) (Or.inl ⟨by rfl, ?_⟩) hS ?_
 ·
  intro w' hw'
  go_simp
 simp only [Act.put, List.setIfInBounds_toArray, List.set_cons_zero, List.set_cons_succ]
 refine wpAnyS_takeL 3 (v := (Value.pointer (some ⟨g, 0, none⟩))) rfl (by kernel_rfl) (by kernel_rfl) (by kernel_rfl) (fun _ _ _ h => h) (Or.inl ⟨by rfl, ?_⟩) hS ?_
 ·
  intro w' hw'
  go_simp
 simp only [Act.put, List.setIfInBounds_toArray, List.set_cons_zero, List.set_cons_succ]
 refine wpAnyS_takeL 4 (v := (Value.pointer (some ⟨g, 0, none⟩))) rfl (by kernel_rfl) (by kernel_rfl) (by kernel_rfl) (fun _ _ _ h => h) (Or.inl ⟨by rfl, ?_⟩) hS ?_
 ·
  intro w' hw'
  go_simp
 simp only [Act.put, List.setIfInBounds_toArray, List.set_cons_zero, List.set_cons_succ]
 refine sstep 5 rfl rfl (by kernel_rfl) ?_
 refine wp_store_mid 27 _ _ rfl g 0 (Iv .u8 (NI k)) rfl rfl (by rw [Iv_size, NI_length, lk]; exact C0.there (KM_length _ _ _) 0 (by omega)) (info_bk k lk) (Iv_one _ _) ?_
 rw [iv_cl]
 refine ⟨blk_setCells_far hgn _ _ _ hS, ?_⟩
 refine wpAnyS_done (by kernel_rfl) ?_ _
 refine aK _ _ ?_
 clear aK
 have C1 : CI (V.setCells g 0 (cl k)) g (KM boxL k (0 + 1)) boxL := C0.put lk (n := 0) (by omega)
 have B1 := CI.below_setCells hgl B0 0 (cl k)
 clear C0 B0 hS
 generalize World.setCells V g 0 (cl k) = U at *
 go_upto_region 5 with fail
 go_loopw [4, 14] (fun p i wr => ∃ n : Nat, n ≤ 10 ∧ i = .int .i64 (n : Int) ∧ p = .int .u8 (((ksF boxL k n).2 : Nat) : Int) ∧ CI wr g (KM boxL k (n + 1)) boxL ∧ Below w.heap.size w wr) (fun _ i _ => (10 - intOf i).toNat)
 case atStart => exact ⟨0, by omega, rfl, rfl, C1, B1⟩
 case round =>
  clear C1 B1
  obtain ⟨n, hn, rfl, rfl, C1, B1⟩ := hrel
  by_cases h10 : n = 10
  ·
   subst h10
   go_wp2
   go_ret
   exact ⟨g, rfl, hgl, C1, B1⟩
  ·
   have i1 : (n : Int) < 10 := by omega
   have i0 : (0 : Int) ≤ (n : Int) := by omega
   have i2 : (n : Int) < 11 := by omega
   have i3 : (n : Int) + 1 < 11 := by omega
   have i4 : (0 : Int) ≤ (n : Int) + 1 := by omega
   have w1 : IntKind.i64.wrap ((n : Int) + 1) = ((n + 1 : Nat) : Int) := by rw [IntKind.wrap_i64]; omega
   have w2 : wrap64 ((n : Int) + 1) = (n : Int) + 1 := by unfold wrap64; omega
   have lX := ksF_length (S := boxL) lk n
   have bX := ksF_lt boxL_bytes bk n
   have lp := ksF_p boxL k n
   have eY := Lib.hid (show (ksF boxL k (n + 1)).1 = nextL boxL (ksF boxL k n).1 (ksF boxL k n).2 from rfl)
   have eP := Lib.hid (show (ksF boxL k (n + 1)).2 = dblN (ksF boxL k n).2 from rfl)
   go_upto_region 7 with fail
   rename_i aK
   refine wp_region_S (S := fun w' => w'.rangeAt g (16 * n) (cl (ksF boxL k n).1)) (by kernel_rfl) ?_
   replace C1 : CI wr.drew _ _ _ := C1.of_block rfl
   replace B1 := below_drew B1
   have hS := C1.key lk n (by omega) (by omega)
   generalize World.drew wr = V2 at *
   generalize (ksF boxL k n).2 = pw at *
   refine wpAnyS_takeL 0 rfl (by kernel_rfl) (by kernel_rfl) (by kernel_rfl) (fun _ _ _ h => h) (yieldsIf_move rfl _ rfl (Value.pointer (some ⟨g, 0, none⟩)) rfl) hS ?_
   simp only [Act.put, List.setIfInBounds_toArray, List.set_cons_zero, List.set_cons_succ]
   refine wpAnyS_takeL 1 rfl (by kernel_rfl) (by kernel_rfl) (by kernel_rfl) (fun _ _ _ h => h) (yieldsIf_move rfl _ rfl (Value.int .i64 (n : Int)) rfl) hS ?_
   simp only [Act.put, List.setIfInBounds_toArray, List.set_cons_zero, List.set_cons_succ]
   refine wpAnyS_takeL 2 (v := (Value.int .i64 ((n : Int) + 1))) rfl (by kernel_rfl) (by kernel_rfl) (by kernel_rfl) (fun _ _ _ h => h) (Or.inl ⟨by rfl, ?_⟩) hS ?_
   ·
    intro w' hw'
    go_simp
   simp only [Act.put, List.setIfInBounds_toArray, List.set_cons_zero, List.set_cons_succ]
   refine wpAnyS_takeL 3 rfl (by kernel_rfl) (by kernel_rfl) (by kernel_rfl) (fun _ _ _ h => h) (yieldsIf_move rfl _ rfl (Value.pointer (some ⟨g, 0, none⟩)) rfl) hS ?_
   simp only [Act.put, List.setIfInBounds_toArray, List.set_cons_zero, List.set_cons_succ]
   refine wpAnyS_takeL 4 rfl (by kernel_rfl) (by kernel_rfl) (by kernel_rfl) (fun _ _ _ h => h) (yieldsIf_move rfl _ rfl (Value.pointer (some ⟨g, 0, none⟩)) rfl) hS ?_
   simp only [Act.put, List.setIfInBounds_toArray, List.set_cons_zero, List.set_cons_succ]
   refine wpAnyS_takeL 5 rfl (by kernel_rfl) (by kernel_rfl) (by kernel_rfl) (fun _ _ _ h => h) (yieldsIf_move rfl _ rfl (Value.int .i64 (n : Int)) rfl) hS ?_
   simp only [Act.put, List.setIfInBounds_toArray, List.set_cons_zero, List.set_cons_succ]
   refine wpAnyS_takeL 6 (v := (Value.pointer (some ⟨g, 0, none⟩))) rfl (by kernel_rfl) (by kernel_rfl) (by kernel_rfl) (fun _ _ _ h => h) (Or.inl ⟨by rfl, ?_⟩) hS ?_
   ·
    intro w' hw'
    go_simp
   simp only [Act.put, List.setIfInBounds_toArray, List.set_cons_zero, List.set_cons_succ]
   refine wpAnyS_takeL 7 (v := (Value.pointer (some ⟨g, 0, none⟩))) rfl (by kernel_rfl) (by kernel_rfl) (by kernel_rfl) (fun _ _ _ h => h) (Or.inl ⟨by rfl, ?_⟩) hS ?_
   ·
    intro w' hw'
    go_simp
   simp only [Act.put, List.setIfInBounds_toArray, List.set_cons_zero, List.set_cons_succ]
   refine wpAnyS_takeL 8 (v := (Value.pointer (some ⟨g, 16 * n, none⟩))) rfl (by kernel_rfl) (by kernel_rfl) (by kernel_rfl) (fun _ _ _ h => h) (Or.inl ⟨by rfl, ?_⟩) hS ?_
   ·
    intro w' hw'
    go_simp
   simp only [Act.put, List.setIfInBounds_toArray, List.set_cons_zero, List.set_cons_succ]
   refine wpAnyS_takeL 9 rfl (by kernel_rfl) (by kernel_rfl) (by kernel_rfl) (fun _ _ _ h => h) ((show YieldsIf _ _ _ _ (Value.agg (Iv .u8 (NI (ksF boxL k n).1))) _ from yieldsIf_load_mid rfl 27 _ rfl g (16 * n) rfl (cl (ksF boxL k n).1) _ (fun _ h => h) Tryd.underlying27 rfl (info_mid _ lX))) hS ?_
   simp only [Act.put, List.setIfInBounds_toArray, List.set_cons_zero, List.set_cons_succ]
   refine wpAnyS_takeL 10 rfl (by kernel_rfl) (by kernel_rfl) (by kernel_rfl) (fun _ _ _ h => h) (yieldsIf_move rfl _ rfl (Value.int .u8 ((pw : Nat) : Int)) rfl) hS ?_
   simp only [Act.put, List.setIfInBounds_toArray, List.set_cons_zero, List.set_cons_succ]
   refine wpAnyS_takeL 12 (v := (Value.pointer (some ⟨g, 0, none⟩))) rfl (by kernel_rfl) (by kernel_rfl) (by kernel_rfl) (fun _ _ _ h => h) (Or.inl ⟨by rfl, ?_⟩) hS ?_
   ·
    intro w' hw'
    go_simp
   simp only [Act.put, List.setIfInBounds_toArray, List.set_cons_zero, List.set_cons_succ]
   refine wpAnyS_takeL 13 (v := (Value.pointer (some ⟨g, 0, none⟩))) rfl (by kernel_rfl) (by kernel_rfl) (by kernel_rfl) (fun _ _ _ h => h) (Or.inl ⟨by rfl, ?_⟩) hS ?_
   ·
    intro w' hw'
    go_simp
   simp only [Act.put, List.setIfInBounds_toArray, List.set_cons_zero, List.set_cons_succ]
   have N := Lib.hid (next_any g (KM boxL k (n + 1)) boxL (ksF boxL k n).1 pw (KM_length _ _ _) boxL_length boxL_bytes lX bX lp V2 C1)
   rw [← eY.out] at N
   refine sstep 11 rfl rfl (by kernel_rfl) ?_
   unfold Oper.wp execOp
   go_simp
   refine N.out.mono ?_
   rintro _ w9 ⟨rfl, b9⟩
   have hS9 : w9.rangeAt g (16 * n) (cl (ksF boxL k n).1) := (C1.below b9).key lk n (by omega) (by omega)
   replace C1 := C1.below b9
   replace B1 := B1.trans (b9.mono B1.size)
   clear hS b9 N
   refine ⟨hS9, ?_⟩
   have hS := hS9
   clear hS9
   refine wpAnyS_takeL 14 (v := (Value.pointer (some ⟨g, 16 * (n + 1), none⟩))) rfl (by kernel_rfl) (by kernel_rfl) (by kernel_rfl) (fun _ _ _ h => h) (Or.inl ⟨by rfl, ?_⟩) hS ?_
   ·
    intro w' hw'
    go_simp
   simp only [Act.put, List.setIfInBounds_toArray, List.set_cons_zero, List.set_cons_succ]
   have lY := ksF_length (S := boxL) lk (n + 1)
   refine sstep 15 rfl rfl (by kernel_rfl) ?_
   refine wp_store_mid 27 _ _ rfl g (16 * (n + 1)) (Iv .u8 (NI (ksF boxL k (n + 1)).1)) rfl rfl (by rw [Iv_size, NI_length, lY]; exact C1.there (KM_length _ _ _) _ (by omega)) (info_bk _ lY) (Iv_one _ _) ?_
   rw [iv_cl]
   refine ⟨range_apart hS (by rw [cl_length, lX]) (by omega), ?_⟩
   refine wpAnyS_done (by kernel_rfl) ?_ _
   refine aK _ _ ?_
   clear aK
   have C2 : CI (w9.setCells g (16 * (n + 1)) (cl (ksF boxL k (n + 1)).1)) g (KM boxL k (n + 1 + 1)) boxL := C1.put lk (by omega)
   have B2 := CI.below_setCells hgl B1 (16 * (n + 1)) (cl (ksF boxL k (n + 1)).1)
   clear C1 B1 hS lY
   generalize World.setCells w9 g _ _ = U at *
   have D := Lib.hid (double_any pw lp)
   rw [← eP.out] at D
   go_wp2_with fail
   refine (D.out _).mono ?_
   rintro _ w8 ⟨rfl, b8⟩
   replace C2 := C2.below b8
   replace B2 := B2.trans (b8.mono B2.size)
   clear b8 D
   go_wp2
   exact ⟨⟨n + 1, by omega, by congr 1, rfl, C2, B2⟩, by simp only [intOf]; omega⟩
end Go.Proofs.YtpihgljdbpnehaaDoor
