/- What the program's guard reckons, as plain arithmetic. A Cipher's keys, one by one: sixteen bytes read out of its block, put into it; a Cipher built. -/
import Derived.Test.YtpihgljdbpnehaaDoorNf0Ja
import Derived.Test.YtpihgljdbpnehaaDoorPg0Gf
import Derived.Laws.Tables
namespace Go.Proofs.YtpihgljdbpnehaaDoor
open Go.RowKit
theorem nonK_stop (nn : List Nat) (pn j : Nat) (hj : j ≤ 8) (h : pn / 256 ^ j = 0) : nonK nn pn j = nonceN nn pn := by
  unfold nonK nonceN
  refine List.map_congr_left fun i hi => ?_
  have hi12 := List.mem_range.1 hi
  by_cases c : 12 ≤ i + j
  · rw [if_pos c, if_neg (by omega)]
  · rw [if_neg c]
    by_cases i4 : i < 4
    · rw [if_pos i4]
    · rw [if_neg i4]
      have e : 256 ^ (11 - i) = 256 ^ j * 256 ^ (11 - i - j) := by rw [← Nat.pow_add]; congr 1; omega
      rw [e, ← Nat.div_div_eq_div_mul, h, Nat.zero_div, Nat.zero_mod, Nat.xor_zero]
theorem hid_take (m : List Nat) (a n bits : Nat) (x : List Nat) (k : Nat) : (hidN m a n bits x).take k = hidN m a n bits (x.take k) := by
  refine ext0 (by simp [hidN_length]) fun t ht => ?_
  simp only [List.length_take, hidN_length] at ht
  have g : ∀ l : List Nat, t < k → (l.take k).getD t 0 = l.getD t 0 := fun l h => by
    rw [List.getD_eq_getElem?_getD, List.getElem?_take, if_pos h, ← List.getD_eq_getElem?_getD]
  rw [g _ (by omega), hidN_get _ _ _ _ _ _ (by omega), hidN_get _ _ _ _ _ _ (by simp only [List.length_take]; omega), g _ (by omega)]
  by_cases t0 : t = 0
  · subst t0
    rw [if_pos rfl, if_pos rfl, g _ (by omega)]
  · rw [if_neg t0, if_neg t0]
theorem hid_drop (m : List Nat) (a n bits : Nat) (x : List Nat) (ha : 1 ≤ a) : (hidN m a n bits x).drop (a + n) = x.drop (a + n) := by
  refine ext0 (by simp [hidN_length]) fun t ht => ?_
  simp only [List.length_drop, hidN_length] at ht
  have g : ∀ l : List Nat, (l.drop (a + n)).getD t 0 = l.getD (a + n + t) 0 := fun l => by
    rw [List.getD_eq_getElem?_getD, List.getElem?_drop, ← List.getD_eq_getElem?_getD]
  rw [g, g, hidN_get _ _ _ _ _ _ (by omega), if_neg (by omega), if_neg (by omega)]
theorem smp_take (a e : Nat) (x : List Nat) (h : a + 20 ≤ e) : smpN a (x.take e) = smpN a x := by
  unfold smpN
  rw [List.drop_take, List.take_take, Nat.min_eq_left (by omega)]
/-- What is answered: no seal, bits that must be nought, or what it carries. -/
def resG (f rest pn : Nat) : Option (List Nat) → Nat × Nat × List Nat
  | none => (11, 0, [])
  | some t => if f &&& rest ≠ 0 then (5, 0, []) else (0, pn, t)
/-- A packet opened the way the program does it. -/
theorem openG_is (K N Mk x : List Nat) (a e next : Nat) (bits rest f n s pn : Nat) (ah : List Nat) (o : Option (List Nat)) (ha : 1 ≤ a) (hae : a + 20 ≤ e) (he : e ≤ x.length)
    (hbits : bits = if x.getD 0 0 < 128 then 31 else 15) (hrest : rest = if x.getD 0 0 < 128 then 28 else 12) (hf : f = x.getD 0 0 ^^^ ((maskN Mk a x).getD 0 0 &&& bits)) (hn : n = f % 4 + 1) (hah : ah = hidN (maskN Mk a x) a n bits (x.take (a + n)))
    (hs : s = beN 0 (ah.drop a)) (hpn : pn = fullN s n next) (ho : o = openL K (nonceN N pn) ah ((x.take e).drop (a + n))) :
    openG K N Mk x (a : Int) (e : Int) next = resG f rest pn o := by
  have n4 : n ≤ 4 := by omega
  have m0 : maskN Mk a (x.take e) = maskN Mk a x := by
    unfold maskN
    rw [smp_take _ _ _ hae]
  have x0 : (x.take e).getD 0 0 = x.getD 0 0 := by
    rw [List.getD_eq_getElem?_getD, List.getElem?_take, if_pos (by omega), ← List.getD_eq_getElem?_getD]
  unfold openG
  rw [if_neg (by omega), Int.toNat_natCast, Int.toNat_natCast, m0, x0, ← hbits, ← hf]
  unfold openH
  rw [x0, ← hbits, ← hn]
  dsimp only
  have t1 : (hidN (maskN Mk a x) a n bits (x.take e)).take (a + n) = ah := by
    rw [hid_take, hah, List.take_take, Nat.min_eq_left (by omega)]
  have t2 : ((hidN (maskN Mk a x) a n bits (x.take e)).drop a).take n = ah.drop a := by
    rw [← t1, List.drop_take, Nat.add_sub_cancel_left]
  rw [t1, t2, hid_drop _ _ _ _ _ ha, ← hs, ← hpn, ← hrest]
  rw [ho]
  rfl
theorem hid_first (m : List Nat) (a n bits : Nat) (x : List Nat) (h : 0 < x.length) : (hidN m a n bits x).getD 0 0 = x.getD 0 0 ^^^ (m.getD 0 0 &&& bits) := by
  rw [hidN_get _ _ _ _ _ _ h, if_pos rfl]
theorem and_three (f : Nat) (hf : f < 256) : bits BinOp.and IntKind.u8 (f : Int) 3 = ((f % 4 : Nat) : Int) := by
  have h := (by decide +kernel : ∀ m : Fin 256, bits BinOp.and IntKind.u8 ((m.val : Nat) : Int) 3 = ((m.val % 4 : Nat) : Int))
  exact h ⟨f, hf⟩
theorem and_high (f : Nat) (hf : f < 256) : bits BinOp.and IntKind.u8 (f : Int) 128 = if f < 128 then 0 else 128 := by
  have h := (by decide +kernel : ∀ m : Fin 256, bits BinOp.and IntKind.u8 ((m.val : Nat) : Int) 128 = if m.val < 128 then 0 else 128)
  exact h ⟨f, hf⟩
end Go.Proofs.YtpihgljdbpnehaaDoor
namespace Go.Proofs.YtpihgljdbpnehaaDoor
open Go.RowKit
/-- Numbers put into a list from a place on. -/
def setL : List Nat → Nat → List Nat → List Nat
  | l, _, [] => l
  | l, o, v :: r => setL (l.set o v) (o + 1) r
theorem setL_length : ∀ (vs : List Nat) (l : List Nat) (o : Nat), (setL l o vs).length = l.length
  | [], _, _ => rfl
  | v :: r, l, o => by
    show (setL (l.set o v) (o + 1) r).length = _
    rw [setL_length r, List.length_set]
theorem setL_get : ∀ (vs : List Nat) (l : List Nat) (o t : Nat), o + vs.length ≤ l.length → (setL l o vs).getD t 0 = if o ≤ t ∧ t < o + vs.length then vs.getD (t - o) 0 else l.getD t 0
  | [], l, o, t, _ => by
    show l.getD t 0 = _
    rw [if_neg (by simp only [List.length_nil]; omega)]
  | v :: r, l, o, t, h => by
    have hl : o + 1 + r.length ≤ (l.set o v).length := by rw [List.length_set]; simp only [List.length_cons] at h; omega
    show (setL (l.set o v) (o + 1) r).getD t 0 = _
    rw [setL_get r _ _ _ hl]
    simp only [List.length_cons] at h ⊢
    by_cases h1 : t = o
    · subst h1
      rw [if_neg (by omega), if_pos (by omega), Nat.sub_self, List.getD_eq_getElem?_getD, List.getElem?_set, if_pos rfl, if_pos (by omega)]
      rfl
    · by_cases h2 : o + 1 ≤ t ∧ t < o + 1 + r.length
      · rw [if_pos h2, if_pos (by omega), show t - o = (t - (o + 1)) + 1 by omega]
        rfl
      · rw [if_neg h2, if_neg (by omega), List.getD_eq_getElem?_getD, List.getElem?_set, if_neg (fun e => h1 e.symm), ← List.getD_eq_getElem?_getD]
theorem getD_ext {a b : List Nat} (hl : a.length = b.length) (h : ∀ t, t < a.length → a.getD t 0 = b.getD t 0) : a = b := by
  apply List.ext_getElem hl
  intro i h1 h2
  have := h i h1
  rw [List.getD_eq_getElem?_getD, List.getD_eq_getElem?_getD, List.getElem?_eq_getElem h1, List.getElem?_eq_getElem h2] at this
  exact this
theorem getD_app (a b : List Nat) (t : Nat) : (a ++ b).getD t 0 = if t < a.length then a.getD t 0 else b.getD (t - a.length) 0 := by
  by_cases h : t < a.length
  · rw [if_pos h, List.getD_eq_getElem?_getD, List.getElem?_append_left h, ← List.getD_eq_getElem?_getD]
  · rw [if_neg h, List.getD_eq_getElem?_getD, List.getElem?_append_right (by omega), ← List.getD_eq_getElem?_getD]
/-- The cells of bytes. -/
def cl (l : List Nat) : List Value := (NI l).map (Value.int .u8)
theorem cl_iv (l : List Nat) : (cl l).toArray = Iv .u8 (NI l) := rfl
theorem iv_cl (l : List Nat) : (Iv .u8 (NI l)).toList = cl l := by simp [Iv, cl]
theorem cl_length (l : List Nat) : (cl l).length = l.length := by simp [cl, NI]
theorem cl_get (l : List Nat) (j : Nat) (v : Value) (h : (cl l)[j]? = some v) : j < l.length ∧ v = .int .u8 ((l.getD j 0 : Nat) : Int) := by
  have hj : j < (cl l).length := (List.getElem?_eq_some_iff.1 h).1
  rw [cl_length] at hj
  refine ⟨hj, ?_⟩
  rw [List.getElem?_eq_getElem (by rw [cl_length]; exact hj)] at h
  simp only [Option.some.injEq] at h
  rw [← h]
  simp [cl, NI, List.getD_eq_getElem?_getD, hj]
theorem blk_setCells {t : TypeId} {g : Nat} : ∀ (vs l : List Nat) (o : Nat) (w : World), Blk w g t (Iv .u8 (NI l)) → Blk (w.setCells g o (cl vs)) g t (Iv .u8 (NI (setL l o vs)))
  | [], _, _, _, h => h
  | v :: r, l, o, w, h => by
    show Blk ((w.setCell ⟨g, o, none⟩ (.int .u8 ((v : Nat) : Int))).setCells g (o + 1) (cl r)) g t (Iv .u8 (NI (setL (l.set o v) (o + 1) r)))
    refine blk_setCells r _ _ _ ?_
    have h1 := Blk.set h o (.int .u8 ((v : Nat) : Int))
    rwa [ni_setIf] at h1
theorem blk_setCells_far {t : TypeId} {g k : Nat} {cs : Array Value} (hk : k ≠ g) : ∀ (vs : List Value) (o : Nat) (w : World), Blk w k t cs → Blk (w.setCells g o vs) k t cs
  | [], _, _, h => h
  | v :: r, o, _w, h => blk_setCells_far hk r (o + 1) _ (Blk.far (p := ⟨g, o, none⟩) h hk v)
theorem below_setCells' {B g : Nat} {w0 : World} (hg : B ≤ g) : ∀ (vs : List Value) (o : Nat) (w : World), Below B w0 w → Below B w0 (w.setCells g o vs)
  | [], _, _, h => h
  | v :: r, o, _w, h => below_setCells' hg r (o + 1) _ (h.setCell (p := ⟨g, o, none⟩) hg v)
/-- The keys' bytes, as far as n of them are put. -/
def KM (S k : List Nat) (n : Nat) : List Nat := (List.range 176).map fun t => if t < 16 * n then (ksF S k (t / 16)).1.getD (t % 16) 0 else 0
theorem KM_length (S k : List Nat) (n : Nat) : (KM S k n).length = 176 := by simp [KM]
theorem KM_get (S k : List Nat) (n t : Nat) (h : t < 176) : (KM S k n).getD t 0 = if t < 16 * n then (ksF S k (t / 16)).1.getD (t % 16) 0 else 0 := by
  simp [KM, List.getD_eq_getElem?_getD, List.getElem?_map, List.getElem?_range h]
theorem KM_zero (S k : List Nat) : KM S k 0 = List.replicate 176 0 := by
  refine getD_ext (by rw [KM_length, List.length_replicate]) fun t ht => ?_
  rw [KM_length] at ht
  rw [KM_get _ _ _ _ ht, if_neg (by omega), List.getD_eq_getElem?_getD, List.getElem?_replicate, if_pos ht]
  rfl
theorem KM_next (S k T : List Nat) (hk : k.length = 16) (n : Nat) (hn : n < 11) : setL (KM S k n ++ T) (16 * n) (ksF S k n).1 = KM S k (n + 1) ++ T := by
  have l1 := KM_length S k n
  have l2 := KM_length S k (n + 1)
  have l3 := ksF_length (S := S) hk n
  refine getD_ext (by rw [setL_length, List.length_append, List.length_append, l1, l2]) fun t ht => ?_
  rw [setL_get _ _ _ _ (by rw [List.length_append]; omega), getD_app, getD_app, l1, l2, l3]
  by_cases h : t < 176
  · rw [if_pos h, if_pos h, KM_get _ _ _ _ h, KM_get _ _ _ _ h]
    by_cases h1 : 16 * n ≤ t ∧ t < 16 * n + 16
    · rw [if_pos h1, if_pos (by omega), show t / 16 = n by omega, show t % 16 = t - 16 * n by omega]
    · rw [if_neg h1]
      by_cases h2 : t < 16 * n
      · rw [if_pos h2, if_pos (by omega)]
      · rw [if_neg h2, if_neg (by omega)]
  · rw [if_neg h, if_neg h, if_neg (by omega)]
/-- A key of a Cipher. -/
theorem CI.key {w : World} {g : Nat} {S k T : List Nat} {n : Nat} (h : CI w g (KM S k n) T) (hk : k.length = 16) (i : Nat) (hi : i < n) (hn : n ≤ 11) : w.rangeAt g (16 * i) (cl (ksF S k i).1) := fun j v hv => by
  obtain ⟨hj, rfl⟩ := cl_get _ _ _ hv
  rw [ksF_length hk] at hj
  rw [Blk.cell h, NI_get _ _ (by rw [List.length_append, KM_length]; omega)]
  have e : (KM S k n ++ T).getD (16 * i + j) 0 = (ksF S k i).1.getD j 0 := by
    rw [getD_app, KM_length, if_pos (by omega), KM_get _ _ _ _ (by omega), if_pos (by omega), show (16 * i + j) / 16 = i by omega, show (16 * i + j) % 16 = j by omega]
  rw [← e, List.getD_eq_getElem?_getD, List.getElem?_eq_getElem (show 16 * i + j < (KM S k n ++ T).length by rw [List.length_append, KM_length]; omega)]
  rfl
theorem CI.there {w : World} {g : Nat} {ks T : List Nat} (h : CI w g ks T) (lk : ks.length = 176) (o : Nat) (ho : o + 16 ≤ 176) : w.there g o 16 := fun j hj => by
  refine ⟨?_, Blk.frozen h _⟩
  rw [Blk.cell h, NI_get _ _ (by rw [List.length_append]; omega)]
  rfl
theorem CI.put {w : World} {g : Nat} {S k T : List Nat} {n : Nat} (h : CI w g (KM S k n) T) (hk : k.length = 16) (hn : n < 11) : CI (w.setCells g (16 * n) (cl (ksF S k n).1)) g (KM S k (n + 1)) T := by
  have := blk_setCells (ksF S k n).1 _ (16 * n) w h
  rw [KM_next _ _ _ hk n hn] at this
  exact this
theorem info_mid (l : List Nat) (h : l.length = 16) : (Tryd.prog.info? 27).map (·.size) = some (cl l).length := by
  rw [cl_length, h]
  kernel_rfl
/-- A Cipher built of its Subs. -/
theorem fold_setL : ∀ (S l : List Nat) (off j : Nat), ((cl S).zipIdx j).foldl (fun cs (p : Value × Nat) => cs.setIfInBounds (off + p.2) p.1) (Iv .u8 (NI l)) = Iv .u8 (NI (setL l (off + j) S))
  | [], _, _, _ => rfl
  | v :: r, l, off, j => by
    show ((cl r).zipIdx (j + 1)).foldl _ ((Iv .u8 (NI l)).setIfInBounds (off + j) (.int .u8 ((v : Nat) : Int))) = _
    rw [ni_setIf, fold_setL r _ off (j + 1)]
    rfl
def zC : List Nat := List.replicate 432 0
theorem ciph_zero : (Tryd.prog.info? 114).bind (fun i => i.zero) = some (.agg (Iv .u8 (NI zC))) := by kernel_rfl
theorem ciph_places : (match Tryd.prog.underlying 114 with | some (.struct fields) => fields.toList.mapM (fun f => (Tryd.prog.info? f.type).map fun i => (f.offset, i.size)) | _ => none) = some [(0, 176), (176, 256)] := by kernel_rfl
theorem ciph_und : ∃ fields, Tryd.prog.underlying 114 = some (.struct fields) := ⟨_, Tryd.underlying114⟩
set_option maxRecDepth 100000 in
theorem run_ciph (w : World) (S : List Nat) (lS : S.length = 256) : (Instr.build 114 #[(1, .agg (Iv .u8 (NI S)))]).run Tryd.prog w = .ok (.agg (Iv .u8 (NI (List.replicate 176 0 ++ S)))) w := by
  refine run_build w 114 _ _ ?_
  unfold Program.built
  have h1 := ciph_zero
  have h2 := ciph_places
  obtain ⟨fields, hu⟩ := ciph_und
  rw [hu] at h2 ⊢
  simp only at h2
  cases hi : Tryd.prog.info? 114 with
  | none => rw [hi] at h1; cases h1
  | some it =>
    rw [hi] at h1
    simp only [Option.bind_some] at h1
    simp only [h1, h2]
    have e := fold_setL S zC 176 0
    have e2 : setL zC 176 S = List.replicate 176 0 ++ S := by
      have lz : zC.length = 432 := List.length_replicate
      refine getD_ext (by rw [setL_length, List.length_append, List.length_replicate, lS, lz]) fun t ht => ?_
      rw [setL_length, lz] at ht
      rw [setL_get _ _ _ _ (by omega), getD_app, List.length_replicate]
      by_cases h : t < 176
      · rw [if_neg (by omega), if_pos h]
        unfold zC
        rw [List.getD_eq_getElem?_getD, List.getD_eq_getElem?_getD, List.getElem?_replicate, List.getElem?_replicate, if_pos ht, if_pos h]
      · rw [if_pos (by omega), if_neg h]
    rw [Nat.add_zero, e2] at e
    have hsz : (Iv .u8 (NI S)).size = 256 := by rw [Iv_size, NI_length, lS]
    have hz : (Iv .u8 (NI zC)).size = 432 := by rw [Iv_size, NI_length]; exact List.length_replicate
    simp only [Instr.fill, Value.cells, List.getElem?_toArray, List.getElem?_cons_succ, List.getElem?_cons_zero, hsz, hz]
    rw [if_neg (by decide)]
    congr 1
    have ez : (Iv .u8 (NI S)).zipIdx = ((cl S).zipIdx 0).toArray := by rw [← cl_iv]; simp
    rw [ez, List.foldl_toArray]
    exact e
end Go.Proofs.YtpihgljdbpnehaaDoor
