/- The program's Readers in memory: New, Code, Left, Fail. The program's Readers: take, Bytes. Strings as bytes, back and forth; certificates in memory. -/
import Derived.Test.YtegbnadnodlalaaDoorRa0E2c
import Derived.Lib.ConvBytes
import Derived.Deep.MidRow
import Derived.Laws.Tables
namespace Go.Proofs.YtegbnadnodlalaaDoor
open Go.RowKit
theorem gb_set {B g : Nat} (hg : B = g) (w : World) (i : Nat) (v : Value) : w.grownBy (w.setCell ⟨g, i, none⟩ v) (some B) := by
  subst hg
  exact ⟨rfl, rfl, rfl, by simp, fun k _ hk => Below.heap_setCell w _ v k (fun e => hk (by rw [e]))⟩
/-- A Reader at p, its block B: l is left, c the fault. -/
def RM (B : Nat) (w : World) (p : Option Addr) (l : List Nat) (c : Nat) : Prop := ∃ g pb cb, p = some ⟨g, 0, none⟩ ∧ B = g ∧ Blk w g 84 #[.slice pb l.length cb, .int .i64 ((c : Nat) : Int)] ∧ SB w (.slice pb l.length cb) l ∧ (∀ a, pb = some a → a.block < g) ∧ (∀ x ∈ l, x < 256) ∧ l.length ≤ 1000000
theorem RM.below {B : Nat} {w w' : World} {p : Option Addr} {l : List Nat} {c : Nat} (h : RM B w p l c) (b : Below w.heap.size w w') : RM B w' p l c := by
  obtain ⟨g, pb, cb, e, hg, K, S, ne, bb, ll⟩ := h
  exact ⟨g, pb, cb, e, hg, K.below' b, S.below b, ne, bb, ll⟩
theorem SB.far {w : World} {g : Nat} {p : Option Addr} {n c : Nat} {l : List Nat} (h : SB w (.slice p n c) l) (ne : ∀ a, p = some a → a.block ≠ g) (i : Nat) (v : Value) : SB (w.setCell ⟨g, i, none⟩ v) (.slice p n c) l := by
  obtain ⟨q, d, e, hc, h0 | ⟨gb, o, rfl, A⟩⟩ := h
  · exact ⟨q, d, e, hc, Or.inl h0⟩
  · simp only [Value.slice.injEq] at e
    obtain ⟨rfl, rfl, rfl⟩ := e
    exact ⟨_, _, rfl, hc, Or.inr ⟨gb, o, rfl, A.of_block (heap_setCell_other w _ gb v (ne _ rfl))⟩⟩
end Go.Proofs.YtegbnadnodlalaaDoor
namespace Go.Proofs.YtegbnadnodlalaaDoor
open Go.RowKit
theorem tailP_block {p : Option Addr} {c k g : Nat} (h : ∀ a, p = some a → a.block < g) : ∀ a, tailP p c k = some a → a.block < g := fun a e => by
  cases p with
  | none => cases e
  | some b =>
    have hb := h b rfl
    simp only [tailP, Option.map_some, Option.some.injEq] at e
    rw [← e]
    by_cases hc : c = k
    · rw [if_pos hc]
      exact hb
    · rw [if_neg hc]
      have ab : (b.add k).block = b.block := by unfold Addr.add; split <;> rfl
      rw [ab]
      exact hb
theorem RM.rest {B : Nat} {w : World} {g pb cb k} {l : List Nat} (hk : k ≤ l.length) (hg : B = g) (K : Blk w g 84 #[.slice pb l.length cb, .int .i64 ((0 : Nat) : Int)]) (S : SB w (.slice pb l.length cb) l) (ne : ∀ a, pb = some a → a.block < g) (bb : ∀ x ∈ l, x < 256) (ll : l.length ≤ 1000000) :
    RM B (w.setCell ⟨g, 0, none⟩ (.slice (tailP pb cb k) (l.length - k) (cb - k))) (some ⟨g, 0, none⟩) (l.drop k) 0 ∧ w.grownBy (w.setCell ⟨g, 0, none⟩ (.slice (tailP pb cb k) (l.length - k) (cb - k))) (some B) := by
  have hl : (l.drop k).length = l.length - k := List.length_drop
  refine ⟨⟨g, tailP pb cb k, cb - k, rfl, hg, ?_, ?_, tailP_block ne, fun x hx => bb x (List.mem_of_mem_drop hx), by omega⟩, gb_set hg w 0 _⟩
  · rw [hl]
    exact K.set 0 _
  · rw [hl]
    exact (S.tail k hk).far (fun a e => Nat.ne_of_lt (tailP_block ne a e)) 0 _
end Go.Proofs.YtegbnadnodlalaaDoor
namespace Go.Proofs.YtegbnadnodlalaaDoor
open Go.RowKit
/-- A string's bytes. -/
def bL (s : ByteArray) : List Nat := s.data.toList.map UInt8.toNat
theorem bL_length (s : ByteArray) : (bL s).length = s.size := by
  rw [bL, List.length_map, Array.length_toList]
  rfl
theorem bL_bytes (s : ByteArray) : Bytes (bL s) := fun x hx => by
  obtain ⟨b, _, rfl⟩ := List.mem_map.1 hx
  exact b.toNat_lt
theorem conv_str (w : World) (s : ByteArray) : ∃ v w', (convert 9 22 (.string s)).run Tryd.prog w = .ok v w' ∧ SB w' v (bL s) ∧ Below w.heap.size w w' := by
  refine ⟨_, _, Lib.run_convert_string_bytes w 9 22 5 s Tryd.underlying9 Tryd.underlying22 Tryd.underlying5, ?_, ?_⟩
  · refine SB.of_ba' ⟨fun i hi => ?_, ?_⟩ (bL_length s).symm ?_
    · rw [bL_length] at hi
      rw [Nat.zero_add, Lib.bytesWorld_cell _ _ _ _ hi]
      simp [bL, hi]
    · rw [Lib.bytesWorld_size]
      omega
    · rw [bL_length]
      exact grownCap_ge _ _ _ _
  · exact ⟨rfl, rfl, rfl, by rw [Lib.bytesWorld_size]; omega, fun k hk => Lib.bytesWorld_at_old _ _ _ k hk⟩
/-! Cells put into a row from a place on. -/
def setV : List Value → Nat → List Value → List Value
  | l, _, [] => l
  | l, o, v :: r => setV (l.set o v) (o + 1) r
theorem setV_split : ∀ (R A X B : List Value) (o : Nat), A.length = o → X.length = R.length → setV (A ++ (X ++ B)) o R = A ++ (R ++ B)
  | [], A, X, B, o, _, hx => by
    obtain rfl := List.length_eq_zero_iff.1 hx
    rfl
  | v :: r, A, [], B, o, _, hx => by cases hx
  | v :: r, A, x :: xs, B, o, ha, hx => by
    have e : (A ++ (x :: xs ++ B)).set o v = (A ++ [v]) ++ (xs ++ B) := by
      rw [← ha, List.set_append_right _ _ (Nat.le_refl _), Nat.sub_self]
      simp
    show setV ((A ++ (x :: xs ++ B)).set o v) (o + 1) r = _
    rw [e, setV_split r (A ++ [v]) xs B (o + 1) (by simp [ha]) (by simpa using hx)]
    simp
theorem blk_setV {t : TypeId} {g : Nat} : ∀ (vs l : List Value) (o : Nat) (w : World), Blk w g t l.toArray → Blk (w.setCells g o vs) g t (setV l o vs).toArray
  | [], _, _, _, h => h
  | v :: r, l, o, w, h => by
    show Blk ((w.setCell ⟨g, o, none⟩ v).setCells g (o + 1) r) g t (setV (l.set o v) (o + 1) r).toArray
    refine blk_setV r _ _ _ ?_
    have h1 := Blk.set h o v
    rwa [List.setIfInBounds_toArray] at h1
theorem blk_setV_far {t : TypeId} {g k : Nat} {cs : Array Value} (hk : k ≠ g) : ∀ (vs : List Value) (o : Nat) (w : World), Blk w k t cs → Blk (w.setCells g o vs) k t cs
  | [], _, _, h => h
  | v :: r, o, w, h => blk_setV_far hk r (o + 1) _ (Blk.far (p := ⟨g, o, none⟩) h hk v)
theorem below_setV {B g : Nat} {w0 : World} (hg : B ≤ g) : ∀ (vs : List Value) (o : Nat) (w : World), Below B w0 w → Below B w0 (w.setCells g o vs)
  | [], _, _, h => h
  | v :: r, o, w, h => below_setV hg r (o + 1) _ (h.setCell (p := ⟨g, o, none⟩) hg v)
theorem fold_setV : ∀ (vs l : List Value) (off j : Nat), (vs.zipIdx j).foldl (fun cs (p : Value × Nat) => cs.setIfInBounds (off + p.2) p.1) l.toArray = (setV l (off + j) vs).toArray
  | [], _, _, _ => rfl
  | v :: r, l, off, j => by
    show (r.zipIdx (j + 1)).foldl _ (l.toArray.setIfInBounds (off + j) v) = _
    rw [List.setIfInBounds_toArray, fold_setV r _ off (j + 1)]
    rfl
/-! Certificates. -/
def z64 : List Nat := List.replicate 64 0
theorem z32_length : z32.length = 32 := List.length_replicate
theorem z64_length : z64.length = 64 := List.length_replicate
theorem vals_iv (l : List Nat) : Iv .u8 (NI l) = (vals l).toArray := by simp [Iv, NI, vals]
theorem vals_one' (l : List Nat) : ∀ v ∈ vals l, v.oneCell' = true := one_at l
def cerL (t : ByteArray) (k s : List Nat) : List Value := [Value.string t] ++ (vals k ++ (vals s ++ []))
def cerV (t : ByteArray) (k s : List Nat) : Array Value := (cerL t k s).toArray
theorem cerL_length (t : ByteArray) {k s : List Nat} (hk : k.length = 32) (hs : s.length = 64) : (cerL t k s).length = 97 := by simp [cerL, vals_length, hk, hs]
theorem cerV_size (t : ByteArray) {k s : List Nat} (hk : k.length = 32) (hs : s.length = 64) : (cerV t k s).size = 97 := by rw [cerV, List.size_toArray, cerL_length t hk hs]
theorem cerV_one (t : ByteArray) (k s : List Nat) : (cerV t k s).all (·.oneCell') = true := all_oneCell_toArray fun v hv => by
  simp only [cerL, List.append_nil, List.mem_append, List.mem_singleton] at hv
  rcases hv with rfl | h | h
  · rfl
  · exact vals_one' _ _ h
  · exact vals_one' _ _ h
theorem info_cert : (Tryd.prog.info? 37).map (·.size) = some 97 := by kernel_rfl
theorem info_cerV (t : ByteArray) {k s : List Nat} (hk : k.length = 32) (hs : s.length = 64) : (Tryd.prog.info? 37).map (·.size) = some (cerV t k s).size := by rw [cerV_size t hk hs]; exact info_cert
theorem cert_zero : (Tryd.prog.info? 37).bind (fun i => i.zero) = some (.agg (cerV ⟨#[]⟩ z32 z64)) := by kernel_rfl
theorem cert_places : (match Tryd.prog.underlying 37 with | some (.struct fields) => fields.toList.mapM (fun f => (Tryd.prog.info? f.type).map fun i => (f.offset, i.size)) | _ => none) = some [(0, 1), (1, 32), (33, 64)] := by kernel_rfl
theorem cert_und : ∃ fields, Tryd.prog.underlying 37 = some (.struct fields) := ⟨_, Tryd.underlying37⟩
theorem run_cert (w : World) (t : ByteArray) (k : List Nat) (lk : k.length = 32) : (Instr.build 37 #[(0, .string t), (1, .agg (Iv .u8 (NI k)))]).run Tryd.prog w = .ok (.agg (cerV t k z64)) w := by
  refine run_build w 37 _ _ ?_
  unfold Program.built
  have h1 := cert_zero
  have h2 := cert_places
  obtain ⟨fields, hu⟩ := cert_und
  rw [hu] at h2 ⊢
  simp only at h2
  cases hi : Tryd.prog.info? 37 with
  | none => rw [hi] at h1; cases h1
  | some it =>
    rw [hi] at h1
    simp only [Option.bind_some] at h1
    simp only [h1, h2]
    have e1 : setV (cerL ⟨#[]⟩ z32 z64) (0 + 0) [.string t] = cerL t z32 z64 := setV_split [.string t] [] [.string ⟨#[]⟩] _ 0 rfl rfl
    have e2 : setV (cerL t z32 z64) (1 + 0) (vals k) = cerL t k z64 := setV_split (vals k) [.string t] (vals z32) _ 1 rfl (by rw [vals_length, vals_length, lk, z32_length])
    have f1 := fold_setV [.string t] (cerL ⟨#[]⟩ z32 z64) 0 0
    have f2 := fold_setV (vals k) (cerL t z32 z64) 1 0
    rw [e1] at f1
    rw [e2] at f2
    have hsz : (vals k).length = 32 := by rw [vals_length, lk]
    have s1 : (cerL ⟨#[]⟩ z32 z64).length = 97 := cerL_length _ z32_length z64_length
    have s2 : (cerL t z32 z64).length = 97 := cerL_length _ z32_length z64_length
    rw [vals_iv]
    unfold cerV
    have ez1 : (#[Value.string t] : Array Value).zipIdx = (([Value.string t] : List Value).zipIdx 0).toArray := by simp
    have ez2 : (vals k).toArray.zipIdx = ((vals k).zipIdx 0).toArray := by simp
    have g1 : Array.foldl (fun (cs : Array Value) (p : Value × Nat) => cs.setIfInBounds (0 + p.2) p.1) (cerL ⟨#[]⟩ z32 z64).toArray (#[Value.string t] : Array Value).zipIdx = (cerL t z32 z64).toArray := by
      rw [ez1, List.foldl_toArray]
      exact f1
    have g2 : Array.foldl (fun (cs : Array Value) (p : Value × Nat) => cs.setIfInBounds (1 + p.2) p.1) (cerL t z32 z64).toArray (vals k).toArray.zipIdx = (cerL t k z64).toArray := by
      rw [ez2, List.foldl_toArray]
      exact f2
    simp only [Instr.fill, Value.cells, List.getElem?_toArray, List.getElem?_cons_succ, List.getElem?_cons_zero, List.size_toArray, hsz, s1]
    rw [g1, g2]
    simp only [List.size_toArray, s2]
    rfl
/-- A certificate's parts where it lies. -/
theorem cert_name {w : World} {g : Nat} {t : ByteArray} {k s : List Nat} (h : Blk w g 37 (cerV t k s)) : w.cell? ⟨g, 0, none⟩ = some (.string t) := h.cell 0
theorem cert_range (A X B : List Value) {w : World} {g : Nat} {ty : TypeId} (h : Blk w g ty (A ++ (X ++ B)).toArray) (o : Nat) (ho : A.length = o) : w.rangeAt g o X := fun j v hv => by
  have hj : j < X.length := (List.getElem?_eq_some_iff.1 hv).1
  rw [h.cell, List.getElem?_toArray, List.getElem?_append_right (by omega), List.getElem?_append_left (by omega), ← hv]
  congr 1
  omega
theorem ba_range {w : World} {g o : Nat} {l : List Nat} (h : w.rangeAt g o (vals l)) (hg : g < w.heap.size) : BA w g o l := ⟨fun i hi => h i _ (by simp [vals, hi]), hg⟩
theorem cert_key {w : World} {g : Nat} {t : ByteArray} {k s : List Nat} (h : Blk w g 37 (cerV t k s)) : w.rangeAt g 1 (vals k) := cert_range [.string t] (vals k) (vals s ++ []) h 1 rfl
theorem cert_sig {w : World} {g : Nat} {t : ByteArray} {k s : List Nat} (hk : k.length = 32) (h : Blk w g 37 (cerV t k s)) : w.rangeAt g 33 (vals s) := by
  have e : cerL t k s = ([.string t] ++ vals k) ++ (vals s ++ []) := by simp [cerL]
  unfold cerV at h
  rw [e] at h
  exact cert_range _ _ _ h 33 (by simp [vals_length, hk])
theorem row_there {w : World} {g : Nat} {ty : TypeId} {cs : Array Value} (h : Blk w g ty cs) (o n : Nat) (hn : o + n ≤ cs.size) : w.there g o n := fun j hj => by
  refine ⟨?_, h.frozen _⟩
  rw [h.cell, Array.getElem?_eq_getElem (by omega)]
  rfl
theorem cert_put {w : World} {g : Nat} {t : ByteArray} {k s : List Nat} (hk : k.length = 32) (hs : s.length = 64) (h : Blk w g 37 (cerV t k s)) (r : List Nat) (hr : r.length = 64) : Blk (w.setCells g 33 (vals r)) g 37 (cerV t k r) := by
  have e : ∀ s, cerL t k s = ([.string t] ++ vals k) ++ (vals s ++ []) := fun s => by simp [cerL]
  have h1 := blk_setV (vals r) (cerL t k s) 33 w h
  rw [e s, setV_split (vals r) _ (vals s) [] 33 (by simp [vals_length, hk]) (by rw [vals_length, vals_length, hs, hr]), ← e r] at h1
  exact h1
end Go.Proofs.YtegbnadnodlalaaDoor
