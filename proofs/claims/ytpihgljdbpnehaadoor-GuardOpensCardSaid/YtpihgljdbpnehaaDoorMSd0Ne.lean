/- mac.Key: its contract, by Label's. mac.Label and mac.Key where nothing is too long, and where something is. Keys of secrets, the first secrets, as numbers; the chapter's example. What the program's guard is asked to answer; Awake (printed by gen13/ne.py). -/
import Derived.Test.YtpihgljdbpnehaaDoorMMd0MSc
import Derived.Test.YtpihgljdbpnehaaDoorNa0MHa
namespace Go.Proofs.YtpihgljdbpnehaaDoor
open Go.RowKit
theorem copy32 (l : List Nat) (h : l.length = 32) : ((Iv .u8 (List.replicate 32 0)).toList.take 0 ++ (l.map (fun x => Value.int .u8 ((x : Nat) : Int)) ++ (Iv .u8 (List.replicate 32 0)).toList.drop (0 + l.length))).toArray = Iv .u8 (NI l) := by
 rw [h]
 simp [Iv, NI]
/-- The memory of Key: the secret's cell, the result's, the key's. -/
structure KyW (w : World) (s : List Nat) (wr : World) : Prop where
 b : Below w.heap.size w wr
 key : Blk wr w.heap.size 23 (Iv .u8 (NI s))
 res : Blk wr (w.heap.size + 1) 23 (Iv .u8 (List.replicate 32 0))
 k : Blk wr (w.heap.size + 2) 23 (Iv .u8 (List.replicate 32 0))
theorem KyW.below {w : World} {s : List Nat} {wr w2 : World} (h : KyW w s wr) (hb : Below wr.heap.size wr w2) : KyW w s w2 :=
 ⟨h.b.trans (hb.mono h.b.size), h.key.below' hb, h.res.below' hb, h.k.below' hb⟩
theorem KyW.new (w : World) (s : List Nat) : KyW w s (((w.alloc (.cells (Iv .u8 (NI s)) 23)).alloc (.cells (Iv .u8 (List.replicate 32 0)) 23)).alloc (.cells (Iv .u8 (List.replicate 32 0)) 23)) :=
 ⟨(((Below.refl _ _).alloc (Nat.le_refl _) _).alloc (by simp) _).alloc (by simp; omega) _, ((Blk.new _ _ _).alloc _).alloc _, (Blk.new' (by simp) _ _).alloc _, Blk.new' (by simp) _ _⟩
set_option maxHeartbeats 4000000 in
set_option maxRecDepth 100000 in
theorem key_any (w : World) (s : List Nat) (t : ByteArray) (c : List Nat) (cv : Value) (hc : SB w cv c) (ls : s.length = 32) (O : List Nat) (lO : O.length = 32) (ee : Int)
  (E : ∀ w' : World, Below w.heap.size w w' → Calls Tryd.prog 41 #[.agg (Iv .u8 (NI s)), .string t, cv, .int .i64 32] w' fun e w2 => ∃ u, e = .returned (.tuple #[u, .int .i64 ee]) ∧ ((u = .slice none 0 0 ∧ O = List.replicate 32 0) ∨ (∃ g, u = .slice (some ⟨g, 0, none⟩) 32 32 ∧ BA w2 g 0 O)) ∧ Below w'.heap.size w' w2) :
  Calls Tryd.prog 23 #[.agg (Iv .u8 (NI s)), .string t, cv] w fun e w' => e = .returned (.agg (Iv .u8 (NI O))) ∧ Below w.heap.size w w' := by
 have hc' := hc
 obtain ⟨pc, cc, rfl, _⟩ := hc'
 go_enter Tryd.func23, Tryd.ntmps23
 go_upto_region 2 with fail
 generalize hW : World.alloc (World.alloc (World.alloc w _) _) _ = W
 have F : KyW w s W := by
  subst hW
  exact KyW.new w s
 clear hW
 have CE := Lib.hid (E W F.b)
 go_wp2_with (refine wpList_load_row rfl 23 _ rfl w.heap.size rfl 23 _ (0, 0) _ F.key Tryd.underlying23 rfl (info_N32 _ ls) ?_)
 refine CE.out.mono ?_
 rintro _ w1 ⟨u, rfl, hu, b1⟩
 have F1 := F.below b1
 clear CE F b1 E hc
 rcases hu with ⟨rfl, rfl⟩ | ⟨g, rfl, A⟩
 ·
  have HK := F1.k
  have HR := F1.res
  have HB := F1.b
  clear F1
  have lz : (List.replicate 32 (0 : Int)).length = 32 := by simp
  obtain ⟨L, hL⟩ : ∃ L, L = List.replicate 32 (0 : Int) := ⟨_, rfl⟩
  rw [← hL] at HK lz
  have HL := Lib.hid hL
  clear hL
  have i32 : (Tryd.prog.info? 23).map (·.size) = some (Iv .u8 L).size := by rw [Iv_size, lz]; kernel_rfl
  go_upto_region 4 with (refine wpList_copy_nothing rfl _ _ _ _ rfl 5 Tryd.underlying24 (by kernel_rfl) _ _ _ _ _ _ rfl rfl (by simp) ?_)
  go_wp2_with (first | (refine wpList_load_row rfl 23 _ rfl (w.heap.size + 2) rfl 23 _ (0, 0) _ HK Tryd.underlying23 rfl i32 ?_) | (refine wpList_store_row rfl 23 _ _ rfl (w.heap.size + 1) (Iv .u8 L) rfl rfl 23 _ HR i32 (by rw [Iv_size, Iv_size, lz]; rfl) (Iv_one _ _) ?_))
  exact bodyPost_ret (results_cell_row rfl _ _ _ 23 _ (0, 0) _ rfl (HR.row _) Tryd.underlying23 rfl i32) rfl ⟨by rw [HL.out]; rfl, below_setRow HB (Nat.le_succ _) _⟩
 ·
  have gl := A.blk
  have i32 := info_N32 O lO
  obtain ⟨V, hV⟩ : ∃ V, V = w1.setRow (w.heap.size + 2) (Iv .u8 (NI O)) := ⟨_, rfl⟩
  have HK := F1.k.row (Iv .u8 (NI O))
  have HR := F1.res.rowFar (k := w.heap.size + 2) (by omega) (Iv .u8 (NI O))
  have HB := below_setRow F1.b (show w.heap.size ≤ w.heap.size + 2 by omega) (Iv .u8 (NI O))
  rw [← hV] at HK HR HB
  have c32 := copy32 O lO
  go_upto_region 4 with (refine wpList_copy_own rfl _ _ _ _ rfl 5 Tryd.underlying24 (by kernel_rfl) (w.heap.size + 2) 0 _ _ ⟨g, 0, none⟩ _ _ rfl rfl (Iv .u8 (List.replicate 32 0)) 23 F1.k (O.map fun x => Value.int .u8 ((x : Nat) : Int)) (by rw [List.length_map, lO]; rfl) (cells_at A) (by simp [Iv]; omega) (one_at _) ?_)
  simp only [List.length_map]
  rw [c32, ← hV]
  clear F1 A hV c32
  obtain ⟨L, hL⟩ : ∃ L, L = NI O := ⟨_, rfl⟩
  rw [← hL] at HK i32
  have lL : L.length = 32 := by rw [hL, NI_length, lO]
  have HL := Lib.hid hL
  clear hL
  go_wp2_with (first | (refine wpList_load_row rfl 23 _ rfl (w.heap.size + 2) rfl 23 _ (0, 0) _ HK Tryd.underlying23 rfl i32 ?_) | (refine wpList_store_row rfl 23 _ _ rfl (w.heap.size + 1) (Iv .u8 L) rfl rfl 23 _ HR i32 (by rw [Iv_size, Iv_size, lL]; rfl) (Iv_one _ _) ?_))
  exact bodyPost_ret (results_cell_row rfl _ _ _ 23 _ (0, 0) _ rfl (HR.row _) Tryd.underlying23 rfl i32) rfl ⟨by rw [HL.out], below_setRow HB (Nat.le_succ _) _⟩
end Go.Proofs.YtpihgljdbpnehaaDoor
namespace Go.Proofs.YtpihgljdbpnehaaDoor
open Go.RowKit
theorem purpL_length (x y : Nat) (t : ByteArray) (c : List Nat) : (purpL x y (bL t) c).length = t.size + c.length + 10 := by
 simp [purpL, six, bL_length]
 omega
theorem purpL_bytes (x y : Nat) (t : ByteArray) (c : List Nat) (hx : x < 256) (hy : y < 256) (ht : t.size ≤ 249) (lc : c.length ≤ 255) (bc : Bytes c) : Bytes (purpL x y (bL t) c) := by
 unfold purpL
 refine ((((?_ : Bytes _).append ?_).append (bL_bytes t)).append ?_).append bc
 ·
  intro z hz
  simp only [List.mem_cons, List.not_mem_nil, or_false, bL_length] at hz
  omega
 ·
  intro z hz
  simp only [six, List.mem_cons, List.not_mem_nil, or_false] at hz
  omega
 ·
  intro z hz
  simp only [List.mem_cons, List.not_mem_nil, or_false] at hz
  omega
/-- What is read of a label. -/
def labL (s : List Nat) (t : ByteArray) (c : List Nat) (m : Nat) : List Nat := expandL cuT sqT s (purpL 0 m (bL t) c) m
theorem label_ok (w : World) (s : List Nat) (t : ByteArray) (c : List Nat) (cv : Value) (m : Nat) (T : Tab w cuT) (S : Sq w sqT) (hc : SB w cv c) (ls : s.length = 32) (bs : Bytes s) (bc : Bytes c) (ht : t.size ≤ 249) (lc : c.length ≤ 255) (hm : m < 256) :
  Calls Tryd.prog 41 #[.agg (Iv .u8 (NI s)), .string t, cv, .int .i64 (m : Int)] w fun e w' => ∃ p, e = .returned (.tuple #[.slice p m m, .int .i64 0]) ∧ SB w' (.slice p m m) (labL s t c m) ∧ (p = none ∨ ∃ g, p = some ⟨g, 0, none⟩) ∧ Below w.heap.size w w' := by
 have lp := purpL_length 0 m t c
 refine (label_any w s t c cv (m : Int) T S hc ls ht lc 0 m (Or.inr ⟨m, hm, rfl, rfl, rfl⟩) (fun u k w' => ∃ p, u = .slice p m m ∧ k = 0 ∧ SB w' (.slice p m m) (labL s t c m) ∧ (p = none ∨ ∃ g, p = some ⟨g, 0, none⟩))
  (fun w' v T S hv => (expand_any cuT sqT w' s _ v m T S ls bs hv (purpL_bytes 0 m t c (by decide) hm ht lc bc) (by omega) (by omega)).mono ?_)).mono ?_
 ·
  rintro e w2 ⟨p, rfl, h2, b, hp⟩
  exact ⟨_, _, rfl, ⟨p, rfl, rfl, h2, hp.imp id fun ⟨g, h, _⟩ => ⟨g, h⟩⟩, b⟩
 ·
  rintro e w2 ⟨u, k, rfl, ⟨p, rfl, rfl, h2, hp⟩, b⟩
  exact ⟨p, rfl, h2, hp, b⟩
theorem labL_length (s : List Nat) (t : ByteArray) (c : List Nat) (m : Nat) : (labL s t c m).length = m := expandL_length _ _ _ _ _
theorem key_ok (w : World) (s : List Nat) (t : ByteArray) (c : List Nat) (cv : Value) (T : Tab w cuT) (S : Sq w sqT) (hc : SB w cv c) (ls : s.length = 32) (bs : Bytes s) (bc : Bytes c) (ht : t.size ≤ 249) (lc : c.length ≤ 255) :
  Calls Tryd.prog 23 #[.agg (Iv .u8 (NI s)), .string t, cv] w fun e w' => e = .returned (.agg (Iv .u8 (NI (labL s t c 32)))) ∧ Below w.heap.size w w' := by
 refine key_any w s t c cv hc ls _ (labL_length s t c 32) 0 fun w' b => (label_ok w' s t c cv 32 (T.below b) (S.below b) (hc.below b) ls bs bc ht lc (by decide)).mono ?_
 rintro e w2 ⟨p, rfl, h2, hp, b2⟩
 refine ⟨_, rfl, Or.inr ?_, b2⟩
 obtain ⟨q, cc, e, _, h0 | ⟨g, o, hq, hb⟩⟩ := h2
 ·
  have := labL_length s t c 32
  rw [h0] at this
  cases this
 ·
  simp only [Value.slice.injEq] at e
  obtain ⟨rfl, _, _⟩ := e
  rcases hp with h | ⟨g', h⟩
  ·
   rw [h] at hq
   cases hq
  ·
   rw [h] at hq
   simp only [Option.some.injEq, Addr.mk.injEq] at hq
   obtain ⟨rfl, rfl, _⟩ := hq
   exact ⟨g', by rw [h], hb⟩
end Go.Proofs.YtpihgljdbpnehaaDoor
namespace Go.Proofs.YtpihgljdbpnehaaDoor
open Go.RowKit
/-- The strings that the chapter names. -/
def sKey : ByteArray := { data := #[113, 117, 105, 99, 32, 107, 101, 121] }
def sIv : ByteArray := { data := #[113, 117, 105, 99, 32, 105, 118] }
def sHp : ByteArray := { data := #[113, 117, 105, 99, 32, 104, 112] }
def sCl : ByteArray := { data := #[99, 108, 105, 101, 110, 116, 32, 105, 110] }
def sSv : ByteArray := { data := #[115, 101, 114, 118, 101, 114, 32, 105, 110] }
def saltL : List Nat := [0x38, 0x76, 0x2c, 0xf7, 0xf5, 0x59, 0x34, 0xb3, 0x4d, 0x17, 0x9a, 0xe6, 0xa4, 0xc8, 0x0c, 0xad, 0xcc, 0xbb, 0x7f, 0x0a]
/-- A secret's keys: the key, the nonce, the mask. -/
def keyG (s : List Nat) : List Nat := labL s sKey [] 16
def nonG (s : List Nat) : List Nat := labL s sIv [] 12
def masG (s : List Nat) : List Nat := labL s sHp [] 16
def keysG (s : List Nat) : List Nat := keyG s ++ (nonG s ++ masG s)
/-- The first secrets of a name. -/
def firstG (id : List Nat) : List Nat := hmac cuT sqT saltL id
def cliG (id : List Nat) : List Nat := labL (firstG id) sCl [] 32
def srvG (id : List Nat) : List Nat := labL (firstG id) sSv [] 32
def exL : List Nat := [0x83, 0x94, 0xc8, 0xf0, 0x3e, 0x51, 0x57, 0x08]
theorem keys_example : (keyG (cliG exL)).getD 0 0 = 0x1f ∧ (keyG (cliG exL)).getD 1 0 = 0x36 ∧ (keyG (cliG exL)).getD 15 0 = 0x2d ∧ (nonG (cliG exL)).getD 0 0 = 0xfa ∧ (masG (cliG exL)).getD 0 0 = 0x9f := by decide +kernel
end Go.Proofs.YtpihgljdbpnehaaDoor
namespace Go.Proofs.YtpihgljdbpnehaaDoor
open Go.RowKit
theorem keyG_length (s : List Nat) : (keyG s).length = 16 := labL_length _ _ _ _
theorem nonG_length (s : List Nat) : (nonG s).length = 12 := labL_length _ _ _ _
theorem masG_length (s : List Nat) : (masG s).length = 16 := labL_length _ _ _ _
theorem keysG_length (s : List Nat) : (keysG s).length = 44 := by
 unfold keysG
 rw [List.length_append, List.length_append, keyG_length, nonG_length, masG_length]
theorem keysG_key (s : List Nat) (i : Nat) (h : i < 16) : (keysG s).getD i 0 = (keyG s).getD i 0 := by
 unfold keysG
 rw [List.getD_eq_getElem?_getD, List.getElem?_append_left (by rw [keyG_length]; exact h), ← List.getD_eq_getElem?_getD]
theorem keysG_non (s : List Nat) (i : Nat) (h : i < 12) : (keysG s).getD (16 + i) 0 = (nonG s).getD i 0 := by
 unfold keysG
 rw [List.getD_eq_getElem?_getD, List.getElem?_append_right (by rw [keyG_length]; omega), keyG_length, Nat.add_sub_cancel_left, List.getElem?_append_left (by rw [nonG_length]; exact h), ← List.getD_eq_getElem?_getD]
theorem keysG_mas (s : List Nat) (i : Nat) : (keysG s).getD (28 + i) 0 = (masG s).getD i 0 := by
 unfold keysG
 rw [List.getD_eq_getElem?_getD, List.getElem?_append_right (by rw [keyG_length]; omega), keyG_length, show 28 + i - 16 = 12 + i by omega, List.getElem?_append_right (by rw [nonG_length]; omega), nonG_length, Nat.add_sub_cancel_left, ← List.getD_eq_getElem?_getD]
/-- What the program's Of is asked to answer. -/
def OfC : Prop := ∀ s : List Nat, s.length = 32 → Bytes s → ∀ W, Tab W cuT → Sq W sqT → Calls Tryd.prog 9 #[.agg (Iv .u8 (NI s))] W fun e w' => e = .returned (.agg (Iv .u8 (NI (keysG s)))) ∧ Below W.heap.size W w'
/-- What its First is asked to answer. -/
def FirstC : Prop := ∀ (id : List Nat) (vb : Value), Bytes id → id.length ≤ 1000 → ∀ W, Tab W cuT → Sq W sqT → SB W vb id → Calls Tryd.prog 10 #[vb] W fun e w' => e = .returned (.tuple #[.agg (Iv .u8 (NI (cliG id))), .agg (Iv .u8 (NI (srvG id)))]) ∧ Below W.heap.size W w'
/-- Its Seal. -/
def GSealC : Prop := ∀ (K N Mk : List Nat) (sp : Int) (to fr : List Nat) (pn acked : Nat) (b : List Nat) (vt vf vb : Value), K.length = 16 → N.length = 12 → Mk.length = 16 → Bytes K → Bytes N → Bytes Mk → i64_ok sp → Bytes to → Bytes fr → to.length ≤ 100 → fr.length ≤ 100 → pn < 18446744073709551616 → acked < 18446744073709551616 → Bytes b → b.length ≤ 200 →
 ∀ W, SB W vt to → SB W vf fr → SB W vb b → Calls Tryd.prog 16 #[.agg (Iv .u8 (NI (K ++ (N ++ Mk)))), hdV sp vt vf, .int .u64 (pn : Int), .int .u64 (acked : Int), vb] W fun e w' => ∃ v, e = .returned (.tuple #[v, .int .i64 (((sealG K N Mk sp to fr pn acked b).1 : Nat) : Int)]) ∧ OwL W.heap.size w' v (sealG K N Mk sp to fr pn acked b).2 ∧ Below W.heap.size W w'
/-- Its Open. -/
def GOpenC : Prop := ∀ (K N Mk x : List Nat) (a e : Int) (next : Nat) (vx : Value), K.length = 16 → N.length = 12 → Mk.length = 16 → Bytes K → Bytes N → Bytes Mk → Bytes x → x.length ≤ 1000 → i64_ok a → i64_ok e → next < 4611686018427387904 →
 ∀ W, SB W vx x → Calls Tryd.prog 19 #[.agg (Iv .u8 (NI (K ++ (N ++ Mk)))), vx, .int .i64 a, .int .i64 e, .int .u64 (next : Int)] W fun e2 w' => ∃ v, e2 = .returned (.tuple #[.int .u64 (((openG K N Mk x a e next).2.1 : Nat) : Int), v, .int .i64 (((openG K N Mk x a e next).1 : Nat) : Int)]) ∧ OwL W.heap.size w' v (openG K N Mk x a e next).2.2 ∧ Below W.heap.size W w'
theorem cell_list {w : World} {g : Nat} {t : TypeId} {L : List Nat} (K : Blk w g t (Iv .u8 (NI L))) (i x : Nat) (h : i < L.length) (e : L.getD i 0 = x) : w.cell? ⟨g, i, none⟩ = some (.int .u8 (x : Int)) := by
 rw [K.cell, NI_get _ _ h, ← e]
 congr 2
 rw [List.getD_eq_getElem?_getD, List.getElem?_eq_getElem h]
 rfl
theorem info_ky : (Tryd.prog.info? 30).map (·.size) = some 44 := by kernel_rfl
theorem info_key32 : (Tryd.prog.info? 23).map (·.size) = some 32 := by kernel_rfl
theorem u8s_one (L : List Nat) : (Iv .u8 (NI L)).all (·.oneCell') = true := by
 rw [Array.all_eq_true]
 intro i h
 have hL : i < L.length := by
  rw [Iv_size, NI_length] at h
  exact h
 have e := NI_get L i hL
 rw [Array.getElem?_eq_getElem h] at e
 rw [Option.some.inj e]
 rfl
theorem cliG_length (id : List Nat) : (cliG id).length = 32 := labL_length _ _ _ _
theorem srvG_length (id : List Nat) : (srvG id).length = 32 := labL_length _ _ _ _
theorem labG_bytes (s : List Nat) (t : ByteArray) (c : List Nat) (m : Nat) : Bytes (labL s t c m) := expandL_bytes _ _ _ _ _
theorem exL_bytes : Bytes exL := fun x hx => by
 simp only [exL, List.mem_cons, List.not_mem_nil, or_false] at hx
 omega
theorem two_rows (w : World) (t : TypeId) (Z1 Z2 X Y : Array Value) : Blk ((((w.alloc (.cells Z1 t)).alloc (.cells Z2 t)).setRow w.heap.size X).setRow (w.heap.size + 1) Y) w.heap.size t X ∧ Below w.heap.size w ((((w.alloc (.cells Z1 t)).alloc (.cells Z2 t)).setRow w.heap.size X).setRow (w.heap.size + 1) Y) :=
 ⟨(((Blk.new w t Z1).alloc (.cells Z2 t)).row X).rowFar (by omega) Y, below_setRow (below_setRow (((Below.refl w.heap.size w).alloc (Nat.le_refl _) (.cells Z1 t)).alloc (by rw [size_alloc1]; omega) (.cells Z2 t)) (Nat.le_refl _) X) (Nat.le_succ _) Y⟩
theorem one_row (w : World) (t : TypeId) (Z X : Array Value) : Blk ((w.alloc (.cells Z t)).setRow w.heap.size X) w.heap.size t X ∧ Below w.heap.size w ((w.alloc (.cells Z t)).setRow w.heap.size X) :=
 ⟨(Blk.new w t Z).row X, below_setRow ((Below.refl w.heap.size w).alloc (Nat.le_refl _) (.cells Z t)) (Nat.le_refl _) X⟩
set_option maxHeartbeats 8000000 in
set_option maxRecDepth 100000 in
/-- The chapter's example. -/
theorem gawake_c (OC : OfC) (FC : FirstC) (W : World) (T : Tab W cuT) (Q : Sq W sqT) : Calls Tryd.prog 8 #[] W fun e w' => e = .returned (.bool true) ∧ Below W.heap.size W w' := by
 have OC := Lib.hid OC
 have EX := Lib.hid keys_example
 go_enter Tryd.func8, Tryd.ntmps8
 go_upto_region 0 with fail
 rename_i aK
 refine wp_region_seq ?_
 refine sas (.bool false) rfl rfl rfl ?_
 simp only [AP]
 refine wpSeq_nil ?_
 refine aK _ _ ?_
 clear aK
 have hb := (Below.refl W.heap.size W).alloc (Nat.le_refl _) (.cells #[.int .u8 131, .int .u8 148, .int .u8 200, .int .u8 240, .int .u8 62, .int .u8 81, .int .u8 87, .int .u8 8] 5)
 have FX := Lib.hid (FC exL (.slice (some ⟨W.heap.size, 0, none⟩) 8 8) exL_bytes (by decide) (W.alloc (.cells #[.int .u8 131, .int .u8 148, .int .u8 200, .int .u8 240, .int .u8 62, .int .u8 81, .int .u8 87, .int .u8 8] 5)) (T.below hb) (Q.below hb) (SB.of_ba' (BA.of_blk (Blk.new W 5 (Iv .u8 (NI exL)))) rfl (Nat.le_refl 8)))
 replace T := T.below hb
 replace Q := Q.below hb
 replace hb := Lib.hid hb
 clear FC
 go_upto_region 1 with fail
 rename_i aK
 refine wp_region_seq ?_
 refine wpSeq_wp rfl ?_
 unfold Oper.wp execOp
 go_simp
 refine wpSeq_wp rfl ?_
 unfold Oper.wp execOp
 go_simp
 refine FX.out.mono ?_
 rintro _ w3 ⟨rfl, b3⟩
 replace T := T.below b3
 replace Q := Q.below b3
 replace hb := Lib.hid (hb.out.trans (b3.mono hb.out.size))
 clear b3 FX
 go_simp
 refine smv (.tuple #[.agg (Iv .u8 (NI (cliG exL))), .agg (Iv .u8 (NI (srvG exL)))]) rfl rfl rfl ?_
 simp only [AP]
 refine svl (.agg (Iv .u8 (NI (cliG exL)))) (.inl ⟨by rfl, fun w' _ => by go_simp⟩) ?_
 simp only [AP]
 refine svl (.agg (Iv .u8 (NI (srvG exL)))) (.inl ⟨by rfl, fun w' _ => by go_simp⟩) ?_
 simp only [AP]
 refine wpSeq_wp rfl ?_
 unfold Oper.wp execOp
 go_simp
 refine wpSeq_wp rfl ?_
 unfold Oper.wp execOp
 go_simp
 refine wpSeq_store_row rfl 23 _ _ rfl (w3.heap.size) (Iv .u8 (NI (cliG exL))) rfl rfl _ _ ((Blk.new w3 _ _).alloc _) (by rw [info_key32, Iv_size, NI_length, cliG_length]) (by rw [Iv_size, NI_length, cliG_length]; rfl) (u8s_one _) ?_
 simp only [Act.put]
 refine wpSeq_store_row rfl 23 _ _ rfl (w3.heap.size + 1) (Iv .u8 (NI (srvG exL))) rfl rfl _ _ (Blk.rowFar (Blk.new' (by rw [size_alloc1]) _ _) (by omega) _) (by rw [info_key32, Iv_size, NI_length, srvG_length]) (by rw [Iv_size, NI_length, srvG_length]; rfl) (u8s_one _) ?_
 simp only [Act.put]
 refine wpSeq_nil ?_
 refine (by assumption : ∀ (a : Act) (w : World), _ → _) _ _ ?_
 generalize hw4 : World.setRow _ (w3.heap.size + 1) _ = w4
 have F4 : Blk w4 w3.heap.size 23 (Iv .u8 (NI (cliG exL))) ∧ Below w3.heap.size w3 w4 := by
  rw [← hw4]
  exact two_rows _ _ _ _ _ _
 clear hw4
 obtain ⟨K1, b4⟩ := F4
 replace T := T.below b4
 replace Q := Q.below b4
 replace hb := Lib.hid (hb.out.trans (b4.mono hb.out.size))
 have OX := Lib.hid (OC.out (cliG exL) (cliG_length _) (labG_bytes _ _ _ _) w4 T Q)
 replace K1 := Lib.hid K1
 clear b4 OC
 go_upto_region 2 with fail
 rename_i aK
 refine wp_region_seq ?_
 refine wpSeq_yield (S := fun w' => w' = w4) (show YieldsIf _ _ _ _ (.agg (Iv .u8 (NI (cliG exL)))) _ from yieldsIf_row_wanted (S := fun w' => w' = w4) rfl 23 _ rfl w3.heap.size rfl 23 _ _ (fun _ h => h ▸ K1.out) Tryd.underlying23 rfl (by rw [info_key32, Iv_size, NI_length, cliG_length])) rfl ?_
 simp only [AP]
 refine wpSeq_wp rfl ?_
 unfold Oper.wp execOp
 go_simp
 refine OX.out.mono ?_
 rintro _ w5 ⟨rfl, b5⟩
 replace hb := Lib.hid (hb.out.trans (b5.mono hb.out.size))
 clear b5 OX T Q
 go_simp
 refine wpSeq_wp rfl ?_
 unfold Oper.wp execOp
 go_simp
 refine wpSeq_store_row rfl 30 _ _ rfl (w5.heap.size) (Iv .u8 (NI (keysG (cliG exL)))) rfl rfl _ _ (Blk.new w5 _ _) (by rw [info_ky, Iv_size, NI_length, keysG_length]) (by rw [Iv_size, NI_length, keysG_length]; rfl) (u8s_one _) ?_
 simp only [Act.put]
 refine wpSeq_nil ?_
 refine (by assumption : ∀ (a : Act) (w : World), _ → _) _ _ ?_
 generalize hw6 : World.setRow _ w5.heap.size _ = w6
 have F6 : Blk w6 w5.heap.size 30 (Iv .u8 (NI (keysG (cliG exL)))) ∧ Below w5.heap.size w5 w6 := by
  rw [← hw6]
  exact one_row _ _ _ _
 clear hw6
 obtain ⟨K2, b6⟩ := F6
 replace hb := Lib.hid (hb.out.trans (b6.mono hb.out.size))
 have L := keysG_length (cliG exL)
 have x0 := cell_list K2 0 0x1f (by rw [L]; decide) ((keysG_key _ 0 (by decide)).trans EX.out.1)
 have x1 := cell_list K2 1 0x36 (by rw [L]; decide) ((keysG_key _ 1 (by decide)).trans EX.out.2.1)
 have x15 := cell_list K2 15 0x2d (by rw [L]; decide) ((keysG_key _ 15 (by decide)).trans EX.out.2.2.1)
 have x16 := cell_list K2 16 0xfa (by rw [L]; decide) ((keysG_non _ 0 (by decide)).trans EX.out.2.2.2.1)
 have x28 := cell_list K2 28 0x9f (by rw [L]; decide) ((keysG_mas _ 0).trans EX.out.2.2.2.2)
 clear K2 b6 EX L K1
 go_upto_region 3 with fail
 rename_i aK
 refine wp_region_seq ?_
 refine svl (.pointer (some ⟨w5.heap.size, 0, none⟩)) (.inl ⟨by rfl, fun w' _ => by go_simp⟩) ?_
 simp only [AP]
 refine svl (.pointer (some ⟨w5.heap.size, 0, none⟩)) (.inl ⟨by rfl, fun w' _ => by go_simp⟩) ?_
 simp only [AP]
 refine wpSeq_yield (S := fun w' => w' = w6) (v := .int .u8 31) (Or.inl ⟨by rfl, fun w' hw' => by (rw [hw']; have cc : w6.cell? ⟨w5.heap.size, 0, none⟩ = some (.int .u8 31) := x0; go_simp)⟩) rfl ?_
 simp only [AP]
 refine svl (.bool true) (.inl ⟨by rfl, fun w' _ => by (go_simp; try omega)⟩) ?_
 simp only [AP]
 refine smv (.bool true) rfl rfl rfl ?_
 simp only [AP]
 refine svl (.pointer (some ⟨w5.heap.size, 0, none⟩)) (.inl ⟨by rfl, fun w' _ => by go_simp⟩) ?_
 simp only [AP]
 refine svl (.pointer (some ⟨w5.heap.size, 1, none⟩)) (.inl ⟨by rfl, fun w' _ => by go_simp⟩) ?_
 simp only [AP]
 refine wpSeq_yield (S := fun w' => w' = w6) (v := .int .u8 54) (Or.inl ⟨by rfl, fun w' hw' => by (rw [hw']; have cc : w6.cell? ⟨w5.heap.size, 1, none⟩ = some (.int .u8 54) := x1; go_simp)⟩) rfl ?_
 simp only [AP]
 refine svl (.bool true) (.inl ⟨by rfl, fun w' _ => by (go_simp; try omega)⟩) ?_
 simp only [AP]
 refine wpSeq_yield (S := fun _ => True) (yieldsIf_pick rfl _ _ _ rfl true rfl (.bool true) rfl) trivial ?_
 simp only [AP]
 refine smv (.bool true) rfl rfl rfl ?_
 simp only [AP]
 refine svl (.pointer (some ⟨w5.heap.size, 0, none⟩)) (.inl ⟨by rfl, fun w' _ => by go_simp⟩) ?_
 simp only [AP]
 refine svl (.pointer (some ⟨w5.heap.size, 15, none⟩)) (.inl ⟨by rfl, fun w' _ => by go_simp⟩) ?_
 simp only [AP]
 refine wpSeq_yield (S := fun w' => w' = w6) (v := .int .u8 45) (Or.inl ⟨by rfl, fun w' hw' => by (rw [hw']; have cc : w6.cell? ⟨w5.heap.size, 15, none⟩ = some (.int .u8 45) := x15; go_simp)⟩) rfl ?_
 simp only [AP]
 refine svl (.bool true) (.inl ⟨by rfl, fun w' _ => by (go_simp; try omega)⟩) ?_
 simp only [AP]
 refine wpSeq_yield (S := fun _ => True) (yieldsIf_pick rfl _ _ _ rfl true rfl (.bool true) rfl) trivial ?_
 simp only [AP]
 refine smv (.bool true) rfl rfl rfl ?_
 simp only [AP]
 refine svl (.pointer (some ⟨w5.heap.size, 16, none⟩)) (.inl ⟨by rfl, fun w' _ => by go_simp⟩) ?_
 simp only [AP]
 refine svl (.pointer (some ⟨w5.heap.size, 16, none⟩)) (.inl ⟨by rfl, fun w' _ => by go_simp⟩) ?_
 simp only [AP]
 refine wpSeq_yield (S := fun w' => w' = w6) (v := .int .u8 250) (Or.inl ⟨by rfl, fun w' hw' => by (rw [hw']; have cc : w6.cell? ⟨w5.heap.size, 16, none⟩ = some (.int .u8 250) := x16; go_simp)⟩) rfl ?_
 simp only [AP]
 refine svl (.bool true) (.inl ⟨by rfl, fun w' _ => by (go_simp; try omega)⟩) ?_
 simp only [AP]
 refine wpSeq_yield (S := fun _ => True) (yieldsIf_pick rfl _ _ _ rfl true rfl (.bool true) rfl) trivial ?_
 simp only [AP]
 refine smv (.bool true) rfl rfl rfl ?_
 simp only [AP]
 refine svl (.pointer (some ⟨w5.heap.size, 28, none⟩)) (.inl ⟨by rfl, fun w' _ => by go_simp⟩) ?_
 simp only [AP]
 refine svl (.pointer (some ⟨w5.heap.size, 28, none⟩)) (.inl ⟨by rfl, fun w' _ => by go_simp⟩) ?_
 simp only [AP]
 refine wpSeq_yield (S := fun w' => w' = w6) (v := .int .u8 159) (Or.inl ⟨by rfl, fun w' hw' => by (rw [hw']; have cc : w6.cell? ⟨w5.heap.size, 28, none⟩ = some (.int .u8 159) := x28; go_simp)⟩) rfl ?_
 simp only [AP]
 refine svl (.bool true) (.inl ⟨by rfl, fun w' _ => by (go_simp; try omega)⟩) ?_
 simp only [AP]
 refine wpSeq_yield (S := fun _ => True) (yieldsIf_pick rfl _ _ _ rfl true rfl (.bool true) rfl) trivial ?_
 simp only [AP]
 refine sas (.bool true) rfl rfl rfl ?_
 simp only [AP]
 refine wpSeq_nil ?_
 refine (by assumption : ∀ (a : Act) (w : World), _ → _) _ _ ?_
 clear x0 x1 x15 x16 x28
 go_wp2
 go_ret
 exact ⟨rfl, hb.out⟩
end Go.Proofs.YtpihgljdbpnehaaDoor
