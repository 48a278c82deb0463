/- Keys of secrets, the first secrets, as numbers; the chapter's example. What the program's guard is asked to answer; Awake (printed by gen13/ne.py). The program's way to a block: each byte's Sub out of the powers of x + 1, the rounds' keys by sixteen bytes, a round's steps; that it comes to what the document's answer reckons. Sixteen bytes in a Block. The program's subs: the table of Subs; its contract. The program's joined: its contract. A Cipher in memory; the program's moved: its contract. The program's next: the round's key behind another one; its contract (printed by genpg.py). The reference's hash: its contract (printed by genge9.py). The reference's Seal: its contract (printed by gengf.py). -/
import Derived.Test.YtpihgljdbpnehaaDoorMSb0MSe
import Derived.Test.YtpihgljdbpnehaaDoorNc0Va
import Derived.Test.YtpihgljdbpnehaaDoorBg0HSj
import Derived.Test.YtpihgljdbpnehaaDoorLa0Lo
import Derived.Laws.StructEq
import Derived.StillTailTactics
namespace Go.Proofs.YtpihgljdbpnehaaDoor
open Go.RowKit
/-- The strings that the chapter names. -/
def sKey : ByteArray := { data := #[113, 117, 105, 99, 32, 107, 101, 121] }
def sIv : ByteArray := { data := #[113, 117, 105, 99, 32, 105, 118] }
def sHp : ByteArray := { data := #[113, 117, 105, 99, 32, 104, 112] }
def sCl : ByteArray := { data := #[99, 108, 105, 101, 110, 116, 32, 105, 110] }
def sSv : ByteArray := { data := #[115, 101, 114, 118, 101, 114, 32, 105, 110] }
def saltL : List Nat := [0x38, 0x76, 0x2c, 0xf7, 0xf5, 0x59, 0x34, 0xb3, 0x4d, 0x17, 0x9a, 0xe6, 0xa4, 0xc8, 0x0c, 0xad, 0xcc, 0xbb, 0x7f, 0x0a]
/-- A secret's keys: the key, the nonce, the mask. -/
def keyG (s : List Nat) : List Nat := labL s sKey [] 16
def nonG (s : List Nat) : List Nat := labL s sIv [] 12
def masG (s : List Nat) : List Nat := labL s sHp [] 16
def keysG (s : List Nat) : List Nat := keyG s ++ (nonG s ++ masG s)
/-- The first secrets of a name. -/
def firstG (id : List Nat) : List Nat := hmac cuT sqT saltL id
def cliG (id : List Nat) : List Nat := labL (firstG id) sCl [] 32
def srvG (id : List Nat) : List Nat := labL (firstG id) sSv [] 32
def exL : List Nat := [0x83, 0x94, 0xc8, 0xf0, 0x3e, 0x51, 0x57, 0x08]
theorem keys_example : (keyG (cliG exL)).getD 0 0 = 0x1f ∧ (keyG (cliG exL)).getD 1 0 = 0x36 ∧ (keyG (cliG exL)).getD 15 0 = 0x2d ∧ (nonG (cliG exL)).getD 0 0 = 0xfa ∧ (masG (cliG exL)).getD 0 0 = 0x9f := by decide +kernel
end Go.Proofs.YtpihgljdbpnehaaDoor
namespace Go.Proofs.YtpihgljdbpnehaaDoor
open Go.RowKit
theorem keyG_length (s : List Nat) : (keyG s).length = 16 := labL_length _ _ _ _
theorem nonG_length (s : List Nat) : (nonG s).length = 12 := labL_length _ _ _ _
theorem masG_length (s : List Nat) : (masG s).length = 16 := labL_length _ _ _ _
theorem keysG_length (s : List Nat) : (keysG s).length = 44 := by
  unfold keysG
  rw [List.length_append, List.length_append, keyG_length, nonG_length, masG_length]
theorem keysG_key (s : List Nat) (i : Nat) (h : i < 16) : (keysG s).getD i 0 = (keyG s).getD i 0 := by
  unfold keysG
  rw [List.getD_eq_getElem?_getD, List.getElem?_append_left (by rw [keyG_length]; exact h), ← List.getD_eq_getElem?_getD]
theorem keysG_non (s : List Nat) (i : Nat) (h : i < 12) : (keysG s).getD (16 + i) 0 = (nonG s).getD i 0 := by
  unfold keysG
  rw [List.getD_eq_getElem?_getD, List.getElem?_append_right (by rw [keyG_length]; omega), keyG_length, Nat.add_sub_cancel_left, List.getElem?_append_left (by rw [nonG_length]; exact h), ← List.getD_eq_getElem?_getD]
theorem keysG_mas (s : List Nat) (i : Nat) : (keysG s).getD (28 + i) 0 = (masG s).getD i 0 := by
  unfold keysG
  rw [List.getD_eq_getElem?_getD, List.getElem?_append_right (by rw [keyG_length]; omega), keyG_length, show 28 + i - 16 = 12 + i by omega, List.getElem?_append_right (by rw [nonG_length]; omega), nonG_length, Nat.add_sub_cancel_left, ← List.getD_eq_getElem?_getD]
/-- What the program's Of is asked to answer. -/
def OfC : Prop := ∀ s : List Nat, s.length = 32 → Bytes s → ∀ W, Tab W cuT → Sq W sqT → Calls Tryd.prog 9 #[.agg (Iv .u8 (NI s))] W fun e w' => e = .returned (.agg (Iv .u8 (NI (keysG s)))) ∧ Below W.heap.size W w'
/-- What its First is asked to answer. -/
def FirstC : Prop := ∀ (id : List Nat) (vb : Value), Bytes id → id.length ≤ 1000 → ∀ W, Tab W cuT → Sq W sqT → SB W vb id → Calls Tryd.prog 10 #[vb] W fun e w' => e = .returned (.tuple #[.agg (Iv .u8 (NI (cliG id))), .agg (Iv .u8 (NI (srvG id)))]) ∧ Below W.heap.size W w'
theorem cell_list {w : World} {g : Nat} {t : TypeId} {L : List Nat} (K : Blk w g t (Iv .u8 (NI L))) (i x : Nat) (h : i < L.length) (e : L.getD i 0 = x) : w.cell? ⟨g, i, none⟩ = some (.int .u8 (x : Int)) := by
  rw [K.cell, NI_get _ _ h, ← e]
  congr 2
  rw [List.getD_eq_getElem?_getD, List.getElem?_eq_getElem h]
  rfl
theorem info_ky : (Tryd.prog.info? 30).map (·.size) = some 44 := by kernel_rfl
theorem info_key32 : (Tryd.prog.info? 23).map (·.size) = some 32 := by kernel_rfl
theorem u8s_one (L : List Nat) : (Iv .u8 (NI L)).all (·.oneCell') = true := by
  rw [Array.all_eq_true]
  intro i h
  have hL : i < L.length := by
    rw [Iv_size, NI_length] at h
    exact h
  have e := NI_get L i hL
  rw [Array.getElem?_eq_getElem h] at e
  rw [Option.some.inj e]
  rfl
theorem cliG_length (id : List Nat) : (cliG id).length = 32 := labL_length _ _ _ _
theorem srvG_length (id : List Nat) : (srvG id).length = 32 := labL_length _ _ _ _
theorem labG_bytes (s : List Nat) (t : ByteArray) (c : List Nat) (m : Nat) : Bytes (labL s t c m) := expandL_bytes _ _ _ _ _
theorem exL_bytes : Bytes exL := fun x hx => by
  simp only [exL, List.mem_cons, List.not_mem_nil, or_false] at hx
  omega
theorem two_rows (w : World) (t : TypeId) (Z1 Z2 X Y : Array Value) : Blk ((((w.alloc (.cells Z1 t)).alloc (.cells Z2 t)).setRow w.heap.size X).setRow (w.heap.size + 1) Y) w.heap.size t X ∧ Below w.heap.size w ((((w.alloc (.cells Z1 t)).alloc (.cells Z2 t)).setRow w.heap.size X).setRow (w.heap.size + 1) Y) :=
  ⟨(((Blk.new w t Z1).alloc (.cells Z2 t)).row X).rowFar (by omega) Y, below_setRow (below_setRow (((Below.refl w.heap.size w).alloc (Nat.le_refl _) (.cells Z1 t)).alloc (by rw [size_alloc1]; omega) (.cells Z2 t)) (Nat.le_refl _) X) (Nat.le_succ _) Y⟩
theorem one_row (w : World) (t : TypeId) (Z X : Array Value) : Blk ((w.alloc (.cells Z t)).setRow w.heap.size X) w.heap.size t X ∧ Below w.heap.size w ((w.alloc (.cells Z t)).setRow w.heap.size X) :=
  ⟨(Blk.new w t Z).row X, below_setRow ((Below.refl w.heap.size w).alloc (Nat.le_refl _) (.cells Z t)) (Nat.le_refl _) X⟩
set_option maxHeartbeats 8000000 in
set_option maxRecDepth 100000 in
/-- The chapter's example. -/
theorem gawake_c (OC : OfC) (FC : FirstC) (W : World) (T : Tab W cuT) (Q : Sq W sqT) : Calls Tryd.prog 8 #[] W fun e w' => e = .returned (.bool true) ∧ Below W.heap.size W w' := by
  have OC := Lib.hid OC
  have EX := Lib.hid keys_example
  go_enter Tryd.func8, Tryd.ntmps8
  go_upto_region 0 with fail
  rename_i aK
  refine wp_region_seq ?_
  refine wpSeq_yield (S := fun _ => True) (yieldsIf_assign rfl _ rfl (.bool false) rfl) trivial ?_
  simp only [AP]
  refine wpSeq_nil ?_
  refine aK _ _ ?_
  clear aK
  have hb := (Below.refl W.heap.size W).alloc (Nat.le_refl _) (.cells #[.int .u8 131, .int .u8 148, .int .u8 200, .int .u8 240, .int .u8 62, .int .u8 81, .int .u8 87, .int .u8 8] 5)
  have FX := Lib.hid (FC exL (.slice (some ⟨W.heap.size, 0, none⟩) 8 8) exL_bytes (by decide) (W.alloc (.cells #[.int .u8 131, .int .u8 148, .int .u8 200, .int .u8 240, .int .u8 62, .int .u8 81, .int .u8 87, .int .u8 8] 5)) (T.below hb) (Q.below hb) (SB.of_ba' (BA.of_blk (Blk.new W 5 (Iv .u8 (NI exL)))) rfl (Nat.le_refl 8)))
  replace T := T.below hb
  replace Q := Q.below hb
  replace hb := Lib.hid hb
  clear FC
  go_upto_region 1 with fail
  rename_i aK
  refine wp_region_seq ?_
  refine wpSeq_wp rfl ?_
  unfold Oper.wp execOp
  go_simp
  refine wpSeq_wp rfl ?_
  unfold Oper.wp execOp
  go_simp
  refine FX.out.mono ?_
  rintro _ w3 ⟨rfl, b3⟩
  replace T := T.below b3
  replace Q := Q.below b3
  replace hb := Lib.hid (hb.out.trans (b3.mono hb.out.size))
  clear b3 FX
  go_simp
  refine wpSeq_yield (S := fun _ => True) (yieldsIf_move rfl _ rfl (.tuple #[.agg (Iv .u8 (NI (cliG exL))), .agg (Iv .u8 (NI (srvG exL)))]) rfl) trivial ?_
  simp only [AP]
  refine wpSeq_yield (S := fun _ => True) (v := .agg (Iv .u8 (NI (cliG exL)))) (Or.inl ⟨by rfl, fun w' hw' => by go_simp⟩) trivial ?_
  simp only [AP]
  refine wpSeq_yield (S := fun _ => True) (v := .agg (Iv .u8 (NI (srvG exL)))) (Or.inl ⟨by rfl, fun w' hw' => by go_simp⟩) trivial ?_
  simp only [AP]
  refine wpSeq_wp rfl ?_
  unfold Oper.wp execOp
  go_simp
  refine wpSeq_wp rfl ?_
  unfold Oper.wp execOp
  go_simp
  refine wpSeq_store_row rfl 23 _ _ rfl (w3.heap.size) (Iv .u8 (NI (cliG exL))) rfl rfl _ _ ((Blk.new w3 _ _).alloc _) (by rw [info_key32, Iv_size, NI_length, cliG_length]) (by rw [Iv_size, NI_length, cliG_length]; rfl) (u8s_one _) ?_
  simp only [Act.put]
  refine wpSeq_store_row rfl 23 _ _ rfl (w3.heap.size + 1) (Iv .u8 (NI (srvG exL))) rfl rfl _ _ (Blk.rowFar (Blk.new' (by rw [size_alloc1]) _ _) (by omega) _) (by rw [info_key32, Iv_size, NI_length, srvG_length]) (by rw [Iv_size, NI_length, srvG_length]; rfl) (u8s_one _) ?_
  simp only [Act.put]
  refine wpSeq_nil ?_
  refine (by assumption : ∀ (a : Act) (w : World), _ → _) _ _ ?_
  generalize hw4 : World.setRow _ (w3.heap.size + 1) _ = w4
  have F4 : Blk w4 w3.heap.size 23 (Iv .u8 (NI (cliG exL))) ∧ Below w3.heap.size w3 w4 := by
    rw [← hw4]
    exact two_rows _ _ _ _ _ _
  clear hw4
  obtain ⟨K1, b4⟩ := F4
  replace T := T.below b4
  replace Q := Q.below b4
  replace hb := Lib.hid (hb.out.trans (b4.mono hb.out.size))
  have OX := Lib.hid (OC.out (cliG exL) (cliG_length _) (labG_bytes _ _ _ _) w4 T Q)
  replace K1 := Lib.hid K1
  clear b4 OC
  go_upto_region 2 with fail
  rename_i aK
  refine wp_region_seq ?_
  refine wpSeq_yield (S := fun w' => w' = w4) (show YieldsIf _ _ _ _ (.agg (Iv .u8 (NI (cliG exL)))) _ from yieldsIf_row_wanted (S := fun w' => w' = w4) rfl 23 _ rfl w3.heap.size rfl 23 _ _ (fun _ h => h ▸ K1.out) Tryd.underlying23 rfl (by rw [info_key32, Iv_size, NI_length, cliG_length])) rfl ?_
  simp only [AP]
  refine wpSeq_wp rfl ?_
  unfold Oper.wp execOp
  go_simp
  refine OX.out.mono ?_
  rintro _ w5 ⟨rfl, b5⟩
  replace hb := Lib.hid (hb.out.trans (b5.mono hb.out.size))
  clear b5 OX T Q
  go_simp
  refine wpSeq_wp rfl ?_
  unfold Oper.wp execOp
  go_simp
  refine wpSeq_store_row rfl 30 _ _ rfl (w5.heap.size) (Iv .u8 (NI (keysG (cliG exL)))) rfl rfl _ _ (Blk.new w5 _ _) (by rw [info_ky, Iv_size, NI_length, keysG_length]) (by rw [Iv_size, NI_length, keysG_length]; rfl) (u8s_one _) ?_
  simp only [Act.put]
  refine wpSeq_nil ?_
  refine (by assumption : ∀ (a : Act) (w : World), _ → _) _ _ ?_
  generalize hw6 : World.setRow _ w5.heap.size _ = w6
  have F6 : Blk w6 w5.heap.size 30 (Iv .u8 (NI (keysG (cliG exL)))) ∧ Below w5.heap.size w5 w6 := by
    rw [← hw6]
    exact one_row _ _ _ _
  clear hw6
  obtain ⟨K2, b6⟩ := F6
  replace hb := Lib.hid (hb.out.trans (b6.mono hb.out.size))
  have L := keysG_length (cliG exL)
  have x0 := cell_list K2 0 0x1f (by rw [L]; decide) ((keysG_key _ 0 (by decide)).trans EX.out.1)
  have x1 := cell_list K2 1 0x36 (by rw [L]; decide) ((keysG_key _ 1 (by decide)).trans EX.out.2.1)
  have x15 := cell_list K2 15 0x2d (by rw [L]; decide) ((keysG_key _ 15 (by decide)).trans EX.out.2.2.1)
  have x16 := cell_list K2 16 0xfa (by rw [L]; decide) ((keysG_non _ 0 (by decide)).trans EX.out.2.2.2.1)
  have x28 := cell_list K2 28 0x9f (by rw [L]; decide) ((keysG_mas _ 0).trans EX.out.2.2.2.2)
  clear K2 b6 EX L K1
  go_upto_region 3 with fail
  rename_i aK
  refine wp_region_seq ?_
  refine wpSeq_yield (S := fun _ => True) (v := .pointer (some ⟨w5.heap.size, 0, none⟩)) (Or.inl ⟨by rfl, fun w' hw' => by go_simp⟩) trivial ?_
  simp only [AP]
  refine wpSeq_yield (S := fun _ => True) (v := .pointer (some ⟨w5.heap.size, 0, none⟩)) (Or.inl ⟨by rfl, fun w' hw' => by go_simp⟩) trivial ?_
  simp only [AP]
  refine wpSeq_yield (S := fun w' => w' = w6) (v := .int .u8 31) (Or.inl ⟨by rfl, fun w' hw' => by (rw [hw']; have cc : w6.cell? ⟨w5.heap.size, 0, none⟩ = some (.int .u8 31) := x0; go_simp)⟩) rfl ?_
  simp only [AP]
  refine wpSeq_yield (S := fun _ => True) (v := .bool true) (Or.inl ⟨by rfl, fun w' hw' => by (go_simp; try omega)⟩) trivial ?_
  simp only [AP]
  refine wpSeq_yield (S := fun _ => True) (yieldsIf_move rfl _ rfl (.bool true) rfl) trivial ?_
  simp only [AP]
  refine wpSeq_yield (S := fun _ => True) (v := .pointer (some ⟨w5.heap.size, 0, none⟩)) (Or.inl ⟨by rfl, fun w' hw' => by go_simp⟩) trivial ?_
  simp only [AP]
  refine wpSeq_yield (S := fun _ => True) (v := .pointer (some ⟨w5.heap.size, 1, none⟩)) (Or.inl ⟨by rfl, fun w' hw' => by go_simp⟩) trivial ?_
  simp only [AP]
  refine wpSeq_yield (S := fun w' => w' = w6) (v := .int .u8 54) (Or.inl ⟨by rfl, fun w' hw' => by (rw [hw']; have cc : w6.cell? ⟨w5.heap.size, 1, none⟩ = some (.int .u8 54) := x1; go_simp)⟩) rfl ?_
  simp only [AP]
  refine wpSeq_yield (S := fun _ => True) (v := .bool true) (Or.inl ⟨by rfl, fun w' hw' => by (go_simp; try omega)⟩) trivial ?_
  simp only [AP]
  refine wpSeq_yield (S := fun _ => True) (yieldsIf_pick rfl _ _ _ rfl true rfl (.bool true) rfl) trivial ?_
  simp only [AP]
  refine wpSeq_yield (S := fun _ => True) (yieldsIf_move rfl _ rfl (.bool true) rfl) trivial ?_
  simp only [AP]
  refine wpSeq_yield (S := fun _ => True) (v := .pointer (some ⟨w5.heap.size, 0, none⟩)) (Or.inl ⟨by rfl, fun w' hw' => by go_simp⟩) trivial ?_
  simp only [AP]
  refine wpSeq_yield (S := fun _ => True) (v := .pointer (some ⟨w5.heap.size, 15, none⟩)) (Or.inl ⟨by rfl, fun w' hw' => by go_simp⟩) trivial ?_
  simp only [AP]
  refine wpSeq_yield (S := fun w' => w' = w6) (v := .int .u8 45) (Or.inl ⟨by rfl, fun w' hw' => by (rw [hw']; have cc : w6.cell? ⟨w5.heap.size, 15, none⟩ = some (.int .u8 45) := x15; go_simp)⟩) rfl ?_
  simp only [AP]
  refine wpSeq_yield (S := fun _ => True) (v := .bool true) (Or.inl ⟨by rfl, fun w' hw' => by (go_simp; try omega)⟩) trivial ?_
  simp only [AP]
  refine wpSeq_yield (S := fun _ => True) (yieldsIf_pick rfl _ _ _ rfl true rfl (.bool true) rfl) trivial ?_
  simp only [AP]
  refine wpSeq_yield (S := fun _ => True) (yieldsIf_move rfl _ rfl (.bool true) rfl) trivial ?_
  simp only [AP]
  refine wpSeq_yield (S := fun _ => True) (v := .pointer (some ⟨w5.heap.size, 16, none⟩)) (Or.inl ⟨by rfl, fun w' hw' => by go_simp⟩) trivial ?_
  simp only [AP]
  refine wpSeq_yield (S := fun _ => True) (v := .pointer (some ⟨w5.heap.size, 16, none⟩)) (Or.inl ⟨by rfl, fun w' hw' => by go_simp⟩) trivial ?_
  simp only [AP]
  refine wpSeq_yield (S := fun w' => w' = w6) (v := .int .u8 250) (Or.inl ⟨by rfl, fun w' hw' => by (rw [hw']; have cc : w6.cell? ⟨w5.heap.size, 16, none⟩ = some (.int .u8 250) := x16; go_simp)⟩) rfl ?_
  simp only [AP]
  refine wpSeq_yield (S := fun _ => True) (v := .bool true) (Or.inl ⟨by rfl, fun w' hw' => by (go_simp; try omega)⟩) trivial ?_
  simp only [AP]
  refine wpSeq_yield (S := fun _ => True) (yieldsIf_pick rfl _ _ _ rfl true rfl (.bool true) rfl) trivial ?_
  simp only [AP]
  refine wpSeq_yield (S := fun _ => True) (yieldsIf_move rfl _ rfl (.bool true) rfl) trivial ?_
  simp only [AP]
  refine wpSeq_yield (S := fun _ => True) (v := .pointer (some ⟨w5.heap.size, 28, none⟩)) (Or.inl ⟨by rfl, fun w' hw' => by go_simp⟩) trivial ?_
  simp only [AP]
  refine wpSeq_yield (S := fun _ => True) (v := .pointer (some ⟨w5.heap.size, 28, none⟩)) (Or.inl ⟨by rfl, fun w' hw' => by go_simp⟩) trivial ?_
  simp only [AP]
  refine wpSeq_yield (S := fun w' => w' = w6) (v := .int .u8 159) (Or.inl ⟨by rfl, fun w' hw' => by (rw [hw']; have cc : w6.cell? ⟨w5.heap.size, 28, none⟩ = some (.int .u8 159) := x28; go_simp)⟩) rfl ?_
  simp only [AP]
  refine wpSeq_yield (S := fun _ => True) (v := .bool true) (Or.inl ⟨by rfl, fun w' hw' => by (go_simp; try omega)⟩) trivial ?_
  simp only [AP]
  refine wpSeq_yield (S := fun _ => True) (yieldsIf_pick rfl _ _ _ rfl true rfl (.bool true) rfl) trivial ?_
  simp only [AP]
  refine wpSeq_yield (S := fun _ => True) (yieldsIf_assign rfl _ rfl (.bool true) rfl) trivial ?_
  simp only [AP]
  refine wpSeq_nil ?_
  refine (by assumption : ∀ (a : Act) (w : World), _ → _) _ _ ?_
  clear x0 x1 x15 x16 x28
  go_wp2
  go_ret
  exact ⟨rfl, hb.out⟩
end Go.Proofs.YtpihgljdbpnehaaDoor
namespace Go.Proofs.YtpihgljdbpnehaaDoor
open Go
def dblN (b : Nat) : Nat := (b * 2 % 256) ^^^ (b / 128 * 27)
/-- The round's key behind another one, byte by byte. -/
def firstN (S k : List Nat) (p j : Nat) : Nat := if j = 0 then S.getD (k.getD 13 0) 0 ^^^ p else S.getD (k.getD (12 + (j + 1) % 4) 0) 0
def nx (S k : List Nat) (p : Nat) : Nat → Nat
  | 0 => k.getD 0 0 ^^^ firstN S k p 0
  | 1 => k.getD 1 0 ^^^ firstN S k p 1
  | 2 => k.getD 2 0 ^^^ firstN S k p 2
  | 3 => k.getD 3 0 ^^^ firstN S k p 3
  | j + 4 => k.getD (j + 4) 0 ^^^ nx S k p j
def nextL (S k : List Nat) (p : Nat) : List Nat := LB (nx S k p)
/-- The keys by sixteen bytes, and the power of x. -/
def ksF (S k : List Nat) : Nat → List Nat × Nat
  | 0 => (k, 1)
  | i + 1 => (nextL S (ksF S k i).1 (ksF S k i).2, dblN (ksF S k i).2)
theorem ksF_length {S k : List Nat} (hk : k.length = 16) : ∀ i, (ksF S k i).1.length = 16
  | 0 => hk
  | _ + 1 => LB_length _
end Go.Proofs.YtpihgljdbpnehaaDoor
namespace Go.Proofs.YtpihgljdbpnehaaDoor
open Go.RowKit
/-- Sixteen bytes in a Block. -/
def BB (w : World) (g : Nat) (f : Nat → Nat) : Prop := Blk w g 27 (Iv .u8 (NI (LB f)))
theorem BB.cell {w : World} {g : Nat} {f : Nat → Nat} (h : BB w g f) (i : Nat) (hi : i < 16) : w.cell? ⟨g, i, none⟩ = some (.int .u8 ((f i : Nat) : Int)) := by
  rw [Blk.cell h, NI_get _ _ (by rw [LB_length]; exact hi)]
  simp [LB]
theorem NI_set (l : List Nat) (k x : Nat) : (NI l).set k ((x : Nat) : Int) = NI (l.set k x) := by
  unfold NI
  rw [List.map_set]
theorem LB_set (f f' : Nat → Nat) (k : Nat) (ho : ∀ i, i ≠ k → f' i = f i) : (LB f).set k (f' k) = LB f' := by
  apply List.ext_getElem (by simp [LB])
  intro i h1 h2
  simp only [LB, List.getElem_set, List.getElem_map, List.getElem_range]
  by_cases hj : k = i
  · rw [if_pos hj, hj]
  · rw [if_neg hj, ho i (fun e => hj e.symm)]
theorem BB.set {w : World} {g : Nat} {f : Nat → Nat} (h : BB w g f) (k : Nat) (f' : Nat → Nat) (ho : ∀ i, i ≠ k → f' i = f i) : BB (w.setCell ⟨g, k, none⟩ (.int .u8 ((f' k : Nat) : Int))) g f' := by
  have hs := Blk.set h k (.int .u8 ((f' k : Nat) : Int))
  rw [Iv_set, NI_set, LB_set f f' k ho] at hs
  exact hs
theorem BB.congr {w : World} {g : Nat} {f f' : Nat → Nat} (h : BB w g f) (e : ∀ i, i < 16 → f i = f' i) : BB w g f' := by
  unfold BB at h ⊢
  rwa [LB_congr e] at h
end Go.Proofs.YtpihgljdbpnehaaDoor
namespace Go.Proofs.YtpihgljdbpnehaaDoor
open Go.RowKit
/-- The bytes of a row, and where one is put. -/
theorem ni_setIf (l : List Nat) (i x : Nat) : (Iv .u8 (NI l)).setIfInBounds i (.int .u8 ((x : Nat) : Int)) = Iv .u8 (NI (l.set i x)) := by
  rw [Iv_set, NI_set]
end Go.Proofs.YtpihgljdbpnehaaDoor
namespace Go.Proofs.YtpihgljdbpnehaaDoor
open Go.RowKit
theorem BB.of_block {w w1 : World} {g : Nat} {f : Nat → Nat} (h : BB w g f) (hb : w1.heap[g]? = w.heap[g]?) : BB w1 g f := Eq.trans hb h
theorem BB.far {w : World} {g k i : Nat} {f : Nat → Nat} (h : BB w g f) (hk : g ≠ k) (v : Value) : BB (w.setCell ⟨k, i, none⟩ v) g f := Blk.far (p := ⟨k, i, none⟩) h hk v
theorem BB.below {w w1 : World} {g : Nat} {f : Nat → Nat} (h : BB w g f) (b : Below w.heap.size w w1) : BB w1 g f := Blk.below' h b
end Go.Proofs.YtpihgljdbpnehaaDoor
namespace Go.Proofs.YtpihgljdbpnehaaDoor
open Go.RowKit
/-- A Cipher in block g: the rounds' keys, then the Subs. -/
def CI (w : World) (g : Nat) (ks S : List Nat) : Prop := Blk w g 114 (Iv .u8 (NI (ks ++ S)))
theorem CI.of_block {w w1 : World} {g : Nat} {ks S : List Nat} (h : CI w g ks S) (hb : w1.heap[g]? = w.heap[g]?) : CI w1 g ks S := Eq.trans hb h
theorem CI.lt {w : World} {g : Nat} {ks S : List Nat} (h : CI w g ks S) : g < w.heap.size := Blk.lt h
theorem CI.far {w : World} {g k i : Nat} {ks S : List Nat} (h : CI w g ks S) (hk : g ≠ k) (v : Value) : CI (w.setCell ⟨k, i, none⟩ v) g ks S := Blk.far (p := ⟨k, i, none⟩) h hk v
theorem CI.below {w w1 : World} {g : Nat} {ks S : List Nat} (h : CI w g ks S) (b : Below w.heap.size w w1) : CI w1 g ks S := Blk.below' h b
end Go.Proofs.YtpihgljdbpnehaaDoor
namespace Go.Proofs.YtpihgljdbpnehaaDoor
open Go.RowKit
/-- What stands while the next key is made. -/
structure NM (w0 : World) (gc g4 : Nat) (ks S : List Nat) (f : Nat → Nat) (w : World) : Prop where
  c : CI w gc ks S
  k : BB w g4 f
  r : BB w (g4 + 1) (fun _ => 0)
  bel : Below w0.heap.size w0 w
  lo : w0.heap.size ≤ g4
  far : gc < g4
theorem NM.drew {w0 w : World} {gc g4 : Nat} {ks S : List Nat} {f : Nat → Nat} (h : NM w0 gc g4 ks S f w) : NM w0 gc g4 ks S f w.drew := ⟨h.c.of_block rfl, h.k.of_block rfl, h.r.of_block rfl, below_drew h.bel, h.lo, h.far⟩
theorem NM.below {w0 w w1 : World} {gc g4 : Nat} {ks S : List Nat} {f : Nat → Nat} (h : NM w0 gc g4 ks S f w) (b : Below w.heap.size w w1) : NM w0 gc g4 ks S f w1 := ⟨h.c.below b, h.k.below b, h.r.below b, h.bel.trans (b.mono h.bel.size), h.lo, h.far⟩
theorem NM.row {w0 w : World} {gc g4 g : Nat} {ks S : List Nat} {f : Nat → Nat} (h : NM w0 gc g4 ks S f w) (hg : g4 + 1 < g) (cs : Array Value) : NM w0 gc g4 ks S f (w.setRow g cs) :=
  have := h.far; have := h.lo
  ⟨Blk.rowFar h.c (by omega) cs, Blk.rowFar h.k (by omega) cs, Blk.rowFar h.r (by omega) cs, below_setRow h.bel (by omega) cs, h.lo, h.far⟩
theorem NM.set {w0 w : World} {gc g4 : Nat} {ks S : List Nat} {f : Nat → Nat} (h : NM w0 gc g4 ks S f w) (k : Nat) (f' : Nat → Nat) (ho : ∀ i, i ≠ k → f' i = f i) : NM w0 gc g4 ks S f' (w.setCell ⟨g4, k, none⟩ (.int .u8 ((f' k : Nat) : Int))) :=
  have := h.far
  ⟨h.c.far (by omega) _, h.k.set k f' ho, h.r.far (by omega) _, h.bel.setCell (p := ⟨g4, k, none⟩) h.lo _, h.lo, h.far⟩
end Go.Proofs.YtpihgljdbpnehaaDoor
namespace Go.Proofs.YtpihgljdbpnehaaDoor
open Go.RowKit
theorem HS.congr {w wr : World} {v : Value} {l : List Nat} {y y' h : Nat → Nat} (H : HS w v l y h wr) (e : ∀ i, i < 16 → y i = y' i) : HS w v l y' h wr := ⟨H.y.congr e, H.h, H.r, H.s, H.bl⟩
end Go.Proofs.YtpihgljdbpnehaaDoor
namespace Go.Proofs.YtpihgljdbpnehaaDoor
open Go.RowKit
/-- What stands in Seal: key, nonce. -/
structure SK (w0 : World) (K NN : List Nat) (w : World) : Prop where
  k : Blk w w0.heap.size 26 (Iv .u8 (NI K))
  n : Blk w (w0.heap.size + 1) 28 (Iv .u8 (NI NN))
  bel : Below w0.heap.size w0 w
section
variable {w0 w w1 : World} {K NN : List Nat}
theorem SK.drew (h : SK w0 K NN w) : SK w0 K NN w.drew := ⟨h.k.drew, h.n.drew, below_drew h.bel⟩
theorem SK.below (h : SK w0 K NN w) (b : Below w.heap.size w w1) : SK w0 K NN w1 := ⟨Blk.below' h.k b, Blk.below' h.n b, h.bel.trans (b.mono h.bel.size)⟩
theorem SK.row (h : SK w0 K NN w) {g : Nat} (hg : w0.heap.size + 2 ≤ g) (cs : Array Value) : SK w0 K NN (w.setRow g cs) := ⟨h.k.rowFar (by omega) _, h.n.rowFar (by omega) _, below_setRow h.bel (by omega) _⟩
end
/-- What stands in Seal from the sums on. -/
structure SQ (w0 : World) (K NN : List Nat) (gh gy : Nat) (h y : Nat → Nat) (ov : Value) (X : List Nat) (w : World) : Prop where
  s : SK w0 K NN w
  h : Blk w gh 26 (Iv .u8 (NI (LB h)))
  y : Blk w gy 26 (Iv .u8 (NI (LB y)))
  o : OwL (w0.heap.size + 3) w ov X
theorem SQ.below {w0 w w1 : World} {K NN X : List Nat} {gh gy : Nat} {h y : Nat → Nat} {ov : Value} (H : SQ w0 K NN gh gy h y ov X w) (b : Below w.heap.size w w1) : SQ w0 K NN gh gy h y ov X w1 := ⟨H.s.below b, Blk.below' H.h b, Blk.below' H.y b, H.o.below b⟩
theorem SQ.drew {w0 w : World} {K NN X : List Nat} {gh gy : Nat} {h y : Nat → Nat} {ov : Value} (H : SQ w0 K NN gh gy h y ov X w) : SQ w0 K NN gh gy h y ov X w.drew := H.below (below_drew (Below.refl _ _))
end Go.Proofs.YtpihgljdbpnehaaDoor
