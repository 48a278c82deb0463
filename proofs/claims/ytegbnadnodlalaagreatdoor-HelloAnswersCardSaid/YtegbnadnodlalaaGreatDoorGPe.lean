/- The contract of curve's choose (printed by gencurve.py). -/
import Derived.Test.YtegbnadnodlalaaGreatDoorGCi0GPb
namespace Go.Proofs.YtegbnadnodlalaaGreatDoor
open Go.RowKit
set_option maxHeartbeats 4000000 in
set_option maxRecDepth 100000 in
theorem cchoose_v (s : Nat) (hs : s < 18446744073709551616) (X Y Z T X' Y' Z' T' : Nat) (lX : X < pp) (lY : Y < pp) (lZ : Z < pp) (lX' : X' < pp) (lY' : Y' < pp) (lZ' : Z' < pp) (lT : T < pp) (lT' : T' < pp) (w : World) :
  Calls Tryz.prog 80 #[.int .u64 (s : Int), PV ⟨X, Y, Z, T⟩, PV ⟨X', Y', Z', T'⟩] w fun e w' => e = .returned (PV ⟨swapped s X X', swapped s Y Y', swapped s Z Z', swapped s T T'⟩) ∧ Below w.heap.size w w' := by
 have cX := fun W => swap_v s X X' _ _ W hs lX lX' rfl rfl
 have cY := fun W => swap_v s Y Y' _ _ W hs lY lY' rfl rfl
 have cZ := fun W => swap_v s Z Z' _ _ W hs lZ lZ' rfl rfl
 have cT := fun W => swap_v s T T' _ _ W hs lT lT' rfl rfl
 generalize swapped s X X' = SX at *
 generalize swapped s X' X = DX at *
 generalize swapped s Y Y' = SY at *
 generalize swapped s Y' Y = DY at *
 generalize swapped s Z Z' = SZ at *
 generalize swapped s Z' Z = DZ at *
 generalize swapped s T T' = ST at *
 generalize swapped s T' T = DT at *
 have CX := Lib.hid cX
 have CY := Lib.hid cY
 have CZ := Lib.hid cZ
 have CT := Lib.hid cT
 clear cX cY cZ cT
 unfold PV
 go_enter Tryz.func80, Tryz.ntmps80
 go_upto_region 1 with fail
 generalize hW : World.alloc (World.alloc (World.alloc w _) _) _ = W
 have hB : Below w.heap.size w W := hW ▸ (((Below.refl w.heap.size w).alloc (Nat.le_refl _) _).alloc (by simp) _).alloc (by simp; omega) _
 have K0 : Blk W (w.heap.size) 85 (Pc ⟨X, Y, Z, T⟩) := hW ▸ (((Blk.new' (by simp) _ _).alloc _).alloc _)
 have K1 : Blk W (w.heap.size + 1) 85 (Pc ⟨X', Y', Z', T'⟩) := hW ▸ ((Blk.new' (by simp) _ _).alloc _)
 have K2 : Blk W (w.heap.size + 1 + 1) 85 (Pc p40) := hW ▸ (Blk.new' (by simp) _ _)
 have hS : Facts [.blk (w.heap.size) 85 (Pc ⟨X, Y, Z, T⟩), .blk (w.heap.size + 1) 85 (Pc ⟨X', Y', Z', T'⟩)] W := Facts.cons (f := .blk (w.heap.size) 85 (Pc ⟨X, Y, Z, T⟩)) K0 (Facts.cons (f := .blk (w.heap.size + 1) 85 (Pc ⟨X', Y', Z', T'⟩)) K1 (Facts.nil))
 clear hW K0 K1
 refine wp_region_seq ?_
 refine wpSeq_yield (S := Facts [.blk (w.heap.size) 85 (Pc ⟨X, Y, Z, T⟩), .blk (w.heap.size + 1) 85 (Pc ⟨X', Y', Z', T'⟩)]) (yieldsIf_move rfl _ rfl _ rfl) hS ?_
 simp only [Act.put, List.setIfInBounds_toArray, List.set_cons_zero, List.set_cons_succ]
 refine wpSeq_yield (S := Facts [.blk (w.heap.size) 85 (Pc ⟨X, Y, Z, T⟩), .blk (w.heap.size + 1) 85 (Pc ⟨X', Y', Z', T'⟩)]) (show YieldsIf _ _ _ _ (.pointer (some ⟨w.heap.size, 0, none⟩)) _ from yieldsIf_pf0 rfl _ rfl (w.heap.size) rfl) hS ?_
 simp only [Act.put, List.setIfInBounds_toArray, List.set_cons_zero, List.set_cons_succ]
 refine wpSeq_yield (S := Facts [.blk (w.heap.size) 85 (Pc ⟨X, Y, Z, T⟩), .blk (w.heap.size + 1) 85 (Pc ⟨X', Y', Z', T'⟩)]) (show YieldsIf _ _ _ _ (El X) _ from yieldsIf_pl0 rfl _ rfl (w.heap.size) rfl 85 _ (.head _)) hS ?_
 simp only [Act.put, List.setIfInBounds_toArray, List.set_cons_zero, List.set_cons_succ]
 refine wpSeq_yield (S := Facts [.blk (w.heap.size) 85 (Pc ⟨X, Y, Z, T⟩), .blk (w.heap.size + 1) 85 (Pc ⟨X', Y', Z', T'⟩)]) (show YieldsIf _ _ _ _ (.pointer (some ⟨w.heap.size + 1, 0, none⟩)) _ from yieldsIf_pf0 rfl _ rfl (w.heap.size + 1) rfl) hS ?_
 simp only [Act.put, List.setIfInBounds_toArray, List.set_cons_zero, List.set_cons_succ]
 refine wpSeq_yield (S := Facts [.blk (w.heap.size) 85 (Pc ⟨X, Y, Z, T⟩), .blk (w.heap.size + 1) 85 (Pc ⟨X', Y', Z', T'⟩)]) (show YieldsIf _ _ _ _ (El X') _ from yieldsIf_pl0 rfl _ rfl (w.heap.size + 1) rfl 85 _ (.tail _ (.head _))) hS ?_
 simp only [Act.put, List.setIfInBounds_toArray, List.set_cons_zero, List.set_cons_succ]
 refine wpSeq_wp rfl ?_
 go_simp
 refine (CX.out _).mono ?_
 rintro e v1 ⟨rfl, b⟩
 replace hB := hB.trans (b.mono hB.size)
 replace hS := hS.below b
 replace K2 := K2.below' b
 clear b
 show wpSeq _ _ _ _ _ _
 refine wpSeq_yield (S := Facts [.blk (w.heap.size) 85 (Pc ⟨X, Y, Z, T⟩), .blk (w.heap.size + 1) 85 (Pc ⟨X', Y', Z', T'⟩)]) (yieldsIf_move rfl _ rfl _ rfl) hS ?_
 simp only [Act.put, List.setIfInBounds_toArray, List.set_cons_zero, List.set_cons_succ]
 refine wpSeq_yield (S := Facts [.blk (w.heap.size) 85 (Pc ⟨X, Y, Z, T⟩), .blk (w.heap.size + 1) 85 (Pc ⟨X', Y', Z', T'⟩)]) (show YieldsIf _ _ _ _ (El SX) _ from yieldsIf_extract rfl _ _ rfl _ rfl _ rfl) hS ?_
 simp only [Act.put, List.setIfInBounds_toArray, List.set_cons_zero, List.set_cons_succ]
 refine wpSeq_yield (S := Facts [.blk (w.heap.size) 85 (Pc ⟨X, Y, Z, T⟩), .blk (w.heap.size + 1) 85 (Pc ⟨X', Y', Z', T'⟩)]) (show YieldsIf _ _ _ _ (El DX) _ from yieldsIf_extract rfl _ _ rfl _ rfl _ rfl) hS ?_
 simp only [Act.put, List.setIfInBounds_toArray, List.set_cons_zero, List.set_cons_succ]
 refine wpSeq_yield (S := Facts [.blk (w.heap.size) 85 (Pc ⟨X, Y, Z, T⟩), .blk (w.heap.size + 1) 85 (Pc ⟨X', Y', Z', T'⟩)]) (show YieldsIf _ _ _ _ (.pointer (some ⟨w.heap.size, 0, none⟩)) _ from yieldsIf_pf0 rfl _ rfl (w.heap.size) rfl) hS ?_
 simp only [Act.put, List.setIfInBounds_toArray, List.set_cons_zero, List.set_cons_succ]
 refine wpSeq_store_mid rfl 83 _ _ rfl (w.heap.size) 0 (El_cells SX) rfl rfl ((hS.blkAt (w.heap.size) 85 (Pc ⟨X, Y, Z, T⟩) (.head _)).pthere 0 (by decide) _) (info_El _) (El_one _) ?_
 try simp only [Act.put, List.setIfInBounds_toArray, List.set_cons_zero, List.set_cons_succ]
 replace hB := below_setCells (g := w.heap.size) (by omega) (El_cells SX).toList 0 hB
 replace hS : Facts [.blk (w.heap.size) 85 (Pc ⟨SX, Y, Z, T⟩), .blk (w.heap.size + 1) 85 (Pc ⟨X', Y', Z', T'⟩)] _ := Facts.cons (f := .blk (w.heap.size) 85 (Pc ⟨SX, Y, Z, T⟩)) ((hS.blkAt (w.heap.size) 85 (Pc ⟨X, Y, Z, T⟩) (.head _)).pput0 _) (Facts.cons (f := .blk (w.heap.size + 1) 85 (Pc ⟨X', Y', Z', T'⟩)) (Blk.farCells (k := w.heap.size) (by first | omega | exact blk_ne (hS.blkAt _ _ _ (.tail _ (.head _))) (hS.blkAt _ _ _ (.head _)) (by decide)) _ 0 (hS.blkAt (w.heap.size + 1) 85 (Pc ⟨X', Y', Z', T'⟩) (.tail _ (.head _)))) (Facts.nil))
 replace K2 := Blk.farCells (k := w.heap.size) (by omega) (El_cells SX).toList 0 K2
 generalize hWn : World.setCells _ _ _ _ = Wn at *
 clear hWn
 refine wpSeq_nil ?_
 go_upto_region 2 with fail
 refine wp_region_seq ?_
 refine wpSeq_yield (S := Facts [.blk (w.heap.size) 85 (Pc ⟨SX, Y, Z, T⟩), .blk (w.heap.size + 1) 85 (Pc ⟨X', Y', Z', T'⟩)]) (yieldsIf_move rfl _ rfl _ rfl) hS ?_
 simp only [Act.put, List.setIfInBounds_toArray, List.set_cons_zero, List.set_cons_succ]
 refine wpSeq_yield (S := Facts [.blk (w.heap.size) 85 (Pc ⟨SX, Y, Z, T⟩), .blk (w.heap.size + 1) 85 (Pc ⟨X', Y', Z', T'⟩)]) (show YieldsIf _ _ _ _ (.pointer (some ⟨w.heap.size, 5, none⟩)) _ from yieldsIf_pf5 rfl _ rfl (w.heap.size) rfl) hS ?_
 simp only [Act.put, List.setIfInBounds_toArray, List.set_cons_zero, List.set_cons_succ]
 refine wpSeq_yield (S := Facts [.blk (w.heap.size) 85 (Pc ⟨SX, Y, Z, T⟩), .blk (w.heap.size + 1) 85 (Pc ⟨X', Y', Z', T'⟩)]) (show YieldsIf _ _ _ _ (El Y) _ from yieldsIf_pl5 rfl _ rfl (w.heap.size) rfl 85 _ (.head _)) hS ?_
 simp only [Act.put, List.setIfInBounds_toArray, List.set_cons_zero, List.set_cons_succ]
 refine wpSeq_yield (S := Facts [.blk (w.heap.size) 85 (Pc ⟨SX, Y, Z, T⟩), .blk (w.heap.size + 1) 85 (Pc ⟨X', Y', Z', T'⟩)]) (show YieldsIf _ _ _ _ (.pointer (some ⟨w.heap.size + 1, 5, none⟩)) _ from yieldsIf_pf5 rfl _ rfl (w.heap.size + 1) rfl) hS ?_
 simp only [Act.put, List.setIfInBounds_toArray, List.set_cons_zero, List.set_cons_succ]
 refine wpSeq_yield (S := Facts [.blk (w.heap.size) 85 (Pc ⟨SX, Y, Z, T⟩), .blk (w.heap.size + 1) 85 (Pc ⟨X', Y', Z', T'⟩)]) (show YieldsIf _ _ _ _ (El Y') _ from yieldsIf_pl5 rfl _ rfl (w.heap.size + 1) rfl 85 _ (.tail _ (.head _))) hS ?_
 simp only [Act.put, List.setIfInBounds_toArray, List.set_cons_zero, List.set_cons_succ]
 refine wpSeq_wp rfl ?_
 go_simp
 refine (CY.out _).mono ?_
 rintro e v2 ⟨rfl, b⟩
 replace hB := hB.trans (b.mono hB.size)
 replace hS := hS.below b
 replace K2 := K2.below' b
 clear b
 show wpSeq _ _ _ _ _ _
 refine wpSeq_yield (S := Facts [.blk (w.heap.size) 85 (Pc ⟨SX, Y, Z, T⟩), .blk (w.heap.size + 1) 85 (Pc ⟨X', Y', Z', T'⟩)]) (yieldsIf_move rfl _ rfl _ rfl) hS ?_
 simp only [Act.put, List.setIfInBounds_toArray, List.set_cons_zero, List.set_cons_succ]
 refine wpSeq_yield (S := Facts [.blk (w.heap.size) 85 (Pc ⟨SX, Y, Z, T⟩), .blk (w.heap.size + 1) 85 (Pc ⟨X', Y', Z', T'⟩)]) (show YieldsIf _ _ _ _ (El SY) _ from yieldsIf_extract rfl _ _ rfl _ rfl _ rfl) hS ?_
 simp only [Act.put, List.setIfInBounds_toArray, List.set_cons_zero, List.set_cons_succ]
 refine wpSeq_yield (S := Facts [.blk (w.heap.size) 85 (Pc ⟨SX, Y, Z, T⟩), .blk (w.heap.size + 1) 85 (Pc ⟨X', Y', Z', T'⟩)]) (show YieldsIf _ _ _ _ (El DY) _ from yieldsIf_extract rfl _ _ rfl _ rfl _ rfl) hS ?_
 simp only [Act.put, List.setIfInBounds_toArray, List.set_cons_zero, List.set_cons_succ]
 refine wpSeq_yield (S := Facts [.blk (w.heap.size) 85 (Pc ⟨SX, Y, Z, T⟩), .blk (w.heap.size + 1) 85 (Pc ⟨X', Y', Z', T'⟩)]) (show YieldsIf _ _ _ _ (.pointer (some ⟨w.heap.size, 5, none⟩)) _ from yieldsIf_pf5 rfl _ rfl (w.heap.size) rfl) hS ?_
 simp only [Act.put, List.setIfInBounds_toArray, List.set_cons_zero, List.set_cons_succ]
 refine wpSeq_store_mid rfl 83 _ _ rfl (w.heap.size) 5 (El_cells SY) rfl rfl ((hS.blkAt (w.heap.size) 85 (Pc ⟨SX, Y, Z, T⟩) (.head _)).pthere 5 (by decide) _) (info_El _) (El_one _) ?_
 try simp only [Act.put, List.setIfInBounds_toArray, List.set_cons_zero, List.set_cons_succ]
 replace hB := below_setCells (g := w.heap.size) (by omega) (El_cells SY).toList 5 hB
 replace hS : Facts [.blk (w.heap.size) 85 (Pc ⟨SX, SY, Z, T⟩), .blk (w.heap.size + 1) 85 (Pc ⟨X', Y', Z', T'⟩)] _ := Facts.cons (f := .blk (w.heap.size) 85 (Pc ⟨SX, SY, Z, T⟩)) ((hS.blkAt (w.heap.size) 85 (Pc ⟨SX, Y, Z, T⟩) (.head _)).pput5 _) (Facts.cons (f := .blk (w.heap.size + 1) 85 (Pc ⟨X', Y', Z', T'⟩)) (Blk.farCells (k := w.heap.size) (by first | omega | exact blk_ne (hS.blkAt _ _ _ (.tail _ (.head _))) (hS.blkAt _ _ _ (.head _)) (by decide)) _ 5 (hS.blkAt (w.heap.size + 1) 85 (Pc ⟨X', Y', Z', T'⟩) (.tail _ (.head _)))) (Facts.nil))
 replace K2 := Blk.farCells (k := w.heap.size) (by omega) (El_cells SY).toList 5 K2
 generalize hWn : World.setCells _ _ _ _ = Wn at *
 clear hWn
 refine wpSeq_nil ?_
 go_upto_region 3 with fail
 refine wp_region_seq ?_
 refine wpSeq_yield (S := Facts [.blk (w.heap.size) 85 (Pc ⟨SX, SY, Z, T⟩), .blk (w.heap.size + 1) 85 (Pc ⟨X', Y', Z', T'⟩)]) (yieldsIf_move rfl _ rfl _ rfl) hS ?_
 simp only [Act.put, List.setIfInBounds_toArray, List.set_cons_zero, List.set_cons_succ]
 refine wpSeq_yield (S := Facts [.blk (w.heap.size) 85 (Pc ⟨SX, SY, Z, T⟩), .blk (w.heap.size + 1) 85 (Pc ⟨X', Y', Z', T'⟩)]) (show YieldsIf _ _ _ _ (.pointer (some ⟨w.heap.size, 10, none⟩)) _ from yieldsIf_pf10 rfl _ rfl (w.heap.size) rfl) hS ?_
 simp only [Act.put, List.setIfInBounds_toArray, List.set_cons_zero, List.set_cons_succ]
 refine wpSeq_yield (S := Facts [.blk (w.heap.size) 85 (Pc ⟨SX, SY, Z, T⟩), .blk (w.heap.size + 1) 85 (Pc ⟨X', Y', Z', T'⟩)]) (show YieldsIf _ _ _ _ (El Z) _ from yieldsIf_pl10 rfl _ rfl (w.heap.size) rfl 85 _ (.head _)) hS ?_
 simp only [Act.put, List.setIfInBounds_toArray, List.set_cons_zero, List.set_cons_succ]
 refine wpSeq_yield (S := Facts [.blk (w.heap.size) 85 (Pc ⟨SX, SY, Z, T⟩), .blk (w.heap.size + 1) 85 (Pc ⟨X', Y', Z', T'⟩)]) (show YieldsIf _ _ _ _ (.pointer (some ⟨w.heap.size + 1, 10, none⟩)) _ from yieldsIf_pf10 rfl _ rfl (w.heap.size + 1) rfl) hS ?_
 simp only [Act.put, List.setIfInBounds_toArray, List.set_cons_zero, List.set_cons_succ]
 refine wpSeq_yield (S := Facts [.blk (w.heap.size) 85 (Pc ⟨SX, SY, Z, T⟩), .blk (w.heap.size + 1) 85 (Pc ⟨X', Y', Z', T'⟩)]) (show YieldsIf _ _ _ _ (El Z') _ from yieldsIf_pl10 rfl _ rfl (w.heap.size + 1) rfl 85 _ (.tail _ (.head _))) hS ?_
 simp only [Act.put, List.setIfInBounds_toArray, List.set_cons_zero, List.set_cons_succ]
 refine wpSeq_wp rfl ?_
 go_simp
 refine (CZ.out _).mono ?_
 rintro e v3 ⟨rfl, b⟩
 replace hB := hB.trans (b.mono hB.size)
 replace hS := hS.below b
 replace K2 := K2.below' b
 clear b
 show wpSeq _ _ _ _ _ _
 refine wpSeq_yield (S := Facts [.blk (w.heap.size) 85 (Pc ⟨SX, SY, Z, T⟩), .blk (w.heap.size + 1) 85 (Pc ⟨X', Y', Z', T'⟩)]) (yieldsIf_move rfl _ rfl _ rfl) hS ?_
 simp only [Act.put, List.setIfInBounds_toArray, List.set_cons_zero, List.set_cons_succ]
 refine wpSeq_yield (S := Facts [.blk (w.heap.size) 85 (Pc ⟨SX, SY, Z, T⟩), .blk (w.heap.size + 1) 85 (Pc ⟨X', Y', Z', T'⟩)]) (show YieldsIf _ _ _ _ (El SZ) _ from yieldsIf_extract rfl _ _ rfl _ rfl _ rfl) hS ?_
 simp only [Act.put, List.setIfInBounds_toArray, List.set_cons_zero, List.set_cons_succ]
 refine wpSeq_yield (S := Facts [.blk (w.heap.size) 85 (Pc ⟨SX, SY, Z, T⟩), .blk (w.heap.size + 1) 85 (Pc ⟨X', Y', Z', T'⟩)]) (show YieldsIf _ _ _ _ (El DZ) _ from yieldsIf_extract rfl _ _ rfl _ rfl _ rfl) hS ?_
 simp only [Act.put, List.setIfInBounds_toArray, List.set_cons_zero, List.set_cons_succ]
 refine wpSeq_yield (S := Facts [.blk (w.heap.size) 85 (Pc ⟨SX, SY, Z, T⟩), .blk (w.heap.size + 1) 85 (Pc ⟨X', Y', Z', T'⟩)]) (show YieldsIf _ _ _ _ (.pointer (some ⟨w.heap.size, 10, none⟩)) _ from yieldsIf_pf10 rfl _ rfl (w.heap.size) rfl) hS ?_
 simp only [Act.put, List.setIfInBounds_toArray, List.set_cons_zero, List.set_cons_succ]
 refine wpSeq_store_mid rfl 83 _ _ rfl (w.heap.size) 10 (El_cells SZ) rfl rfl ((hS.blkAt (w.heap.size) 85 (Pc ⟨SX, SY, Z, T⟩) (.head _)).pthere 10 (by decide) _) (info_El _) (El_one _) ?_
 try simp only [Act.put, List.setIfInBounds_toArray, List.set_cons_zero, List.set_cons_succ]
 replace hB := below_setCells (g := w.heap.size) (by omega) (El_cells SZ).toList 10 hB
 replace hS : Facts [.blk (w.heap.size) 85 (Pc ⟨SX, SY, SZ, T⟩), .blk (w.heap.size + 1) 85 (Pc ⟨X', Y', Z', T'⟩)] _ := Facts.cons (f := .blk (w.heap.size) 85 (Pc ⟨SX, SY, SZ, T⟩)) ((hS.blkAt (w.heap.size) 85 (Pc ⟨SX, SY, Z, T⟩) (.head _)).pput10 _) (Facts.cons (f := .blk (w.heap.size + 1) 85 (Pc ⟨X', Y', Z', T'⟩)) (Blk.farCells (k := w.heap.size) (by first | omega | exact blk_ne (hS.blkAt _ _ _ (.tail _ (.head _))) (hS.blkAt _ _ _ (.head _)) (by decide)) _ 10 (hS.blkAt (w.heap.size + 1) 85 (Pc ⟨X', Y', Z', T'⟩) (.tail _ (.head _)))) (Facts.nil))
 replace K2 := Blk.farCells (k := w.heap.size) (by omega) (El_cells SZ).toList 10 K2
 generalize hWn : World.setCells _ _ _ _ = Wn at *
 clear hWn
 refine wpSeq_nil ?_
 go_upto_region 4 with fail
 refine wp_region_seq ?_
 refine wpSeq_yield (S := Facts [.blk (w.heap.size) 85 (Pc ⟨SX, SY, SZ, T⟩), .blk (w.heap.size + 1) 85 (Pc ⟨X', Y', Z', T'⟩)]) (yieldsIf_move rfl _ rfl _ rfl) hS ?_
 simp only [Act.put, List.setIfInBounds_toArray, List.set_cons_zero, List.set_cons_succ]
 refine wpSeq_yield (S := Facts [.blk (w.heap.size) 85 (Pc ⟨SX, SY, SZ, T⟩), .blk (w.heap.size + 1) 85 (Pc ⟨X', Y', Z', T'⟩)]) (show YieldsIf _ _ _ _ (.pointer (some ⟨w.heap.size, 15, none⟩)) _ from yieldsIf_pf15 rfl _ rfl (w.heap.size) rfl) hS ?_
 simp only [Act.put, List.setIfInBounds_toArray, List.set_cons_zero, List.set_cons_succ]
 refine wpSeq_yield (S := Facts [.blk (w.heap.size) 85 (Pc ⟨SX, SY, SZ, T⟩), .blk (w.heap.size + 1) 85 (Pc ⟨X', Y', Z', T'⟩)]) (show YieldsIf _ _ _ _ (El T) _ from yieldsIf_pl15 rfl _ rfl (w.heap.size) rfl 85 _ (.head _)) hS ?_
 simp only [Act.put, List.setIfInBounds_toArray, List.set_cons_zero, List.set_cons_succ]
 refine wpSeq_yield (S := Facts [.blk (w.heap.size) 85 (Pc ⟨SX, SY, SZ, T⟩), .blk (w.heap.size + 1) 85 (Pc ⟨X', Y', Z', T'⟩)]) (show YieldsIf _ _ _ _ (.pointer (some ⟨w.heap.size + 1, 15, none⟩)) _ from yieldsIf_pf15 rfl _ rfl (w.heap.size + 1) rfl) hS ?_
 simp only [Act.put, List.setIfInBounds_toArray, List.set_cons_zero, List.set_cons_succ]
 refine wpSeq_yield (S := Facts [.blk (w.heap.size) 85 (Pc ⟨SX, SY, SZ, T⟩), .blk (w.heap.size + 1) 85 (Pc ⟨X', Y', Z', T'⟩)]) (show YieldsIf _ _ _ _ (El T') _ from yieldsIf_pl15 rfl _ rfl (w.heap.size + 1) rfl 85 _ (.tail _ (.head _))) hS ?_
 simp only [Act.put, List.setIfInBounds_toArray, List.set_cons_zero, List.set_cons_succ]
 refine wpSeq_wp rfl ?_
 go_simp
 refine (CT.out _).mono ?_
 rintro e v4 ⟨rfl, b⟩
 replace hB := hB.trans (b.mono hB.size)
 replace hS := hS.below b
 replace K2 := K2.below' b
 clear b
 show wpSeq _ _ _ _ _ _
 refine wpSeq_yield (S := Facts [.blk (w.heap.size) 85 (Pc ⟨SX, SY, SZ, T⟩), .blk (w.heap.size + 1) 85 (Pc ⟨X', Y', Z', T'⟩)]) (yieldsIf_move rfl _ rfl _ rfl) hS ?_
 simp only [Act.put, List.setIfInBounds_toArray, List.set_cons_zero, List.set_cons_succ]
 refine wpSeq_yield (S := Facts [.blk (w.heap.size) 85 (Pc ⟨SX, SY, SZ, T⟩), .blk (w.heap.size + 1) 85 (Pc ⟨X', Y', Z', T'⟩)]) (show YieldsIf _ _ _ _ (El ST) _ from yieldsIf_extract rfl _ _ rfl _ rfl _ rfl) hS ?_
 simp only [Act.put, List.setIfInBounds_toArray, List.set_cons_zero, List.set_cons_succ]
 refine wpSeq_yield (S := Facts [.blk (w.heap.size) 85 (Pc ⟨SX, SY, SZ, T⟩), .blk (w.heap.size + 1) 85 (Pc ⟨X', Y', Z', T'⟩)]) (show YieldsIf _ _ _ _ (El DT) _ from yieldsIf_extract rfl _ _ rfl _ rfl _ rfl) hS ?_
 simp only [Act.put, List.setIfInBounds_toArray, List.set_cons_zero, List.set_cons_succ]
 refine wpSeq_yield (S := Facts [.blk (w.heap.size) 85 (Pc ⟨SX, SY, SZ, T⟩), .blk (w.heap.size + 1) 85 (Pc ⟨X', Y', Z', T'⟩)]) (show YieldsIf _ _ _ _ (.pointer (some ⟨w.heap.size, 15, none⟩)) _ from yieldsIf_pf15 rfl _ rfl (w.heap.size) rfl) hS ?_
 simp only [Act.put, List.setIfInBounds_toArray, List.set_cons_zero, List.set_cons_succ]
 refine wpSeq_store_mid rfl 83 _ _ rfl (w.heap.size) 15 (El_cells ST) rfl rfl ((hS.blkAt (w.heap.size) 85 (Pc ⟨SX, SY, SZ, T⟩) (.head _)).pthere 15 (by decide) _) (info_El _) (El_one _) ?_
 try simp only [Act.put, List.setIfInBounds_toArray, List.set_cons_zero, List.set_cons_succ]
 replace hB := below_setCells (g := w.heap.size) (by omega) (El_cells ST).toList 15 hB
 replace hS : Facts [.blk (w.heap.size) 85 (Pc ⟨SX, SY, SZ, ST⟩), .blk (w.heap.size + 1) 85 (Pc ⟨X', Y', Z', T'⟩)] _ := Facts.cons (f := .blk (w.heap.size) 85 (Pc ⟨SX, SY, SZ, ST⟩)) ((hS.blkAt (w.heap.size) 85 (Pc ⟨SX, SY, SZ, T⟩) (.head _)).pput15 _) (Facts.cons (f := .blk (w.heap.size + 1) 85 (Pc ⟨X', Y', Z', T'⟩)) (Blk.farCells (k := w.heap.size) (by first | omega | exact blk_ne (hS.blkAt _ _ _ (.tail _ (.head _))) (hS.blkAt _ _ _ (.head _)) (by decide)) _ 15 (hS.blkAt (w.heap.size + 1) 85 (Pc ⟨X', Y', Z', T'⟩) (.tail _ (.head _)))) (Facts.nil))
 replace K2 := Blk.farCells (k := w.heap.size) (by omega) (El_cells ST).toList 15 K2
 generalize hWn : World.setCells _ _ _ _ = Wn at *
 clear hWn
 refine wpSeq_nil ?_
 go_upto_region 5 with fail
 refine wp_region_seq ?_
 refine wpSeq_yield (S := Facts [.blk (w.heap.size) 85 (Pc ⟨SX, SY, SZ, ST⟩), .blk (w.heap.size + 1) 85 (Pc ⟨X', Y', Z', T'⟩)]) (show YieldsIf _ _ _ _ (PV ⟨SX, SY, SZ, ST⟩) _ from yieldsIf_load rfl 85 _ rfl (w.heap.size) rfl 85 _ _ (.head _) Tryz.underlying85 rfl (info_Pc _)) hS ?_
 simp only [Act.put, List.setIfInBounds_toArray, List.set_cons_zero, List.set_cons_succ]
 refine wpSeq_store_row rfl 85 _ _ rfl (w.heap.size + 1 + 1) (Pc ⟨SX, SY, SZ, ST⟩) rfl rfl _ _ K2 (info_Pc _) (Pc_same _ _) (Pc_one _) ?_
 try simp only [Act.put, List.setIfInBounds_toArray, List.set_cons_zero, List.set_cons_succ]
 replace hB := below_setRow hB (g := w.heap.size + 1 + 1) (by omega) (Pc ⟨SX, SY, SZ, ST⟩)
 replace hS : Facts [.blk (w.heap.size) 85 (Pc ⟨SX, SY, SZ, ST⟩), .blk (w.heap.size + 1) 85 (Pc ⟨X', Y', Z', T'⟩)] _ := Facts.cons (f := .blk (w.heap.size) 85 (Pc ⟨SX, SY, SZ, ST⟩)) ((hS.blkAt (w.heap.size) 85 (Pc ⟨SX, SY, SZ, ST⟩) (.head _)).rowFar (k := w.heap.size + 1 + 1) (by omega) (Pc ⟨SX, SY, SZ, ST⟩)) (Facts.cons (f := .blk (w.heap.size + 1) 85 (Pc ⟨X', Y', Z', T'⟩)) ((hS.blkAt (w.heap.size + 1) 85 (Pc ⟨X', Y', Z', T'⟩) (.tail _ (.head _))).rowFar (k := w.heap.size + 1 + 1) (by omega) (Pc ⟨SX, SY, SZ, ST⟩)) (Facts.nil))
 replace K2 := K2.row (Pc ⟨SX, SY, SZ, ST⟩)
 generalize hWn : World.setRow _ _ _ = Wn at *
 clear hWn
 refine wpSeq_nil ?_
 go_wp2
 exact bodyPost_ret (results_cell_row rfl _ _ _ 85 _ (0, 0) _ rfl K2 Tryz.underlying85 rfl (info_Pc _)) rfl ⟨rfl, hB⟩
end Go.Proofs.YtegbnadnodlalaaGreatDoor
