/- The program's Seal: its contract (printed by genwj.py). -/
import Derived.Test.YtpihgljdbpnehaaDoorWi0Vb
import Derived.Laws.MakeOwn
namespace Go.Proofs.YtpihgljdbpnehaaDoor
open Go.RowKit
/-- A sealer as it is made. -/
def zSL : Array Value := #[.nilIface, .int .u8 0, .int .u8 0, .int .u8 0, .int .u8 0, .int .u8 0, .int .u8 0, .int .u8 0, .int .u8 0, .int .u8 0, .int .u8 0, .int .u8 0, .int .u8 0]
theorem list12 (l : List Nat) (h : l.length = 12) : ∃ a b c d e f g h i j k m, l = [a, b, c, d, e, f, g, h, i, j, k, m] := by
  match l, h with
  | [a, b, c, d, e, f, g, h, i, j, k, m], _ => exact ⟨a, b, c, d, e, f, g, h, i, j, k, m, rfl⟩
theorem run_sealer (w : World) (gc : Nat) (nn : List Nat) (ln : nn.length = 12) : (Instr.build 91 #[(0, .iface 86 (.pointer (some ⟨gc, 0, none⟩))), (1, .agg (Iv .u8 (NI nn)))]).run Tryd.prog w = .ok (.agg (sv gc nn)) w := by
  obtain ⟨a, b, c, d, e, f, g, h, i, j, k, m, rfl⟩ := list12 nn ln
  kernel_rfl
theorem yieldsIf_sealer {ops : Array Oper} {S : World → Prop} {o : Oper} {a : Act} (hgd : Region.wanted o (yielded ops a.tmps) = true) (x y : Operand) (ho : o.op = .build 91 #[(0, x), (1, y)]) (gc : Nat) (nn : List Nat) (ln : nn.length = 12) (hx : a.eval x = .iface 86 (.pointer (some ⟨gc, 0, none⟩))) (hy : a.eval y = .agg (Iv .u8 (NI nn))) : YieldsIf Tryd.prog ops S o (.agg (sv gc nn)) a := by
  refine Or.inl ⟨hgd, fun w' _ => ?_⟩
  simp only [execOp, ho, List.map_toArray, List.map_cons, List.map_nil, hx, hy, Sem.run_bind, run_sealer w' gc nn ln, Result.andThen_ok, Sem.run_pure]
/-- What stands ahead of the sealer. -/
structure SL1 (w0 : World) (k nn : List Nat) (w : World) : Prop where
  k : Blk w w0.heap.size 27 (Iv .u8 (NI k))
  n : Blk w (w0.heap.size + 1) 28 (Iv .u8 (NI nn))
  bel : Below w0.heap.size w0 w
theorem SL1.below {w0 w w1 : World} {k nn : List Nat} (h : SL1 w0 k nn w) (b : Below w.heap.size w w1) : SL1 w0 k nn w1 := ⟨Blk.below' h.k b, Blk.below' h.n b, h.bel.trans (b.mono h.bel.size)⟩
theorem SL1.drew {w0 w : World} {k nn : List Nat} (h : SL1 w0 k nn w) : SL1 w0 k nn w.drew := ⟨h.k.drew, h.n.drew, below_drew h.bel⟩
/-- What stands in Seal and Open. -/
structure SLM (w0 : World) (gc gs : Nat) (k nn : List Nat) (w : World) : Prop where
  c : CI w gc (KM boxL k 11) boxL
  s : Blk w gs 91 (sv gc nn)
  bel : Below w0.heap.size w0 w
  fc : w0.heap.size ≤ gc
  fs : w0.heap.size ≤ gs
section
variable {w0 w w1 : World} {gc gs : Nat} {k nn : List Nat}
theorem SLM.below (h : SLM w0 gc gs k nn w) (b : Below w.heap.size w w1) : SLM w0 gc gs k nn w1 := ⟨h.c.below b, Blk.below' h.s b, h.bel.trans (b.mono h.bel.size), h.fc, h.fs⟩
theorem SLM.drew (h : SLM w0 gc gs k nn w) : SLM w0 gc gs k nn w.drew := ⟨h.c.of_block rfl, h.s.drew, below_drew h.bel, h.fc, h.fs⟩
theorem SLM.size (h : SLM w0 gc gs k nn w) : gc < w.heap.size ∧ gs < w.heap.size := ⟨h.c.lt, Blk.lt h.s⟩
/-- Behind what changes one row that is behind all of these. -/
theorem SLM.grown {g : Nat} (h : SLM w0 gc gs k nn w) (gr : w.grownBy w1 (some g)) (hc : gc < g) (hs : gs < g) : SLM w0 gc gs k nn w1 := by
  have := h.fc
  exact ⟨Blk.kept h.c gr (fun e => by have := Option.some.inj e; omega), Blk.kept h.s gr (fun e => by have := Option.some.inj e; omega), below_grown' h.bel gr (fun j e => by have := Option.some.inj e; omega) (by have := h.bel.size; omega), h.fc, h.fs⟩
end
theorem wp_make {o : Oper} {a : Act} {w : World} {K : Act → World → Prop} {Q : Exit → Act → World → Prop} (x y : Operand) (ho : o.op = .makeSlice 24 x y) (c : Nat) (hx : a.eval x = .int .i64 0) (hy : a.eval y = .int .i64 (c : Int)) (hc : c ≤ 100000)
    (B : Nat) (hB : B ≤ w.heap.size) (h : ∀ w', OwL B w' (.slice (some ⟨w.heap.size, 0, none⟩) 0 c) [] → w.grownBy w' none → w.heap.size < w'.heap.size → K (a.put o.dst (.slice (some ⟨w.heap.size, 0, none⟩) 0 c)) w') : o.wp Tryd.prog a w K Q := by
  obtain ⟨i, hi, hs, hy', hz⟩ := info_u8
  obtain ⟨w', hr, hO, hg⟩ := run_make_own (P := Tryd.prog) w B 24 5 i _ 1 Tryd.underlying24 hi hz hs .i64 .i64 c (by rw [hy']; omega) (by simp only [maxLen]; omega) hB
  unfold Oper.wp execOp
  simp only [ho, Sem.run_bind, hx, hy, hr, Result.andThen_ok, Sem.run_pure]
  refine h w' hO hg ?_
  exact (World.ownsRow.lt hO _ rfl).2
theorem below_none {w w1 : World} (g : w.grownBy w1 none) : Below w.heap.size w w1 := ⟨g.os, g.tape, g.output, g.size, fun i hi => g.block i hi (fun e => by cases e)⟩
theorem sb_block {w : World} {p : Option Addr} {n c : Nat} {l : List Nat} (h : SB w (.slice p n c) l) : l = [] ∨ ∀ a, p = some a → a.block < w.heap.size := by
  obtain ⟨q, d, e, _, h3⟩ := h
  simp only [Value.slice.injEq] at e
  obtain ⟨rfl, rfl, rfl⟩ := e
  rcases h3 with h3 | ⟨g, o, rfl, hb⟩
  · exact Or.inl h3
  · refine Or.inr fun a e => ?_
    have e' := (Option.some.inj e).symm
    subst e'
    exact hb.blk
set_option maxHeartbeats 8000000 in
set_option maxRecDepth 100000 in
theorem seal_w (k nn D b : List Nat) (lk : k.length = 16) (ln : nn.length = 12) (bk : ∀ x ∈ k, x < 256) (bn : ∀ x ∈ nn, x < 256) (bD : ∀ x ∈ D, x < 256) (bb : ∀ x ∈ b, x < 256) (nd nb cd cb : Nat) (hnd : nd ≤ 1000) (hnb : nb ≤ 1000) (pd pb : Option Addr) (w : World)
    (hD : SB w (.slice pd nd cd) D) (hb : SB w (.slice pb nb cb) b) :
    Calls Tryd.prog 27 #[.agg (Iv .u8 (NI k)), .agg (Iv .u8 (NI nn)), .slice pd nd cd, .slice pb nb cb] w fun e w' => ∃ v, e = .returned v ∧ OwL w.heap.size w' v (sealL k nn D b) ∧ Below w.heap.size w w' := by
  have CN := Lib.hid (fun W => new_any k lk bk W)
  have eb := hb.len.1
  have EB := Lib.hid eb
  have HD := Lib.hid hD
  have HB := Lib.hid hb
  have HBL := Lib.hid (sb_block hb)
  clear hD hb eb
  go_enter Tryd.func27, Tryd.ntmps27
  go_upto_region 1 with fail
  generalize hW : World.alloc (World.alloc w _) _ = W
  have hM : SL1 w k nn W := ⟨hW ▸ (Blk.new w _ _).alloc _, hW ▸ Blk.new' (by simp) _ _, hW ▸ ((Below.refl w.heap.size w).alloc (Nat.le_refl _) _).alloc (by simp) _⟩
  clear hW
  rename_i aK
  refine wp_region_Z (S := SL1 w k nn) 6 (by kernel_rfl) ?_
  replace hM := hM.drew
  generalize W.drew = V at hM ⊢
  have hS := hM
  refine wpAnyZ_takeL 0 rfl (by kernel_rfl) (by kernel_rfl) (by kernel_rfl) (by kernel_rfl) (by kernel_rfl) (fun _ _ _ H => H) (show YieldsIf _ _ _ _ (Value.agg (Iv .u8 (NI k))) _ from yieldsIf_row_wanted rfl 27 _ rfl (w.heap.size) rfl 27 _ _ (fun _ H => H.k) Tryd.underlying27 rfl (info_b _ lk)) hS ?_
  simp only [Act.put, List.setIfInBounds_toArray, List.set_cons_zero, List.set_cons_succ]
  refine wpAnyZ_takeL 3 rfl (by kernel_rfl) (by kernel_rfl) (by kernel_rfl) (by kernel_rfl) (by kernel_rfl) (fun _ _ _ H => H) (show YieldsIf _ _ _ _ (Value.agg (Iv .u8 (NI nn))) _ from yieldsIf_row_wanted rfl 28 _ rfl (w.heap.size + 1) rfl 28 _ _ (fun _ H => H.n) Tryd.underlying28 rfl (info_12 _ ln)) hS ?_
  simp only [Act.put, List.setIfInBounds_toArray, List.set_cons_zero, List.set_cons_succ]
  refine wpAnyZ_jobsRL [(⟨1, 13⟩, .rel (fun v w' => ∃ g, v = .pointer (some ⟨g, 0, none⟩) ∧ CI w' g (KM boxL k 11) boxL ∧ w.heap.size ≤ g)), (⟨2, 14⟩, .rel (fun v w' => ∃ g, v = .iface 86 (.pointer (some ⟨g, 0, none⟩)) ∧ CI w' g (KM boxL k 11) boxL ∧ w.heap.size ≤ g)), (⟨4, 16⟩, .rel (fun v w' => ∃ g, v = .agg (sv g nn) ∧ CI w' g (KM boxL k 11) boxL ∧ w.heap.size ≤ g)), (⟨5, 9⟩, .rel (fun v w' => ∃ g, v = .pointer (some ⟨g, 0, none⟩) ∧ Blk w' g 91 zSL ∧ w.heap.size ≤ g))] 1 _ _ _ (by kernel_rfl) (fun _ _ _ _ _ h => h) (fun _ _ h hb => h.below hb) hS ?_ ?_ ?_
  · intro j hj
    simp only [List.map_cons, List.map_nil, List.mem_cons, List.not_mem_nil, or_false] at hj
    rcases hj with rfl | rfl | rfl | rfl
    · rintro v w1 w2 ⟨g, e, H, hg⟩ hb
      exact ⟨g, e, H.below hb, hg⟩
    · rintro v w1 w2 ⟨g, e, H, hg⟩ hb
      exact ⟨g, e, H.below hb, hg⟩
    · rintro v w1 w2 ⟨g, e, H, hg⟩ hb
      exact ⟨g, e, H.below hb, hg⟩
    · rintro v w1 w2 ⟨g, e, H, hg⟩ hb
      exact ⟨g, e, Blk.below' H hb, hg⟩
  · intro j hj
    simp only [List.map_cons, List.map_nil, List.mem_cons, List.not_mem_nil, or_false] at hj
    rcases hj with rfl | rfl | rfl | rfl
    · refine jobR_frame [] (by kernel_rfl) ?_
      intro f W K hS' hp hK
      have hsz := hS'.bel.size
      simp only [putAll, List.foldr_nil, Act.put]
      try simp only [putAll, List.foldr_nil, Act.put, List.setIfInBounds_toArray, List.set_cons_zero, List.set_cons_succ] at hK
      unfold wpOp
      go_simp
      left
      refine (CN.out _).mono ?_
      rintro e v ⟨g, rfl, hg, hC, b⟩
      exact hK _ _ ⟨g, rfl, hC, by omega⟩ b
    · refine jobR_frame [⟨1, 13⟩] (by kernel_rfl) ?_
      intro f W K hS' hp hK
      obtain ⟨g, e1, hC, hg⟩ : ∃ g, f 1 = .pointer (some ⟨g, 0, none⟩) ∧ CI W g (KM boxL k 11) boxL ∧ w.heap.size ≤ g := hp ⟨1, 13⟩ (by simp)
      simp only [putAll, List.foldr_cons, List.foldr_nil, Act.put, List.setIfInBounds_toArray, List.set_cons_zero, List.set_cons_succ, e1]
      try simp only [putAll, List.foldr_cons, List.foldr_nil, Act.put, List.setIfInBounds_toArray, List.set_cons_zero, List.set_cons_succ, e1] at hK
      refine YieldsIf.wpOp (S := fun _ => True) (v := .iface 86 (.pointer (some ⟨g, 0, none⟩))) rfl (Or.inl ⟨by rfl, fun w' hw' => by go_simp⟩) trivial ?_
      exact hK _ _ ⟨g, rfl, hC, hg⟩ (Below.refl _ _)
    · refine jobR_frame [⟨2, 14⟩] (by kernel_rfl) ?_
      intro f W K hS' hp hK
      obtain ⟨g, e1, hC, hg⟩ : ∃ g, f 2 = .iface 86 (.pointer (some ⟨g, 0, none⟩)) ∧ CI W g (KM boxL k 11) boxL ∧ w.heap.size ≤ g := hp ⟨2, 14⟩ (by simp)
      simp only [putAll, List.foldr_cons, List.foldr_nil, Act.put, List.setIfInBounds_toArray, List.set_cons_zero, List.set_cons_succ, e1]
      try simp only [putAll, List.foldr_cons, List.foldr_nil, Act.put, List.setIfInBounds_toArray, List.set_cons_zero, List.set_cons_succ, e1] at hK
      refine YieldsIf.wpOp (S := fun _ => True) (v := .agg (sv g nn)) rfl (yieldsIf_sealer rfl _ _ rfl g nn ln rfl rfl) trivial ?_
      exact hK _ _ ⟨g, rfl, hC, hg⟩ (Below.refl _ _)
    · refine jobR_frame [] (by kernel_rfl) ?_
      intro f W K hS' hp hK
      have hsz := hS'.bel.size
      simp only [putAll, List.foldr_nil, Act.put]
      try simp only [putAll, List.foldr_nil, Act.put, List.setIfInBounds_toArray, List.set_cons_zero, List.set_cons_succ] at hK
      exact job_alloc (S := fun _ => True) (j := ⟨5, 9⟩) 91 zSL _ _ rfl rfl rfl (fun W => by go_simp; rfl) W K trivial (fun v w' h b hb => by
        obtain ⟨g, e, H⟩ := h
        have := hb g (by rw [e]; rfl)
        exact hK _ _ ⟨g, e, H, by omega⟩ b)
  · intro f W hS2 hB1 hR
    obtain ⟨gc, e4, hC, nc⟩ : ∃ g, f 4 = .agg (sv g nn) ∧ CI W g (KM boxL k 11) boxL ∧ w.heap.size ≤ g := hR ⟨4, 16⟩ (by simp)
    obtain ⟨gs, e5, A5, ns⟩ : ∃ g, f 5 = .pointer (some ⟨g, 0, none⟩) ∧ Blk W g 91 zSL ∧ w.heap.size ≤ g := hR ⟨5, 9⟩ (by simp)
    have ncs : gc ≠ gs := fun e => by
      have h1 : W.heap[gc]? = _ := hC
      have h2 : W.heap[gs]? = _ := A5
      rw [e, h2] at h1
      simp only [Option.some.injEq, Obj.cells.injEq] at h1
      exact absurd h1.2.1 (by decide)
    clear hR
    simp only [setAll, List.map_cons, List.map_nil, putAll, List.foldr_cons, List.foldr_nil, Act.put, List.setIfInBounds_toArray, List.set_cons_zero, List.set_cons_succ, e4, e5]
    clear e4 e5 hM
    generalize f 1 = f1
    generalize f 2 = f2
    refine zstep 6 rfl rfl (by kernel_rfl) ?_
    refine wp_store_row 91 _ _ rfl gs (sv gc nn) rfl rfl 91 _ A5 (info_sv gc nn ln) (by unfold sv; rw [Array.size_append, Iv_size, NI_length, ln]; rfl) (sv_one gc nn) ?_
    refine ⟨fun e => Bool.noConfusion ((e.symm.trans (show _ = true from rfl) : false = true)), ?_⟩
    refine wpAnyZ_done (by kernel_rfl) ?_ _
    refine aK _ _ ?_
    clear aK hS CN
    have hM : SLM w gc gs k nn (World.setRow W gs (sv gc nn)) := ⟨Blk.rowFar hC ncs _, Blk.row A5 _, below_setRow hS2.bel (by omega) _, by omega, by omega⟩
    clear hS2 hB1 hC A5 nc ns ncs
    generalize World.setRow _ _ _ = w2 at *
    simp only [Act.put]
    go_upto_region 2 with fail
    rename_i aK
    refine wp_region_S (S := SLM w gc gs k nn) (by kernel_rfl) ?_
    replace hM := hM.drew
    generalize hV2 : w2.drew = V2 at hM ⊢
    have hS := hM
    have sz := hM.size
    have hsz := hM.bel.size
    have a1 : IntKind.i64.wrap ((nb : Int) + 16) = ((nb + 16 : Nat) : Int) := by rw [IntKind.wrap_i64]; omega
    refine wpAnyS_takeL 0 rfl (by kernel_rfl) (by kernel_rfl) (by kernel_rfl) (fun _ _ _ H => H) (show YieldsIf _ _ _ _ (Value.agg (sv gc nn)) _ from yieldsIf_row_wanted rfl 91 _ rfl (gs) rfl 91 _ _ (fun _ H => H.s) Tryd.underlying91 rfl (info_sv gc nn ln)) hS ?_
    simp only [Act.put, List.setIfInBounds_toArray, List.set_cons_zero, List.set_cons_succ]
    refine wpAnyS_takeL 1 rfl (by kernel_rfl) (by kernel_rfl) (by kernel_rfl) (fun _ _ _ H => H) (yieldsIf_move rfl _ rfl (.slice pb nb cb) rfl) hS ?_
    simp only [Act.put, List.setIfInBounds_toArray, List.set_cons_zero, List.set_cons_succ]
    refine wpAnyS_takeL 2 (v := .int .i64 (nb : Int)) rfl (by kernel_rfl) (by kernel_rfl) (by kernel_rfl) (fun _ _ _ H => H) (Or.inl ⟨by rfl, fun w' hw' => by go_simp⟩) hS ?_
    simp only [Act.put, List.setIfInBounds_toArray, List.set_cons_zero, List.set_cons_succ]
    refine wpAnyS_takeL 3 (v := .int .i64 ((nb + 16 : Nat) : Int)) rfl (by kernel_rfl) (by kernel_rfl) (by kernel_rfl) (fun _ _ _ H => H) (Or.inl ⟨by rfl, fun w' hw' => by go_simp⟩) hS ?_
    simp only [Act.put, List.setIfInBounds_toArray, List.set_cons_zero, List.set_cons_succ]
    refine wpAnyS_takeL 5 rfl (by kernel_rfl) (by kernel_rfl) (by kernel_rfl) (fun _ _ _ H => H) (yieldsIf_move rfl _ rfl (.slice pb nb cb) rfl) hS ?_
    simp only [Act.put, List.setIfInBounds_toArray, List.set_cons_zero, List.set_cons_succ]
    refine sstep 4 rfl rfl (by kernel_rfl) ?_
    refine wp_make _ _ rfl (nb + 16) rfl rfl (by omega) w.heap.size (by omega) ?_
    intro w3 hO hg hlt
    replace hM := hM.below (below_none hg)
    clear hS hg
    refine ⟨hM, ?_⟩
    simp only [Act.put, List.setIfInBounds_toArray, List.set_cons_zero, List.set_cons_succ]
    generalize V2.heap.size = G at *
    refine sstep 6 rfl rfl (by kernel_rfl) ?_
    unfold Oper.wp execOp
    go_simp
    refine (masked_w w.heap.size gc k nn b [] lk ln bk bn bb nb (by omega) (by simp) _ (some ⟨G, 0, none⟩) pb 0 (nb + 16) cb rfl w3 hM.c hO (by omega) (HB.out.below hM.bel) (fun e => by have := Option.some.inj e; dsimp only at this; omega) (HBL.out.imp id fun hv a e => by
      have := hv a e
      exact ⟨by omega, fun e' => by have := Option.some.inj e'; dsimp only at this; omega⟩)).mono ?_
    rintro _ w4 ⟨v', rfl, hO', gr, own⟩
    replace hM := hM.grown (g := G) gr (by omega) (by omega)
    clear hO
    refine ⟨hM, ?_⟩
    try simp only [List.nil_append] at hO'
    refine wpAnyS_takeL 7 rfl (by kernel_rfl) (by kernel_rfl) (by kernel_rfl) (fun _ _ _ H => H) (yieldsIf_assign rfl _ rfl v' rfl) hM ?_
    simp only [Act.put, List.setIfInBounds_toArray, List.set_cons_zero, List.set_cons_succ]
    refine wpAnyS_done (by kernel_rfl) ?_ _
    refine aK _ _ ?_
    clear aK a1
    have oB : ∀ j, v'.ownBlock = some j → gc < j ∧ gs < j := fun j hj => by
      rcases own with h | ⟨q, h, hq⟩
      · rw [hj] at h
        have := Option.some.inj h
        dsimp only at this
        omega
      · rw [hj] at h
        have := Option.some.inj h
        omega
    obtain ⟨pv, cv, hv⟩ := hO'.shape
    have lX : (xorS k nn b).length = nb := by rw [xorS_length, EB.out]
    rw [lX] at hv
    subst hv
    have CT := Lib.hid (fun W h1 h2 h3 => tag_w gc k nn D (xorS k nn b) lk ln bk bn bD (xorS_bytes bk bn bb (by rw [← EB.out]; omega)) nd nb cd cv (by omega) (by omega) pd pv W h1 h2 h3)
    have bT := tagL_bytes (beside := D) (ct := xorS k nn b) bk bn
    have lT := tagL_length k nn D (xorS k nn b)
    have eSL : sealL k nn D b = xorS k nn b ++ tagL k nn D (xorS k nn b) := rfl
    have ES := Lib.hid eSL
    clear eSL own gr hlt hV2 EB
    generalize tagL k nn D (xorS k nn b) = T at *
    generalize xorS k nn b = X at *
    clear bk bn bb bD
    go_upto_region 3 with fail
    rename_i aK
    go_wp2_with (refine wpList_load_row rfl 91 _ rfl gs rfl 91 _ (0, 0) _ hM.s Tryd.underlying91 rfl (info_sv gc nn ln) ?_)
    refine (CT.out _ hM.c (HD.out.below hM.bel) hO'.sb).mono ?_
    rintro _ w5 ⟨rfl, b5⟩
    replace hM := hM.below b5
    replace hO' := hO'.below b5
    clear b5 CT
    go_upto_region 4 with (refine wpList_store_row rfl 27 _ _ rfl w5.heap.size (Iv .u8 (NI T)) rfl rfl 27 _ (Blk.new w5 27 (Iv .u8 (NI (LB fun _ => 0)))) (info_b _ lT) (by rw [Iv_size, Iv_size, NI_length, NI_length, LB_length, lT]) (Iv_one _ _) ?_)
    change Code.wp _ _ _ _ (World.setRow (w5.alloc (.cells (Iv .u8 (NI (LB fun _ => 0))) 27)) w5.heap.size _)
    rename_i aK
    have B6 : Below w5.heap.size w5 (World.setRow (w5.alloc (.cells (Iv .u8 (NI (LB fun _ => 0))) 27)) w5.heap.size (Iv .u8 (NI T))) := below_setRow ((Below.refl w5.heap.size w5).alloc (Nat.le_refl _) _) (Nat.le_refl _) _
    have A6 : BA (World.setRow (w5.alloc (.cells (Iv .u8 (NI (LB fun _ => 0))) 27)) w5.heap.size (Iv .u8 (NI T))) w5.heap.size 0 T := BA.of_blk (Blk.row (Blk.new w5 27 (Iv .u8 (NI (LB fun _ => 0)))) _)
    replace hO' := hO'.below B6
    have bel := hM.bel.trans (B6.mono hM.bel.size)
    clear hM B6
    generalize World.setRow _ _ _ = W6 at *
    generalize w5.heap.size = g11 at *
    obtain ⟨v7, w7, hr, hO7, gr7, _⟩ := append_ba w.heap.size W6 24 _ X T hO' g11 0 16 A6 (by omega) bel.size
    rw [lT] at hr
    have BB := below_grown' bel gr7 (fun j e => (hO'.lt j e).1) bel.size
    clear A6 bel gr7
    simp only [Act.put]
    refine wp_region_seq ?_
    refine wpSeq_yield (S := fun _ => True) (yieldsIf_move rfl _ rfl (.slice pv nb cv) rfl) trivial ?_
    simp only [Act.put, List.setIfInBounds_toArray, List.set_cons_zero, List.set_cons_succ]
    refine wpSeq_yield (S := fun _ => True) (v := .slice (some ⟨g11, 0, none⟩) 16 16) (Or.inl ⟨by rfl, fun w' hw' => by go_simp⟩) trivial ?_
    simp only [Act.put, List.setIfInBounds_toArray, List.set_cons_zero, List.set_cons_succ]
    refine wpSeq_wp rfl (wp_append_run _ _ _ _ rfl _ _ rfl rfl v7 w7 hr ?_)
    simp only [Act.put, List.setIfInBounds_toArray, List.set_cons_zero, List.set_cons_succ]
    refine wpSeq_yield (S := fun _ => True) (yieldsIf_assign rfl _ rfl v7 rfl) trivial ?_
    refine wpSeq_nil ?_
    simp only [Act.put, List.setIfInBounds_toArray, List.set_cons_zero, List.set_cons_succ]
    refine aK _ _ ?_
    clear aK hr hO'
    go_wp2
    go_ret
    exact ⟨v7, rfl, by rw [ES.out]; exact hO7, BB⟩
end Go.Proofs.YtpihgljdbpnehaaDoor
