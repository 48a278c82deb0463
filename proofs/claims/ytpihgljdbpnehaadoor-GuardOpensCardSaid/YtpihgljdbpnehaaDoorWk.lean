/- The program's Open: its contract; SealC, OpenC (printed by genwk.py). -/
import Derived.Test.YtpihgljdbpnehaaDoorWi0Wj
namespace Go.Proofs.YtpihgljdbpnehaaDoor
open Go.RowKit
theorem neq16b (l1 l2 : List Int) (h1 : l1.length = 16) (h2 : l2.length = 16) (w : World) :
  (binOp .neq 27 (.agg (Iv .u8 l1)) (.agg (Iv .u8 l2))).run Tryd.prog w = .ok (.bool (!decide (l1 = l2))) w := by
 rw [run_neq_struct, eq16b l1 l2 h1 h2]
 rfl
theorem yieldsIf_neq16b {ops : Array Oper} {S : World → Prop} {o : Oper} {a : Act} (hgd : Region.wanted o (yielded ops a.tmps) = true) (x y : Operand) (ho : o.op = .binOp .neq 27 x y 27) (p q : List Nat) (hx : a.eval x = .agg (Iv .u8 (NI p))) (hy : a.eval y = .agg (Iv .u8 (NI q)))
  (hp : p.length = 16) (hq : q.length = 16) (c : Bool) (hc : (!decide (p = q)) = c) : YieldsIf Tryd.prog ops S o (.bool c) a := by
 refine Or.inl ⟨hgd, fun w _ => ?_⟩
 simp only [execOp, ho, hx, hy, Sem.run_bind, Sem.run_pure, Result.andThen_ok, run_eqGuard_agg (hm := eqg_16b), neq16b _ _ (by rw [NI_length, hp]) (by rw [NI_length, hq]), dec_NI, hc]
theorem BA.range {w : World} {g o : Nat} {l : List Nat} (h : BA w g o l) : w.rangeAt g o (cl l) := fun j v hv => by
 obtain ⟨hj, rfl⟩ := cl_get _ _ _ hv
 rw [h.cell j hj]
 simp [List.getD_eq_getElem?_getD, hj]
set_option maxHeartbeats 8000000 in
set_option maxRecDepth 100000 in
theorem open_w (k nn D s : List Nat) (lk : k.length = 16) (ln : nn.length = 12) (bk : ∀ x ∈ k, x < 256) (bn : ∀ x ∈ nn, x < 256) (bD : ∀ x ∈ D, x < 256) (bs : ∀ x ∈ s, x < 256) (nd ns cd cs : Nat) (hnd : nd ≤ 1000) (hns : ns ≤ 1000) (pd ps : Option Addr) (w : World)
  (hD : SB w (.slice pd nd cd) D) (hs : SB w (.slice ps ns cs) s) :
  Calls Tryd.prog 39 #[.agg (Iv .u8 (NI k)), .agg (Iv .u8 (NI nn)), .slice pd nd cd, .slice ps ns cs] w fun e w' => ∃ v, e = .returned (.tuple #[v, .bool (openL k nn D s).isSome]) ∧ OwL w.heap.size w' v ((openL k nn D s).getD []) ∧ Below w.heap.size w w' := by
 have CN := Lib.hid (fun W => new_any k lk bk W)
 have es := hs.len.1
 have ec := hs.len.2
 rw [← es] at ec
 have ES := Lib.hid es
 have HD := Lib.hid hD
 have HS := Lib.hid hs
 clear hD hs es
 go_enter Tryd.func39, Tryd.ntmps39
 go_upto_region 1 with fail
 generalize hW : World.alloc (World.alloc w _) _ = W
 have hM : SL1 w k nn W := ⟨hW ▸ (Blk.new w _ _).alloc _, hW ▸ Blk.new' (by simp) _ _, hW ▸ ((Below.refl w.heap.size w).alloc (Nat.le_refl _) _).alloc (by simp) _⟩
 clear hW
 by_cases h16 : ns < 16
 ·
  have g1 : (ns : Int) < 16 := by omega
  have eo : openL k nn D s = none := open_short (by rw [← ES.out]; exact h16)
  have EO := Lib.hid eo
  clear eo CN
  go_wp2
  refine bodyPost_ret (results_tmp2 rfl _ _ _) rfl ?_
  exact ⟨.slice none 0 0, by rw [EO.out]; rfl, by rw [EO.out]; exact OwL.nil _ _, hM.bel⟩
 have g1 : ¬ (ns : Int) < 16 := by omega
 obtain ⟨g, o, rfl, hA⟩ : ∃ g o, ps = some ⟨g, o, none⟩ ∧ BA w g o s := by
  rcases HS.out.at_ with h0 | h0
  · omega
  · exact h0
 obtain ⟨ne, hne⟩ : ∃ ne, ne = ns - 16 := ⟨_, rfl⟩
 have a1 : IntKind.i64.wrap ((ns : Int) - 16) = (ne : Int) := by rw [IntKind.wrap_i64]; omega
 have hne' : ne + 16 = ns := by omega
 have lt1 : (s.take ne).length = ne := by rw [List.length_take, ← ES.out]; omega
 have ld1 : (s.drop ne).length = 16 := by rw [List.length_drop, ← ES.out]; omega
 have eo : openL k nn D s = if tagL k nn D (s.take ne) = s.drop ne then some (xorS k nn (s.take ne)) else none := by
  unfold openL
  rw [← ES.out, ← hne]
  by_cases hh : tagL k nn D (s.take ne) = s.drop ne
  · rw [if_pos ⟨by omega, hh⟩, if_pos hh]
  · rw [if_neg (fun h => hh h.2), if_neg hh]
 have EO := Lib.hid eo
 clear eo hne h16
 go_upto_region 3 with fail
 rename_i aK
 refine wp_region_Z (S := SL1 w k nn) 6 (by kernel_rfl) ?_
 replace hM := hM.drew
 generalize W.drew = V at hM ⊢
 have hS := hM
 refine wpAnyZ_takeL 0 rfl (by kernel_rfl) (by kernel_rfl) (by kernel_rfl) (by kernel_rfl) (by kernel_rfl) (fun _ _ _ H => H) (show YieldsIf _ _ _ _ (Value.agg (Iv .u8 (NI k))) _ from yieldsIf_row_wanted rfl 27 _ rfl (w.heap.size) rfl 27 _ _ (fun _ H => H.k) Tryd.underlying27 rfl (info_b _ lk)) hS ?_
 simp only [Act.put, List.setIfInBounds_toArray, List.set_cons_zero, List.set_cons_succ]
 refine wpAnyZ_takeL 3 rfl (by kernel_rfl) (by kernel_rfl) (by kernel_rfl) (by kernel_rfl) (by kernel_rfl) (fun _ _ _ H => H) (show YieldsIf _ _ _ _ (Value.agg (Iv .u8 (NI nn))) _ from yieldsIf_row_wanted rfl 28 _ rfl (w.heap.size + 1) rfl 28 _ _ (fun _ H => H.n) Tryd.underlying28 rfl (info_12 _ ln)) hS ?_
 simp only [Act.put, List.setIfInBounds_toArray, List.set_cons_zero, List.set_cons_succ]
 refine wpAnyZ_jobsRL [(⟨1, 16⟩, .rel (fun v w' => ∃ g, v = .pointer (some ⟨g, 0, none⟩) ∧ CI w' g (KM boxL k 11) boxL ∧ w.heap.size ≤ g)), (⟨2, 17⟩, .rel (fun v w' => ∃ g, v = .iface 86 (.pointer (some ⟨g, 0, none⟩)) ∧ CI w' g (KM boxL k 11) boxL ∧ w.heap.size ≤ g)), (⟨4, 19⟩, .rel (fun v w' => ∃ g, v = .agg (sv g nn) ∧ CI w' g (KM boxL k 11) boxL ∧ w.heap.size ≤ g)), (⟨5, 10⟩, .rel (fun v w' => ∃ g, v = .pointer (some ⟨g, 0, none⟩) ∧ Blk w' g 91 zSL ∧ w.heap.size ≤ g))] 1 _ _ _ (by kernel_rfl) (fun _ _ _ _ _ h => h) (fun _ _ h hb => h.below hb) hS ?_ ?_ ?_
 ·
  intro j hj
  simp only [List.map_cons, List.map_nil, List.mem_cons, List.not_mem_nil, or_false] at hj
  rcases hj with rfl | rfl | rfl | rfl
  ·
   rintro v w1 w2 ⟨g, e, H, hg⟩ hb
   exact ⟨g, e, H.below hb, hg⟩
  ·
   rintro v w1 w2 ⟨g, e, H, hg⟩ hb
   exact ⟨g, e, H.below hb, hg⟩
  ·
   rintro v w1 w2 ⟨g, e, H, hg⟩ hb
   exact ⟨g, e, H.below hb, hg⟩
  ·
   rintro v w1 w2 ⟨g, e, H, hg⟩ hb
   exact ⟨g, e, Blk.below' H hb, hg⟩
 ·
  intro j hj
  simp only [List.map_cons, List.map_nil, List.mem_cons, List.not_mem_nil, or_false] at hj
  rcases hj with rfl | rfl | rfl | rfl
  ·
   refine jobR_frame [] (by kernel_rfl) ?_
   intro f W K hS' hp hK
   have hsz := hS'.bel.size
   simp only [putAll, List.foldr_nil, Act.put]
   try simp only [putAll, List.foldr_nil, Act.put, List.setIfInBounds_toArray, List.set_cons_zero, List.set_cons_succ] at hK
   unfold wpOp
   go_simp
   left
   refine (CN.out _).mono ?_
   rintro e v ⟨g, rfl, hg, hC, b⟩
   exact hK _ _ ⟨g, rfl, hC, by omega⟩ b
  ·
   refine jobR_frame [⟨1, 16⟩] (by kernel_rfl) ?_
   intro f W K hS' hp hK
   obtain ⟨g, e1, hC, hg⟩ : ∃ g, f 1 = .pointer (some ⟨g, 0, none⟩) ∧ CI W g (KM boxL k 11) boxL ∧ w.heap.size ≤ g := hp ⟨1, 16⟩ (by simp)
   simp only [putAll, List.foldr_cons, List.foldr_nil, Act.put, List.setIfInBounds_toArray, List.set_cons_zero, List.set_cons_succ, e1]
   try simp only [putAll, List.foldr_cons, List.foldr_nil, Act.put, List.setIfInBounds_toArray, List.set_cons_zero, List.set_cons_succ, e1] at hK
   refine YieldsIf.wpOp (S := fun _ => True) (v := .iface 86 (.pointer (some ⟨g, 0, none⟩))) rfl (Or.inl ⟨by rfl, fun w' hw' => by go_simp⟩) trivial ?_
   exact hK _ _ ⟨g, rfl, hC, hg⟩ (Below.refl _ _)
  ·
   refine jobR_frame [⟨2, 17⟩] (by kernel_rfl) ?_
   intro f W K hS' hp hK
   obtain ⟨g, e1, hC, hg⟩ : ∃ g, f 2 = .iface 86 (.pointer (some ⟨g, 0, none⟩)) ∧ CI W g (KM boxL k 11) boxL ∧ w.heap.size ≤ g := hp ⟨2, 17⟩ (by simp)
   simp only [putAll, List.foldr_cons, List.foldr_nil, Act.put, List.setIfInBounds_toArray, List.set_cons_zero, List.set_cons_succ, e1]
   try simp only [putAll, List.foldr_cons, List.foldr_nil, Act.put, List.setIfInBounds_toArray, List.set_cons_zero, List.set_cons_succ, e1] at hK
   refine YieldsIf.wpOp (S := fun _ => True) (v := .agg (sv g nn)) rfl (yieldsIf_sealer rfl _ _ rfl g nn ln rfl rfl) trivial ?_
   exact hK _ _ ⟨g, rfl, hC, hg⟩ (Below.refl _ _)
  ·
   refine jobR_frame [] (by kernel_rfl) ?_
   intro f W K hS' hp hK
   have hsz := hS'.bel.size
   simp only [putAll, List.foldr_nil, Act.put]
   try simp only [putAll, List.foldr_nil, Act.put, List.setIfInBounds_toArray, List.set_cons_zero, List.set_cons_succ] at hK
   exact job_alloc (S := fun _ => True) (j := ⟨5, 10⟩) 91 zSL _ _ rfl rfl rfl (fun W => by go_simp; rfl) W K trivial (fun v w' h b hb => by
    obtain ⟨g, e, H⟩ := h
    have := hb g (by rw [e]; rfl)
    exact hK _ _ ⟨g, e, H, by omega⟩ b)
 ·
  intro f W hS2 hB1 hR
  obtain ⟨gc, e4, hC, nc⟩ : ∃ g, f 4 = .agg (sv g nn) ∧ CI W g (KM boxL k 11) boxL ∧ w.heap.size ≤ g := hR ⟨4, 19⟩ (by simp)
  obtain ⟨gs, e5, A5, ns⟩ : ∃ g, f 5 = .pointer (some ⟨g, 0, none⟩) ∧ Blk W g 91 zSL ∧ w.heap.size ≤ g := hR ⟨5, 10⟩ (by simp)
  have ncs : gc ≠ gs := fun e => by
   have h1 : W.heap[gc]? = _ := hC
   have h2 : W.heap[gs]? = _ := A5
   rw [e, h2] at h1
   simp only [Option.some.injEq, Obj.cells.injEq] at h1
   exact absurd h1.2.1 (by decide)
  clear hR
  simp only [setAll, List.map_cons, List.map_nil, putAll, List.foldr_cons, List.foldr_nil, Act.put, List.setIfInBounds_toArray, List.set_cons_zero, List.set_cons_succ, e4, e5]
  clear e4 e5 hM
  generalize f 1 = f1
  generalize f 2 = f2
  refine zstep 6 rfl rfl (by kernel_rfl) ?_
  refine wp_store_row 91 _ _ rfl gs (sv gc nn) rfl rfl 91 _ A5 (info_sv gc nn ln) (by unfold sv; rw [Array.size_append, Iv_size, NI_length, ln]; rfl) (sv_one gc nn) ?_
  refine ⟨fun e => Bool.noConfusion ((e.symm.trans (show _ = true from rfl) : false = true)), ?_⟩
  refine wpAnyZ_done (by kernel_rfl) ?_ _
  refine aK _ _ ?_
  clear aK hS CN
  have hM : SLM w gc gs k nn (World.setRow W gs (sv gc nn)) := ⟨Blk.rowFar hC ncs _, Blk.row A5 _, below_setRow hS2.bel (by omega) _, by omega, by omega⟩
  clear hS2 hB1 hC A5 nc ns ncs
  generalize World.setRow _ _ _ = w2 at *
  simp only [Act.put]
  try clear f1 f2
  go_upto_region 4 with fail
  go_upto_region 5 with fail
  rename_i aK
  have bH := Bytes.take bs ne
  have CT := Lib.hid (fun W h1 h2 h3 => tag_w gc k nn D (s.take ne) lk ln bk bn bD bH nd ne cd cs (by omega) (by omega) pd (some ⟨g, o, none⟩) W h1 h2 h3)
  have hH : SB w (.slice (some ⟨g, o, none⟩) ne cs) (s.take ne) := SB.head HS.out ne (by omega)
  have HH := Lib.hid hH
  have HAD := Lib.hid (hA.drop ne)
  have lT := tagL_length k nn D (s.take ne)
  refine wp_region_S (S := SLM w gc gs k nn) (by kernel_rfl) ?_
  replace hM := hM.drew
  generalize w2.drew = V2 at hM ⊢
  have hS := hM
  refine wpAnyS_takeL 0 rfl (by kernel_rfl) (by kernel_rfl) (by kernel_rfl) (fun _ _ _ H => H) (show YieldsIf _ _ _ _ (Value.agg (sv gc nn)) _ from yieldsIf_row_wanted rfl 91 _ rfl (gs) rfl 91 _ _ (fun _ H => H.s) Tryd.underlying91 rfl (info_sv gc nn ln)) hS ?_
  simp only [Act.put, List.setIfInBounds_toArray, List.set_cons_zero, List.set_cons_succ]
  refine wpAnyS_takeL 1 rfl (by kernel_rfl) (by kernel_rfl) (by kernel_rfl) (fun _ _ _ H => H) (yieldsIf_move rfl _ rfl (.slice pd nd cd) rfl) hS ?_
  simp only [Act.put, List.setIfInBounds_toArray, List.set_cons_zero, List.set_cons_succ]
  refine wpAnyS_takeL 2 rfl (by kernel_rfl) (by kernel_rfl) (by kernel_rfl) (fun _ _ _ H => H) (yieldsIf_move rfl _ rfl (.slice (some ⟨g, o, none⟩) ns cs) rfl) hS ?_
  simp only [Act.put, List.setIfInBounds_toArray, List.set_cons_zero, List.set_cons_succ]
  refine wpAnyS_takeL 3 rfl (by kernel_rfl) (by kernel_rfl) (by kernel_rfl) (fun _ _ _ H => H) (yieldsIf_move rfl _ rfl (.int .i64 (ne : Int)) rfl) hS ?_
  simp only [Act.put, List.setIfInBounds_toArray, List.set_cons_zero, List.set_cons_succ]
  refine wpAnyS_takeL 4 rfl (by kernel_rfl) (by kernel_rfl) (by kernel_rfl) (fun _ _ _ H => H) (yieldsIf_head rfl _ _ rfl (some ⟨g, o, none⟩) ns cs ne rfl rfl (by omega)) hS ?_
  simp only [Act.put, List.setIfInBounds_toArray, List.set_cons_zero, List.set_cons_succ]
  refine wpAnyS_takeL 6 rfl (by kernel_rfl) (by kernel_rfl) (by kernel_rfl) (fun _ _ _ H => H) (yieldsIf_move rfl _ rfl (.slice (some ⟨g, o, none⟩) ns cs) rfl) hS ?_
  simp only [Act.put, List.setIfInBounds_toArray, List.set_cons_zero, List.set_cons_succ]
  refine wpAnyS_takeL 7 rfl (by kernel_rfl) (by kernel_rfl) (by kernel_rfl) (fun _ _ _ H => H) (yieldsIf_move rfl _ rfl (.int .i64 (ne : Int)) rfl) hS ?_
  simp only [Act.put, List.setIfInBounds_toArray, List.set_cons_zero, List.set_cons_succ]
  have et : (.slice (tailP (some ⟨g, o, none⟩) cs ne) (ns - ne) (cs - ne) : Value) = .slice (some ⟨g, o + ne, none⟩) 16 (cs - ne) := by
   rw [show ns - ne = 16 by omega]
   simp [tailP, show ¬ cs = ne by omega, Addr.add_lit]
  refine wpAnyS_takeL 8 (v := .slice (some ⟨g, o + ne, none⟩) 16 (cs - ne)) rfl (by kernel_rfl) (by kernel_rfl) (by kernel_rfl) (fun _ _ _ H => H) (et ▸ yieldsIf_tail rfl _ _ rfl (some ⟨g, o, none⟩) ns cs ne rfl rfl (by omega) ec) hS ?_
  simp only [Act.put, List.setIfInBounds_toArray, List.set_cons_zero, List.set_cons_succ]
  have har : ∀ w', (Instr.arrayAt 27 (.slice (some ⟨g, o + ne, none⟩) 16 (cs - ne))).run Tryd.prog w' = .ok (.pointer (some ⟨g, o + ne, none⟩)) w' := fun w' => by simp [Instr.arrayAt, run_underlying Tryd.underlying27]
  refine wpAnyS_takeL 9 (v := .pointer (some ⟨g, o + ne, none⟩)) rfl (by kernel_rfl) (by kernel_rfl) (by kernel_rfl) (fun _ _ _ H => H) (Or.inl ⟨by rfl, fun w' hw' => by go_simp⟩) hS ?_
  simp only [Act.put, List.setIfInBounds_toArray, List.set_cons_zero, List.set_cons_succ]
  refine wpAnyS_takeL 10 rfl (by kernel_rfl) (by kernel_rfl) (by kernel_rfl) (fun _ _ _ H => H) (show YieldsIf _ _ _ _ (Value.agg (Iv .u8 (NI (s.drop ne)))) _ from yieldsIf_load_mid rfl 27 _ rfl g (o + ne) rfl (cl (s.drop ne)) _ (fun _ H => (HAD.out.below H.bel).range) Tryd.underlying27 rfl (info_mid _ ld1)) hS ?_
  simp only [Act.put, List.setIfInBounds_toArray, List.set_cons_zero, List.set_cons_succ]
  refine sstep 5 rfl rfl (by kernel_rfl) ?_
  unfold Oper.wp execOp
  go_simp
  refine (CT.out _ hM.c (HD.out.below hM.bel) (HH.out.below hM.bel)).mono ?_
  rintro _ w3 ⟨rfl, b3⟩
  replace hM := hM.below b3
  clear hS b3 CT
  refine ⟨hM, ?_⟩
  have hS := hM
  refine wpAnyS_takeL 11 rfl (by kernel_rfl) (by kernel_rfl) (by kernel_rfl) (fun _ _ _ H => H) (yieldsIf_neq16b rfl _ _ rfl (tagL k nn D (s.take ne)) (s.drop ne) rfl rfl lT ld1 _ rfl) hS ?_
  simp only [Act.put, List.setIfInBounds_toArray, List.set_cons_zero, List.set_cons_succ]
  refine wpAnyS_done (by kernel_rfl) ?_ _
  refine aK _ _ ?_
  clear aK hS
  by_cases hT : tagL k nn D (s.take ne) = s.drop ne
  ·
   have e1 : (!decide (tagL k nn D (s.take ne) = s.drop ne)) = false := by rw [decide_eq_true hT]; rfl
   rw [e1]
   have eo : openL k nn D s = some (xorS k nn (s.take ne)) := by rw [EO.out, if_pos hT]
   have EO' := Lib.hid eo
   clear eo hT e1 EO
   go_upto_region 7 with fail
   rename_i aK
   refine wp_region_S (S := SLM w gc gs k nn) (by kernel_rfl) ?_
   replace hM := hM.drew
   generalize w3.drew = V4 at hM ⊢
   have hS := hM
   have sz := hM.size
   have hsz := hM.bel.size
   refine wpAnyS_takeL 0 rfl (by kernel_rfl) (by kernel_rfl) (by kernel_rfl) (fun _ _ _ H => H) (show YieldsIf _ _ _ _ (Value.agg (sv gc nn)) _ from yieldsIf_row_wanted rfl 91 _ rfl (gs) rfl 91 _ _ (fun _ H => H.s) Tryd.underlying91 rfl (info_sv gc nn ln)) hS ?_
   simp only [Act.put, List.setIfInBounds_toArray, List.set_cons_zero, List.set_cons_succ]
   refine wpAnyS_takeL 1 rfl (by kernel_rfl) (by kernel_rfl) (by kernel_rfl) (fun _ _ _ H => H) (yieldsIf_move rfl _ rfl (.int .i64 (ne : Int)) rfl) hS ?_
   simp only [Act.put, List.setIfInBounds_toArray, List.set_cons_zero, List.set_cons_succ]
   refine wpAnyS_takeL 3 rfl (by kernel_rfl) (by kernel_rfl) (by kernel_rfl) (fun _ _ _ H => H) (yieldsIf_move rfl _ rfl (.slice (some ⟨g, o, none⟩) ns cs) rfl) hS ?_
   simp only [Act.put, List.setIfInBounds_toArray, List.set_cons_zero, List.set_cons_succ]
   refine wpAnyS_takeL 4 rfl (by kernel_rfl) (by kernel_rfl) (by kernel_rfl) (fun _ _ _ H => H) (yieldsIf_move rfl _ rfl (.int .i64 (ne : Int)) rfl) hS ?_
   simp only [Act.put, List.setIfInBounds_toArray, List.set_cons_zero, List.set_cons_succ]
   refine wpAnyS_takeL 5 rfl (by kernel_rfl) (by kernel_rfl) (by kernel_rfl) (fun _ _ _ H => H) (yieldsIf_head rfl _ _ rfl (some ⟨g, o, none⟩) ns cs ne rfl rfl (by omega)) hS ?_
   simp only [Act.put, List.setIfInBounds_toArray, List.set_cons_zero, List.set_cons_succ]
   refine sstep 2 rfl rfl (by kernel_rfl) ?_
   refine wp_make _ _ rfl ne rfl rfl (by omega) w.heap.size (by omega) ?_
   intro w5 hO hg hlt
   replace hM := hM.below (below_none hg)
   clear hS hg
   refine ⟨hM, ?_⟩
   simp only [Act.put, List.setIfInBounds_toArray, List.set_cons_zero, List.set_cons_succ]
   generalize V4.heap.size = G at *
   have hag := hA.blk
   refine sstep 6 rfl rfl (by kernel_rfl) ?_
   unfold Oper.wp execOp
   go_simp
   refine (masked_w w.heap.size gc k nn (s.take ne) [] lk ln bk bn bH ne (by omega) (by simp) _ (some ⟨G, 0, none⟩) (some ⟨g, o, none⟩) 0 ne cs rfl w5 hM.c hO (by omega) (HH.out.below hM.bel) (fun e => by have := Option.some.inj e; dsimp only at this; omega) (Or.inr fun a e => by
    have e2 := Option.some.inj e
    subst e2
    exact ⟨by dsimp only; omega, fun e' => by have := Option.some.inj e'; dsimp only at this; omega⟩)).mono ?_
   rintro _ w6 ⟨v', rfl, hO', gr, own⟩
   replace hM := hM.grown (g := G) gr (by omega) (by omega)
   clear hO
   refine ⟨hM, ?_⟩
   have hS := hM
   refine wpAnyS_takeL 7 rfl (by kernel_rfl) (by kernel_rfl) (by kernel_rfl) (fun _ _ _ H => H) (yieldsIf_assign rfl _ rfl v' rfl) hS ?_
   simp only [Act.put, List.setIfInBounds_toArray, List.set_cons_zero, List.set_cons_succ]
   refine wpAnyS_takeL 8 rfl (by kernel_rfl) (by kernel_rfl) (by kernel_rfl) (fun _ _ _ H => H) (yieldsIf_assign rfl _ rfl (.bool true) rfl) hS ?_
   simp only [Act.put, List.setIfInBounds_toArray, List.set_cons_zero, List.set_cons_succ]
   refine wpAnyS_done (by kernel_rfl) ?_ _
   refine aK _ _ ?_
   clear aK hS a1
   clear own gr HAD har et
   go_wp2
   refine bodyPost_ret (results_tmp2 rfl _ _ _) rfl ?_
   exact ⟨v', by rw [EO'.out]; rfl, by rw [EO'.out]; exact hO', hM.bel⟩
  ·
   have e1 : (!decide (tagL k nn D (s.take ne) = s.drop ne)) = true := by rw [decide_eq_false hT]; rfl
   rw [e1]
   have eo : openL k nn D s = none := by rw [EO.out, if_neg hT]
   have EO' := Lib.hid eo
   clear eo hT e1 EO
   go_wp2
   refine bodyPost_ret (results_tmp2 rfl _ _ _) rfl ?_
   exact ⟨.slice none 0 0, by rw [EO'.out]; rfl, by rw [EO'.out]; exact OwL.nil _ _, hM.bel⟩
theorem seal_c : SealC := fun k nn D b _S pd pb nd nb cd cb lk ln bk bn bD bb hnd hnb hS W h h' => hS ▸ seal_w k nn D b lk ln bk bn bD bb nd nb cd cb hnd hnb pd pb W h h'
theorem open_c : OpenC := fun k nn D s _o pd ps nd ns cd cs lk ln bk bn bD bs hnd hns ho W h h' => ho ▸ open_w k nn D s lk ln bk bn bD bs nd ns cd cs hnd hns pd ps W h h'
end Go.Proofs.YtpihgljdbpnehaaDoor
