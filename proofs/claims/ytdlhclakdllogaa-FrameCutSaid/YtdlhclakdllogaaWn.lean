/- The program's Parse: bytes as frames (printed by gen11/wn.py). -/
import Derived.Test.YtdlhclakdllogaaWm
namespace Go.Proofs.Ytdlhclakdllogaa
open Go.RowKit

/-- A frame's rows, of the call's own. -/
structure KD (H : Nat) (w : World) (x : Fr × Value × Value) : Prop where
  data : OwL H w x.2.1 x.1.data
  acks : OwS H w x.2.2 x.1.acks
theorem KD.fd {H : Nat} {w : World} {x : Fr × Value × Value} (h : KD H w x) : FD w x.1 x.2.1 x.2.2 := ⟨h.data.sb, h.acks.sa⟩
theorem KD.keep {H : Nat} {w w' : World} {x : Fr × Value × Value} (h : KD H w x) {row : Option Nat} (k : w.grownBy w' row) (h1 : ∀ g, x.2.1.ownBlock = some g → some g ≠ row) (h2 : ∀ g, x.2.2.ownBlock = some g → some g ≠ row) : KD H w' x :=
  ⟨h.data.of_block fun g hg => k.block g (h.data.lt g hg).2 (h1 g hg), h.acks.of_block fun g hg => k.block g (h.acks.lt g hg).2 (h2 g hg)⟩
theorem owf_type {B : Nat} {w : World} {v : Value} {ts : List (Fr × Value × Value)} (h : OwF B w v ts) (g : Nat) (hg : v.ownBlock = some g) : ∃ cur, w.heap[g]? = some (.cells cur 26) := by
  obtain ⟨_, h | ⟨g', cap, cur, e, _, hh, _⟩⟩ := h
  · rw [h.1] at hg
    cases hg
  · rw [e] at hg
    have : g' = g := Option.some.inj hg
    subst this
    exact ⟨cur, hh⟩
theorem owl_type {B : Nat} {w : World} {v : Value} {l : List Nat} (h : OwL B w v l) (g : Nat) (hg : v.ownBlock = some g) : ∃ cur, w.heap[g]? = some (.cells cur 5) := by
  obtain ⟨_, h | ⟨g', cap, cur, e, _, hh, _⟩⟩ := h
  · rw [h.1] at hg
    cases hg
  · rw [e] at hg
    have : g' = g := Option.some.inj hg
    subst this
    exact ⟨cur, hh⟩
theorem ows_type {B : Nat} {w : World} {v : Value} {l : List (Nat × Nat)} (h : OwS B w v l) (g : Nat) (hg : v.ownBlock = some g) : ∃ cur, w.heap[g]? = some (.cells cur 47) := by
  obtain ⟨_, h | ⟨g', cap, cur, e, _, hh, _⟩⟩ := h
  · rw [h.1] at hg
    cases hg
  · rw [e] at hg
    have : g' = g := Option.some.inj hg
    subst this
    exact ⟨cur, hh⟩
theorem KD.row {H B : Nat} {w w' : World} {x : Fr × Value × Value} (h : KD H w x) {v : Value} {ts : List (Fr × Value × Value)} (O : OwF B w v ts) (k : w.grownBy w' v.ownBlock) : KD H w' x :=
  h.keep k (fun g hg e => by
    obtain ⟨c1, e1⟩ := owl_type h.data g hg
    obtain ⟨c2, e2⟩ := owf_type O g e.symm
    rw [e1] at e2
    have := Obj.cells.inj (Option.some.inj e2)
    exact absurd this.2.1 (by decide)) (fun g hg e => by
    obtain ⟨c1, e1⟩ := ows_type h.acks g hg
    obtain ⟨c2, e2⟩ := owf_type O g e.symm
    rw [e1] at e2
    have := Obj.cells.inj (Option.some.inj e2)
    exact absurd this.2.1 (by decide))
/-- What memory holds between two frames: the list, its frames' rows, the reader's variable. -/
structure PW (W : World) (g R1 H : Nat) (lv : Value) (ts : List (Fr × Value × Value)) (w : World) : Prop where
  row : OwF H w lv ts
  data : ∀ x ∈ ts, KD H w x
  rd : Blk w R1 58 #[.pointer (some ⟨g, 0, none⟩)]
  bel : Below W.heap.size W w
  size : H ≤ w.heap.size
  ord : W.heap.size ≤ g ∧ g < R1 ∧ R1 < H
theorem KD.gb {H g : Nat} {w w' : World} {x : Fr × Value × Value} (h : KD H w x) (k : w.grownBy w' (some g)) (hg : g < H) : KD H w' x :=
  h.keep k (fun j hj e => by have := (h.data.lt j hj).1; have := Option.some.inj e; omega) (fun j hj e => by have := (h.acks.lt j hj).1; have := Option.some.inj e; omega)
theorem PW.gb {W : World} {g R1 H : Nat} {lv : Value} {ts : List (Fr × Value × Value)} {w w' : World} (h : PW W g R1 H lv ts w) (k : w.grownBy w' (some g)) : PW W g R1 H lv ts w' := by
  have o := h.ord
  exact ⟨h.row.of_block fun j hj => k.block j (h.row.lt j hj).2 (fun e => by have := (h.row.lt j hj).1; have := Option.some.inj e; omega), fun x hx => (h.data x hx).gb k (by omega), blk_gb k h.rd (by omega), below_gb h.bel k o.1 h.bel.size, Nat.le_trans h.size k.size, o⟩
theorem PW.below {W : World} {g R1 H : Nat} {lv : Value} {ts : List (Fr × Value × Value)} {w w' : World} (h : PW W g R1 H lv ts w) (b : Below w.heap.size w w') : PW W g R1 H lv ts w' := h.gb (gb_below b _)
theorem PW.add {W : World} {g R1 H : Nat} {lv : Value} {ts : List (Fr × Value × Value)} {w : World} (h : PW W g R1 H lv ts w) (x : Fr × Value × Value) (hx : KD H w x) (h1 : ∀ u ∈ frL3 x, u.oneCell' = true) (hl : ts.length ≤ 1000) :
    ∃ v7 w7, (Builtin.append_ #[29, 29] 29 #[lv, .slice (some ⟨w.heap.size, 0, none⟩) 1 1]).run Try.prog (w.alloc (.cells (frL3 x).toArray 26)) = .ok v7 w7 ∧ PW W g R1 H v7 (ts ++ [x]) w7 ∧ w.grownBy w7 lv.ownBlock ∧ ∀ k, lv.ownBlock = some k → H ≤ k := by
  have o := h.ord
  obtain ⟨v7, w7, h7, O7, B7, G, ob⟩ := append_frame H w w 29 lv ts x h1 h.row hl (Below.refl _ _) h.size
  have b1 := (Below.refl w.heap.size w).alloc (Nat.le_refl _) (.cells (frL3 x).toArray 26)
  have G2 := (gb_below b1 lv.ownBlock).trans G
  have hr : ∀ k, lv.ownBlock = some k → H ≤ k := fun k hk => (h.row.lt k hk).1
  refine ⟨v7, w7, h7, ⟨O7, fun y hy => ?_, blk_row G2 h.rd (fun r hr' => by have := hr r hr'; omega), below_grown' h.bel G2 (fun k hk => by have := hr k hk; omega) h.bel.size, Nat.le_trans h.size G2.size, o⟩, G2, hr⟩
  rcases List.mem_append.1 hy with hy | hy
  · exact (h.data y hy).row h.row G2
  · have : y = x := by simpa using hy
    subst this
    exact hx.row h.row G2
theorem pstep {fuel : Nat} {l : List Nat} {acc : List Fr} {R : Nat × List Fr} (h : parseL fuel l acc = R) (h0 : l ≠ []) (hl : l.length ≤ fuel) :
    ((frameS l).2.2 ≠ 0 → R = ((frameS l).2.2, [])) ∧ ((frameS l).2.2 = 0 → (frameS l).1.kind = 0 → ∃ fuel', (frameS l).2.1.length ≤ fuel' ∧ parseL fuel' (frameS l).2.1 acc = R) ∧
    ((frameS l).2.2 = 0 → (frameS l).1.kind ≠ 0 → acc.length = 64 → R = (7, [])) ∧ ((frameS l).2.2 = 0 → (frameS l).1.kind ≠ 0 → acc.length ≠ 64 → ∃ fuel', (frameS l).2.1.length ≤ fuel' ∧ parseL fuel' (frameS l).2.1 (acc ++ [(frameS l).1]) = R) := by
  cases l with
  | nil => exact absurd rfl h0
  | cons x t =>
    cases fuel with
    | zero => simp at hl
    | succ fuel =>
      unfold parseL at h
      dsimp only at h
      have st := fun e => frame_strict (l := x :: t) e
      generalize frameS (x :: t) = r at *
      simp only [List.length_cons] at hl st
      refine ⟨fun c => ?_, fun c k => ?_, fun c k a => ?_, fun c k a => ?_⟩
      · rw [if_pos c] at h
        exact h.symm
      · rw [if_neg (by rw [c]; decide), if_pos k] at h
        exact ⟨fuel, by have := st c; omega, h⟩
      · rw [if_neg (by rw [c]; decide), if_neg k, if_pos a] at h
        exact h.symm
      · rw [if_neg (by rw [c]; decide), if_neg k, if_neg a] at h
        exact ⟨fuel, by have := st c; omega, h⟩
def mzV : Option Value → Option Value → Nat
  | some (.slice _ n _), some (.int _ q) => 2 * n + (if q = 0 then 1 else 0)
  | _, _ => 0
/-- What is left, and whether it goes on. -/
def mz (g : Nat) (w : World) : Nat := mzV (w.cell? ⟨g, 0, none⟩) (w.cell? ⟨g, 1, none⟩)
theorem mz_rm {g : Nat} {w : World} {l : List Nat} {c : Nat} (h : RM g w (some ⟨g, 0, none⟩) l c) : mz g w = 2 * l.length + (if c = 0 then 1 else 0) := by
  obtain ⟨g', pb, cb, e, hg, K, _⟩ := h
  subst hg
  have c0 : w.cell? ⟨g, 0, none⟩ = some (.slice pb l.length cb) := K.cell 0
  have c1 : w.cell? ⟨g, 1, none⟩ = some (.int .i64 ((c : Nat) : Int)) := K.cell 1
  unfold mz
  rw [c0, c1]
  show 2 * l.length + (if ((c : Nat) : Int) = 0 then 1 else 0) = _
  by_cases hc : c = 0
  · subst hc
    rfl
  · rw [if_neg (by omega), if_neg hc]
/-- What the answer is, given what is left, the fault, and the frames so far. -/
structure PV (R : Nat × List Fr) (l : List Nat) (c : Nat) (acc : List Fr) : Prop where
  ok : c = 0 → acc.length ≤ 64 ∧ ∃ fuel, l.length ≤ fuel ∧ parseL fuel l acc = R
  bad : c ≠ 0 → R = (c, [])
theorem pnil {fuel : Nat} {acc : List Fr} {R : Nat × List Fr} (h : parseL fuel [] acc = R) : R = (0, acc) := by
  cases fuel <;> exact h.symm
set_option maxHeartbeats 16000000 in
set_option maxRecDepth 100000 in
theorem pparse_c : ParC parseF := by
  intro b p n c hb hn W hs
  have NW := Lib.hid (new_m b p n c hb (by omega) W hs)
  unfold parseF
  obtain ⟨R, hR⟩ : ∃ R, parseL b.length b [] = R := ⟨_, rfl⟩
  rw [hR]
  have V0 := Lib.hid (show PV R b 0 [] from ⟨fun _ => ⟨Nat.zero_le _, b.length, Nat.le_refl _, hR⟩, fun h => absurd rfl h⟩)
  clear hs hn hb hR
  go_enter Try.func14, Try.ntmps14
  go_upto_region 0 with fail
  rename_i aK
  refine wp_region_seq ?_
  refine wpSeq_yield (S := fun _ => True) (yieldsIf_assign rfl _ rfl (.slice none 0 0) rfl) trivial ?_
  simp only [AP]
  refine wpSeq_yield (S := fun _ => True) (yieldsIf_assign rfl _ rfl (.int .i64 0) rfl) trivial ?_
  simp only [AP]
  refine wpSeq_nil ?_
  refine aK _ _ ?_
  clear aK
  go_upto_region 1 with fail
  rename_i aK
  refine wp_region_seq ?_
  refine wpSeq_yield (S := fun _ => True) (yieldsIf_move rfl _ rfl (.slice p n c) rfl) trivial ?_
  simp only [AP]
  refine wpSeq_wp rfl ?_
  unfold Oper.wp execOp
  go_simp
  refine NW.out.mono ?_
  rintro _ w1 ⟨g, rfl, hg, h, b1⟩
  clear NW
  go_simp
  refine wpSeq_wp rfl ?_
  unfold Oper.wp execOp
  go_simp
  refine wpSeq_alloc 58 #[.pointer none] rfl (fun W => by go_simp) ?_
  simp only [AP]
  refine wpSeq_store_row rfl 58 _ _ rfl (w1.heap.size) #[.pointer (some ⟨g, 0, none⟩)] rfl rfl _ _ (Blk.new _ _ _) info_rd rfl (by simp [Value.oneCell']) ?_
  try simp only [Act.put]
  have b2 := below_setRow ((Below.refl w1.heap.size w1).alloc (Nat.le_refl _) (.cells #[.pointer none] 58)) (Nat.le_refl w1.heap.size) #[.pointer (some ⟨g, 0, none⟩)]
  have KR := (Blk.new w1 58 #[.pointer none]).row #[.pointer (some ⟨g, 0, none⟩)]
  have gl : g < w1.heap.size := by
    obtain ⟨g', pb, cb, e, hg', KB, _⟩ := h
    have := KB.lt
    omega
  replace h := h.below b2
  replace b1 := b1.trans (b2.mono b1.size)
  have rl := KR.lt
  clear b2
  generalize World.setRow _ _ _ = W2 at *
  generalize w1.heap.size = R1 at *
  refine wpSeq_nil ?_
  refine aK _ _ ?_
  clear aK
  go_upto_region 2 with fail
  rename_i aK
  refine wp_region_seq ?_
  refine wpSeq_yield (S := fun _ => True) (yieldsIf_assign rfl _ rfl (.slice none 0 0) rfl) trivial ?_
  simp only [AP]
  refine wpSeq_nil ?_
  refine aK _ _ ?_
  clear aK
  obtain ⟨H, hH⟩ : ∃ H, W2.heap.size = H := ⟨_, rfl⟩
  have P : PW W g R1 H (.slice none 0 0) [] W2 := ⟨OwF.nil _ _, fun x hx => (by cases hx), KR, b1, by omega, by omega⟩
  replace h := Lib.hid h
  replace P := Lib.hid P
  clear KR b1 hg gl rl hH
  go_upto_region 3 with fail
  go_loopw [5] (fun lv wr => ∃ (l : List Nat) (c : Nat) (ts : List (Fr × Value × Value)) (pl : Option Addr) (nl cl : Nat), lv = .slice pl nl cl ∧ nl = ts.length ∧ RM g wr (some ⟨g, 0, none⟩) l c ∧ PW W g R1 H lv ts wr ∧ PV R l c (ts.map (·.1))) (fun _ wr => mz g wr)
  case atStart => exact ⟨b, 0, [], none, 0, 0, rfl, rfl, h.out, P.out, V0.out⟩
  case round =>
    clear h P V0
    obtain ⟨l, c, ts, pl, nl, cl, rfl, hnl, h, P, V⟩ := hrel
    replace hnl := Lib.hid hnl
    replace V := Lib.hid V
    have LM := Lib.hid (left_m g (some ⟨g, 0, none⟩) l c wr h (by have := P.ord; have := P.size; omega))
    have MZ := Lib.hid (mz_rm h)
    replace h := Lib.hid h
    replace P := Lib.hid P
    have xp : wr.cell? ⟨R1, 0, none⟩ = some (.pointer (some ⟨g, 0, none⟩)) := P.out.rd.cell 0
    have CC := Lib.hid (fun w h hB => code_m g (some ⟨g, 0, none⟩) l c w h hB)
    obtain ⟨n, hn⟩ : ∃ n, l.length = n := ⟨_, rfl⟩
    rw [hn] at LM
    by_cases hn0 : n = 0
    · have l0 : l = [] := List.eq_nil_of_length_eq_zero (by omega)
      subst l0
      subst hn0
      go_upto_region 3 with fail
      rename_i aK
      refine wp_region_seq ?_
      refine wpSeq_yield (S := fun _ => True) (v := .pointer (some ⟨R1, 0, none⟩)) (Or.inl ⟨by rfl, fun w' hw' => by go_simp⟩) trivial ?_
      simp only [AP]
      refine wpSeq_yield (S := fun w' => w' = wr) (v := .pointer (some ⟨g, 0, none⟩)) (Or.inl ⟨by rfl, fun w' hw' => by (rw [hw']; go_simp)⟩) rfl ?_
      simp only [AP]
      refine wpSeq_wp rfl ?_
      unfold Oper.wp execOp
      go_simp
      refine LM.out.mono ?_
      rintro _ w1 ⟨rfl, h1, b1⟩
      replace P := Lib.hid (P.out.gb b1)
      replace h := Lib.hid h1
      clear h1 b1 LM xp
      have xp : w1.cell? ⟨R1, 0, none⟩ = some (.pointer (some ⟨g, 0, none⟩)) := P.out.rd.cell 0
      go_simp
      refine wpSeq_yield (S := fun _ => True) (v := .bool false) (Or.inl ⟨by rfl, fun w' hw' => by go_simp⟩) trivial ?_
      simp only [AP]
      refine wpSeq_yield (S := fun _ => True) (yieldsIf_move rfl _ rfl (.bool false) rfl) trivial ?_
      simp only [AP]
      refine wpSeq_yield (S := fun _ => True) (yieldsIf_off rfl) trivial ?_
      simp only [AP]
      refine wpSeq_yield (S := fun _ => True) (yieldsIf_off rfl) trivial ?_
      simp only [AP]
      refine wpSeq_yield (S := fun _ => True) (yieldsIf_off rfl) trivial ?_
      simp only [AP]
      refine wpSeq_yield (S := fun _ => True) (yieldsIf_off rfl) trivial ?_
      simp only [AP]
      refine wpSeq_yield (S := fun _ => True) (yieldsIf_pick rfl _ _ _ rfl false rfl (.bool false) rfl) trivial ?_
      simp only [AP]
      refine wpSeq_nil ?_
      refine (by assumption : ∀ (a : Act) (w : World), _ → _) _ _ ?_
      by_cases hc : c = 0
      · subst hc
        go_upto_region 9 with fail
        rename_i aK
        refine wp_region_seq ?_
        refine wpSeq_yield (S := fun _ => True) (v := .pointer (some ⟨R1, 0, none⟩)) (Or.inl ⟨by rfl, fun w' hw' => by go_simp⟩) trivial ?_
        simp only [AP]
        refine wpSeq_yield (S := fun w' => w' = w1) (v := .pointer (some ⟨g, 0, none⟩)) (Or.inl ⟨by rfl, fun w' hw' => by (rw [hw']; go_simp)⟩) rfl ?_
        simp only [AP]
        refine wpSeq_wp rfl ?_
        unfold Oper.wp execOp
        go_simp
        refine (CC.out _ h.out (by have := P.out.ord; have := P.out.size; omega)).mono ?_
        rintro _ w8 ⟨rfl, h1, b1⟩
        replace P := Lib.hid (P.out.gb b1)
        replace h := Lib.hid h1
        clear h1 b1 xp
        have xp : w8.cell? ⟨R1, 0, none⟩ = some (.pointer (some ⟨g, 0, none⟩)) := P.out.rd.cell 0
        go_simp
        refine wpSeq_yield (S := fun _ => True) (yieldsIf_assign rfl _ rfl (.int .i64 0) rfl) trivial ?_
        simp only [AP]
        refine wpSeq_nil ?_
        refine (by assumption : ∀ (a : Act) (w : World), _ → _) _ _ ?_
        go_upto_region 10 with fail
        rename_i aK
        refine wp_region_seq ?_
        refine wpSeq_yield (S := fun _ => True) (yieldsIf_move rfl _ rfl (.int .i64 0) rfl) trivial ?_
        simp only [AP]
        refine wpSeq_yield (S := fun _ => True) (v := .bool false) (Or.inl ⟨by rfl, fun w' hw' => by go_simp⟩) trivial ?_
        simp only [AP]
        refine wpSeq_nil ?_
        refine (by assumption : ∀ (a : Act) (w : World), _ → _) _ _ ?_
        obtain ⟨_, fuel, _, hR⟩ := V.out.ok rfl
        have er := Lib.hid (pnil hR)
        clear hR
        go_wp2
        refine bodyPost_ret (results_tmp2 rfl _ _ _) rfl ?_
        exact ⟨_, by rw [er.out]; rfl, by rw [er.out]; exact OwF.fs P.out.row (fun x hx => (P.out.data x hx).fd), P.out.bel⟩
      · have gc2 : ((c : Int) != 0) = true := bne_iff_ne.2 (by omega)
        go_upto_region 9 with fail
        rename_i aK
        refine wp_region_seq ?_
        refine wpSeq_yield (S := fun _ => True) (v := .pointer (some ⟨R1, 0, none⟩)) (Or.inl ⟨by rfl, fun w' hw' => by go_simp⟩) trivial ?_
        simp only [AP]
        refine wpSeq_yield (S := fun w' => w' = w1) (v := .pointer (some ⟨g, 0, none⟩)) (Or.inl ⟨by rfl, fun w' hw' => by (rw [hw']; go_simp)⟩) rfl ?_
        simp only [AP]
        refine wpSeq_wp rfl ?_
        unfold Oper.wp execOp
        go_simp
        refine (CC.out _ h.out (by have := P.out.ord; have := P.out.size; omega)).mono ?_
        rintro _ w8 ⟨rfl, h1, b1⟩
        replace P := Lib.hid (P.out.gb b1)
        replace h := Lib.hid h1
        clear h1 b1 xp
        have xp : w8.cell? ⟨R1, 0, none⟩ = some (.pointer (some ⟨g, 0, none⟩)) := P.out.rd.cell 0
        go_simp
        refine wpSeq_yield (S := fun _ => True) (yieldsIf_assign rfl _ rfl (.int .i64 (c : Int)) rfl) trivial ?_
        simp only [AP]
        refine wpSeq_nil ?_
        refine (by assumption : ∀ (a : Act) (w : World), _ → _) _ _ ?_
        go_upto_region 10 with fail
        rename_i aK
        refine wp_region_seq ?_
        refine wpSeq_yield (S := fun _ => True) (yieldsIf_move rfl _ rfl (.int .i64 (c : Int)) rfl) trivial ?_
        simp only [AP]
        refine wpSeq_yield (S := fun _ => True) (v := .bool true) (Or.inl ⟨by rfl, fun w' hw' => by (go_simp; try omega)⟩) trivial ?_
        simp only [AP]
        refine wpSeq_nil ?_
        refine (by assumption : ∀ (a : Act) (w : World), _ → _) _ _ ?_
        have er := Lib.hid (V.out.bad hc)
        go_wp2
        refine bodyPost_ret (results_tmp2 rfl _ _ _) rfl ?_
        exact ⟨.slice none 0 0, by rw [er.out]; rfl, by rw [er.out]; exact FS.nil _ _ _, P.out.bel⟩
    · have gn : (0 : Int) < (n : Int) := by omega
      by_cases hc : c = 0
      · subst hc
        go_upto_region 3 with fail
        rename_i aK
        refine wp_region_seq ?_
        refine wpSeq_yield (S := fun _ => True) (v := .pointer (some ⟨R1, 0, none⟩)) (Or.inl ⟨by rfl, fun w' hw' => by go_simp⟩) trivial ?_
        simp only [AP]
        refine wpSeq_yield (S := fun w' => w' = wr) (v := .pointer (some ⟨g, 0, none⟩)) (Or.inl ⟨by rfl, fun w' hw' => by (rw [hw']; go_simp)⟩) rfl ?_
        simp only [AP]
        refine wpSeq_wp rfl ?_
        unfold Oper.wp execOp
        go_simp
        refine LM.out.mono ?_
        rintro _ w1 ⟨rfl, h1, b1⟩
        replace P := Lib.hid (P.out.gb b1)
        replace h := Lib.hid h1
        clear h1 b1 LM xp
        have xp : w1.cell? ⟨R1, 0, none⟩ = some (.pointer (some ⟨g, 0, none⟩)) := P.out.rd.cell 0
        go_simp
        refine wpSeq_yield (S := fun _ => True) (v := .bool true) (Or.inl ⟨by rfl, fun w' hw' => by (go_simp; try omega)⟩) trivial ?_
        simp only [AP]
        refine wpSeq_yield (S := fun _ => True) (yieldsIf_move rfl _ rfl (.bool true) rfl) trivial ?_
        simp only [AP]
        refine wpSeq_yield (S := fun _ => True) (v := .pointer (some ⟨R1, 0, none⟩)) (Or.inl ⟨by rfl, fun w' hw' => by go_simp⟩) trivial ?_
        simp only [AP]
        refine wpSeq_yield (S := fun w' => w' = w1) (v := .pointer (some ⟨g, 0, none⟩)) (Or.inl ⟨by rfl, fun w' hw' => by (rw [hw']; go_simp)⟩) rfl ?_
        simp only [AP]
        refine wpSeq_wp rfl ?_
        unfold Oper.wp execOp
        go_simp
        refine (CC.out _ h.out (by have := P.out.ord; have := P.out.size; omega)).mono ?_
        rintro _ w2 ⟨rfl, h1, b1⟩
        replace P := Lib.hid (P.out.gb b1)
        replace h := Lib.hid h1
        clear h1 b1 xp
        have xp : w2.cell? ⟨R1, 0, none⟩ = some (.pointer (some ⟨g, 0, none⟩)) := P.out.rd.cell 0
        go_simp
        refine wpSeq_yield (S := fun _ => True) (v := .bool true) (Or.inl ⟨by rfl, fun w' hw' => by go_simp⟩) trivial ?_
        simp only [AP]
        refine wpSeq_yield (S := fun _ => True) (yieldsIf_pick rfl _ _ _ rfl true rfl (.bool true) rfl) trivial ?_
        simp only [AP]
        refine wpSeq_nil ?_
        refine (by assumption : ∀ (a : Act) (w : World), _ → _) _ _ ?_
        have FM := Lib.hid (frame_m g (some ⟨g, 0, none⟩) l w2 h.out (by have := P.out.ord; have := P.out.size; omega))
        have sh := Lib.hid (shr_frame l)
        have st := Lib.hid (fun e => frame_strict (l := l) e)
        obtain ⟨a64, fuel, hf, hR⟩ := V.out.ok rfl
        have ST := Lib.hid (pstep hR (fun e => by rw [e] at hn; exact hn0 hn.symm) hf)
        have a64 := Lib.hid a64
        clear hR hf V CC xp
        generalize frameS l = r at *
        obtain ⟨f, lr, cr⟩ := r
        dsimp only at FM sh st ST
        have hn := Lib.hid hn
        go_upto_region 4 with fail
        rename_i aK
        refine wp_region_seq ?_
        refine wpSeq_yield (S := fun w' => w' = w2) (show YieldsIf _ _ _ _ (.agg #[.pointer (some ⟨g, 0, none⟩)]) _ from yieldsIf_load_mid (S := fun w' => w' = w2) rfl 58 _ rfl R1 0 rfl [.pointer (some ⟨g, 0, none⟩)] _ (fun _ h => h ▸ blk_range P.out.rd) Try.underlying58 rfl info_rd) rfl ?_
        simp only [AP]
        refine wpSeq_wp rfl ?_
        unfold Oper.wp execOp
        go_simp
        refine FM.out.mono ?_
        rintro _ w3 ⟨⟨vd, va, rfl, O1, O2⟩, h1, b1⟩
        have KN : KD H w3 (f, vd, va) := ⟨O1.mono P.out.size, O2.mono P.out.size⟩
        replace P := Lib.hid (P.out.gb b1)
        replace h := Lib.hid h1
        clear FM O1 O2 h1 b1
        obtain ⟨q1, d1, e1⟩ := KN.data.shape
        obtain ⟨q2, d2, e2⟩ := KN.acks.shape
        dsimp only at e1 e2
        subst e1
        subst e2
        have KN := Lib.hid KN
        go_simp
        refine wpSeq_alloc 26 zeroFr rfl (fun W => by go_simp; rfl) ?_
        simp only [AP]
        refine wpSeq_store_row rfl 26 _ _ rfl (w3.heap.size) (frL f (.slice q1 f.data.length d1) (.slice q2 f.acks.length d2)).toArray rfl rfl _ _ (Blk.new _ _ _) info_fr rfl frL_one ?_
        try simp only [Act.put]
        have b2 := below_setRow ((Below.refl w3.heap.size w3).alloc (Nat.le_refl _) (.cells zeroFr 26)) (Nat.le_refl w3.heap.size) (frL f (.slice q1 f.data.length d1) (.slice q2 f.acks.length d2)).toArray
        have KF := (Blk.new w3 26 zeroFr).row (frL f (.slice q1 f.data.length d1) (.slice q2 f.acks.length d2)).toArray
        replace P := Lib.hid (P.out.below b2)
        replace h := Lib.hid (h.out.below b2)
        have KN := Lib.hid (show KD H _ (f, .slice q1 f.data.length d1, .slice q2 f.acks.length d2) from ⟨KN.out.data.below b2, KN.out.acks.below b2⟩)
        clear b2
        generalize World.setRow _ _ _ = w4 at *
        generalize w3.heap.size = G6 at *
        refine wpSeq_nil ?_
        refine (by assumption : ∀ (a : Act) (w : World), _ → _) _ _ ?_
        have xk : w4.cell? ⟨G6, 0, none⟩ = some (.int .u64 (f.kind : Int)) := KF.cell 0
        have KF := Lib.hid KF
        obtain ⟨kk, hkk⟩ : ∃ k, f.kind = k := ⟨_, rfl⟩
        rw [hkk] at xk
        have HK := Lib.hid hkk
        clear hkk
        by_cases hk0 : kk = 0
        · subst hk0
          go_upto_region 5 with fail
          rename_i aK
          refine wp_region_seq ?_
          refine wpSeq_yield (S := fun _ => True) (v := .pointer (some ⟨G6, 0, none⟩)) (Or.inl ⟨by rfl, fun w' hw' => by go_simp⟩) trivial ?_
          simp only [AP]
          refine wpSeq_yield (S := fun w' => w' = w4) (v := .int .u64 0) (Or.inl ⟨by rfl, fun w' hw' => by (rw [hw']; go_simp)⟩) rfl ?_
          simp only [AP]
          refine wpSeq_yield (S := fun _ => True) (v := .bool true) (Or.inl ⟨by rfl, fun w' hw' => by go_simp⟩) trivial ?_
          simp only [AP]
          refine wpSeq_nil ?_
          refine (by assumption : ∀ (a : Act) (w : World), _ → _) _ _ ?_
          clear xk
          go_wp2
          refine ⟨⟨lr, cr, ts, pl, nl, cl, rfl, hnl.out, h.out, P.out, ⟨fun e => ⟨a64.out, ST.out.2.1 e HK.out⟩, fun e => ST.out.1 e⟩⟩, ?_⟩
          rw [MZ.out, if_pos rfl, mz_rm h.out]
          have h1 := sh.out.len
          have h2 := st.out
          dsimp only at h1
          split
          · rename_i e0
            have := h2 e0
            omega
          · omega
        · have gk : ((kk : Int) == 0) = false := beq_eq_false_iff_ne.2 (by omega)
          go_upto_region 5 with fail
          rename_i aK
          refine wp_region_seq ?_
          refine wpSeq_yield (S := fun _ => True) (v := .pointer (some ⟨G6, 0, none⟩)) (Or.inl ⟨by rfl, fun w' hw' => by go_simp⟩) trivial ?_
          simp only [AP]
          refine wpSeq_yield (S := fun w' => w' = w4) (v := .int .u64 (kk : Int)) (Or.inl ⟨by rfl, fun w' hw' => by (rw [hw']; go_simp)⟩) rfl ?_
          simp only [AP]
          refine wpSeq_yield (S := fun _ => True) (v := .bool false) (Or.inl ⟨by rfl, fun w' hw' => by (go_simp; try omega)⟩) trivial ?_
          simp only [AP]
          refine wpSeq_nil ?_
          refine (by assumption : ∀ (a : Act) (w : World), _ → _) _ _ ?_
          obtain ⟨v7, w7, h7, P7, G7, rw7⟩ := P.out.add (f, .slice q1 f.data.length d1, .slice q2 f.acks.length d2) KN.out frL_oneL (by have := a64.out; rw [List.length_map] at this; omega)
          have h77 := h.out.gb G7 (fun k hk => by have := rw7 k hk; have := P.out.ord; omega)
          obtain ⟨p7, c7, hv7⟩ := P7.row.shape
          obtain ⟨n7, hn7⟩ : ∃ n, (ts ++ [(f, Value.slice q1 f.data.length d1, Value.slice q2 f.acks.length d2)]).length = n := ⟨_, rfl⟩
          rw [hn7] at hv7
          subst hv7
          have HN7 := Lib.hid hn7
          clear hn7 xk gk
          replace h7 : (Builtin.append_ #[29, 29] 29 #[.slice pl nl cl, .slice (some ⟨w4.heap.size, 0, none⟩) 1 1]).run Try.prog (w4.alloc (.cells #[.int .u64 (f.kind : Int), .int .u64 (f.id : Int), .int .u64 (f.off : Int), .int .u64 (f.n : Int), .int .u64 (f.code : Int), .bool f.fin, .slice q1 f.data.length d1, .slice q2 f.acks.length d2] 26)) = .ok (.slice p7 n7 c7) w7 := h7
          go_upto_region 6 with fail
          rename_i aK
          refine wp_region_seq ?_
          refine wpSeq_yield (S := fun _ => True) (yieldsIf_move rfl _ rfl (.slice pl nl cl) rfl) trivial ?_
          simp only [AP]
          refine wpSeq_yield (S := fun w' => w' = w4) (show YieldsIf _ _ _ _ (.agg #[.int .u64 (f.kind : Int), .int .u64 (f.id : Int), .int .u64 (f.off : Int), .int .u64 (f.n : Int), .int .u64 (f.code : Int), .bool f.fin, .slice q1 f.data.length d1, .slice q2 f.acks.length d2]) _ from yieldsIf_load_mid (S := fun w' => w' = w4) rfl 26 _ rfl G6 0 rfl (frL f (.slice q1 f.data.length d1) (.slice q2 f.acks.length d2)) _ (fun _ h => h ▸ blk_range KF.out) Try.underlying26 rfl (info_frL f (.slice q1 f.data.length d1) (.slice q2 f.acks.length d2))) rfl ?_
          simp only [AP]
          refine wpSeq_wp rfl ?_
          unfold Oper.wp execOp
          go_simp
          refine wpSeq_wp rfl (wp_append_run _ _ _ _ rfl _ _ rfl rfl (.slice p7 n7 c7) w7 h7 ?_)
          simp only [AP]
          replace h := Lib.hid h77
          replace P := Lib.hid P7
          clear h77 P7 G7 rw7 h7 KN KF
          refine wpSeq_yield (S := fun _ => True) (yieldsIf_assign rfl _ rfl (.slice p7 n7 c7) rfl) trivial ?_
          simp only [AP]
          refine wpSeq_nil ?_
          refine (by assumption : ∀ (a : Act) (w : World), _ → _) _ _ ?_
          have L64 := Lib.hid (show n7 = ts.length + 1 by rw [← HN7.out, List.length_append]; rfl)
          have FL := Lib.hid (fun w h hB => fail_m g (some ⟨g, 0, none⟩) lr cr 7 w h hB)
          rw [failS_eq] at FL
          have xp : w7.cell? ⟨R1, 0, none⟩ = some (.pointer (some ⟨g, 0, none⟩)) := P.out.rd.cell 0
          by_cases h65 : 64 < n7
          · have g65 : (64 : Int) < (n7 : Int) := by omega
            go_upto_region 7 with fail
            rename_i aK
            refine wp_region_seq ?_
            refine wpSeq_yield (S := fun _ => True) (yieldsIf_move rfl _ rfl (.slice p7 n7 c7) rfl) trivial ?_
            simp only [AP]
            refine wpSeq_yield (S := fun _ => True) (v := .int .i64 (n7 : Int)) (Or.inl ⟨by rfl, fun w' hw' => by go_simp⟩) trivial ?_
            simp only [AP]
            refine wpSeq_yield (S := fun _ => True) (v := .bool true) (Or.inl ⟨by rfl, fun w' hw' => by go_simp⟩) trivial ?_
            simp only [AP]
            refine wpSeq_nil ?_
            refine (by assumption : ∀ (a : Act) (w : World), _ → _) _ _ ?_
            go_upto_region 8 with fail
            rename_i aK
            refine wp_region_seq ?_
            refine wpSeq_yield (S := fun _ => True) (v := .pointer (some ⟨R1, 0, none⟩)) (Or.inl ⟨by rfl, fun w' hw' => by go_simp⟩) trivial ?_
            simp only [AP]
            refine wpSeq_yield (S := fun w' => w' = w7) (v := .pointer (some ⟨g, 0, none⟩)) (Or.inl ⟨by rfl, fun w' hw' => by (rw [hw']; go_simp)⟩) rfl ?_
            simp only [AP]
            refine wpSeq_wp rfl ?_
            unfold Oper.wp execOp
            go_simp
            refine (FL.out _ h.out (by have := P.out.ord; have := P.out.size; omega)).mono ?_
            rintro _ w8 ⟨⟨v8, rfl⟩, h1, b1⟩
            replace P := Lib.hid (P.out.gb b1)
            replace h := Lib.hid h1
            clear h1 b1 FL xp
            go_simp
            refine wpSeq_nil ?_
            go_wp2
            have c8 := failS_ne cr (show (7 : Nat) ≠ 0 by decide)
            refine ⟨⟨lr, failS cr 7, _, p7, n7, c7, rfl, HN7.out.symm, h.out, P.out, ⟨fun e => absurd e c8, fun _ => ?_⟩⟩, ?_⟩
            · by_cases e0 : cr = 0
              · have := ST.out.2.2.1 e0 (by rw [HK.out]; exact hk0) (by rw [List.length_map]; have := a64.out; rw [List.length_map] at this; have := L64.out; omega)
                rw [this, e0]
                rfl
              · have := ST.out.1 e0
                rw [this]
                unfold failS
                rw [if_neg e0]
            · rw [MZ.out, if_pos rfl, mz_rm h.out, if_neg c8]
              have h1 := sh.out.len
              dsimp only at h1
              omega
          · have g65 : ¬ (64 : Int) < (n7 : Int) := by omega
            go_upto_region 7 with fail
            rename_i aK
            refine wp_region_seq ?_
            refine wpSeq_yield (S := fun _ => True) (yieldsIf_move rfl _ rfl (.slice p7 n7 c7) rfl) trivial ?_
            simp only [AP]
            refine wpSeq_yield (S := fun _ => True) (v := .int .i64 (n7 : Int)) (Or.inl ⟨by rfl, fun w' hw' => by go_simp⟩) trivial ?_
            simp only [AP]
            refine wpSeq_yield (S := fun _ => True) (v := .bool false) (Or.inl ⟨by rfl, fun w' hw' => by go_simp⟩) trivial ?_
            simp only [AP]
            refine wpSeq_nil ?_
            refine (by assumption : ∀ (a : Act) (w : World), _ → _) _ _ ?_
            clear xp FL
            go_wp2
            refine ⟨⟨lr, cr, _, p7, n7, c7, rfl, HN7.out.symm, h.out, P.out, ⟨fun e => ⟨?_, ?_⟩, fun e => ST.out.1 e⟩⟩, ?_⟩
            · rw [List.length_map, HN7.out]
              omega
            · rw [List.map_append]
              exact ST.out.2.2.2 e (by rw [HK.out]; exact hk0) (by rw [List.length_map]; have := L64.out; omega)
            · rw [MZ.out, if_pos rfl, mz_rm h.out]
              have h1 := sh.out.len
              have h2 := st.out
              dsimp only at h1
              split
              · rename_i e0
                have := h2 e0
                omega
              · omega
      · have gc : ((c : Int) == 0) = false := beq_eq_false_iff_ne.2 (by omega)
        have gc2 : ((c : Int) != 0) = true := bne_iff_ne.2 (by omega)
        go_upto_region 3 with fail
        rename_i aK
        refine wp_region_seq ?_
        refine wpSeq_yield (S := fun _ => True) (v := .pointer (some ⟨R1, 0, none⟩)) (Or.inl ⟨by rfl, fun w' hw' => by go_simp⟩) trivial ?_
        simp only [AP]
        refine wpSeq_yield (S := fun w' => w' = wr) (v := .pointer (some ⟨g, 0, none⟩)) (Or.inl ⟨by rfl, fun w' hw' => by (rw [hw']; go_simp)⟩) rfl ?_
        simp only [AP]
        refine wpSeq_wp rfl ?_
        unfold Oper.wp execOp
        go_simp
        refine LM.out.mono ?_
        rintro _ w1 ⟨rfl, h1, b1⟩
        replace P := Lib.hid (P.out.gb b1)
        replace h := Lib.hid h1
        clear h1 b1 LM xp
        have xp : w1.cell? ⟨R1, 0, none⟩ = some (.pointer (some ⟨g, 0, none⟩)) := P.out.rd.cell 0
        go_simp
        refine wpSeq_yield (S := fun _ => True) (v := .bool true) (Or.inl ⟨by rfl, fun w' hw' => by (go_simp; try omega)⟩) trivial ?_
        simp only [AP]
        refine wpSeq_yield (S := fun _ => True) (yieldsIf_move rfl _ rfl (.bool true) rfl) trivial ?_
        simp only [AP]
        refine wpSeq_yield (S := fun _ => True) (v := .pointer (some ⟨R1, 0, none⟩)) (Or.inl ⟨by rfl, fun w' hw' => by go_simp⟩) trivial ?_
        simp only [AP]
        refine wpSeq_yield (S := fun w' => w' = w1) (v := .pointer (some ⟨g, 0, none⟩)) (Or.inl ⟨by rfl, fun w' hw' => by (rw [hw']; go_simp)⟩) rfl ?_
        simp only [AP]
        refine wpSeq_wp rfl ?_
        unfold Oper.wp execOp
        go_simp
        refine (CC.out _ h.out (by have := P.out.ord; have := P.out.size; omega)).mono ?_
        rintro _ w2 ⟨rfl, h1, b1⟩
        replace P := Lib.hid (P.out.gb b1)
        replace h := Lib.hid h1
        clear h1 b1 xp
        have xp : w2.cell? ⟨R1, 0, none⟩ = some (.pointer (some ⟨g, 0, none⟩)) := P.out.rd.cell 0
        go_simp
        refine wpSeq_yield (S := fun _ => True) (v := .bool false) (Or.inl ⟨by rfl, fun w' hw' => by (go_simp; try omega)⟩) trivial ?_
        simp only [AP]
        refine wpSeq_yield (S := fun _ => True) (yieldsIf_pick rfl _ _ _ rfl true rfl (.bool false) rfl) trivial ?_
        simp only [AP]
        refine wpSeq_nil ?_
        refine (by assumption : ∀ (a : Act) (w : World), _ → _) _ _ ?_
        go_upto_region 9 with fail
        rename_i aK
        refine wp_region_seq ?_
        refine wpSeq_yield (S := fun _ => True) (v := .pointer (some ⟨R1, 0, none⟩)) (Or.inl ⟨by rfl, fun w' hw' => by go_simp⟩) trivial ?_
        simp only [AP]
        refine wpSeq_yield (S := fun w' => w' = w2) (v := .pointer (some ⟨g, 0, none⟩)) (Or.inl ⟨by rfl, fun w' hw' => by (rw [hw']; go_simp)⟩) rfl ?_
        simp only [AP]
        refine wpSeq_wp rfl ?_
        unfold Oper.wp execOp
        go_simp
        refine (CC.out _ h.out (by have := P.out.ord; have := P.out.size; omega)).mono ?_
        rintro _ w8 ⟨rfl, h1, b1⟩
        replace P := Lib.hid (P.out.gb b1)
        replace h := Lib.hid h1
        clear h1 b1 xp
        have xp : w8.cell? ⟨R1, 0, none⟩ = some (.pointer (some ⟨g, 0, none⟩)) := P.out.rd.cell 0
        go_simp
        refine wpSeq_yield (S := fun _ => True) (yieldsIf_assign rfl _ rfl (.int .i64 (c : Int)) rfl) trivial ?_
        simp only [AP]
        refine wpSeq_nil ?_
        refine (by assumption : ∀ (a : Act) (w : World), _ → _) _ _ ?_
        go_upto_region 10 with fail
        rename_i aK
        refine wp_region_seq ?_
        refine wpSeq_yield (S := fun _ => True) (yieldsIf_move rfl _ rfl (.int .i64 (c : Int)) rfl) trivial ?_
        simp only [AP]
        refine wpSeq_yield (S := fun _ => True) (v := .bool true) (Or.inl ⟨by rfl, fun w' hw' => by (go_simp; try omega)⟩) trivial ?_
        simp only [AP]
        refine wpSeq_nil ?_
        refine (by assumption : ∀ (a : Act) (w : World), _ → _) _ _ ?_
        have er := Lib.hid (V.out.bad hc)
        go_wp2
        refine bodyPost_ret (results_tmp2 rfl _ _ _) rfl ?_
        exact ⟨.slice none 0 0, by rw [er.out]; rfl, by rw [er.out]; exact FS.nil _ _ _, P.out.bel⟩
end Go.Proofs.Ytdlhclakdllogaa
