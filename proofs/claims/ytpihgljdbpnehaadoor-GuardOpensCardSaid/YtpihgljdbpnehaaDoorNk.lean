/- The law's own opening (printed by gen13/nk.py). -/
import Derived.Test.YtpihgljdbpnehaaDoorNf0Qa
import Derived.Test.YtpihgljdbpnehaaDoorHSj
import Derived.Test.YtpihgljdbpnehaaDoorHSb
import Derived.Test.YtpihgljdbpnehaaDoorPa0Pc
import Derived.Test.YtpihgljdbpnehaaDoorNc
import Derived.Test.YtpihgljdbpnehaaDoorWa0Wc
import Derived.Test.YtpihgljdbpnehaaDoorLq0Nb
import Derived.Laws.BytesArg
namespace Go.Proofs.YtpihgljdbpnehaaDoor
open Go.RowKit
theorem open_by (k nn D C P : List Nat) (h : 16 ≤ C.length) (hP : P = (sealL k nn D (C.take (C.length - 16))).take (C.length - 16)) : openL k nn D C = if sealL k nn D P = C then some P else none := by
 have l0 : (C.take (C.length - 16)).length = C.length - 16 := by rw [List.length_take]; omega
 have e : P = xorS k nn (C.take (C.length - 16)) := by
  rw [hP]
  unfold sealL
  exact List.take_left' (by rw [xorS_length, l0])
 have s : sealL k nn D P = C.take (C.length - 16) ++ tagL k nn D (C.take (C.length - 16)) := by
  rw [e]
  unfold sealL
  rw [xorS_back]
 have c : C = C.take (C.length - 16) ++ C.drop (C.length - 16) := (List.take_append_drop _ _).symm
 unfold openL
 by_cases t : tagL k nn D (C.take (C.length - 16)) = C.drop (C.length - 16)
 · rw [if_pos ⟨h, t⟩, if_pos (by rw [s, t]; exact c.symm), e]
 ·
  rw [if_neg (fun x => t x.2), if_neg]
  intro x
  rw [s] at x
  exact t (List.append_cancel_left (x.trans c))
theorem beN_snoc2 : ∀ (l : List Nat) (a y : Nat), beN a (l ++ [y]) = beN a l * 256 + y
 | [], _, _ => rfl
 | x :: r, a, y => beN_snoc2 r (a * 256 + x) y
theorem beN_lt2 : ∀ (l : List Nat), Bytes l → ∀ a, beN a l < (a + 1) * 256 ^ l.length
 | [], _, a => by
  show a < _
  simp
 | x :: r, h, a => by
  have hx := h x (List.mem_cons_self ..)
  have := beN_lt2 r (fun y hy => h y (List.mem_cons_of_mem _ hy)) (a * 256 + x)
  show beN (a * 256 + x) r < _
  rw [List.length_cons, Nat.pow_succ, Nat.mul_comm (256 ^ r.length) 256, ← Nat.mul_assoc]
  exact Nat.lt_of_lt_of_le this (Nat.mul_le_mul_right _ (by omega))
/-- What stands while a packet is opened: the keys, the box. -/
structure OQ (W : World) (kc : Array Value) (v6 : Value) (g : Nat) (w : World) : Prop where
 ky : Blk w W.heap.size 30 kc
 bx : OwL W.heap.size w v6 boxL
 bel : Below W.heap.size W w
 lt : ∀ j, v6.ownBlock = some j → j < g
 kg : W.heap.size < g
theorem OQ.step {W w w' : World} {kc : Array Value} {v6 : Value} {g : Nat} (h : OQ W kc v6 g w) (b : Below w.heap.size w w') : OQ W kc v6 g w' := ⟨h.ky.below' b, h.bx.below b, h.bel.trans (b.mono h.bel.size), h.lt, h.kg⟩
theorem OQ.grow {W w w' : World} {kc : Array Value} {v6 : Value} {g g2 : Nat} (h : OQ W kc v6 g w) (hg : g ≤ g2) (G : w.grownBy w' (some g2)) : OQ W kc v6 g w' :=
 ⟨(G.block _ h.ky.lt (fun e => by have := Option.some.inj e; have := h.kg; omega)).trans h.ky, h.bx.of_block (fun j e => G.block j (h.bx.lt j e).2 (fun e2 => by have := Option.some.inj e2; have := h.lt j e; omega)), below_grown' h.bel G (fun j e => by have := Option.some.inj e; have := h.kg; omega) h.bel.size, h.lt, h.kg⟩
theorem info_n16 : (Tryd.prog.info? 26).map (·.size) = some 16 := by kernel_rfl
theorem smp_rng {w : World} {g : Nat} {X : List Nat} (h : BA w g 0 X) (a : Nat) (ha : a + 20 ≤ X.length) : w.rangeAt g (a + 4) ((NI (smpN a X)).map (Value.int .u8)) := fun j v hv => by
 have hj : j < 16 := by
  have := (List.getElem?_eq_some_iff.1 hv).1
  simpa [NI, smpN_length a X ha] using this
 have c := h.cell (a + 4 + j) (by omega)
 rw [Nat.zero_add] at c
 rw [c, ← hv]
 simp only [NI, smpN, List.map_map, List.getElem?_map, List.getElem?_take, List.getElem?_drop]
 rw [if_pos hj, List.getElem?_eq_getElem (by omega)]
 rfl
section
variable {P : Program} {md : Region.Mode} {ops : Array Oper} {Q : Exit → Act → World → Prop} {S : World → Prop}
/-- One of the two that are ready, whichever. -/
theorem osteps (i j : Nat) {oi oj : Oper} {fuel : Nat} {listed : Array Bool} {a : Act} {w : World} (hi : ops.toList[i]? = some oi) (hj : ops.toList[j]? = some oj) (hwi : Region.wanted oi (yielded ops a.tmps) = true) (hwj : Region.wanted oj (yielded ops a.tmps) = true) (hr : Region.ready md ops listed = [i, j])
  (h1 : oi.wp P a w (fun a' w' => S w' ∧ wpAnyS P md ops Q S fuel (listed.setIfInBounds i true) a' w') Q) (h2 : oj.wp P a w (fun a' w' => S w' ∧ wpAnyS P md ops Q S fuel (listed.setIfInBounds j true) a' w') Q) : wpAnyS P md ops Q S (fuel + 1) listed a w := by
 refine ⟨fun h0 => ?_, fun k hk => ?_⟩
 ·
  rw [hr] at h0
  cases h0
 ·
  rw [hr] at hk
  simp only [List.mem_cons, List.not_mem_nil, or_false] at hk
  rcases hk with rfl | rfl
  ·
   unfold wpOp
   rw [← Array.getElem?_toList, hi]
   simp only [hwi, if_true]
   left
   exact h1
  ·
   unfold wpOp
   rw [← Array.getElem?_toList, hj]
   simp only [hwj, if_true]
   left
   exact h2
end
/-- Which bits are hidden. -/
def bitG0 (x : Nat) : Nat := if x < 128 then 31 else 15
theorem shown_is0 (Mk x : List Nat) (a : Nat) : ∃ bits f n s ah, bits = bitG0 (x.getD 0 0) ∧ f = x.getD 0 0 ^^^ ((maskN Mk a x).getD 0 0 &&& bits) ∧ n = f % 4 + 1 ∧ ah = hidN (maskN Mk a x) a n bits (x.take (a + n)) ∧ s = beN 0 (ah.drop a) := ⟨_, _, _, _, _, rfl, rfl, rfl, rfl, rfl⟩
theorem and_hi (f : Nat) (hf : f < 256) : Go.bits BinOp.and IntKind.u8 (f : Int) 28 = ((f &&& 28 : Nat) : Int) ∧ Go.bits BinOp.and IntKind.u8 (f : Int) 12 = ((f &&& 12 : Nat) : Int) := by
 have h := (by decide +kernel : ∀ m : Fin 256, Go.bits BinOp.and IntKind.u8 ((m.val : Nat) : Int) 28 = ((m.val &&& 28 : Nat) : Int) ∧ Go.bits BinOp.and IntKind.u8 ((m.val : Nat) : Int) 12 = ((m.val &&& 12 : Nat) : Int))
 exact h ⟨f, hf⟩
theorem nums_back : ∀ l : List Nat, Bytes l → ((NI l).map fun n => UInt8.ofNat n.toNat).map UInt8.toNat = l
 | [], _ => rfl
 | x :: l, h => by
  show (UInt8.ofNat ((x : Nat) : Int).toNat).toNat :: ((NI l).map fun n => UInt8.ofNat n.toNat).map UInt8.toNat = x :: l
  rw [nums_back l (fun y hy => h y (List.mem_cons_of_mem _ hy)), Int.toNat_natCast, UInt8.toNat_ofNat', Nat.mod_eq_of_lt (h x (by simp))]
theorem strB_ne {l m : List Nat} (hl : Bytes l) (hm : Bytes m) (h : l ≠ m) : strB l ≠ strB m := fun e => h (by
 have e2 : (strB l).data.toList = (strB m).data.toList := by rw [e]
 unfold strB at e2
 rw [strOfNums_data, strOfNums_data] at e2
 have e3 := congrArg (List.map UInt8.toNat) e2
 rw [nums_back l hl, nums_back m hm] at e3
 exact e3)
theorem strN_ne {ops : Array Oper} {S : World → Prop} {o : Oper} {a : Act} (hgd : Region.wanted o (yielded ops a.tmps) = true) (x y : Operand) (ho : o.op = .binOp .neq 9 x y 9) (s t : ByteArray) (hx : a.eval x = .string s) (hy : a.eval y = .string t) (h : s ≠ t) : YieldsIf Tryd.prog ops S o (.bool true) a := by
 refine Or.inl ⟨hgd, fun w _ => ?_⟩
 have h2 : ¬ s.toList = t.toList := fun e => h (ByteArray.ext (Array.toList_inj.1 (by rw [← ByteArray.toList_eq, ← ByteArray.toList_eq]; exact e)))
 simp only [execOp, ho, hx, hy]
 go_simp
set_option maxHeartbeats 32000000 in
set_option maxRecDepth 100000 in
theorem opened_w (K N Mk x : List Nat) (a e : Int) (next : Nat) (vx : Value) (lK : K.length = 16) (lN : N.length = 12) (lM : Mk.length = 16) (bK : Bytes K) (bN : Bytes N) (bM : Bytes Mk) (bx : Bytes x) (lx : x.length ≤ 1000) (wa : i64_ok a) (we : i64_ok e) (hn : next < 4611686018427387904) (W : World) (hb : SB W vx x) (G : Nat × Nat × List Nat) (hG : openG K N Mk x a e next = G) :
  Calls Tryd.prog 20 #[.agg (Iv .u8 (NI (K ++ (N ++ Mk)))), vx, .int .i64 a, .int .i64 e, .int .u64 (next : Int)] W fun e2 w' => ∃ v, e2 = .returned (.tuple #[.int .u64 ((G.2.1 : Nat) : Int), v, .int .i64 ((G.1 : Nat) : Int)]) ∧ SB w' v G.2.2 ∧ Below W.heap.size W w' := by
 obtain ⟨p, c, rfl⟩ := hb.shape
 obtain ⟨n0, hxn⟩ : ∃ n, x.length = n := ⟨_, rfl⟩
 unfold i64_ok at wa we
 rw [hxn] at hb lx ⊢
 have HG := Lib.hid hG
 have LX0 := Lib.hid hxn
 clear hG hxn
 have LN := Lib.hid (And.intro (And.intro lK (And.intro lN lM)) (And.intro bK (And.intro bN bM)))
 have BX := Lib.hid bx
 replace hb := Lib.hid hb
 clear lK lN lM bK bN bM bx
 obtain ⟨KC, hKC⟩ : ∃ KC, Iv .u8 (NI (K ++ (N ++ Mk))) = KC := ⟨_, rfl⟩
 rw [hKC]
 have HK := Lib.hid hKC
 clear hKC
 go_enter Tryd.func20, Tryd.ntmps20
 go_upto_region 0 with fail
 rename_i aK
 refine wp_region_seq ?_
 refine wpSeq_wp rfl ?_
 unfold Oper.wp execOp
 go_simp
 refine sas (.int .u64 0) rfl rfl rfl ?_
 simp only [AP]
 refine sas (.slice none 0 0) rfl rfl rfl ?_
 simp only [AP]
 refine sas (.int .i64 0) rfl rfl rfl ?_
 simp only [AP]
 refine wpSeq_nil ?_
 refine aK _ _ ?_
 clear aK
 have K0 := Lib.hid (Blk.new W 30 KC)
 have b0 := Lib.hid ((Below.refl W.heap.size W).alloc (Nat.le_refl _) (.cells KC 30))
 generalize World.alloc W _ = w1 at *
 replace hb := Lib.hid (hb.out.below b0.out)
 by_cases q1 : a < 1
 ·
  skip
  go_upto_region 1 with fail
  rename_i aK
  refine wp_region_seq ?_
  refine smv (.int .i64 a) rfl rfl rfl ?_
  simp only [AP]
  refine svl (.bool true) (.inl ⟨by rfl, fun w' _ => by (go_simp; try omega)⟩) ?_
  simp only [AP]
  refine smv (.bool true) rfl rfl rfl ?_
  simp only [AP]
  refine wpSeq_yield (S := fun _ => True) (yieldsIf_off rfl) trivial ?_
  simp only [AP]
  refine wpSeq_yield (S := fun _ => True) (yieldsIf_off rfl) trivial ?_
  simp only [AP]
  refine wpSeq_yield (S := fun _ => True) (yieldsIf_off rfl) trivial ?_
  simp only [AP]
  refine wpSeq_yield (S := fun _ => True) (yieldsIf_off rfl) trivial ?_
  simp only [AP]
  refine wpSeq_yield (S := fun _ => True) (yieldsIf_pick rfl _ _ _ rfl true rfl (.bool true) rfl) trivial ?_
  simp only [AP]
  refine smv (.bool true) rfl rfl rfl ?_
  simp only [AP]
  refine wpSeq_yield (S := fun _ => True) (yieldsIf_off rfl) trivial ?_
  simp only [AP]
  refine wpSeq_yield (S := fun _ => True) (yieldsIf_off rfl) trivial ?_
  simp only [AP]
  refine wpSeq_yield (S := fun _ => True) (yieldsIf_off rfl) trivial ?_
  simp only [AP]
  refine wpSeq_yield (S := fun _ => True) (yieldsIf_pick rfl _ _ _ rfl true rfl (.bool true) rfl) trivial ?_
  simp only [AP]
  refine smv (.bool true) rfl rfl rfl ?_
  simp only [AP]
  refine wpSeq_yield (S := fun _ => True) (yieldsIf_off rfl) trivial ?_
  simp only [AP]
  refine wpSeq_yield (S := fun _ => True) (yieldsIf_off rfl) trivial ?_
  simp only [AP]
  refine wpSeq_yield (S := fun _ => True) (yieldsIf_off rfl) trivial ?_
  simp only [AP]
  refine wpSeq_yield (S := fun _ => True) (yieldsIf_off rfl) trivial ?_
  simp only [AP]
  refine wpSeq_yield (S := fun _ => True) (yieldsIf_pick rfl _ _ _ rfl true rfl (.bool true) rfl) trivial ?_
  simp only [AP]
  refine wpSeq_nil ?_
  refine (by assumption : ∀ (a : Act) (w : World), _ → _) _ _ ?_
  go_upto_region 2 with fail
  rename_i aK
  refine wp_region_seq ?_
  refine sas (.int .u64 0) rfl rfl rfl ?_
  simp only [AP]
  refine sas (.slice none 0 0) rfl rfl rfl ?_
  simp only [AP]
  refine sas (.int .i64 3) rfl rfl rfl ?_
  simp only [AP]
  refine wpSeq_nil ?_
  refine (by assumption : ∀ (a : Act) (w : World), _ → _) _ _ ?_
  go_wp2
  refine bodyPost_ret (results_tmp3 rfl _ _ _) rfl ?_
  have e : G = (3, 0, []) := HG.out.symm.trans (if_pos (by have := LX0.out; omega))
  subst e
  exact ⟨.slice none 0 0, rfl, SB.nil _ _ _, b0.out⟩
 by_cases q2 : (n0 : Int) < e
 ·
  skip
  go_upto_region 1 with fail
  rename_i aK
  refine wp_region_seq ?_
  refine smv (.int .i64 a) rfl rfl rfl ?_
  simp only [AP]
  refine svl (.bool false) (.inl ⟨by rfl, fun w' _ => by (go_simp; try omega)⟩) ?_
  simp only [AP]
  refine smv (.bool false) rfl rfl rfl ?_
  simp only [AP]
  refine smv (.int .i64 e) rfl rfl rfl ?_
  simp only [AP]
  refine smv (.slice p n0 c) rfl rfl rfl ?_
  simp only [AP]
  refine svl (.int .i64 (n0 : Int)) (.inl ⟨by rfl, fun w' _ => by go_simp⟩) ?_
  simp only [AP]
  refine svl (.bool true) (.inl ⟨by rfl, fun w' _ => by (go_simp; try omega)⟩) ?_
  simp only [AP]
  refine wpSeq_yield (S := fun _ => True) (yieldsIf_pick rfl _ _ _ rfl false rfl (.bool true) rfl) trivial ?_
  simp only [AP]
  refine smv (.bool true) rfl rfl rfl ?_
  simp only [AP]
  refine wpSeq_yield (S := fun _ => True) (yieldsIf_off rfl) trivial ?_
  simp only [AP]
  refine wpSeq_yield (S := fun _ => True) (yieldsIf_off rfl) trivial ?_
  simp only [AP]
  refine wpSeq_yield (S := fun _ => True) (yieldsIf_off rfl) trivial ?_
  simp only [AP]
  refine wpSeq_yield (S := fun _ => True) (yieldsIf_pick rfl _ _ _ rfl true rfl (.bool true) rfl) trivial ?_
  simp only [AP]
  refine smv (.bool true) rfl rfl rfl ?_
  simp only [AP]
  refine wpSeq_yield (S := fun _ => True) (yieldsIf_off rfl) trivial ?_
  simp only [AP]
  refine wpSeq_yield (S := fun _ => True) (yieldsIf_off rfl) trivial ?_
  simp only [AP]
  refine wpSeq_yield (S := fun _ => True) (yieldsIf_off rfl) trivial ?_
  simp only [AP]
  refine wpSeq_yield (S := fun _ => True) (yieldsIf_off rfl) trivial ?_
  simp only [AP]
  refine wpSeq_yield (S := fun _ => True) (yieldsIf_pick rfl _ _ _ rfl true rfl (.bool true) rfl) trivial ?_
  simp only [AP]
  refine wpSeq_nil ?_
  refine (by assumption : ∀ (a : Act) (w : World), _ → _) _ _ ?_
  go_upto_region 2 with fail
  rename_i aK
  refine wp_region_seq ?_
  refine sas (.int .u64 0) rfl rfl rfl ?_
  simp only [AP]
  refine sas (.slice none 0 0) rfl rfl rfl ?_
  simp only [AP]
  refine sas (.int .i64 3) rfl rfl rfl ?_
  simp only [AP]
  refine wpSeq_nil ?_
  refine (by assumption : ∀ (a : Act) (w : World), _ → _) _ _ ?_
  go_wp2
  refine bodyPost_ret (results_tmp3 rfl _ _ _) rfl ?_
  have e : G = (3, 0, []) := HG.out.symm.trans (if_pos (by have := LX0.out; omega))
  subst e
  exact ⟨.slice none 0 0, rfl, SB.nil _ _ _, b0.out⟩
 by_cases q3 : e < a
 ·
  skip
  go_upto_region 1 with fail
  rename_i aK
  refine wp_region_seq ?_
  refine smv (.int .i64 a) rfl rfl rfl ?_
  simp only [AP]
  refine svl (.bool false) (.inl ⟨by rfl, fun w' _ => by (go_simp; try omega)⟩) ?_
  simp only [AP]
  refine smv (.bool false) rfl rfl rfl ?_
  simp only [AP]
  refine smv (.int .i64 e) rfl rfl rfl ?_
  simp only [AP]
  refine smv (.slice p n0 c) rfl rfl rfl ?_
  simp only [AP]
  refine svl (.int .i64 (n0 : Int)) (.inl ⟨by rfl, fun w' _ => by go_simp⟩) ?_
  simp only [AP]
  refine svl (.bool false) (.inl ⟨by rfl, fun w' _ => by (go_simp; try omega)⟩) ?_
  simp only [AP]
  refine wpSeq_yield (S := fun _ => True) (yieldsIf_pick rfl _ _ _ rfl false rfl (.bool false) rfl) trivial ?_
  simp only [AP]
  refine smv (.bool false) rfl rfl rfl ?_
  simp only [AP]
  refine smv (.int .i64 e) rfl rfl rfl ?_
  simp only [AP]
  refine smv (.int .i64 a) rfl rfl rfl ?_
  simp only [AP]
  refine svl (.bool true) (.inl ⟨by rfl, fun w' _ => by (go_simp; try omega)⟩) ?_
  simp only [AP]
  refine wpSeq_yield (S := fun _ => True) (yieldsIf_pick rfl _ _ _ rfl false rfl (.bool true) rfl) trivial ?_
  simp only [AP]
  refine smv (.bool true) rfl rfl rfl ?_
  simp only [AP]
  refine wpSeq_yield (S := fun _ => True) (yieldsIf_off rfl) trivial ?_
  simp only [AP]
  refine wpSeq_yield (S := fun _ => True) (yieldsIf_off rfl) trivial ?_
  simp only [AP]
  refine wpSeq_yield (S := fun _ => True) (yieldsIf_off rfl) trivial ?_
  simp only [AP]
  refine wpSeq_yield (S := fun _ => True) (yieldsIf_off rfl) trivial ?_
  simp only [AP]
  refine wpSeq_yield (S := fun _ => True) (yieldsIf_pick rfl _ _ _ rfl true rfl (.bool true) rfl) trivial ?_
  simp only [AP]
  refine wpSeq_nil ?_
  refine (by assumption : ∀ (a : Act) (w : World), _ → _) _ _ ?_
  go_upto_region 2 with fail
  rename_i aK
  refine wp_region_seq ?_
  refine sas (.int .u64 0) rfl rfl rfl ?_
  simp only [AP]
  refine sas (.slice none 0 0) rfl rfl rfl ?_
  simp only [AP]
  refine sas (.int .i64 3) rfl rfl rfl ?_
  simp only [AP]
  refine wpSeq_nil ?_
  refine (by assumption : ∀ (a : Act) (w : World), _ → _) _ _ ?_
  go_wp2
  refine bodyPost_ret (results_tmp3 rfl _ _ _) rfl ?_
  have e : G = (3, 0, []) := HG.out.symm.trans (if_pos (by have := LX0.out; omega))
  subst e
  exact ⟨.slice none 0 0, rfl, SB.nil _ _ _, b0.out⟩
 obtain ⟨d, hd⟩ : ∃ d, e - a = d := ⟨_, rfl⟩
 have fd : IntKind.i64.wrap d = d := by rw [IntKind.wrap_i64]; omega
 by_cases q4 : d < 20
 ·
  skip
  go_upto_region 1 with fail
  rename_i aK
  refine wp_region_seq ?_
  refine smv (.int .i64 a) rfl rfl rfl ?_
  simp only [AP]
  refine svl (.bool false) (.inl ⟨by rfl, fun w' _ => by (go_simp; try omega)⟩) ?_
  simp only [AP]
  refine smv (.bool false) rfl rfl rfl ?_
  simp only [AP]
  refine smv (.int .i64 e) rfl rfl rfl ?_
  simp only [AP]
  refine smv (.slice p n0 c) rfl rfl rfl ?_
  simp only [AP]
  refine svl (.int .i64 (n0 : Int)) (.inl ⟨by rfl, fun w' _ => by go_simp⟩) ?_
  simp only [AP]
  refine svl (.bool false) (.inl ⟨by rfl, fun w' _ => by (go_simp; try omega)⟩) ?_
  simp only [AP]
  refine wpSeq_yield (S := fun _ => True) (yieldsIf_pick rfl _ _ _ rfl false rfl (.bool false) rfl) trivial ?_
  simp only [AP]
  refine smv (.bool false) rfl rfl rfl ?_
  simp only [AP]
  refine smv (.int .i64 e) rfl rfl rfl ?_
  simp only [AP]
  refine smv (.int .i64 a) rfl rfl rfl ?_
  simp only [AP]
  refine svl (.bool false) (.inl ⟨by rfl, fun w' _ => by (go_simp; try omega)⟩) ?_
  simp only [AP]
  refine wpSeq_yield (S := fun _ => True) (yieldsIf_pick rfl _ _ _ rfl false rfl (.bool false) rfl) trivial ?_
  simp only [AP]
  refine smv (.bool false) rfl rfl rfl ?_
  simp only [AP]
  refine smv (.int .i64 e) rfl rfl rfl ?_
  simp only [AP]
  refine smv (.int .i64 a) rfl rfl rfl ?_
  simp only [AP]
  refine svl (.int .i64 d) (.inl ⟨by rfl, fun w' _ => by go_simp⟩) ?_
  simp only [AP]
  refine svl (.bool true) (.inl ⟨by rfl, fun w' _ => by (go_simp; try omega)⟩) ?_
  simp only [AP]
  refine wpSeq_yield (S := fun _ => True) (yieldsIf_pick rfl _ _ _ rfl false rfl (.bool true) rfl) trivial ?_
  simp only [AP]
  refine wpSeq_nil ?_
  refine (by assumption : ∀ (a : Act) (w : World), _ → _) _ _ ?_
  go_upto_region 2 with fail
  rename_i aK
  refine wp_region_seq ?_
  refine sas (.int .u64 0) rfl rfl rfl ?_
  simp only [AP]
  refine sas (.slice none 0 0) rfl rfl rfl ?_
  simp only [AP]
  refine sas (.int .i64 3) rfl rfl rfl ?_
  simp only [AP]
  refine wpSeq_nil ?_
  refine (by assumption : ∀ (a : Act) (w : World), _ → _) _ _ ?_
  go_wp2
  refine bodyPost_ret (results_tmp3 rfl _ _ _) rfl ?_
  have e : G = (3, 0, []) := HG.out.symm.trans (if_pos (by have := LX0.out; omega))
  subst e
  exact ⟨.slice none 0 0, rfl, SB.nil _ _ _, b0.out⟩
 go_upto_region 1 with fail
 rename_i aK
 refine wp_region_seq ?_
 refine smv (.int .i64 a) rfl rfl rfl ?_
 simp only [AP]
 refine svl (.bool false) (.inl ⟨by rfl, fun w' _ => by (go_simp; try omega)⟩) ?_
 simp only [AP]
 refine smv (.bool false) rfl rfl rfl ?_
 simp only [AP]
 refine smv (.int .i64 e) rfl rfl rfl ?_
 simp only [AP]
 refine smv (.slice p n0 c) rfl rfl rfl ?_
 simp only [AP]
 refine svl (.int .i64 (n0 : Int)) (.inl ⟨by rfl, fun w' _ => by go_simp⟩) ?_
 simp only [AP]
 refine svl (.bool false) (.inl ⟨by rfl, fun w' _ => by (go_simp; try omega)⟩) ?_
 simp only [AP]
 refine wpSeq_yield (S := fun _ => True) (yieldsIf_pick rfl _ _ _ rfl false rfl (.bool false) rfl) trivial ?_
 simp only [AP]
 refine smv (.bool false) rfl rfl rfl ?_
 simp only [AP]
 refine smv (.int .i64 e) rfl rfl rfl ?_
 simp only [AP]
 refine smv (.int .i64 a) rfl rfl rfl ?_
 simp only [AP]
 refine svl (.bool false) (.inl ⟨by rfl, fun w' _ => by (go_simp; try omega)⟩) ?_
 simp only [AP]
 refine wpSeq_yield (S := fun _ => True) (yieldsIf_pick rfl _ _ _ rfl false rfl (.bool false) rfl) trivial ?_
 simp only [AP]
 refine smv (.bool false) rfl rfl rfl ?_
 simp only [AP]
 refine smv (.int .i64 e) rfl rfl rfl ?_
 simp only [AP]
 refine smv (.int .i64 a) rfl rfl rfl ?_
 simp only [AP]
 refine svl (.int .i64 d) (.inl ⟨by rfl, fun w' _ => by go_simp⟩) ?_
 simp only [AP]
 refine svl (.bool false) (.inl ⟨by rfl, fun w' _ => by (go_simp; try omega)⟩) ?_
 simp only [AP]
 refine wpSeq_yield (S := fun _ => True) (yieldsIf_pick rfl _ _ _ rfl false rfl (.bool false) rfl) trivial ?_
 simp only [AP]
 refine wpSeq_nil ?_
 refine (by assumption : ∀ (a : Act) (w : World), _ → _) _ _ ?_
 clear fd
 obtain ⟨a, rfl⟩ : ∃ k : Nat, a = (k : Int) := ⟨a.toNat, by omega⟩
 obtain ⟨ee, rfl⟩ : ∃ k : Nat, e = (k : Int) := ⟨e.toNat, by omega⟩
 have AE := Lib.hid (show a + 20 ≤ ee ∧ ee ≤ n0 ∧ 1 ≤ a ∧ n0 ≤ 1000 by omega)
 clear q1 q2 q3 q4 hd wa we lx
 obtain ⟨bits, f, n, s, ah, SH⟩ := shown_is0 Mk x a
 obtain ⟨rest, hrest⟩ : ∃ rest, (if x.getD 0 0 < 128 then 28 else 12) = rest := ⟨_, rfl⟩
 obtain ⟨pn, hpn⟩ : ∃ pn, fullN s n next = pn := ⟨_, rfl⟩
 obtain ⟨o, ho⟩ : ∃ o, openL K (nonceN N pn) ah ((x.take ee).drop (a + n)) = o := ⟨_, rfl⟩
 have OG := openG_is K N Mk x a ee next bits rest f n s pn ah o AE.out.2.2.1 AE.out.1 (by rw [LX0.out]; exact AE.out.2.1) SH.1 hrest.symm SH.2.1 SH.2.2.1 SH.2.2.2.1 SH.2.2.2.2 hpn.symm ho.symm
 obtain ⟨sh1, sh2, sh3, sh4, sh5⟩ := SH
 have n14 : 1 ≤ n ∧ n ≤ 4 := by omega
 have BY : Bytes (x.take ee) := BX.out.take _
 have LY : (x.take ee).length = ee := by rw [List.length_take, LX0.out]; have := AE.out; omega
 have MY : maskN Mk a (x.take ee) = maskN Mk a x := by unfold maskN; rw [smp_take _ _ _ AE.out.1]
 obtain ⟨M, hM⟩ : ∃ M, maskN Mk a x = M := ⟨_, rfl⟩
 rw [hM] at sh2 sh4 MY
 have b16 : Bytes (smpN a (x.take ee)) := fun y hy => BY y (List.mem_of_mem_drop (List.mem_of_mem_take hy))
 have s16 := smpN_length a (x.take ee) (by rw [LY]; exact AE.out.1)
 have EC := Lib.hid (fun w v6 (h : SB w v6 boxL) => rencrypt_any w v6 h Mk (smpN a (x.take ee)) LN.out.1.2.2 s16 LN.out.2.2.2 b16)
 rw [show encL boxL Mk (smpN a (x.take ee)) = M from MY] at EC
 have M16 : M.length = 16 := by rw [← MY]; exact encL_length _ _
 have M8 : Bytes M := by rw [← MY]; exact encL_bytes LN.out.2.2.2 b16
 have Y0 : (x.take ee).getD 0 0 = x.getD 0 0 := by
  rw [List.getD_eq_getElem?_getD, List.getElem?_take, if_pos (by have := AE.out; omega), ← List.getD_eq_getElem?_getD]
 have ah2 : ah = (hidN M a n bits (x.take ee)).take (a + n) := by
  rw [sh4, hid_take, List.take_take, Nat.min_eq_left (by have := AE.out; omega)]
 have cd2 : (x.take ee).drop (a + n) = (hidN M a n bits (x.take ee)).drop (a + n) := (hid_drop M a n bits (x.take ee) AE.out.2.2.1).symm
 rw [cd2] at ho
 clear cd2 sh4 MY hM b16
 rw [← Y0] at hrest sh1 sh2
 obtain ⟨Y, hY⟩ : ∃ Y, x.take ee = Y := ⟨_, rfl⟩
 rw [hY] at s16 EC BY LY ah2 ho hrest sh1 sh2
 have HS := Lib.hid (show SB w1 (.slice p ee c) Y by rw [← hY]; exact hb.out.head ee AE.out.2.1)
 have nc : n0 ≤ c := by have := hb.out.len.2; rw [LX0.out] at this; exact this
 have ec : ee ≤ c := by have := AE.out; omega
 have N14 := Lib.hid n14
 have OG2 := Lib.hid (HG.out.symm.trans OG)
 have AH := Lib.hid ah2
 have HO := Lib.hid ho
 have SS := Lib.hid sh5
 have PN := Lib.hid hpn
 replace M16 := Lib.hid M16
 replace M8 := Lib.hid M8
 replace BY := Lib.hid BY
 replace LY := Lib.hid LY
 have SH1 := Lib.hid (And.intro sh1 (And.intro sh2 (And.intro sh3 hrest)))
 have rs := Lib.hid (show ((NI (smpN a Y)).map (Value.int .u8)).length = 16 by simp [NI, s16])
 have NX := Lib.hid hn
 clear HG OG sh1 sh2 sh3 sh5 hrest hpn ho n14 Y0 ah2 hY hb nc s16 hn
 go_upto_region 3 with fail
 rename_i aK
 refine wp_region_seq ?_
 refine wpSeq_wp rfl ?_
 unfold Oper.wp execOp
 go_simp
 refine (rbox_any _).mono ?_
 rintro _ w2 ⟨v6, rfl, O6, b2⟩
 replace K0 := Lib.hid (K0.out.below' b2)
 replace O6 := Lib.hid (O6.mono b0.out.size)
 replace b0 := Lib.hid (b0.out.trans (b2.mono b0.out.size))
 replace HS := Lib.hid (HS.out.below b2)
 have L6 := Lib.hid (fun j e => O6.out.lt j e)
 clear b2
 go_simp
 refine sas (v6) rfl rfl rfl ?_
 simp only [AP]
 refine wpSeq_nil ?_
 refine (by assumption : ∀ (a : Act) (w : World), _ → _) _ _ ?_
 have B1 := Own1.build w2.heap.size w2 (Nat.le_refl _)
 have b1 := (Below.refl w2.heap.size w2).alloc (Nat.le_refl _) (.cells #[] 5)
 obtain ⟨v7, w4, hr4, O7, b4⟩ := own1_bytes 24 (.slice p ee c) Y B1 (HS.out.below b1) (by have := AE.out; rw [LY.out]; simp only [List.length_nil]; omega) b1 b1.size
 rw [List.nil_append] at O7
 clear B1 b1
 go_upto_region 4 with fail
 rename_i aK
 refine wp_region_seq ?_
 refine wpSeq_wp rfl (wp_build_run _ rfl _ _ (run_buildSlice_none _) ?_)
 simp only [AP]
 refine smv (.slice p n0 c) rfl rfl rfl ?_
 simp only [AP]
 refine smv (.int .i64 (ee : Int)) rfl rfl rfl ?_
 simp only [AP]
 refine wpSeq_yield (S := fun _ => True) (yieldsIf_head rfl _ _ rfl p n0 c ee rfl rfl (by omega)) trivial ?_
 simp only [AP]
 refine wpSeq_wp rfl (wp_append_run _ _ _ _ rfl _ _ rfl rfl v7 w4 hr4 ?_)
 simp only [AP]
 refine sas (v7) rfl rfl rfl ?_
 simp only [AP]
 refine wpSeq_nil ?_
 refine (by assumption : ∀ (a : Act) (w : World), _ → _) _ _ ?_
 clear hr4 HS ec
 obtain ⟨g, cx, hv7, lg, lc, A7⟩ := O7.slice
 rw [LY.out] at hv7 lc
 subst hv7
 have QQ := Lib.hid (show OQ W KC v6 g w4 from ⟨K0.out.below' b4, O6.out.below b4, b0.out.trans (b4.mono b0.out.size), fun j e => by have := (L6.out j e).2; omega, by have := K0.out.lt; omega⟩)
 replace O7 := Lib.hid O7.own
 have LC := Lib.hid (show a + 20 ≤ ee ∧ ee ≤ cx ∧ ee ≤ 1000 ∧ 1 ≤ a ∧ W.heap.size < g by have := AE.out; have := K0.out.lt; omega)
 clear K0 b0 O6 L6 b4 A7 lg lc
 have bd := below_drew (Below.refl w4.heap.size w4)
 replace QQ := Lib.hid (QQ.out.step bd)
 replace O7 := Lib.hid (O7.out.below bd)
 clear bd
 go_upto_region 5 with fail
 rename_i KK aK
 have AK : ∀ (gm : Nat) (w' : World), w4.drew.heap.size ≤ gm → Blk w' gm 26 (Iv .u8 (NI M)) → Below w4.drew.heap.size w4.drew w' → KK { tmps := #[.agg KC, .slice p n0 c, .int .i64 (a : Int), .int .i64 (ee : Int), .int .u64 (next : Int), .pointer (some ⟨W.heap.size, 0, none⟩), undef, undef, undef, undef, .int .u64 0, .slice none 0 0, .int .i64 0, v6, .slice (some ⟨g, 0, none⟩) ee cx, .pointer (some ⟨gm, 0, none⟩), undef, undef, undef, undef, undef, undef, undef, undef, undef, undef, .int .i64 (a : Int), .bool false, .bool false, .int .i64 (ee : Int), .slice p n0 c, .int .i64 (n0 : Int), .bool false, .bool false, .bool false, .int .i64 (ee : Int), .int .i64 (a : Int), .bool false, .bool false, .bool false, .int .i64 (ee : Int), .int .i64 (a : Int), .int .i64 d, .bool false, .bool false, v6, .slice (some ⟨w2.heap.size, 0, none⟩) 0 0, .slice p n0 c, .int .i64 (ee : Int), .slice p ee c, .slice (some ⟨g, 0, none⟩) ee cx, v6, .pointer (some ⟨W.heap.size, 28, none⟩), .agg (Iv .u8 (NI Mk)), .slice (some ⟨g, 0, none⟩) ee cx, .int .i64 (a : Int), .int .i64 ((a + 4 : Nat) : Int), .int .i64 (a : Int), .int .i64 ((a + 20 : Nat) : Int), .slice (some ⟨g, a + 4, none⟩) 16 (cx - (a + 4)), .pointer (some ⟨g, a + 4, none⟩), .agg (Iv .u8 (NI (smpN a Y))), .agg (Iv .u8 (NI M)), undef, undef, undef, undef, undef, undef, undef, undef, undef, undef, undef, undef, undef, undef, undef, undef, undef, undef, undef, undef, undef, undef, undef, undef, undef, undef, undef, undef, undef, undef, undef, undef, undef, undef, undef, undef, undef, undef, undef, undef, undef, undef, undef, undef, undef, undef, undef, undef, undef, undef, undef, undef, undef, undef, undef, undef, undef, undef, undef, undef, undef, undef, undef, undef, undef, undef, undef, undef, undef, undef, undef, undef, undef, undef, undef, undef, undef, undef, undef, undef, undef, undef, undef, undef, undef, undef, undef, undef, undef, undef, undef, undef, undef, undef, undef, undef, undef, undef, undef, undef, undef, undef, undef, undef, undef, undef, undef, undef, undef, undef, undef, undef, undef, undef, undef], defers := [] } w' := by
  intro gm w5 lgm MB b5
  refine aK _ _ ?_
  clear aK EC rs
  have NG := Lib.hid (show gm ≠ g by have := O7.out.lt g rfl; omega)
  replace QQ := Lib.hid (QQ.out.step b5)
  replace O7 := Lib.hid (O7.out.below b5)
  clear b5 lgm
  replace MB := Lib.hid MB
  obtain ⟨x0, hx0⟩ : ∃ x0, Y.getD 0 0 = x0 := ⟨_, rfl⟩
  obtain ⟨m0, hm0⟩ : ∃ m0, M.getD 0 0 = m0 := ⟨_, rfl⟩
  have SX := SH1.out
  rw [hx0, hm0] at SX
  have x8 : x0 < 256 := by rw [← hx0]; exact getD_bytes BY.out 0
  have m8 : m0 < 256 := by rw [← hm0]; exact getD_bytes M8.out 0
  have HX0 := Lib.hid hx0
  have HM0 := Lib.hid hm0
  have y0 : w5.cell? ⟨g, 0, none⟩ = some (.int .u8 (x0 : Int)) := by
   have := (O7.out.at_cell 0 (by rw [LY.out]; have := LC.out; omega)).1
   rw [hx0] at this
   exact this
  have lee : 0 < ee := by have := LC.out; omega
  replace SX := Lib.hid SX
  clear hx0 hm0 SH1
  go_upto_region 6 with fail
  rename_i aK
  refine wp_region_seq ?_
  refine sas (.int .u8 15) rfl rfl rfl ?_
  simp only [AP]
  refine sas (.int .u8 12) rfl rfl rfl ?_
  simp only [AP]
  refine wpSeq_nil ?_
  refine (by assumption : ∀ (a : Act) (w : World), _ → _) _ _ ?_
  go_upto_region 7 with fail
  rename_i KJ aJ K7 a7
  have AK2 : ∀ (u63 u64 u65 u66 : Value), KJ { tmps := #[.agg KC, .slice p n0 c, .int .i64 (a : Int), .int .i64 (ee : Int), .int .u64 (next : Int), .pointer (some ⟨W.heap.size, 0, none⟩), undef, undef, undef, undef, .int .u64 0, .slice none 0 0, .int .i64 0, v6, .slice (some ⟨g, 0, none⟩) ee cx, .pointer (some ⟨gm, 0, none⟩), .int .u8 (bits : Int), .int .u8 (rest : Int), undef, undef, undef, undef, undef, undef, undef, undef, .int .i64 (a : Int), .bool false, .bool false, .int .i64 (ee : Int), .slice p n0 c, .int .i64 (n0 : Int), .bool false, .bool false, .bool false, .int .i64 (ee : Int), .int .i64 (a : Int), .bool false, .bool false, .bool false, .int .i64 (ee : Int), .int .i64 (a : Int), .int .i64 d, .bool false, .bool false, v6, .slice (some ⟨w2.heap.size, 0, none⟩) 0 0, .slice p n0 c, .int .i64 (ee : Int), .slice p ee c, .slice (some ⟨g, 0, none⟩) ee cx, v6, .pointer (some ⟨W.heap.size, 28, none⟩), .agg (Iv .u8 (NI Mk)), .slice (some ⟨g, 0, none⟩) ee cx, .int .i64 (a : Int), .int .i64 ((a + 4 : Nat) : Int), .int .i64 (a : Int), .int .i64 ((a + 20 : Nat) : Int), .slice (some ⟨g, a + 4, none⟩) 16 (cx - (a + 4)), .pointer (some ⟨g, a + 4, none⟩), .agg (Iv .u8 (NI (smpN a Y))), .agg (Iv .u8 (NI M)), u63, u64, u65, u66, undef, undef, undef, undef, undef, undef, undef, undef, undef, undef, undef, undef, undef, undef, undef, undef, undef, undef, undef, undef, undef, undef, undef, undef, undef, undef, undef, undef, undef, undef, undef, undef, undef, undef, undef, undef, undef, undef, undef, undef, undef, undef, undef, undef, undef, undef, undef, undef, undef, undef, undef, undef, undef, undef, undef, undef, undef, undef, undef, undef, undef, undef, undef, undef, undef, undef, undef, undef, undef, undef, undef, undef, undef, undef, undef, undef, undef, undef, undef, undef, undef, undef, undef, undef, undef, undef, undef, undef, undef, undef, undef, undef, undef, undef, undef, undef, undef, undef, undef, undef, undef, undef, undef, undef, undef, undef, undef, undef, undef, undef, undef], defers := [] } w5 := by
   intro u63 u64 u65 u66
   refine aJ _ _ ?_
   clear aJ a7 y0
   obtain ⟨sb, sf, sn, sr⟩ := SX.out
   have hb : bits = 15 ∨ bits = 31 := by
    rw [sb]
    unfold bitG0
    split
    · exact Or.inr rfl
    · exact Or.inl rfl
   have hr : rest = 12 ∨ rest = 28 := by
    rw [← sr]
    split
    · exact Or.inr rfl
    · exact Or.inl rfl
   have f1 : Go.bits BinOp.and IntKind.u8 (m0 : Int) (bits : Int) = ((m0 &&& bits : Nat) : Int) := and_low m0 bits m8 hb
   have f2 : Go.bits BinOp.xor IntKind.u8 (x0 : Int) ((m0 &&& bits : Nat) : Int) = (f : Int) := by rw [xor_u8 _ _ x8 (Nat.lt_of_le_of_lt Nat.and_le_left m8), sf]
   have f8 : f < 256 := by rw [sf]; exact Nat.xor_lt_two_pow (n := 8) x8 (Nat.lt_of_le_of_lt Nat.and_le_left m8)
   have FRR := Lib.hid (show Go.bits BinOp.and IntKind.u8 (f : Int) (rest : Int) = ((f &&& rest : Nat) : Int) by
    rcases hr with e | e
    · rw [e]; exact (and_hi f f8).2
    · rw [e]; exact (and_hi f f8).1)
   have HZ := hidN_zero M a bits Y (by rw [LY.out]; exact lee)
   rw [HX0.out, HM0.out, ← sf] at HZ
   have S4 := Lib.hid HZ
   have SN := Lib.hid sn
   have FX := Lib.hid sf
   clear HZ sn sf sb sr hb hr SX
   have bd := below_drew (Below.refl w5.heap.size w5)
   have P2 := QQ.out.step bd
   have O2 := O7.out.below bd
   have MB2 := MB.out.below' bd
   clear bd QQ O7 MB
   have cx0 := (O2.at_cell 0 (by rw [LY.out]; exact lee)).1
   have fx0 := (O2.at_cell 0 (by rw [LY.out]; exact lee)).2
   rw [HX0.out] at cx0
   have cm0 := cell_list MB2 0 m0 (by rw [M16.out]; decide) HM0.out
   go_upto_region 9 with fail
   rename_i aK
   refine wp_region_Z (S := fun w' => w'.cell? ⟨g, 0, none⟩ = some (.int .u8 (x0 : Int)) ∧ w'.cell? ⟨gm, 0, none⟩ = some (.int .u8 (m0 : Int))) 9 (by kernel_rfl) ?_
   generalize World.drew w5 = w12 at *
   have hS := And.intro cx0 cm0
   refine wpAnyZ_takeL 0 (v := .slice (some ⟨g, 0, none⟩) ee cx) rfl (by kernel_rfl) (by kernel_rfl) (by kernel_rfl) (by kernel_rfl) (by kernel_rfl) (fun _ _ _ H => H) (yieldsIf_move rfl _ rfl (.slice (some ⟨g, 0, none⟩) ee cx) rfl) hS ?_
   simp only [AP]
   refine wpAnyZ_takeL 1 (v := .pointer (some ⟨g, 0, none⟩)) rfl (by kernel_rfl) (by kernel_rfl) (by kernel_rfl) (by kernel_rfl) (by kernel_rfl) (fun _ _ _ H => H) (Or.inl ⟨by rfl, fun w' hw' => by (go_simp; try omega)⟩) hS ?_
   simp only [AP]
   refine wpAnyZ_takeL 2 (v := .int .u8 (x0 : Int)) rfl (by kernel_rfl) (by kernel_rfl) (by kernel_rfl) (by kernel_rfl) (by kernel_rfl) (fun _ _ _ H => H) (Or.inl ⟨by rfl, fun w' hw' => by (have cc := hw'.1; go_simp)⟩) hS ?_
   simp only [AP]
   refine wpAnyZ_takeL 3 (v := .pointer (some ⟨gm, 0, none⟩)) rfl (by kernel_rfl) (by kernel_rfl) (by kernel_rfl) (by kernel_rfl) (by kernel_rfl) (fun _ _ _ H => H) (Or.inl ⟨by rfl, fun w' hw' => by (go_simp; try omega)⟩) hS ?_
   simp only [AP]
   refine wpAnyZ_takeL 4 (v := .int .u8 (m0 : Int)) rfl (by kernel_rfl) (by kernel_rfl) (by kernel_rfl) (by kernel_rfl) (by kernel_rfl) (fun _ _ _ H => H) (Or.inl ⟨by rfl, fun w' hw' => by (have cc := hw'.2; go_simp)⟩) hS ?_
   simp only [AP]
   refine wpAnyZ_takeL 5 (v := .int .u8 (bits : Int)) rfl (by kernel_rfl) (by kernel_rfl) (by kernel_rfl) (by kernel_rfl) (by kernel_rfl) (fun _ _ _ H => H) (yieldsIf_move rfl _ rfl (.int .u8 (bits : Int)) rfl) hS ?_
   simp only [AP]
   refine wpAnyZ_takeL 6 (v := .int .u8 ((m0 &&& bits : Nat) : Int)) rfl (by kernel_rfl) (by kernel_rfl) (by kernel_rfl) (by kernel_rfl) (by kernel_rfl) (fun _ _ _ H => H) (Or.inl ⟨by rfl, fun w' hw' => by go_simp⟩) hS ?_
   simp only [AP]
   refine wpAnyZ_takeL 7 (v := .int .u8 (f : Int)) rfl (by kernel_rfl) (by kernel_rfl) (by kernel_rfl) (by kernel_rfl) (by kernel_rfl) (fun _ _ _ H => H) (Or.inl ⟨by rfl, fun w' hw' => by go_simp⟩) hS ?_
   simp only [AP]
   refine wpAnyZ_takeL 8 (v := .pointer (some ⟨g, 0, none⟩)) rfl (by kernel_rfl) (by kernel_rfl) (by kernel_rfl) (by kernel_rfl) (by kernel_rfl) (fun _ _ _ H => H) (Or.inl ⟨by rfl, fun w' hw' => by (go_simp; try omega)⟩) hS ?_
   simp only [AP]
   refine hzstep 9 rfl (by kernel_rfl) rfl ?_
   unfold Oper.wp execOp
   go_simp
   refine wpAnyZ_done (by kernel_rfl) ?_ _
   refine (by assumption : ∀ (a : Act) (w : World), _ → _) _ _ ?_
   have O3 := O2.put 0 f
   rw [← S4.out] at O3
   have P3 := P2.grow (Nat.le_refl g) (gb_cell1 w12 g 0 (.int .u8 (f : Int)))
   have MB3 := MB2.far (p := ⟨g, 0, none⟩) NG.out (.int .u8 (f : Int))
   clear O2 P2 MB2 f1 f2 cx0 fx0 cm0 hS aK
   generalize World.setCell w12 _ _ = w13 at *
   have HF : (hidN M a 0 bits Y).getD 0 0 = f := by rw [S4.out, getD_put _ _ _ _ (by rw [LY.out]; exact lee), if_pos rfl]
   have c0 := (O3.at_cell 0 (by rw [hidN_length, LY.out]; exact lee)).1
   rw [HF] at c0
   clear HF
   obtain ⟨fm, hfm⟩ : ∃ z, f % 4 = z := ⟨_, rfl⟩
   have r1 : (f : Int).tmod 4 = (fm : Int) := by rw [← hfm]; rfl
   have r1b : (f : Int) % 4 = (fm : Int) := by omega
   have r2 : IntKind.u8.wrap (fm : Int) = (fm : Int) := by rw [IntKind.wrap_u8]; omega
   have r3 : IntKind.i64.wrap (fm : Int) = (fm : Int) := by rw [IntKind.wrap_i64]; omega
   have r4 : IntKind.i64.wrap ((fm : Int) + 1) = (n : Int) := by have := SN.out; rw [IntKind.wrap_i64]; omega
   go_upto_region 10 with fail
   rename_i aK
   refine wp_region_seq ?_
   refine smv (.slice (some ⟨g, 0, none⟩) ee cx) rfl rfl rfl ?_
   simp only [AP]
   refine svl (.pointer (some ⟨g, 0, none⟩)) (.inl ⟨by rfl, fun w' _ => by (go_simp; try omega)⟩) ?_
   simp only [AP]
   refine wpSeq_yield (S := fun w' => w' = w13) (v := .int .u8 (f : Int)) (Or.inl ⟨by rfl, fun w' hw' => by (rw [hw']; go_simp)⟩) rfl ?_
   simp only [AP]
   refine svl (.int .u8 (fm : Int)) (.inl ⟨by rfl, fun w' _ => by (go_simp; try omega)⟩) ?_
   simp only [AP]
   refine svl (.int .i64 (fm : Int)) (.inl ⟨by rfl, fun w' _ => by go_simp⟩) ?_
   simp only [AP]
   refine svl (.int .i64 (n : Int)) (.inl ⟨by rfl, fun w' _ => by go_simp⟩) ?_
   simp only [AP]
   refine sas (.int .i64 (n : Int)) rfl rfl rfl ?_
   simp only [AP]
   refine wpSeq_nil ?_
   refine (by assumption : ∀ (a : Act) (w : World), _ → _) _ _ ?_
   clear r1 r1b r2 r3 r4 c0 hfm
   go_upto_region 11 with fail
   rename_i aK
   refine wp_region_seq ?_
   refine sas (.int .u64 0) rfl rfl rfl ?_
   simp only [AP]
   refine wpSeq_nil ?_
   refine (by assumption : ∀ (a : Act) (w : World), _ → _) _ _ ?_
   go_upto_region 12 with fail
   rename_i aK
   refine wp_region_seq ?_
   refine smv (.int .i64 (n : Int)) rfl rfl rfl ?_
   simp only [AP]
   refine smv (.int .i64 0) rfl rfl rfl ?_
   simp only [AP]
   refine wpSeq_nil ?_
   refine (by assumption : ∀ (a : Act) (w : World), _ → _) _ _ ?_
   have LH : (hidN M a n bits Y).length = ee := by rw [hidN_length, LY.out]
   obtain ⟨D, hD⟩ : ∃ D, ah.drop a = D := ⟨_, rfl⟩
   have lD : D.length = n := by rw [← hD, AH.out, List.length_drop, List.length_take, LH]; have := LC.out; have := N14.out; omega
   have bD : Bytes D := by rw [← hD, AH.out]; exact ((hidN_bytes M8.out BY.out _ _ _).take _).drop _
   have gD : ∀ j, j < n → D.getD j 0 = Y.getD (a + j) 0 ^^^ M.getD (1 + j) 0 := fun j hj => by
    rw [← hD, AH.out, List.getD_eq_getElem?_getD, List.getElem?_drop, List.getElem?_take, if_pos (by omega), ← List.getD_eq_getElem?_getD, hidN_get _ _ _ _ _ _ (by rw [LY.out]; have := LC.out; have := N14.out; omega), if_neg (by have := LC.out; omega), if_pos (by omega), Nat.add_sub_cancel_left]
   have S8 := SS.out
   rw [hD] at S8
   replace S8 := Lib.hid S8
   have GD := Lib.hid gD
   have LD := Lib.hid (And.intro lD bD)
   clear hD lD bD gD LH
   go_upto_region 13 with fail
   go_loopw [19, 83] (fun sv t wr => ∃ j : Nat, j ≤ n ∧ t = .int .i64 (j : Int) ∧ sv = .int .u64 ((beN 0 (D.take j) : Nat) : Int) ∧ OwL w2.heap.size wr (.slice (some ⟨g, 0, none⟩) ee cx) (hidN M a j bits Y) ∧ OQ W KC v6 g wr ∧ Blk wr gm 26 (Iv .u8 (NI M))) (fun _ t _ => (n - intOf t).toNat)
   case atStart => exact ⟨0, by omega, rfl, rfl, O3, P3, MB3⟩
   case round =>
    clear O3 P3 MB3
    obtain ⟨j, jn, rfl, rfl, O3, P3, MB3⟩ := hrel
    by_cases jj : j = n
    ·
     subst jj
     have es : beN 0 (D.take j) = s := by rw [S8.out, List.take_of_length_le (by rw [LD.out.1]; exact Nat.le_refl _)]
     rw [es]
     clear es
     go_upto_region 13 with fail
     rename_i aK
     refine wp_region_seq ?_
     refine svl (.bool false) (.inl ⟨by rfl, fun w' _ => by (go_simp; try omega)⟩) ?_
     simp only [AP]
     refine wpSeq_nil ?_
     refine (by assumption : ∀ (a : Act) (w : World), _ → _) _ _ ?_
     have s64 : s < 18446744073709551616 := by
      rw [S8.out]
      have h := beN_lt2 D LD.out.2 0
      rw [LD.out.1] at h
      have : j = 1 ∨ j = 2 ∨ j = 3 ∨ j = 4 := by have := N14.out; omega
      rcases this with rfl | rfl | rfl | rfl <;> simp at h <;> omega
     have CF := Lib.hid (fun w => rfull_c s next j (by have := N14.out; omega) s64 NX.out w)
     rw [PN.out] at CF
     have pn64 : pn < 18446744073709551616 := by
      rw [← PN.out]
      have h := (fullW_facts (256 ^ j) s next (pow_ws (by have := N14.out; omega)) NX.out).2.2.2
      show fullW (256 ^ j) s next < _
      omega
     have ng := NG.out
     obtain ⟨Z, hZ⟩ : ∃ Z, hidN M a j bits Y = Z := ⟨_, rfl⟩
     have LZ : Z.length = ee := by rw [← hZ, hidN_length, LY.out]
     have bZ : Bytes Z := by rw [← hZ]; exact hidN_bytes M8.out BY.out _ _ _
     have Z0 : Z.getD 0 0 = f := by rw [← hZ, hid_first _ _ _ _ _ (by rw [LY.out]; exact lee), HX0.out, HM0.out]; exact FX.out.symm
     rw [hZ] at O3
     have AH2 := AH.out
     rw [hZ] at AH2
     have HO2 := HO.out
     rw [hZ] at HO2
     obtain ⟨i, hi⟩ : ∃ i, a + j = i := ⟨_, rfl⟩
     rw [hi] at AH2 HO2
     obtain ⟨C, hC⟩ : ∃ C, Z.drop i = C := ⟨_, rfl⟩
     rw [hC] at HO2
     obtain ⟨lC, hlC⟩ : ∃ k, ee - i = k := ⟨_, rfl⟩
     have LCn : C.length = lC := by rw [← hC, List.length_drop, LZ, hlC]
     have bC : Bytes C := by rw [← hC]; exact bZ.drop _
     obtain ⟨lp, hlp⟩ : ∃ k, lC - 16 = k := ⟨_, rfl⟩
     have IC := Lib.hid (show a + j = i ∧ i + lC = ee ∧ lp + 16 = lC ∧ i ≤ 1000 ∧ lC ≤ 1000 ∧ i < cx ∧ ee ≤ cx ∧ ee ≤ 1000 ∧ 1 ≤ i by have := LC.out; have := N14.out; omega)
     have lah : ah.length = i := by rw [AH2, List.length_take, LZ]; have := IC.out; omega
     have bah : Bytes ah := by rw [AH2]; exact bZ.take _
     obtain ⟨PL, hPL⟩ : ∃ PL, (sealL K (nonceN N pn) ah (C.take lp)).take lp = PL := ⟨_, rfl⟩
     have lT : (C.take lp).length = lp := by rw [List.length_take, LCn]; have := IC.out; omega
     have lPL : PL.length = lp := by rw [← hPL, List.length_take, sealL_length, lT]; omega
     have bPL : Bytes PL := by rw [← hPL]; exact Bytes.take (show Bytes _ from sealL_bytes LN.out.2.1 (nonceN_bytes LN.out.2.2.1 pn) (bC.take _) (by rw [lT]; have := IC.out; omega)) _
     have OB := Lib.hid (HO2.symm.trans (open_by K (nonceN N pn) ah C PL (by rw [LCn]; have := IC.out; omega) (by rw [LCn, hlp]; exact hPL.symm)))
     have S1 := Lib.hid (fun w v6 p1 p2 c1 c2 h1 h2 h3 => rseal_f K (nonceN N pn) ah (C.take lp) LN.out.1.1 (nonceN_length _ _) LN.out.2.1 (nonceN_bytes LN.out.2.2.1 pn) bah (bC.take lp) v6 p1 p2 i lp c1 c2 IC.out.2.2.2.1 (by have := IC.out; omega) w h1 h2 h3)
     have S2 := Lib.hid (fun w v6 p1 p2 c1 c2 h1 h2 h3 => rseal_f K (nonceN N pn) ah PL LN.out.1.1 (nonceN_length _ _) LN.out.2.1 (nonceN_bytes LN.out.2.2.1 pn) bah bPL v6 p1 p2 i lp c1 c2 IC.out.2.2.2.1 (by have := IC.out; omega) w h1 h2 h3)
     have HPL := Lib.hid hPL
     have FC := Lib.hid (And.intro LZ (And.intro Z0 (And.intro LCn (And.intro bC (And.intro lPL bPL)))))
     have BS2 : Bytes (sealL K (nonceN N pn) ah PL) := sealL_bytes LN.out.2.1 (nonceN_bytes LN.out.2.2.1 pn) bPL (by rw [lPL]; have := IC.out; omega)
     replace BS2 := Lib.hid BS2
     have SLC := Lib.hid (fun (w : World) (h : OwL w2.heap.size w (.slice (some ⟨g, 0, none⟩) ee cx) Z) => show SB w (.slice (some ⟨g, 0, none⟩) i cx) ah ∧ SB w (.slice (some ⟨g, i, none⟩) lC (cx - i)) C by
      refine ⟨AH2 ▸ h.sb.head i (by have := IC.out; omega), ?_⟩
      have t := h.sb.tail i (by have := IC.out; omega)
      rw [tail_eq g 0 i ee cx IC.out.2.2.2.2.2.1, Nat.zero_add, hlC, hC] at t
      exact t)
     have SLT := Lib.hid (sealL_length K (nonceN N pn) ah (C.take lp))
     rw [lT] at SLT
     clear s64 hZ AH2 HO2 hi hC hlC LZ bZ Z0 LCn bC hlp lah bah hPL lT lPL bPL AH HO SS S8 GD LD LY BY M8 M16 HX0 HM0 MB3 ng S4
     replace P3 := Lib.hid P3
     replace O3 := Lib.hid O3
     go_upto_region 18 with fail
     rename_i aK
     refine wp_region_seq ?_
     refine smv (.int .u64 (s : Int)) rfl rfl rfl ?_
     simp only [AP]
     refine smv (.int .i64 (j : Int)) rfl rfl rfl ?_
     simp only [AP]
     refine smv (.int .u64 (next : Int)) rfl rfl rfl ?_
     simp only [AP]
     refine wpSeq_wp rfl ?_
     unfold Oper.wp execOp
     go_simp
     refine (CF.out _).mono ?_
     rintro _ w16 ⟨rfl, b16⟩
     replace P3 := Lib.hid (P3.out.step b16)
     replace O3 := Lib.hid (O3.out.below b16)
     clear b16 CF
     go_simp
     refine sas (.int .u64 (pn : Int)) rfl rfl rfl ?_
     simp only [AP]
     refine wpSeq_nil ?_
     refine (by assumption : ∀ (a : Act) (w : World), _ → _) _ _ ?_
     go_upto_region 19 with fail
     rename_i aK
     refine wp_region_seq ?_
     refine svl (.pointer (some ⟨W.heap.size, 16, none⟩)) (.inl ⟨by rfl, fun w' _ => by (go_simp)⟩) ?_
     simp only [AP]
     refine wpSeq_yield (S := fun w' => w' = w16) (show YieldsIf _ _ _ _ (.agg (Iv .u8 (NI N))) _ from yieldsIf_load_mid (S := fun w' => w' = w16) rfl 28 _ rfl W.heap.size 16 rfl ((NI N).map (Value.int .u8)) _ (fun _ h => h ▸ ky_nonce (show Blk w16 W.heap.size 30 (Iv .u8 (NI (K ++ (N ++ Mk)))) by rw [HK.out]; exact P3.out.ky) LN.out.1.1) Tryd.underlying28 rfl (by rw [info_a12]; simp [NI, LN.out.1.2.1])) rfl ?_
     simp only [AP]
     refine wpSeq_wp rfl ?_
     unfold Oper.wp execOp
     go_simp
     refine wpSeq_store_row rfl 28 _ _ rfl (w16.heap.size) (Iv .u8 (NI N)) rfl rfl _ _ (Blk.new w16 _ _) (by rw [info_a12, Iv_size, NI_length, LN.out.1.2.1]) (by rw [Iv_size, NI_length, LN.out.1.2.1]; rfl) (u8s_one _) ?_
     simp only [Act.put]
     refine wpSeq_nil ?_
     refine (by assumption : ∀ (a : Act) (w : World), _ → _) _ _ ?_
     generalize hw7 : World.setRow _ w16.heap.size _ = w7
     have F7 : Blk w7 w16.heap.size 28 (Iv .u8 (NI N)) ∧ Below w16.heap.size w16 w7 := by
      rw [← hw7]
      exact one_row _ _ _ _
     clear hw7
     obtain ⟨N7, b7⟩ := F7
     rw [← nonK_zero N pn LN.out.1.2.1] at N7
     go_upto_region 20 with fail
     rename_i aK
     refine wp_region_seq ?_
     refine smv (.int .i64 0) rfl rfl rfl ?_
     simp only [AP]
     refine wpSeq_nil ?_
     refine (by assumption : ∀ (a : Act) (w : World), _ → _) _ _ ?_
     go_upto_region 21 with fail
     go_loopw [115] (fun t wr => ∃ j : Nat, j ≤ 8 ∧ t = .int .i64 (j : Int) ∧ Blk wr w16.heap.size 28 (Iv .u8 (NI (nonK N pn j))) ∧ Below w16.heap.size w16 wr) (fun t _ => (8 - intOf t).toNat)
     case atStart => exact ⟨0, by omega, rfl, N7, b7⟩
     case round =>
      clear N7 b7
      obtain ⟨q, q8, rfl, NB, bq⟩ := hrel
      by_cases qq : q = 8
      ·
       subst qq
       rw [nonK_full] at NB
       replace NB := Lib.hid NB
       replace P3 := Lib.hid (P3.out.step bq)
       replace O3 := Lib.hid (O3.out.below bq)
       obtain ⟨gn, hgn⟩ : ∃ g, w16.heap.size = g := ⟨_, rfl⟩
       rw [hgn] at NB ⊢
       clear bq hgn pn64
       go_upto_region 21 with fail
       rename_i aK
       refine wp_region_seq ?_
       refine svl (.bool false) (.inl ⟨by rfl, fun w' _ => by (go_simp; try omega)⟩) ?_
       simp only [AP]
       refine wpSeq_nil ?_
       refine (by assumption : ∀ (a : Act) (w : World), _ → _) _ _ ?_
       have fi : IntKind.i64.wrap ((a : Int) + (j : Int)) = (i : Int) := by rw [IntKind.wrap_i64]; have := IC.out; omega
       have fp : IntKind.i64.wrap ((lC : Int) - 16) = (lp : Int) := by rw [IntKind.wrap_i64]; have := IC.out; omega
       have n1 : (i : Int) ≤ (ee : Int) ∧ (ee : Int) ≤ (cx : Int) ∧ ¬ cx = i := by have := IC.out; omega
       have n2 : ee - i = lC := by have := IC.out; omega
       obtain ⟨n3, n4, n5⟩ := n1
       go_upto_region 25 with fail
       rename_i aK
       refine wp_region_seq ?_
       refine smv (.slice (some ⟨g, 0, none⟩) ee cx) rfl rfl rfl ?_
       simp only [AP]
       refine smv (.int .i64 (a : Int)) rfl rfl rfl ?_
       simp only [AP]
       refine smv (.int .i64 (j : Int)) rfl rfl rfl ?_
       simp only [AP]
       refine svl (.int .i64 (i : Int)) (.inl ⟨by rfl, fun w' _ => by go_simp⟩) ?_
       simp only [AP]
       refine smv (.int .i64 (ee : Int)) rfl rfl rfl ?_
       simp only [AP]
       refine svl (.slice (some ⟨g, i, none⟩) lC (cx - i)) (.inl ⟨by rfl, fun w' _ => by (go_simp)⟩) ?_
       simp only [AP]
       refine sas (.slice (some ⟨g, i, none⟩) lC (cx - i)) rfl rfl rfl ?_
       simp only [AP]
       refine wpSeq_nil ?_
       refine (by assumption : ∀ (a : Act) (w : World), _ → _) _ _ ?_
       clear n2 n3 n4 n5
       have bd := below_drew (Below.refl wr.heap.size wr)
       replace P3 := Lib.hid (P3.out.step bd)
       replace O3 := Lib.hid (O3.out.below bd)
       replace NB := Lib.hid (NB.out.below' bd)
       clear bd
       have i1 := IC.out
       have n6 : i ≤ cx ∧ lp ≤ cx - i := by omega
       clear i1
       go_upto_region 26 with fail
       rename_i aK
       refine wp_region_S (S := fun w' => Below wr.drew.heap.size wr.drew w') (by kernel_rfl) ?_
       generalize wr.drew = w20 at *
       have hS := Below.refl w20.heap.size w20
       have RK := Lib.hid (fun (w' : World) (h : Below w20.heap.size w20 w') => ky_key (show Blk w' W.heap.size 30 (Iv .u8 (NI (K ++ (N ++ Mk)))) by rw [HK.out]; exact P3.out.ky.below' h))
       have RN := Lib.hid (fun (w' : World) (h : Below w20.heap.size w20 w') => NB.out.below' h)
       refine wpAnyS_takeL 0 (v := v6) rfl (by kernel_rfl) (by kernel_rfl) (by kernel_rfl) (fun _ _ _ H => H) (yieldsIf_move rfl _ rfl (v6) rfl) hS ?_
       simp only [AP]
       refine wpAnyS_takeL 1 (v := .pointer (some ⟨W.heap.size, 0, none⟩)) rfl (by kernel_rfl) (by kernel_rfl) (by kernel_rfl) (fun _ _ _ H => H) (Or.inl ⟨by rfl, fun w' hw' => by (go_simp)⟩) hS ?_
       simp only [AP]
       refine wpAnyS_takeL 2 (v := .agg (Iv .u8 (NI K))) rfl (by kernel_rfl) (by kernel_rfl) (by kernel_rfl) (fun _ _ _ H => H) (show YieldsIf _ _ _ _ (.agg (Iv .u8 (NI K))) _ from yieldsIf_load_mid (S := fun w' => Below w20.heap.size w20 w') rfl 27 _ rfl W.heap.size 0 rfl ((NI K).map (Value.int .u8)) _ RK.out Tryd.underlying27 rfl (by rw [info_ab]; simp [NI, LN.out.1.1])) hS ?_
       simp only [AP]
       refine wpAnyS_takeL 3 (v := .agg (Iv .u8 (NI (nonceN N pn)))) rfl (by kernel_rfl) (by kernel_rfl) (by kernel_rfl) (fun _ _ _ H => H) (show YieldsIf _ _ _ _ (.agg (Iv .u8 (NI (nonceN N pn)))) _ from yieldsIf_row_wanted (S := fun w' => Below w20.heap.size w20 w') rfl 28 _ rfl gn rfl 28 _ _ RN.out Tryd.underlying28 rfl (by rw [info_a12, Iv_size, NI_length, nonceN_length])) hS ?_
       simp only [AP]
       refine wpAnyS_takeL 4 (v := .slice (some ⟨g, 0, none⟩) ee cx) rfl (by kernel_rfl) (by kernel_rfl) (by kernel_rfl) (fun _ _ _ H => H) (yieldsIf_move rfl _ rfl (.slice (some ⟨g, 0, none⟩) ee cx) rfl) hS ?_
       simp only [AP]
       refine wpAnyS_takeL 5 (v := .int .i64 (a : Int)) rfl (by kernel_rfl) (by kernel_rfl) (by kernel_rfl) (fun _ _ _ H => H) (yieldsIf_move rfl _ rfl (.int .i64 (a : Int)) rfl) hS ?_
       simp only [AP]
       refine wpAnyS_takeL 6 (v := .int .i64 (j : Int)) rfl (by kernel_rfl) (by kernel_rfl) (by kernel_rfl) (fun _ _ _ H => H) (yieldsIf_move rfl _ rfl (.int .i64 (j : Int)) rfl) hS ?_
       simp only [AP]
       refine wpAnyS_takeL 7 (v := .int .i64 (i : Int)) rfl (by kernel_rfl) (by kernel_rfl) (by kernel_rfl) (fun _ _ _ H => H) (Or.inl ⟨by rfl, fun w' hw' => by go_simp⟩) hS ?_
       simp only [AP]
       refine wpAnyS_takeL 8 (v := .slice (some ⟨g, 0, none⟩) i cx) rfl (by kernel_rfl) (by kernel_rfl) (by kernel_rfl) (fun _ _ _ H => H) (yieldsIf_head rfl _ _ rfl (some ⟨g, 0, none⟩) ee cx i rfl rfl n6.1) hS ?_
       simp only [AP]
       refine wpAnyS_takeL 9 (v := .slice (some ⟨g, i, none⟩) lC (cx - i)) rfl (by kernel_rfl) (by kernel_rfl) (by kernel_rfl) (fun _ _ _ H => H) (yieldsIf_move rfl _ rfl (.slice (some ⟨g, i, none⟩) lC (cx - i)) rfl) hS ?_
       simp only [AP]
       refine wpAnyS_takeL 10 (v := .slice (some ⟨g, i, none⟩) lC (cx - i)) rfl (by kernel_rfl) (by kernel_rfl) (by kernel_rfl) (fun _ _ _ H => H) (yieldsIf_move rfl _ rfl (.slice (some ⟨g, i, none⟩) lC (cx - i)) rfl) hS ?_
       simp only [AP]
       refine wpAnyS_takeL 11 (v := .int .i64 (lC : Int)) rfl (by kernel_rfl) (by kernel_rfl) (by kernel_rfl) (fun _ _ _ H => H) (Or.inl ⟨by rfl, fun w' hw' => by go_simp⟩) hS ?_
       simp only [AP]
       refine wpAnyS_takeL 12 (v := .int .i64 (lp : Int)) rfl (by kernel_rfl) (by kernel_rfl) (by kernel_rfl) (fun _ _ _ H => H) (Or.inl ⟨by rfl, fun w' hw' => by go_simp⟩) hS ?_
       simp only [AP]
       refine wpAnyS_takeL 13 (v := .slice (some ⟨g, i, none⟩) lp (cx - i)) rfl (by kernel_rfl) (by kernel_rfl) (by kernel_rfl) (fun _ _ _ H => H) (yieldsIf_head rfl _ _ rfl (some ⟨g, i, none⟩) lC (cx - i) lp rfl rfl n6.2) hS ?_
       simp only [AP]
       refine wpAnyS_takeL 15 (v := .slice (some ⟨g, i, none⟩) lC (cx - i)) rfl (by kernel_rfl) (by kernel_rfl) (by kernel_rfl) (fun _ _ _ H => H) (yieldsIf_move rfl _ rfl (.slice (some ⟨g, i, none⟩) lC (cx - i)) rfl) hS ?_
       simp only [AP]
       refine wpAnyS_takeL 16 (v := .int .i64 (lC : Int)) rfl (by kernel_rfl) (by kernel_rfl) (by kernel_rfl) (fun _ _ _ H => H) (Or.inl ⟨by rfl, fun w' hw' => by go_simp⟩) hS ?_
       simp only [AP]
       refine wpAnyS_takeL 17 (v := .int .i64 (lp : Int)) rfl (by kernel_rfl) (by kernel_rfl) (by kernel_rfl) (fun _ _ _ H => H) (Or.inl ⟨by rfl, fun w' hw' => by go_simp⟩) hS ?_
       simp only [AP]
       clear hS RK RN n6
       refine gstep 14 rfl rfl (by kernel_rfl) ?_
       unfold Oper.wp execOp
       go_simp
       refine (S1.out w20 v6 _ _ _ _ P3.out.bx.sb (SLC.out w20 O3.out).1 ((SLC.out w20 O3.out).2.head lp (by have := IC.out; omega))).mono ?_
       rintro _ w21 ⟨v21, rfl, O21, b21⟩
       refine ⟨b21, ?_⟩
       replace P3 := Lib.hid (P3.out.step b21)
       replace O3 := Lib.hid (O3.out.below b21)
       replace NB := Lib.hid (NB.out.below' b21)
       have hS := b21
       obtain ⟨p21, c21, hv21⟩ := O21.shape
       rw [SLT.out] at hv21
       subst hv21
       have s21 := O21.sb
       have l21 := s21.len.2
       rw [SLT.out] at l21
       have SPL := s21.head lp (by omega)
       rw [HPL.out] at SPL
       replace SPL := Lib.hid SPL
       clear S1 O21 s21
       refine wpAnyS_takeL 18 (v := .slice p21 lp c21) rfl (by kernel_rfl) (by kernel_rfl) (by kernel_rfl) (fun _ _ _ H => H) (yieldsIf_head rfl _ _ rfl p21 (lp + 16) c21 lp rfl rfl (by omega)) hS ?_
       simp only [AP]
       refine wpAnyS_takeL 19 (v := .slice p21 lp c21) rfl (by kernel_rfl) (by kernel_rfl) (by kernel_rfl) (fun _ _ _ H => H) (yieldsIf_assign rfl _ rfl (.slice p21 lp c21) rfl) hS ?_
       simp only [AP]
       refine wpAnyS_done (by kernel_rfl) ?_ _
       refine (by assumption : ∀ (a : Act) (w : World), _ → _) _ _ ?_
       clear aK hS b21 l21
       have bd := below_drew (Below.refl w21.heap.size w21)
       replace P3 := Lib.hid (P3.out.step bd)
       replace O3 := Lib.hid (O3.out.below bd)
       replace NB := Lib.hid (NB.out.below' bd)
       replace SPL := Lib.hid (SPL.out.below bd)
       clear bd
       have icx : i ≤ cx := by have := IC.out; omega
       go_upto_region 27 with fail
       rename_i aK
       refine wp_region_S (S := fun w' => Below w21.drew.heap.size w21.drew w') (by kernel_rfl) ?_
       generalize w21.drew = w22 at *
       have hS := Below.refl w22.heap.size w22
       have RK := Lib.hid (fun (w' : World) (h : Below w22.heap.size w22 w') => ky_key (show Blk w' W.heap.size 30 (Iv .u8 (NI (K ++ (N ++ Mk)))) by rw [HK.out]; exact P3.out.ky.below' h))
       have RN := Lib.hid (fun (w' : World) (h : Below w22.heap.size w22 w') => NB.out.below' h)
       have RC := Lib.hid (fun (w' : World) (h : Below w22.heap.size w22 w') => (SLC.out w22 O3.out).2.below h)
       refine wpAnyS_takeL 0 (v := v6) rfl (by kernel_rfl) (by kernel_rfl) (by kernel_rfl) (fun _ _ _ H => H) (yieldsIf_move rfl _ rfl (v6) rfl) hS ?_
       simp only [AP]
       refine wpAnyS_takeL 1 (v := .pointer (some ⟨W.heap.size, 0, none⟩)) rfl (by kernel_rfl) (by kernel_rfl) (by kernel_rfl) (fun _ _ _ H => H) (Or.inl ⟨by rfl, fun w' hw' => by (go_simp)⟩) hS ?_
       simp only [AP]
       refine wpAnyS_takeL 2 (v := .agg (Iv .u8 (NI K))) rfl (by kernel_rfl) (by kernel_rfl) (by kernel_rfl) (fun _ _ _ H => H) (show YieldsIf _ _ _ _ (.agg (Iv .u8 (NI K))) _ from yieldsIf_load_mid (S := fun w' => Below w22.heap.size w22 w') rfl 27 _ rfl W.heap.size 0 rfl ((NI K).map (Value.int .u8)) _ RK.out Tryd.underlying27 rfl (by rw [info_ab]; simp [NI, LN.out.1.1])) hS ?_
       simp only [AP]
       refine wpAnyS_takeL 3 (v := .agg (Iv .u8 (NI (nonceN N pn)))) rfl (by kernel_rfl) (by kernel_rfl) (by kernel_rfl) (fun _ _ _ H => H) (show YieldsIf _ _ _ _ (.agg (Iv .u8 (NI (nonceN N pn)))) _ from yieldsIf_row_wanted (S := fun w' => Below w22.heap.size w22 w') rfl 28 _ rfl gn rfl 28 _ _ RN.out Tryd.underlying28 rfl (by rw [info_a12, Iv_size, NI_length, nonceN_length])) hS ?_
       simp only [AP]
       refine wpAnyS_takeL 4 (v := .slice (some ⟨g, 0, none⟩) ee cx) rfl (by kernel_rfl) (by kernel_rfl) (by kernel_rfl) (fun _ _ _ H => H) (yieldsIf_move rfl _ rfl (.slice (some ⟨g, 0, none⟩) ee cx) rfl) hS ?_
       simp only [AP]
       refine wpAnyS_takeL 5 (v := .int .i64 (a : Int)) rfl (by kernel_rfl) (by kernel_rfl) (by kernel_rfl) (fun _ _ _ H => H) (yieldsIf_move rfl _ rfl (.int .i64 (a : Int)) rfl) hS ?_
       simp only [AP]
       refine wpAnyS_takeL 6 (v := .int .i64 (j : Int)) rfl (by kernel_rfl) (by kernel_rfl) (by kernel_rfl) (fun _ _ _ H => H) (yieldsIf_move rfl _ rfl (.int .i64 (j : Int)) rfl) hS ?_
       simp only [AP]
       refine wpAnyS_takeL 7 (v := .int .i64 (i : Int)) rfl (by kernel_rfl) (by kernel_rfl) (by kernel_rfl) (fun _ _ _ H => H) (Or.inl ⟨by rfl, fun w' hw' => by go_simp⟩) hS ?_
       simp only [AP]
       refine wpAnyS_takeL 8 (v := .slice (some ⟨g, 0, none⟩) i cx) rfl (by kernel_rfl) (by kernel_rfl) (by kernel_rfl) (fun _ _ _ H => H) (yieldsIf_head rfl _ _ rfl (some ⟨g, 0, none⟩) ee cx i rfl rfl icx) hS ?_
       simp only [AP]
       refine wpAnyS_takeL 9 (v := .slice p21 lp c21) rfl (by kernel_rfl) (by kernel_rfl) (by kernel_rfl) (fun _ _ _ H => H) (yieldsIf_move rfl _ rfl (.slice p21 lp c21) rfl) hS ?_
       simp only [AP]
       refine wpAnyS_takeL 12 (v := .slice (some ⟨g, i, none⟩) lC (cx - i)) rfl (by kernel_rfl) (by kernel_rfl) (by kernel_rfl) (fun _ _ _ H => H) (yieldsIf_move rfl _ rfl (.slice (some ⟨g, i, none⟩) lC (cx - i)) rfl) hS ?_
       simp only [AP]
       refine wpAnyS_takeL 13 (v := .string (strB C)) rfl (by kernel_rfl) (by kernel_rfl) (by kernel_rfl) (fun _ _ _ H => H) (yieldsIf_conv (S := fun w' => Below w22.heap.size w22 w') rfl _ rfl (.slice (some ⟨g, i, none⟩) lC (cx - i)) rfl C RC.out) hS ?_
       simp only [AP]
       clear hS RK RN RC fi fp icx
       refine gstep 10 rfl rfl (by kernel_rfl) ?_
       unfold Oper.wp execOp
       go_simp
       refine (S2.out w22 v6 _ _ _ _ P3.out.bx.sb (SLC.out w22 O3.out).1 SPL.out).mono ?_
       rintro _ w23 ⟨v23, rfl, O23, b23⟩
       refine ⟨b23, ?_⟩
       replace P3 := Lib.hid (P3.out.step b23)
       replace O3 := Lib.hid (O3.out.below b23)
       replace SPL := Lib.hid (SPL.out.below b23)
       have hS := b23
       have RV := Lib.hid (fun (w' : World) (h : Below w22.heap.size w22 w' ∧ w' = w23) => h.2 ▸ O23.sb)
       clear S2 NB
       by_cases same : sealL K (nonceN N pn) ah PL = C
       ·
        have OE := OB.out.trans (if_pos same)
        replace same := Lib.hid same
        refine gstep 11 rfl rfl (by kernel_rfl) (wp_conv _ _ rfl rfl v23 rfl (sealL K (nonceN N pn) ah PL) O23.sb ⟨hS, ?_⟩)
        simp only [AP]
        refine wpAnyS_takeL 14 (v := .bool false) rfl (by kernel_rfl) (by kernel_rfl) (by kernel_rfl) (fun _ _ _ H => H) (yieldsIf_strN rfl _ _ rfl _ _ rfl rfl same.out) hS ?_
        simp only [AP]
        refine wpAnyS_done (by kernel_rfl) ?_ _
        refine (by assumption : ∀ (a : Act) (w : World), _ → _) _ _ ?_
        clear aK hS b23 RV
        have c0 := (O3.out.at_cell 0 (by rw [FC.out.1]; exact lee)).1
        rw [FC.out.2.1] at c0
        have fr := FRR.out
        have GE := OG2.out
        rw [OE] at GE
        by_cases z : f &&& rest ≠ 0
        ·
         have e : G = (5, 0, []) := GE.trans (if_pos z)
         subst e
         go_upto_region 29 with fail
         rename_i aK
         refine wp_region_seq ?_
         refine smv (.slice (some ⟨g, 0, none⟩) ee cx) rfl rfl rfl ?_
         simp only [AP]
         refine svl (.pointer (some ⟨g, 0, none⟩)) (.inl ⟨by rfl, fun w' _ => by (go_simp; try omega)⟩) ?_
         simp only [AP]
         refine wpSeq_yield (S := fun w' => w' = w23) (v := .int .u8 (f : Int)) (Or.inl ⟨by rfl, fun w' hw' => by (rw [hw']; go_simp)⟩) rfl ?_
         simp only [AP]
         refine smv (.int .u8 (rest : Int)) rfl rfl rfl ?_
         simp only [AP]
         refine svl (.int .u8 ((f &&& rest : Nat) : Int)) (.inl ⟨by rfl, fun w' _ => by go_simp⟩) ?_
         simp only [AP]
         refine svl (.bool true) (.inl ⟨by rfl, fun w' _ => by (go_simp; try omega)⟩) ?_
         simp only [AP]
         refine wpSeq_nil ?_
         refine (by assumption : ∀ (a : Act) (w : World), _ → _) _ _ ?_
         go_upto_region 30 with fail
         rename_i aK
         refine wp_region_seq ?_
         refine sas (.int .u64 0) rfl rfl rfl ?_
         simp only [AP]
         refine sas (.slice none 0 0) rfl rfl rfl ?_
         simp only [AP]
         refine sas (.int .i64 5) rfl rfl rfl ?_
         simp only [AP]
         refine wpSeq_nil ?_
         refine (by assumption : ∀ (a : Act) (w : World), _ → _) _ _ ?_
         go_wp2
         refine bodyPost_ret (results_tmp3 rfl _ _ _) rfl ?_
         exact ⟨.slice none 0 0, rfl, SB.nil _ _ _, P3.out.bel⟩
        ·
         have e : G = (0, pn, PL) := GE.trans (if_neg z)
         subst e
         go_upto_region 29 with fail
         rename_i aK
         refine wp_region_seq ?_
         refine smv (.slice (some ⟨g, 0, none⟩) ee cx) rfl rfl rfl ?_
         simp only [AP]
         refine svl (.pointer (some ⟨g, 0, none⟩)) (.inl ⟨by rfl, fun w' _ => by (go_simp; try omega)⟩) ?_
         simp only [AP]
         refine wpSeq_yield (S := fun w' => w' = w23) (v := .int .u8 (f : Int)) (Or.inl ⟨by rfl, fun w' hw' => by (rw [hw']; go_simp)⟩) rfl ?_
         simp only [AP]
         refine smv (.int .u8 (rest : Int)) rfl rfl rfl ?_
         simp only [AP]
         refine svl (.int .u8 ((f &&& rest : Nat) : Int)) (.inl ⟨by rfl, fun w' _ => by go_simp⟩) ?_
         simp only [AP]
         refine svl (.bool false) (.inl ⟨by rfl, fun w' _ => by (go_simp; try omega)⟩) ?_
         simp only [AP]
         refine wpSeq_nil ?_
         refine (by assumption : ∀ (a : Act) (w : World), _ → _) _ _ ?_
         go_upto_region 31 with fail
         rename_i aK
         refine wp_region_seq ?_
         refine smv (.int .u64 (pn : Int)) rfl rfl rfl ?_
         simp only [AP]
         refine smv (.slice p21 lp c21) rfl rfl rfl ?_
         simp only [AP]
         refine sas (.int .u64 (pn : Int)) rfl rfl rfl ?_
         simp only [AP]
         refine sas (.slice p21 lp c21) rfl rfl rfl ?_
         simp only [AP]
         refine sas (.int .i64 0) rfl rfl rfl ?_
         simp only [AP]
         refine wpSeq_nil ?_
         refine (by assumption : ∀ (a : Act) (w : World), _ → _) _ _ ?_
         go_wp2
         refine bodyPost_ret (results_tmp3 rfl _ _ _) rfl ?_
         exact ⟨_, rfl, SPL.out, P3.out.bel⟩
       ·
        have OE := OB.out.trans (if_neg same)
        have e : G = (11, 0, []) := by
         have GE := OG2.out
         rw [OE] at GE
         exact GE
        subst e
        refine gstep 11 rfl rfl (by kernel_rfl) (wp_conv _ _ rfl rfl v23 rfl (sealL K (nonceN N pn) ah PL) O23.sb ⟨hS, ?_⟩)
        simp only [AP]
        refine wpAnyS_takeL 14 (v := .bool true) rfl (by kernel_rfl) (by kernel_rfl) (by kernel_rfl) (fun _ _ _ H => H) (strN_ne rfl _ _ rfl _ _ rfl rfl (strB_ne BS2.out FC.out.2.2.2.1 same)) hS ?_
        simp only [AP]
        refine wpAnyS_done (by kernel_rfl) ?_ _
        refine (by assumption : ∀ (a : Act) (w : World), _ → _) _ _ ?_
        clear aK hS b23 RV
        go_upto_region 28 with fail
        rename_i aK
        refine wp_region_seq ?_
        refine sas (.int .u64 0) rfl rfl rfl ?_
        simp only [AP]
        refine sas (.slice none 0 0) rfl rfl rfl ?_
        simp only [AP]
        refine sas (.int .i64 11) rfl rfl rfl ?_
        simp only [AP]
        refine wpSeq_nil ?_
        refine (by assumption : ∀ (a : Act) (w : World), _ → _) _ _ ?_
        go_wp2
        refine bodyPost_ret (results_tmp3 rfl _ _ _) rfl ?_
        exact ⟨.slice none 0 0, rfl, SB.nil _ _ _, P3.out.bel⟩
      ·
       have jl : q < 8 := by omega
       obtain ⟨iq, hi⟩ : ∃ i, 11 - q = i := ⟨_, rfl⟩
       have f1 : IntKind.i64.wrap (11 - (q : Int)) = (iq : Int) := by rw [IntKind.wrap_i64]; omega
       have NS := nonK_succ N pn q jl
       have NA := nonK_at N pn q jl
       rw [hi] at NS NA
       obtain ⟨y, hy⟩ : ∃ y, N.getD iq 0 = y := ⟨_, rfl⟩
       rw [hy] at NS NA
       have y8 : y < 256 := by rw [← hy]; exact getD_bytes LN.out.2.2.1 iq
       obtain ⟨qv, hq⟩ : ∃ z, pn / 256 ^ q = z := ⟨_, rfl⟩
       rw [hq] at NS
       obtain ⟨r, hr⟩ : ∃ r, qv % 256 = r := ⟨_, rfl⟩
       rw [hr] at NS
       have ql : qv < 18446744073709551616 := by rw [← hq]; exact Nat.lt_of_le_of_lt (Nat.div_le_self _ _) pn64
       have QQ := Lib.hid (show (q = 0 ∧ pn = qv) ∨ (q = 1 ∧ pn / 256 = qv) ∨ (q = 2 ∧ pn / 65536 = qv) ∨ (q = 3 ∧ pn / 16777216 = qv) ∨ (q = 4 ∧ pn / 4294967296 = qv) ∨ (q = 5 ∧ pn / 1099511627776 = qv) ∨ (q = 6 ∧ pn / 281474976710656 = qv) ∨ (q = 7 ∧ pn / 72057594037927936 = qv) by
        have : q = 0 ∨ q = 1 ∨ q = 2 ∨ q = 3 ∨ q = 4 ∨ q = 5 ∨ q = 6 ∨ q = 7 := by omega
        rcases this with rfl | rfl | rfl | rfl | rfl | rfl | rfl | rfl
        · exact Or.inl ⟨rfl, by rw [← hq]; simp⟩
        · exact Or.inr (Or.inl ⟨rfl, hq⟩)
        · exact Or.inr (Or.inr (Or.inl ⟨rfl, hq⟩))
        · exact Or.inr (Or.inr (Or.inr (Or.inl ⟨rfl, hq⟩)))
        · exact Or.inr (Or.inr (Or.inr (Or.inr (Or.inl ⟨rfl, hq⟩))))
        · exact Or.inr (Or.inr (Or.inr (Or.inr (Or.inr (Or.inl ⟨rfl, hq⟩)))))
        · exact Or.inr (Or.inr (Or.inr (Or.inr (Or.inr (Or.inr (Or.inl ⟨rfl, hq⟩))))))
        · exact Or.inr (Or.inr (Or.inr (Or.inr (Or.inr (Or.inr (Or.inr ⟨rfl, hq⟩)))))))
       have f2 : IntKind.u8.wrap (qv : Int) = (r : Int) := by rw [IntKind.wrap_u8]; omega
       have f3 : Go.bits BinOp.xor IntKind.u8 (y : Int) (r : Int) = ((y ^^^ r : Nat) : Int) := xor_u8 y r y8 (by omega)
       have f4 : IntKind.i64.wrap ((q : Int) + 1) = ((q + 1 : Nat) : Int) := by rw [IntKind.wrap_i64]; omega
       have i12 : iq < 12 := by omega
       have NA0 := Lib.hid NA
       have bd := below_drew (Below.refl wr.heap.size wr)
       have NB2 := NB.below' bd
       have bq2 := bq.trans (bd.mono bq.size)
       clear bd hq hr hy NA NB bq qq
       go_upto_region 21 with fail
       rename_i aK
       refine wp_region_seq ?_
       refine svl (.bool true) (.inl ⟨by rfl, fun w' _ => by (go_simp; try omega)⟩) ?_
       simp only [AP]
       refine wpSeq_nil ?_
       refine (by assumption : ∀ (a : Act) (w : World), _ → _) _ _ ?_
       go_upto_region 22 with fail
       rename_i aK
       refine wp_region_seq ?_
       refine smv (.int .i64 (q : Int)) rfl rfl rfl ?_
       simp only [AP]
       refine sas (.int .i64 (q : Int)) rfl rfl rfl ?_
       simp only [AP]
       refine wpSeq_nil ?_
       refine (by assumption : ∀ (a : Act) (w : World), _ → _) _ _ ?_
       go_upto_region 23 with fail
       rename_i aK
       refine wp_region_Z (S := fun w' => Blk w' w16.heap.size 28 (Iv .u8 (NI (nonK N pn q)))) 11 (by kernel_rfl) ?_
       generalize World.drew wr = w8 at *
       refine wpAnyZ_takeL 0 (v := .int .i64 (q : Int)) rfl (by kernel_rfl) (by kernel_rfl) (by kernel_rfl) (by kernel_rfl) (by kernel_rfl) (fun _ _ _ H => H) (yieldsIf_move rfl _ rfl (.int .i64 (q : Int)) rfl) NB2 ?_
       simp only [AP]
       refine wpAnyZ_takeL 1 (v := .int .i64 (iq : Int)) rfl (by kernel_rfl) (by kernel_rfl) (by kernel_rfl) (by kernel_rfl) (by kernel_rfl) (fun _ _ _ H => H) (Or.inl ⟨by rfl, fun w' hw' => by go_simp⟩) NB2 ?_
       simp only [AP]
       refine wpAnyZ_takeL 2 (v := .pointer (some ⟨w16.heap.size, iq, none⟩)) rfl (by kernel_rfl) (by kernel_rfl) (by kernel_rfl) (by kernel_rfl) (by kernel_rfl) (fun _ _ _ H => H) (Or.inl ⟨by rfl, fun w' hw' => by (go_simp; try omega)⟩) NB2 ?_
       simp only [AP]
       refine wpAnyZ_takeL 3 (v := .int .u8 (y : Int)) rfl (by kernel_rfl) (by kernel_rfl) (by kernel_rfl) (by kernel_rfl) (by kernel_rfl) (fun _ _ _ H => H) (Or.inl ⟨by rfl, fun w' hw' => by (have cc := cell_list hw' iq y (by rw [nonK_length]; exact i12) NA0.out; go_simp)⟩) NB2 ?_
       simp only [AP]
       refine wpAnyZ_takeL 4 (v := .int .u64 (pn : Int)) rfl (by kernel_rfl) (by kernel_rfl) (by kernel_rfl) (by kernel_rfl) (by kernel_rfl) (fun _ _ _ H => H) (yieldsIf_move rfl _ rfl (.int .u64 (pn : Int)) rfl) NB2 ?_
       simp only [AP]
       refine wpAnyZ_takeL 5 (v := .int .i64 (q : Int)) rfl (by kernel_rfl) (by kernel_rfl) (by kernel_rfl) (by kernel_rfl) (by kernel_rfl) (fun _ _ _ H => H) (yieldsIf_move rfl _ rfl (.int .i64 (q : Int)) rfl) NB2 ?_
       simp only [AP]
       refine wpAnyZ_takeL 6 (v := .int .i64 ((8 * q : Nat) : Int)) rfl (by kernel_rfl) (by kernel_rfl) (by kernel_rfl) (by kernel_rfl) (by kernel_rfl) (fun _ _ _ H => H) (Or.inl ⟨by rfl, fun w' hw' => by (rcases QQ.out with ⟨rfl, rfl⟩ | ⟨rfl, rfl⟩ | ⟨rfl, rfl⟩ | ⟨rfl, rfl⟩ | ⟨rfl, rfl⟩ | ⟨rfl, rfl⟩ | ⟨rfl, rfl⟩ | ⟨rfl, rfl⟩ <;> go_simp <;> try (first | omega | decide))⟩) NB2 ?_
       simp only [AP]
       refine wpAnyZ_takeL 7 (v := .int .u64 (qv : Int)) rfl (by kernel_rfl) (by kernel_rfl) (by kernel_rfl) (by kernel_rfl) (by kernel_rfl) (fun _ _ _ H => H) (Or.inl ⟨by rfl, fun w' hw' => by (rcases QQ.out with ⟨rfl, rfl⟩ | ⟨rfl, rfl⟩ | ⟨rfl, rfl⟩ | ⟨rfl, rfl⟩ | ⟨rfl, rfl⟩ | ⟨rfl, rfl⟩ | ⟨rfl, rfl⟩ | ⟨rfl, rfl⟩ <;> go_simp <;> try (first | omega | decide))⟩) NB2 ?_
       simp only [AP]
       refine wpAnyZ_takeL 8 (v := .int .u8 (r : Int)) rfl (by kernel_rfl) (by kernel_rfl) (by kernel_rfl) (by kernel_rfl) (by kernel_rfl) (fun _ _ _ H => H) (Or.inl ⟨by rfl, fun w' hw' => by go_simp⟩) NB2 ?_
       simp only [AP]
       refine wpAnyZ_takeL 9 (v := .int .u8 ((y ^^^ r : Nat) : Int)) rfl (by kernel_rfl) (by kernel_rfl) (by kernel_rfl) (by kernel_rfl) (by kernel_rfl) (fun _ _ _ H => H) (Or.inl ⟨by rfl, fun w' hw' => by go_simp⟩) NB2 ?_
       simp only [AP]
       refine wpAnyZ_takeL 10 (v := .pointer (some ⟨w16.heap.size, iq, none⟩)) rfl (by kernel_rfl) (by kernel_rfl) (by kernel_rfl) (by kernel_rfl) (by kernel_rfl) (fun _ _ _ H => H) (Or.inl ⟨by rfl, fun w' hw' => by (go_simp; try omega)⟩) NB2 ?_
       simp only [AP]
       have c0 := cell_list NB2 iq y (by rw [nonK_length]; exact i12) NA0.out
       have z0 := NB2.frozen iq
       refine hzstep 11 rfl (by kernel_rfl) rfl ?_
       unfold Oper.wp execOp
       go_simp
       refine wpAnyZ_done (by kernel_rfl) ?_ _
       refine (by assumption : ∀ (a : Act) (w : World), _ → _) _ _ ?_
       have NB3 : Blk (w8.setCell ⟨w16.heap.size, iq, none⟩ (.int .u8 ((y ^^^ r : Nat) : Int))) w16.heap.size 28 (Iv .u8 (NI (nonK N pn (q + 1)))) := by
        rw [NS, ← Iv_put]
        exact NB2.set iq _
       have bq3 := bq2.setCell (p := ⟨w16.heap.size, iq, none⟩) (Nat.le_refl w16.heap.size) (.int .u8 ((y ^^^ r : Nat) : Int))
       clear f1 f2 f3 QQ c0 z0 NB2 bq2 NS NA0 y8 i12 aK ql
       generalize World.setCell w8 _ _ = w9 at *
       go_upto_region 24 with fail
       rename_i aK
       refine wp_region_seq ?_
       refine svl (.int .i64 ((q + 1 : Nat) : Int)) (.inl ⟨by rfl, fun w' _ => by go_simp⟩) ?_
       simp only [AP]
       refine smv (.int .i64 ((q + 1 : Nat) : Int)) rfl rfl rfl ?_
       simp only [AP]
       refine wpSeq_nil ?_
       go_wp2
       exact ⟨⟨q + 1, by omega, rfl, NB3, bq3⟩, by simp only [intOf]; omega⟩
    ·
     have jl : j < n := by omega
     obtain ⟨i, hi⟩ : ∃ i, a + j = i := ⟨_, rfl⟩
     obtain ⟨i2, hi2⟩ : ∃ i2, 1 + j = i2 := ⟨_, rfl⟩
     have aj : a + j < Y.length := by have := LC.out; have := N14.out; rw [LY.out]; omega
     have HS := hidN_succ M a j bits Y LC.out.2.2.2.1 aj
     have HA := hidN_at M a j bits Y LC.out.2.2.2.1 aj
     have gd := GD.out j jl
     rw [hi] at HS HA aj gd
     rw [hi2] at HS gd
     obtain ⟨xq, hxq⟩ : ∃ x0, Y.getD i 0 = x0 := ⟨_, rfl⟩
     obtain ⟨mq, hmq⟩ : ∃ m0, M.getD i2 0 = m0 := ⟨_, rfl⟩
     rw [hxq] at HS HA gd
     rw [hmq] at HS gd
     have xq8 : xq < 256 := by rw [← hxq]; exact getD_bytes BY.out i
     have mq8 : mq < 256 := by rw [← hmq]; exact getD_bytes M8.out i2
     obtain ⟨y, hy⟩ : ∃ y, xq ^^^ mq = y := ⟨_, rfl⟩
     rw [hy] at HS gd
     have y8 : y < 256 := by rw [← hy]; exact Nat.xor_lt_two_pow (n := 8) xq8 mq8
     obtain ⟨t, ht⟩ : ∃ t, beN 0 (D.take j) = t := ⟨_, rfl⟩
     have t3 : t < 16777216 := by
      have h := beN_lt2 (D.take j) (LD.out.2.take j) 0
      rw [ht, List.length_take, Nat.min_eq_left (by rw [LD.out.1]; omega)] at h
      have : j = 0 ∨ j = 1 ∨ j = 2 ∨ j = 3 := by have := N14.out; omega
      rcases this with rfl | rfl | rfl | rfl <;> simp at h <;> omega
     have e2 : beN 0 (D.take (j + 1)) = t * 256 + y := by
      rw [List.take_add_one, List.getElem?_eq_getElem (by rw [LD.out.1]; exact jl), Option.toList_some, beN_snoc2, ht, ← gd, List.getD_eq_getElem?_getD, List.getElem?_eq_getElem (by rw [LD.out.1]; exact jl)]
      rfl
     replace e2 := Lib.hid e2
     rw [ht]
     have f1 : IntKind.i64.wrap ((a : Int) + (j : Int)) = (i : Int) := by rw [IntKind.wrap_i64]; have := LC.out; have := N14.out; omega
     have f2 : IntKind.i64.wrap (1 + (j : Int)) = (i2 : Int) := by rw [IntKind.wrap_i64]; have := N14.out; omega
     have f3 : Go.bits BinOp.xor IntKind.u8 (xq : Int) (mq : Int) = (y : Int) := by rw [xor_u8 _ _ xq8 mq8, hy]
     have f4 : IntKind.i64.wrap ((j : Int) + 1) = ((j + 1 : Nat) : Int) := by rw [IntKind.wrap_i64]; have := N14.out; omega
     have f5 := Lib.hid f4
     have g1 := or_byte t y (by omega) y8
     have g2 : IntKind.u64.wrap (y : Int) = (y : Int) := by rw [IntKind.wrap_u64]; omega
     have il : i < ee := by rw [← LY.out]; exact aj
     have il2 : i2 < 16 := by have := N14.out; omega
     have bd := below_drew (Below.refl wr.heap.size wr)
     have P2 := P3.step bd
     have O2 := O3.below bd
     have MB2 := MB3.below' bd
     clear bd P3 O3 MB3 hxq jj ht gd hy t3
     have cx0 := (O2.at_cell i (by rw [hidN_length]; exact aj)).1
     have fx0 := (O2.at_cell i (by rw [hidN_length]; exact aj)).2
     rw [HA] at cx0
     have cm0 := cell_list MB2 i2 mq (by rw [M16.out]; exact il2) hmq
     clear f4 HA hmq aj hi hi2 xq8 mq8 y8
     go_upto_region 13 with fail
     rename_i aK
     refine wp_region_seq ?_
     refine svl (.bool true) (.inl ⟨by rfl, fun w' _ => by (go_simp; try omega)⟩) ?_
     simp only [AP]
     refine wpSeq_nil ?_
     refine (by assumption : ∀ (a : Act) (w : World), _ → _) _ _ ?_
     go_upto_region 14 with fail
     rename_i aK
     refine wp_region_seq ?_
     refine smv (.int .i64 (j : Int)) rfl rfl rfl ?_
     simp only [AP]
     refine sas (.int .i64 (j : Int)) rfl rfl rfl ?_
     simp only [AP]
     refine wpSeq_nil ?_
     refine (by assumption : ∀ (a : Act) (w : World), _ → _) _ _ ?_
     go_upto_region 15 with fail
     rename_i aK
     refine wp_region_Z (S := fun w' => w'.cell? ⟨g, i, none⟩ = some (.int .u8 (xq : Int)) ∧ w'.cell? ⟨gm, i2, none⟩ = some (.int .u8 (mq : Int))) 12 (by kernel_rfl) ?_
     generalize World.drew wr = w14 at *
     have hS := And.intro cx0 cm0
     refine wpAnyZ_takeL 0 (v := .slice (some ⟨g, 0, none⟩) ee cx) rfl (by kernel_rfl) (by kernel_rfl) (by kernel_rfl) (by kernel_rfl) (by kernel_rfl) (fun _ _ _ H => H) (yieldsIf_move rfl _ rfl (.slice (some ⟨g, 0, none⟩) ee cx) rfl) hS ?_
     simp only [AP]
     refine wpAnyZ_takeL 1 (v := .int .i64 (a : Int)) rfl (by kernel_rfl) (by kernel_rfl) (by kernel_rfl) (by kernel_rfl) (by kernel_rfl) (fun _ _ _ H => H) (yieldsIf_move rfl _ rfl (.int .i64 (a : Int)) rfl) hS ?_
     simp only [AP]
     refine wpAnyZ_takeL 2 (v := .int .i64 (j : Int)) rfl (by kernel_rfl) (by kernel_rfl) (by kernel_rfl) (by kernel_rfl) (by kernel_rfl) (fun _ _ _ H => H) (yieldsIf_move rfl _ rfl (.int .i64 (j : Int)) rfl) hS ?_
     simp only [AP]
     refine wpAnyZ_takeL 3 (v := .int .i64 (i : Int)) rfl (by kernel_rfl) (by kernel_rfl) (by kernel_rfl) (by kernel_rfl) (by kernel_rfl) (fun _ _ _ H => H) (Or.inl ⟨by rfl, fun w' hw' => by go_simp⟩) hS ?_
     simp only [AP]
     refine wpAnyZ_takeL 4 (v := .pointer (some ⟨g, i, none⟩)) rfl (by kernel_rfl) (by kernel_rfl) (by kernel_rfl) (by kernel_rfl) (by kernel_rfl) (fun _ _ _ H => H) (Or.inl ⟨by rfl, fun w' hw' => by (go_simp; try omega)⟩) hS ?_
     simp only [AP]
     refine wpAnyZ_takeL 5 (v := .int .u8 (xq : Int)) rfl (by kernel_rfl) (by kernel_rfl) (by kernel_rfl) (by kernel_rfl) (by kernel_rfl) (fun _ _ _ H => H) (Or.inl ⟨by rfl, fun w' hw' => by (have cc := hw'.1; go_simp)⟩) hS ?_
     simp only [AP]
     refine wpAnyZ_takeL 6 (v := .int .i64 (j : Int)) rfl (by kernel_rfl) (by kernel_rfl) (by kernel_rfl) (by kernel_rfl) (by kernel_rfl) (fun _ _ _ H => H) (yieldsIf_move rfl _ rfl (.int .i64 (j : Int)) rfl) hS ?_
     simp only [AP]
     refine wpAnyZ_takeL 7 (v := .int .i64 (i2 : Int)) rfl (by kernel_rfl) (by kernel_rfl) (by kernel_rfl) (by kernel_rfl) (by kernel_rfl) (fun _ _ _ H => H) (Or.inl ⟨by rfl, fun w' hw' => by go_simp⟩) hS ?_
     simp only [AP]
     refine wpAnyZ_takeL 8 (v := .pointer (some ⟨gm, i2, none⟩)) rfl (by kernel_rfl) (by kernel_rfl) (by kernel_rfl) (by kernel_rfl) (by kernel_rfl) (fun _ _ _ H => H) (Or.inl ⟨by rfl, fun w' hw' => by (go_simp; try omega)⟩) hS ?_
     simp only [AP]
     refine wpAnyZ_takeL 9 (v := .int .u8 (mq : Int)) rfl (by kernel_rfl) (by kernel_rfl) (by kernel_rfl) (by kernel_rfl) (by kernel_rfl) (fun _ _ _ H => H) (Or.inl ⟨by rfl, fun w' hw' => by (have cc := hw'.2; go_simp)⟩) hS ?_
     simp only [AP]
     refine wpAnyZ_takeL 10 (v := .int .u8 (y : Int)) rfl (by kernel_rfl) (by kernel_rfl) (by kernel_rfl) (by kernel_rfl) (by kernel_rfl) (fun _ _ _ H => H) (Or.inl ⟨by rfl, fun w' hw' => by go_simp⟩) hS ?_
     simp only [AP]
     refine wpAnyZ_takeL 11 (v := .pointer (some ⟨g, i, none⟩)) rfl (by kernel_rfl) (by kernel_rfl) (by kernel_rfl) (by kernel_rfl) (by kernel_rfl) (fun _ _ _ H => H) (Or.inl ⟨by rfl, fun w' hw' => by (go_simp; try omega)⟩) hS ?_
     simp only [AP]
     refine hzstep 12 rfl (by kernel_rfl) rfl ?_
     unfold Oper.wp execOp
     go_simp
     refine wpAnyZ_done (by kernel_rfl) ?_ _
     refine (by assumption : ∀ (a : Act) (w : World), _ → _) _ _ ?_
     have O3 := O2.put i y
     rw [← HS] at O3
     have P3 := P2.grow (Nat.le_refl g) (gb_cell1 w14 g i (.int .u8 (y : Int)))
     have MB3 := MB2.far (p := ⟨g, i, none⟩) NG.out (.int .u8 (y : Int))
     have c9 : (w14.setCell ⟨g, i, none⟩ (.int .u8 (y : Int))).cell? ⟨g, i, none⟩ = some (.int .u8 (y : Int)) := by
      have h := (O3.at_cell i (by rw [hidN_length, LY.out]; exact il)).1
      rw [HS, getD_put _ _ _ _ (by rw [hidN_length, LY.out]; exact il), if_pos rfl] at h
      exact h
     clear O2 P2 MB2 HS f2 f3 cx0 fx0 cm0 hS il2 aK
     generalize World.setCell w14 _ _ = w15 at *
     go_upto_region 16 with fail
     rename_i aK
     refine wp_region_seq ?_
     refine smv (.int .u64 (t : Int)) rfl rfl rfl ?_
     simp only [AP]
     refine svl (.int .u64 (IntKind.u64.wrap ((t : Int) * 256))) (.inl ⟨by rfl, fun w' _ => by go_simp⟩) ?_
     simp only [AP]
     refine smv (.slice (some ⟨g, 0, none⟩) ee cx) rfl rfl rfl ?_
     simp only [AP]
     refine smv (.int .i64 (a : Int)) rfl rfl rfl ?_
     simp only [AP]
     refine smv (.int .i64 (j : Int)) rfl rfl rfl ?_
     simp only [AP]
     refine svl (.int .i64 (i : Int)) (.inl ⟨by rfl, fun w' _ => by go_simp⟩) ?_
     simp only [AP]
     refine svl (.pointer (some ⟨g, i, none⟩)) (.inl ⟨by rfl, fun w' _ => by (go_simp; try omega)⟩) ?_
     simp only [AP]
     refine wpSeq_yield (S := fun w' => w' = w15) (v := .int .u8 (y : Int)) (Or.inl ⟨by rfl, fun w' hw' => by (rw [hw']; go_simp)⟩) rfl ?_
     simp only [AP]
     refine svl (.int .u64 (y : Int)) (.inl ⟨by rfl, fun w' _ => by go_simp⟩) ?_
     simp only [AP]
     refine svl (.int .u64 ((t * 256 + y : Nat) : Int)) (.inl ⟨by rfl, fun w' _ => by go_simp⟩) ?_
     simp only [AP]
     refine sas (.int .u64 ((t * 256 + y : Nat) : Int)) rfl rfl rfl ?_
     simp only [AP]
     refine wpSeq_nil ?_
     refine (by assumption : ∀ (a : Act) (w : World), _ → _) _ _ ?_
     have f4 := f5.out
     go_upto_region 17 with fail
     rename_i aK
     refine wp_region_seq ?_
     refine svl (.int .i64 ((j + 1 : Nat) : Int)) (.inl ⟨by rfl, fun w' _ => by go_simp⟩) ?_
     simp only [AP]
     refine smv (.int .i64 ((j + 1 : Nat) : Int)) rfl rfl rfl ?_
     simp only [AP]
     refine wpSeq_nil ?_
     clear f1 f5 g1 g2 c9 il
     go_wp2
     exact ⟨⟨j + 1, by omega, rfl, by rw [e2.out], O3, P3, MB3⟩, by simp only [intOf]; omega⟩
  clear aJ
  by_cases hc : x0 < 128
  ·
   skip
   refine wp_region_seq ?_
   refine smv (.slice (some ⟨g, 0, none⟩) ee cx) rfl rfl rfl ?_
   simp only [AP]
   refine svl (.pointer (some ⟨g, 0, none⟩)) (.inl ⟨by rfl, fun w' _ => by (go_simp; try omega)⟩) ?_
   simp only [AP]
   refine wpSeq_yield (S := fun w' => w' = w5) (v := .int .u8 (x0 : Int)) (Or.inl ⟨by rfl, fun w' hw' => by (rw [hw']; go_simp)⟩) rfl ?_
   simp only [AP]
   refine svl (.bool true) (.inl ⟨by rfl, fun w' _ => by (go_simp; try omega)⟩) ?_
   simp only [AP]
   refine wpSeq_nil ?_
   refine (by assumption : ∀ (a : Act) (w : World), _ → _) _ _ ?_
   go_upto_region 8 with fail
   rename_i aK
   refine wp_region_seq ?_
   refine sas (.int .u8 31) rfl rfl rfl ?_
   simp only [AP]
   refine sas (.int .u8 28) rfl rfl rfl ?_
   simp only [AP]
   refine wpSeq_nil ?_
   obtain ⟨sb, _, _, sr⟩ := SX.out
   rw [if_pos hc] at sr
   rw [show bitG0 x0 = 31 from if_pos hc] at sb
   subst sb
   subst sr
   go_wp2
   exact AK2 _ _ _ _
  ·
   skip
   refine wp_region_seq ?_
   refine smv (.slice (some ⟨g, 0, none⟩) ee cx) rfl rfl rfl ?_
   simp only [AP]
   refine svl (.pointer (some ⟨g, 0, none⟩)) (.inl ⟨by rfl, fun w' _ => by (go_simp; try omega)⟩) ?_
   simp only [AP]
   refine wpSeq_yield (S := fun w' => w' = w5) (v := .int .u8 (x0 : Int)) (Or.inl ⟨by rfl, fun w' hw' => by (rw [hw']; go_simp)⟩) rfl ?_
   simp only [AP]
   refine svl (.bool false) (.inl ⟨by rfl, fun w' _ => by (go_simp; try omega)⟩) ?_
   simp only [AP]
   refine wpSeq_nil ?_
   refine (by assumption : ∀ (a : Act) (w : World), _ → _) _ _ ?_
   obtain ⟨sb, _, _, sr⟩ := SX.out
   rw [if_neg hc] at sr
   rw [show bitG0 x0 = 15 from if_neg hc] at sb
   subst sb
   subst sr
   go_wp2
   exact AK2 _ _ _ _
 clear aK
 have f4 : IntKind.i64.wrap ((a : Int) + 4) = ((a + 4 : Nat) : Int) := by rw [IntKind.wrap_i64]; have := LC.out; omega
 have f20 : IntKind.i64.wrap ((a : Int) + 20) = ((a + 20 : Nat) : Int) := by rw [IntKind.wrap_i64]; have := LC.out; omega
 refine wp_region_S (S := fun w' => Below w4.drew.heap.size w4.drew w') (by kernel_rfl) ?_
 generalize w4.drew = w10 at *
 have hS := Below.refl w10.heap.size w10
 have l2 : a + 20 ≤ cx ∧ 20 ≤ cx := by have := LC.out; omega
 replace l2 := Lib.hid l2
 have RM := Lib.hid (fun (w' : World) (h : Below w10.heap.size w10 w') => ky_mask (show Blk w' W.heap.size 30 (Iv .u8 (NI (K ++ (N ++ Mk)))) by rw [HK.out]; exact QQ.out.ky.below' h) LN.out.1.1 LN.out.1.2.1)
 have RS := Lib.hid (fun (w' : World) (h : Below w10.heap.size w10 w') => smp_rng (show BA w' g 0 Y by
  obtain ⟨p0, c0, e0, _, h0 | ⟨g1, o1, e1, A⟩⟩ := (O7.out.below h).sb
  ·
   have h9 := LY.out
   rw [h0, List.length_nil] at h9
   have := LC.out
   omega
  ·
   simp only [Value.slice.injEq] at e0
   rw [← e0.1] at e1
   simp only [Option.some.injEq, Addr.mk.injEq, and_true] at e1
   obtain ⟨rfl, rfl⟩ := e1
   exact A) a (by rw [LY.out]; exact LC.out.1))
 have har : ∀ w', (Instr.arrayAt 26 (.slice (some ⟨g, a + 4, none⟩) 16 (cx - (a + 4)))).run Tryd.prog w' = .ok (.pointer (some ⟨g, a + 4, none⟩)) w' := fun w' => by simp [Instr.arrayAt, run_underlying Tryd.underlying26]
 refine wpAnyS_takeL 0 (v := v6) rfl (by kernel_rfl) (by kernel_rfl) (by kernel_rfl) (fun _ _ _ H => H) (yieldsIf_move rfl _ rfl (v6) rfl) hS ?_
 simp only [AP]
 refine wpAnyS_takeL 1 (v := .pointer (some ⟨W.heap.size, 28, none⟩)) rfl (by kernel_rfl) (by kernel_rfl) (by kernel_rfl) (fun _ _ _ H => H) (Or.inl ⟨by rfl, fun w' hw' => by (go_simp)⟩) hS ?_
 simp only [AP]
 refine wpAnyS_takeL 2 (v := .agg (Iv .u8 (NI Mk))) rfl (by kernel_rfl) (by kernel_rfl) (by kernel_rfl) (fun _ _ _ H => H) (show YieldsIf _ _ _ _ (.agg (Iv .u8 (NI Mk))) _ from yieldsIf_load_mid (S := fun w' => Below w10.heap.size w10 w') rfl 27 _ rfl W.heap.size 28 rfl ((NI Mk).map (Value.int .u8)) _ RM.out Tryd.underlying27 rfl (by rw [info_ab]; simp [NI, LN.out.1.2.2])) hS ?_
 simp only [AP]
 refine wpAnyS_takeL 3 (v := .slice (some ⟨g, 0, none⟩) ee cx) rfl (by kernel_rfl) (by kernel_rfl) (by kernel_rfl) (fun _ _ _ H => H) (yieldsIf_move rfl _ rfl (.slice (some ⟨g, 0, none⟩) ee cx) rfl) hS ?_
 simp only [AP]
 refine wpAnyS_takeL 4 (v := .int .i64 (a : Int)) rfl (by kernel_rfl) (by kernel_rfl) (by kernel_rfl) (fun _ _ _ H => H) (yieldsIf_move rfl _ rfl (.int .i64 (a : Int)) rfl) hS ?_
 simp only [AP]
 refine wpAnyS_takeL 5 (v := .int .i64 ((a + 4 : Nat) : Int)) rfl (by kernel_rfl) (by kernel_rfl) (by kernel_rfl) (fun _ _ _ H => H) (Or.inl ⟨by rfl, fun w' hw' => by go_simp⟩) hS ?_
 simp only [AP]
 refine wpAnyS_takeL 6 (v := .int .i64 (a : Int)) rfl (by kernel_rfl) (by kernel_rfl) (by kernel_rfl) (fun _ _ _ H => H) (yieldsIf_move rfl _ rfl (.int .i64 (a : Int)) rfl) hS ?_
 simp only [AP]
 refine wpAnyS_takeL 7 (v := .int .i64 ((a + 20 : Nat) : Int)) rfl (by kernel_rfl) (by kernel_rfl) (by kernel_rfl) (fun _ _ _ H => H) (Or.inl ⟨by rfl, fun w' hw' => by go_simp⟩) hS ?_
 simp only [AP]
 refine wpAnyS_takeL 8 (v := .slice (some ⟨g, a + 4, none⟩) 16 (cx - (a + 4))) rfl (by kernel_rfl) (by kernel_rfl) (by kernel_rfl) (fun _ _ _ H => H) (Or.inl ⟨by rfl, fun w' hw' => by (go_simp; have l3 := l2.out; rw [if_pos ⟨by omega, by omega⟩, if_pos ⟨by omega, by omega⟩, show ((a : Int) + 4).toNat = a + 4 by omega, show ((a : Int) + 20).toNat = a + 20 by omega, if_neg (by omega), show a + 20 - (a + 4) = 16 by omega])⟩) hS ?_
 simp only [AP]
 refine wpAnyS_takeL 9 (v := .pointer (some ⟨g, a + 4, none⟩)) rfl (by kernel_rfl) (by kernel_rfl) (by kernel_rfl) (fun _ _ _ H => H) (Or.inl ⟨by rfl, fun w' hw' => by (go_simp)⟩) hS ?_
 simp only [AP]
 refine wpAnyS_takeL 10 (v := .agg (Iv .u8 (NI (smpN a Y)))) rfl (by kernel_rfl) (by kernel_rfl) (by kernel_rfl) (fun _ _ _ H => H) (show YieldsIf _ _ _ _ (.agg (Iv .u8 (NI (smpN a Y)))) _ from yieldsIf_load_mid (S := fun w' => Below w10.heap.size w10 w') rfl 26 _ rfl g (a + 4) rfl ((NI (smpN a Y)).map (Value.int .u8)) _ RS.out Tryd.underlying26 rfl (by rw [info_n16, rs.out])) hS ?_
 simp only [AP]
 clear l2 f4 f20 hS har RM RS
 refine osteps 11 12 rfl rfl rfl rfl (by kernel_rfl) ?_ ?_
 ·
  unfold Oper.wp execOp
  go_simp
  refine (EC.out w10 v6 QQ.out.bx.sb).mono ?_
  rintro _ w11 ⟨rfl, b11⟩
  refine ⟨b11, ?_⟩
  refine gstep 12 rfl rfl (by kernel_rfl) ?_
  unfold Oper.wp execOp
  go_simp
  refine ⟨b11.alloc b11.size _, ?_⟩
  refine gstep 13 rfl rfl (by kernel_rfl) (wp_store_row 26 _ _ rfl w11.heap.size (Iv .u8 (NI M)) rfl rfl _ _ (Blk.new _ _ _) (by rw [info_n16, Iv_size, NI_length, M16.out]) (by rw [Iv_size, NI_length, M16.out]; rfl) (u8s_one _) ⟨below_setRow (b11.alloc b11.size _) b11.size _, ?_⟩)
  simp only [Act.put]
  refine wpAnyS_done (by kernel_rfl) ?_ _
  exact AK w11.heap.size _ b11.size (one_row w11 26 _ (Iv .u8 (NI M))).1 (b11.trans ((one_row w11 26 _ (Iv .u8 (NI M))).2.mono b11.size))
 ·
  unfold Oper.wp execOp
  go_simp
  generalize hZ : World.alloc w10 _ = w11
  obtain ⟨Z, hz, K11, b11⟩ : ∃ Z : Array Value, Z.size = 16 ∧ Blk w11 w10.heap.size 26 Z ∧ Below w10.heap.size w10 w11 := by
   rw [← hZ]
   exact ⟨_, rfl, Blk.new _ _ _, (Below.refl w10.heap.size w10).alloc (Nat.le_refl _) _⟩
  clear hZ
  refine ⟨b11, ?_⟩
  refine gstep 11 rfl rfl (by kernel_rfl) ?_
  unfold Oper.wp execOp
  go_simp
  refine (EC.out w11 v6 (QQ.out.step b11).bx.sb).mono ?_
  rintro _ w12 ⟨rfl, b12⟩
  have b13 := b11.trans (b12.mono b11.size)
  refine ⟨b13, ?_⟩
  have K12 := K11.below' b12
  refine gstep 13 rfl rfl (by kernel_rfl) (wp_store_row 26 _ _ rfl w10.heap.size (Iv .u8 (NI M)) rfl rfl _ _ K12 (by rw [info_n16, Iv_size, NI_length, M16.out]) (by rw [Iv_size, NI_length, M16.out]; exact hz) (u8s_one _) ⟨below_setRow b13 (Nat.le_refl _) _, ?_⟩)
  simp only [Act.put]
  refine wpAnyS_done (by kernel_rfl) ?_ _
  exact AK w10.heap.size _ (Nat.le_refl _) (K12.row _) (below_setRow b13 (Nat.le_refl _) _)
end Go.Proofs.YtpihgljdbpnehaaDoor
