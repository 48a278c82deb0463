/- The program's mask: a counter block encrypted; its contract. -/
import Derived.Test.YtpihgljdbpnehaaDoorWf
import Derived.Test.YtpihgljdbpnehaaDoorPj0Pk
namespace Go.Proofs.YtpihgljdbpnehaaDoor
open Go.RowKit
/-- A sealer's cells: its cipher, its nonce. -/
def sv (gc : Nat) (nn : List Nat) : Array Value := #[Value.iface 86 (.pointer (some ⟨gc, 0, none⟩))] ++ Iv .u8 (NI nn)
theorem sv_get {w : World} {g gc : Nat} {nn : List Nat} (h : Blk w g 91 (sv gc nn)) : BA w g 1 nn := by
  refine ⟨fun i hi => ?_, h.lt⟩
  rw [Blk.cell h]
  unfold sv
  rw [Array.getElem?_append_right (by simp), show 1 + i - (#[Value.iface 86 (.pointer (some ⟨gc, 0, none⟩))] : Array Value).size = i by simp, NI_get _ _ hi]
theorem sv_zero {w : World} {g gc : Nat} {nn : List Nat} (h : Blk w g 91 (sv gc nn)) : w.cell? ⟨g, 0, none⟩ = some (Value.iface 86 (.pointer (some ⟨gc, 0, none⟩))) := by
  rw [Blk.cell h]
  unfold sv
  rw [Array.getElem?_append_left (by simp)]
  rfl
theorem info_sv (gc : Nat) (nn : List Nat) (l : nn.length = 12) : (Tryd.prog.info? 91).map (·.size) = some (sv gc nn).size := by
  unfold sv
  rw [Array.size_append, Iv_size, NI_length, l]
  kernel_rfl
theorem sv_one (gc : Nat) (nn : List Nat) : (sv gc nn).all (·.oneCell') = true := by
  unfold sv
  rw [Array.all_append, Iv_one]
  simp [Value.oneCell']
theorem wp_copy_own {P : Program} {w : World} {o : Oper} {a : Act} {K : Act → World → Prop} {Q : Exit → Act → World → Prop} (d s : Operand) (dT sT : TypeId)
    (ho : o.op = .call { callee := .builtin .copy, args := #[d, s], argTypes := #[dT, sT] }) (elem : TypeId) (hu : P.underlying dT = some (.slice elem)) (hsz : (P.info? elem).map (·.size) = some 1)
    (g off dLen dCap : Nat) (ad : Addr) (sLen sCap : Nat) (hd : a.eval d = .slice (some ⟨g, off, none⟩) dLen dCap) (hs : a.eval s = .slice (some ad) sLen sCap)
    (cur : Array Value) (t : TypeId) (hg : w.heap[g]? = some (.cells cur t (0, 0))) (cs : List Value) (hn : cs.length = Nat.min sLen dLen)
    (hsrc : ∀ j v, cs[j]? = some v → w.cell? (ad.add j) = some v) (hfit : off + cs.length ≤ cur.size) (h1 : ∀ v ∈ cs, v.oneCell' = true)
    (h : K (a.put o.dst (goInt cs.length)) (w.setRow g (cur.toList.take off ++ cs ++ cur.toList.drop (off + cs.length)).toArray)) : o.wp P a w K Q := by
  have hrun := run_copy_row (P := P) w dT sT o.type elem g off dLen dCap ad sLen sCap cur t cs hu hsz hg hn hsrc hfit h1
  unfold Oper.wp
  simp only [execOp, ho, resolve, invoke, builtin, Sem.run_bind, Sem.run_pure, Result.andThen_ok, List.map_toArray, List.map_cons, List.map_nil, hd, hs, hrun]
  exact h
/-- What stands in mask. -/
structure KMM (w0 : World) (gc : Nat) (k nn : List Nat) (y : Nat → Nat) (w : World) : Prop where
  c : CI w gc (KM boxL k 11) boxL
  s : Blk w w0.heap.size 91 (sv gc nn)
  r : BB w (w0.heap.size + 1) (fun _ => 0)
  b : BB w (w0.heap.size + 1 + 1) y
  bel : Below w0.heap.size w0 w
  far : gc < w0.heap.size
section
variable {w0 w w1 : World} {gc : Nat} {k nn : List Nat} {y : Nat → Nat}
theorem KMM.below (H : KMM w0 gc k nn y w) (c : Below w.heap.size w w1) : KMM w0 gc k nn y w1 := ⟨H.c.below c, Blk.below' H.s c, Blk.below' H.r c, Blk.below' H.b c, H.bel.trans (c.mono H.bel.size), H.far⟩
theorem KMM.drew (H : KMM w0 gc k nn y w) : KMM w0 gc k nn y w.drew := ⟨H.c.of_block rfl, H.s.drew, H.r.of_block rfl, H.b.of_block rfl, below_drew H.bel, H.far⟩
theorem KMM.rowB (H : KMM w0 gc k nn y w) (z : Nat → Nat) : KMM w0 gc k nn z (w.setRow (w0.heap.size + 1 + 1) (Iv .u8 (NI (LB z)))) :=
  have := H.far
  ⟨Blk.rowFar H.c (by omega) _, Blk.rowFar H.s (by omega) _, Blk.rowFar H.r (by omega) _, Blk.row H.b _, below_setRow H.bel (by omega) _, H.far⟩
theorem KMM.setB (H : KMM w0 gc k nn y w) (j : Nat) (z : Nat → Nat) (ho : ∀ i, i ≠ j → z i = y i) : KMM w0 gc k nn z (w.setCell ⟨w0.heap.size + 1 + 1, j, none⟩ (.int .u8 ((z j : Nat) : Int))) :=
  have := H.far
  ⟨H.c.far (by omega) _, Blk.far (p := ⟨w0.heap.size + 1 + 1, j, none⟩) H.s (by dsimp only; omega) _, H.r.far (by omega) _, H.b.set j z ho, H.bel.setCell (p := ⟨w0.heap.size + 1 + 1, j, none⟩) (by dsimp only; omega) _, H.far⟩
end
theorem copy12 (nn : List Nat) (l : nn.length = 12) (n : Nat) : ((Iv .u8 (NI (LB fun _ => 0))).toList.take 0 ++ nn.map (fun x => Value.int .u8 ((x : Nat) : Int)) ++ (Iv .u8 (NI (LB fun _ => 0))).toList.drop (0 + (nn.map fun x => Value.int .u8 ((x : Nat) : Int)).length)).toArray = Iv .u8 (NI (LB (MX (counterF (nF nn) n) (fun _ => 0) 12))) := by
  have e : Iv .u8 (NI (LB (MX (counterF (nF nn) n) (fun _ => 0) 12))) = ((Iv .u8 (NI (LB (MX (counterF (nF nn) n) (fun _ => 0) 12)))).toList).toArray := by simp
  rw [e]
  congr 1
  apply List.ext_getElem
  · simp [Iv_size, NI_length, LB_length, l]
  · intro i h1 h2
    have hi : i < 16 := by simpa [Iv_size, NI_length, LB_length] using h2
    simp only [List.take_zero, List.nil_append]
    by_cases h : i < 12
    · rw [List.getElem_append_left (by simp; omega)]
      simp [Iv, NI, LB, MX, counterF, nF, h, l]
    · rw [List.getElem_append_right (by simp; omega)]
      simp [Iv, NI, LB, MX, h]
theorem shr_counter (f : Nat → Nat) (n : Nat) (hn : n < 65536) (k : Nat) (h12 : 12 ≤ k) (h16 : k < 16) : (n : Int) / 2 ^ (8 * (15 - k)) % 256 = ((counterF f n k : Nat) : Int) := by
  have : k = 12 ∨ k = 13 ∨ k = 14 ∨ k = 15 := by omega
  unfold counterF
  rcases this with rfl | rfl | rfl | rfl
  · rw [if_neg (by decide), if_neg (by decide), if_neg (by decide)]
    show (n : Int) / 16777216 % 256 = _
    omega
  · rw [if_neg (by decide), if_neg (by decide), if_neg (by decide)]
    show (n : Int) / 65536 % 256 = _
    omega
  · rw [if_neg (by decide), if_pos rfl]
    show (n : Int) / 256 % 256 = _
    omega
  · rw [if_neg (by decide), if_neg (by decide), if_pos rfl]
    show (n : Int) / 1 % 256 = _
    omega
set_option maxHeartbeats 4000000 in
set_option maxRecDepth 100000 in
theorem mask_w (gc : Nat) (k nn : List Nat) (lk : k.length = 16) (ln : nn.length = 12) (bk : ∀ x ∈ k, x < 256) (bn : ∀ x ∈ nn, x < 256) (n : Nat) (hn : n < 65536) (w : World) (hC : CI w gc (KM boxL k 11) boxL) :
    Calls Tryd.prog 66 #[.agg (sv gc nn), .int .u32 (n : Int)] w fun e w' => e = .returned (.agg (Iv .u8 (NI (ecL k nn n)))) ∧ Below w.heap.size w w' := by
  have CE := Lib.hid (fun W h => ciph_any gc k (LB (counterF (nF nn) n)) lk bk (LB_length _) (LB_bytes fun i _ => counterF_lt (fun t => getD_lt bn t) hn i) W h)
  have hsh := fun i h1 h2 => shr_counter (nF nn) n hn i h1 h2
  have hcp := copy12 nn ln n
  have cF := fun i => counterF_lt (f := nF nn) (fun t => getD_lt bn t) hn i
  have lE := ecL_length k nn n
  rw [show encL boxL k (LB (counterF (nF nn) n)) = ecL k nn n from rfl] at CE
  generalize ecL k nn n = E at *
  generalize counterF (nF nn) n = cf at *
  go_enter Tryd.func66, Tryd.ntmps66
  go_upto_region 2 with fail
  rename_i aK
  generalize hW : World.alloc (World.alloc (World.alloc w _) _) _ = W
  have B0 : Below w.heap.size w W := hW ▸ (((Below.refl w.heap.size w).alloc (Nat.le_refl _) _).alloc (by simp) _).alloc (by simp; omega) _
  have hM : KMM w gc k nn (fun _ => 0) W := ⟨hC.below B0, hW ▸ ((Blk.new w _ (sv gc nn)).alloc _).alloc _, hW ▸ (Blk.new' (by simp) _ (Iv .u8 (NI (LB fun _ => 0)))).alloc _, hW ▸ Blk.new' (by simp) _ (Iv .u8 (NI (LB fun _ => 0))), B0, hC.lt⟩
  clear hW B0 hC
  refine wp_region_S (S := fun _ => True) (by kernel_rfl) ?_
  replace hM := hM.drew
  generalize W.drew = V at hM ⊢
  have hS : True := trivial
  refine wpAnyS_takeL 0 (v := .slice (some ⟨w.heap.size + 1 + 1, 0, none⟩) 16 16) rfl (by kernel_rfl) (by kernel_rfl) (by kernel_rfl) (fun _ _ _ H => H) (Or.inl ⟨by rfl, ?_⟩) hS ?_
  · intro w' hw'
    go_simp
  simp only [Act.put, List.setIfInBounds_toArray, List.set_cons_zero, List.set_cons_succ]
  refine wpAnyS_takeL 1 (v := .pointer (some ⟨w.heap.size, 1, none⟩)) rfl (by kernel_rfl) (by kernel_rfl) (by kernel_rfl) (fun _ _ _ H => H) (Or.inl ⟨by rfl, ?_⟩) hS ?_
  · intro w' hw'
    go_simp
  simp only [Act.put, List.setIfInBounds_toArray, List.set_cons_zero, List.set_cons_succ]
  refine wpAnyS_takeL 2 (v := .slice (some ⟨w.heap.size, 1, none⟩) 12 12) rfl (by kernel_rfl) (by kernel_rfl) (by kernel_rfl) (fun _ _ _ H => H) (Or.inl ⟨by rfl, ?_⟩) hS ?_
  · intro w' hw'
    go_simp
  simp only [Act.put, List.setIfInBounds_toArray, List.set_cons_zero, List.set_cons_succ]
  refine sstep 3 rfl rfl (by kernel_rfl) ?_
  refine wp_copy_own _ _ _ _ rfl 5 Tryd.underlying24 (by kernel_rfl) (w.heap.size + 1 + 1) 0 16 16 ⟨w.heap.size, 1, none⟩ 12 12 rfl rfl (Iv .u8 (NI (LB fun _ => 0))) 27 hM.b (nn.map fun x => Value.int .u8 ((x : Nat) : Int)) (by rw [List.length_map, ln]; rfl) (cells_at (sv_get hM.s)) (by rw [List.length_map, ln, Iv_size, NI_length, LB_length]; omega) (one_at _) ?_
  rw [hcp, List.length_map, ln]
  replace hM := hM.rowB (MX cf (fun _ => 0) 12)
  generalize World.setRow _ _ _ = U at *
  refine ⟨trivial, ?_⟩
  simp only [Act.put, List.setIfInBounds_toArray, List.set_cons_zero, List.set_cons_succ]
  refine wpAnyS_takeL 4 rfl (by kernel_rfl) (by kernel_rfl) (by kernel_rfl) (fun _ _ _ H => H) (yieldsIf_assign rfl _ rfl (.int .i64 12) rfl) trivial ?_
  simp only [Act.put, List.setIfInBounds_toArray, List.set_cons_zero, List.set_cons_succ]
  refine wpAnyS_done (by kernel_rfl) ?_ _
  refine aK _ _ ?_
  clear aK hS hcp
  go_upto_region 3 with fail
  go_loopw [6] (fun i wr => ∃ j : Nat, 12 ≤ j ∧ j ≤ 16 ∧ i = .int .i64 (j : Int) ∧ KMM w gc k nn (MX cf (fun _ => 0) j) wr) (fun i _ => (16 - intOf i).toNat)
  case atStart => exact ⟨12, by omega, by omega, rfl, hM⟩
  case round =>
    clear hM
    obtain ⟨j, j12, j16, rfl, hM⟩ := hrel
    by_cases h16 : j = 16
    · subst h16
      have hB := hM.b.congr (f' := cf) fun i hi => if_pos hi
      have c0 := sv_zero hM.s
      have hm : ∀ w : World, (method 262 86 (.pointer (some ⟨gc, 0, none⟩)) "Encrypt").run Tryd.prog w = .ok (73, .pointer (some ⟨gc, 0, none⟩)) w := fun _ => by kernel_rfl
      clear hsh cF
      go_wp2_with (first | (refine wpList_load_row rfl 27 _ rfl (w.heap.size + 1 + 1) rfl 27 _ (0, 0) _ hB Tryd.underlying27 rfl (info_bl _) ?_) | fail)
      refine (CE.out _ hM.c).mono ?_
      rintro _ w2 ⟨rfl, b2⟩
      replace hM := hM.below b2
      clear b2 CE hB c0 hm
      go_wp2_with (refine wpList_store_row rfl 27 _ _ rfl (w.heap.size + 1) (Iv .u8 (NI E)) rfl rfl 27 _ hM.r (info_b _ lE) (by rw [Iv_size, Iv_size, NI_length, NI_length, LB_length, lE]) (Iv_one _ _) ?_)
      exact bodyPost_ret (results_cell_row rfl _ _ _ 27 _ (0, 0) _ rfl (Blk.row hM.r (Iv .u8 (NI E))) Tryd.underlying27 rfl (info_b _ lE)) rfl ⟨rfl, below_setRow hM.bel (by omega) _⟩
    · have j1 : (j : Int) < 16 := by omega
      have j0 : (0 : Int) ≤ (j : Int) := by omega
      have q1 := hsh j (by omega) (by omega)
      obtain ⟨r, hr⟩ : ∃ r, r = 15 - j := ⟨_, rfl⟩
      obtain ⟨s, hs⟩ : ∃ s, s = 8 * r := ⟨_, rfl⟩
      rw [← hr, ← hs] at q1
      have r1 : IntKind.i64.wrap (15 - (j : Int)) = (r : Int) := by rw [IntKind.wrap_i64]; omega
      have r2 : IntKind.i64.wrap (8 * (r : Int)) = (s : Int) := by rw [IntKind.wrap_i64]; omega
      have s0 : (0 : Int) ≤ (s : Int) := by omega
      have s1 : min s 32 = s := by omega
      have s2 : min s 64 = s := by omega
      have cb := hM.b.cell j (by omega)
      have fb := Blk.frozen hM.b j
      have hM' := hM.setB j (MX cf (fun _ => 0) (j + 1)) (MX_step _ _ j)
      rw [MX_new] at hM'
      clear hr hs hM hsh
      go_wp2
      exact ⟨⟨j + 1, by omega, by omega, rfl, hM'⟩, by simp only [intOf]; omega⟩
end Go.Proofs.YtpihgljdbpnehaaDoor
