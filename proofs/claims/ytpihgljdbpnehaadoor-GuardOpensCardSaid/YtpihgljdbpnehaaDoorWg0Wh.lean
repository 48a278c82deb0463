/- The program's mask: a counter block encrypted; its contract. The program's masked: bytes joined with the stream; its contract (printed by genwh.py). -/
import Derived.Test.YtpihgljdbpnehaaDoorWe0Wf
import Derived.Test.YtpihgljdbpnehaaDoorPj0Pk
import Derived.Maps.Range
namespace Go.Proofs.YtpihgljdbpnehaaDoor
open Go.RowKit
/-- A sealer's cells: its cipher, its nonce. -/
def sv (gc : Nat) (nn : List Nat) : Array Value := #[Value.iface 86 (.pointer (some ⟨gc, 0, none⟩))] ++ Iv .u8 (NI nn)
theorem sv_get {w : World} {g gc : Nat} {nn : List Nat} (h : Blk w g 91 (sv gc nn)) : BA w g 1 nn := by
 refine ⟨fun i hi => ?_, h.lt⟩
 rw [Blk.cell h]
 unfold sv
 rw [Array.getElem?_append_right (by simp), show 1 + i - (#[Value.iface 86 (.pointer (some ⟨gc, 0, none⟩))] : Array Value).size = i by simp, NI_get _ _ hi]
theorem sv_zero {w : World} {g gc : Nat} {nn : List Nat} (h : Blk w g 91 (sv gc nn)) : w.cell? ⟨g, 0, none⟩ = some (Value.iface 86 (.pointer (some ⟨gc, 0, none⟩))) := by
 rw [Blk.cell h]
 unfold sv
 rw [Array.getElem?_append_left (by simp)]
 rfl
theorem info_sv (gc : Nat) (nn : List Nat) (l : nn.length = 12) : (Tryd.prog.info? 91).map (·.size) = some (sv gc nn).size := by
 unfold sv
 rw [Array.size_append, Iv_size, NI_length, l]
 kernel_rfl
theorem sv_one (gc : Nat) (nn : List Nat) : (sv gc nn).all (·.oneCell') = true := by
 unfold sv
 rw [Array.all_append, Iv_one]
 simp [Value.oneCell']
theorem wp_copy_own {P : Program} {w : World} {o : Oper} {a : Act} {K : Act → World → Prop} {Q : Exit → Act → World → Prop} (d s : Operand) (dT sT : TypeId)
  (ho : o.op = .call { callee := .builtin .copy, args := #[d, s], argTypes := #[dT, sT] }) (elem : TypeId) (hu : P.underlying dT = some (.slice elem)) (hsz : (P.info? elem).map (·.size) = some 1)
  (g off dLen dCap : Nat) (ad : Addr) (sLen sCap : Nat) (hd : a.eval d = .slice (some ⟨g, off, none⟩) dLen dCap) (hs : a.eval s = .slice (some ad) sLen sCap)
  (cur : Array Value) (t : TypeId) (hg : w.heap[g]? = some (.cells cur t (0, 0))) (cs : List Value) (hn : cs.length = Nat.min sLen dLen)
  (hsrc : ∀ j v, cs[j]? = some v → w.cell? (ad.add j) = some v) (hfit : off + cs.length ≤ cur.size) (h1 : ∀ v ∈ cs, v.oneCell' = true)
  (h : K (a.put o.dst (goInt cs.length)) (w.setRow g (cur.toList.take off ++ cs ++ cur.toList.drop (off + cs.length)).toArray)) : o.wp P a w K Q := by
 have hrun := run_copy_row (P := P) w dT sT o.type elem g off dLen dCap ad sLen sCap cur t cs hu hsz hg hn hsrc hfit h1
 unfold Oper.wp
 simp only [execOp, ho, resolve, invoke, builtin, Sem.run_bind, Sem.run_pure, Result.andThen_ok, List.map_toArray, List.map_cons, List.map_nil, hd, hs, hrun]
 exact h
/-- What stands in mask. -/
structure KMM (w0 : World) (gc : Nat) (k nn : List Nat) (y : Nat → Nat) (w : World) : Prop where
 c : CI w gc (KM boxL k 11) boxL
 s : Blk w w0.heap.size 91 (sv gc nn)
 r : BB w (w0.heap.size + 1) (fun _ => 0)
 b : BB w (w0.heap.size + 1 + 1) y
 bel : Below w0.heap.size w0 w
 far : gc < w0.heap.size
section
variable {w0 w w1 : World} {gc : Nat} {k nn : List Nat} {y : Nat → Nat}
theorem KMM.below (H : KMM w0 gc k nn y w) (c : Below w.heap.size w w1) : KMM w0 gc k nn y w1 := ⟨H.c.below c, Blk.below' H.s c, Blk.below' H.r c, Blk.below' H.b c, H.bel.trans (c.mono H.bel.size), H.far⟩
theorem KMM.drew (H : KMM w0 gc k nn y w) : KMM w0 gc k nn y w.drew := ⟨H.c.of_block rfl, H.s.drew, H.r.of_block rfl, H.b.of_block rfl, below_drew H.bel, H.far⟩
theorem KMM.rowB (H : KMM w0 gc k nn y w) (z : Nat → Nat) : KMM w0 gc k nn z (w.setRow (w0.heap.size + 1 + 1) (Iv .u8 (NI (LB z)))) :=
 have := H.far
 ⟨Blk.rowFar H.c (by omega) _, Blk.rowFar H.s (by omega) _, Blk.rowFar H.r (by omega) _, Blk.row H.b _, below_setRow H.bel (by omega) _, H.far⟩
theorem KMM.setB (H : KMM w0 gc k nn y w) (j : Nat) (z : Nat → Nat) (ho : ∀ i, i ≠ j → z i = y i) : KMM w0 gc k nn z (w.setCell ⟨w0.heap.size + 1 + 1, j, none⟩ (.int .u8 ((z j : Nat) : Int))) :=
 have := H.far
 ⟨H.c.far (by omega) _, Blk.far (p := ⟨w0.heap.size + 1 + 1, j, none⟩) H.s (by dsimp only; omega) _, H.r.far (by omega) _, H.b.set j z ho, H.bel.setCell (p := ⟨w0.heap.size + 1 + 1, j, none⟩) (by dsimp only; omega) _, H.far⟩
end
theorem copy12 (nn : List Nat) (l : nn.length = 12) (n : Nat) : ((Iv .u8 (NI (LB fun _ => 0))).toList.take 0 ++ nn.map (fun x => Value.int .u8 ((x : Nat) : Int)) ++ (Iv .u8 (NI (LB fun _ => 0))).toList.drop (0 + (nn.map fun x => Value.int .u8 ((x : Nat) : Int)).length)).toArray = Iv .u8 (NI (LB (MX (counterF (nF nn) n) (fun _ => 0) 12))) := by
 have e : Iv .u8 (NI (LB (MX (counterF (nF nn) n) (fun _ => 0) 12))) = ((Iv .u8 (NI (LB (MX (counterF (nF nn) n) (fun _ => 0) 12)))).toList).toArray := by simp
 rw [e]
 congr 1
 apply List.ext_getElem
 · simp [Iv_size, NI_length, LB_length, l]
 ·
  intro i h1 h2
  have hi : i < 16 := by simpa [Iv_size, NI_length, LB_length] using h2
  simp only [List.take_zero, List.nil_append]
  by_cases h : i < 12
  ·
   rw [List.getElem_append_left (by simp; omega)]
   simp [Iv, NI, LB, MX, counterF, nF, h, l]
  ·
   rw [List.getElem_append_right (by simp; omega)]
   simp [Iv, NI, LB, MX, h]
theorem shr_counter (f : Nat → Nat) (n : Nat) (hn : n < 65536) (k : Nat) (h12 : 12 ≤ k) (h16 : k < 16) : (n : Int) / 2 ^ (8 * (15 - k)) % 256 = ((counterF f n k : Nat) : Int) := by
 have : k = 12 ∨ k = 13 ∨ k = 14 ∨ k = 15 := by omega
 unfold counterF
 rcases this with rfl | rfl | rfl | rfl
 ·
  rw [if_neg (by decide), if_neg (by decide), if_neg (by decide)]
  show (n : Int) / 16777216 % 256 = _
  omega
 ·
  rw [if_neg (by decide), if_neg (by decide), if_neg (by decide)]
  show (n : Int) / 65536 % 256 = _
  omega
 ·
  rw [if_neg (by decide), if_pos rfl]
  show (n : Int) / 256 % 256 = _
  omega
 ·
  rw [if_neg (by decide), if_neg (by decide), if_pos rfl]
  show (n : Int) / 1 % 256 = _
  omega
set_option maxHeartbeats 4000000 in
set_option maxRecDepth 100000 in
theorem mask_w (gc : Nat) (k nn : List Nat) (lk : k.length = 16) (ln : nn.length = 12) (bk : ∀ x ∈ k, x < 256) (bn : ∀ x ∈ nn, x < 256) (n : Nat) (hn : n < 65536) (w : World) (hC : CI w gc (KM boxL k 11) boxL) :
  Calls Tryd.prog 66 #[.agg (sv gc nn), .int .u32 (n : Int)] w fun e w' => e = .returned (.agg (Iv .u8 (NI (ecL k nn n)))) ∧ Below w.heap.size w w' := by
 have CE := Lib.hid (fun W h => ciph_any gc k (LB (counterF (nF nn) n)) lk bk (LB_length _) (LB_bytes fun i _ => counterF_lt (fun t => getD_lt bn t) hn i) W h)
 have hsh := fun i h1 h2 => shr_counter (nF nn) n hn i h1 h2
 have hcp := copy12 nn ln n
 have cF := fun i => counterF_lt (f := nF nn) (fun t => getD_lt bn t) hn i
 have lE := ecL_length k nn n
 rw [show encL boxL k (LB (counterF (nF nn) n)) = ecL k nn n from rfl] at CE
 generalize ecL k nn n = E at *
 generalize counterF (nF nn) n = cf at *
 go_enter Tryd.func66, Tryd.ntmps66
 go_upto_region 2 with fail
 rename_i aK
 generalize hW : World.alloc (World.alloc (World.alloc w _) _) _ = W
 have B0 : Below w.heap.size w W := hW ▸ (((Below.refl w.heap.size w).alloc (Nat.le_refl _) _).alloc (by simp) _).alloc (by simp; omega) _
 have hM : KMM w gc k nn (fun _ => 0) W := ⟨hC.below B0, hW ▸ ((Blk.new w _ (sv gc nn)).alloc _).alloc _, hW ▸ (Blk.new' (by simp) _ (Iv .u8 (NI (LB fun _ => 0)))).alloc _, hW ▸ Blk.new' (by simp) _ (Iv .u8 (NI (LB fun _ => 0))), B0, hC.lt⟩
 clear hW B0 hC
 refine wp_region_S (S := fun _ => True) (by kernel_rfl) ?_
 replace hM := hM.drew
 generalize W.drew = V at hM ⊢
 have hS : True := trivial
 refine wpAnyS_takeL 0 (v := .slice (some ⟨w.heap.size + 1 + 1, 0, none⟩) 16 16) rfl (by kernel_rfl) (by kernel_rfl) (by kernel_rfl) (fun _ _ _ H => H) (Or.inl ⟨by rfl, ?_⟩) hS ?_
 ·
  intro w' hw'
  go_simp
 simp only [Act.put, List.setIfInBounds_toArray, List.set_cons_zero, List.set_cons_succ]
 refine wpAnyS_takeL 1 (v := .pointer (some ⟨w.heap.size, 1, none⟩)) rfl (by kernel_rfl) (by kernel_rfl) (by kernel_rfl) (fun _ _ _ H => H) (Or.inl ⟨by rfl, ?_⟩) hS ?_
 ·
  intro w' hw'
  go_simp
 simp only [Act.put, List.setIfInBounds_toArray, List.set_cons_zero, List.set_cons_succ]
 refine wpAnyS_takeL 2 (v := .slice (some ⟨w.heap.size, 1, none⟩) 12 12) rfl (by kernel_rfl) (by kernel_rfl) (by kernel_rfl) (fun _ _ _ H => H) (Or.inl ⟨by rfl, ?_⟩) hS ?_
 ·
  intro w' hw'
  go_simp
 simp only [Act.put, List.setIfInBounds_toArray, List.set_cons_zero, List.set_cons_succ]
 refine sstep 3 rfl rfl (by kernel_rfl) ?_
 refine wp_copy_own _ _ _ _ rfl 5 Tryd.underlying24 (by kernel_rfl) (w.heap.size + 1 + 1) 0 16 16 ⟨w.heap.size, 1, none⟩ 12 12 rfl rfl (Iv .u8 (NI (LB fun _ => 0))) 27 hM.b (nn.map fun x => Value.int .u8 ((x : Nat) : Int)) (by rw [List.length_map, ln]; rfl) (cells_at (sv_get hM.s)) (by rw [List.length_map, ln, Iv_size, NI_length, LB_length]; omega) (one_at _) ?_
 rw [hcp, List.length_map, ln]
 replace hM := hM.rowB (MX cf (fun _ => 0) 12)
 generalize World.setRow _ _ _ = U at *
 refine ⟨trivial, ?_⟩
 simp only [Act.put, List.setIfInBounds_toArray, List.set_cons_zero, List.set_cons_succ]
 refine wpAnyS_takeL 4 rfl (by kernel_rfl) (by kernel_rfl) (by kernel_rfl) (fun _ _ _ H => H) (yieldsIf_assign rfl _ rfl (.int .i64 12) rfl) trivial ?_
 simp only [Act.put, List.setIfInBounds_toArray, List.set_cons_zero, List.set_cons_succ]
 refine wpAnyS_done (by kernel_rfl) ?_ _
 refine aK _ _ ?_
 clear aK hS hcp
 go_upto_region 3 with fail
 go_loopw [6] (fun i wr => ∃ j : Nat, 12 ≤ j ∧ j ≤ 16 ∧ i = .int .i64 (j : Int) ∧ KMM w gc k nn (MX cf (fun _ => 0) j) wr) (fun i _ => (16 - intOf i).toNat)
 case atStart => exact ⟨12, by omega, by omega, rfl, hM⟩
 case round =>
  clear hM
  obtain ⟨j, j12, j16, rfl, hM⟩ := hrel
  by_cases h16 : j = 16
  ·
   subst h16
   have hB := hM.b.congr (f' := cf) fun i hi => if_pos hi
   have c0 := sv_zero hM.s
   have hm : ∀ w : World, (method 262 86 (.pointer (some ⟨gc, 0, none⟩)) "Encrypt").run Tryd.prog w = .ok (73, .pointer (some ⟨gc, 0, none⟩)) w := fun _ => by kernel_rfl
   clear hsh cF
   go_wp2_with (first | (refine wpList_load_row rfl 27 _ rfl (w.heap.size + 1 + 1) rfl 27 _ (0, 0) _ hB Tryd.underlying27 rfl (info_bl _) ?_) | fail)
   refine (CE.out _ hM.c).mono ?_
   rintro _ w2 ⟨rfl, b2⟩
   replace hM := hM.below b2
   clear b2 CE hB c0 hm
   go_wp2_with (refine wpList_store_row rfl 27 _ _ rfl (w.heap.size + 1) (Iv .u8 (NI E)) rfl rfl 27 _ hM.r (info_b _ lE) (by rw [Iv_size, Iv_size, NI_length, NI_length, LB_length, lE]) (Iv_one _ _) ?_)
   exact bodyPost_ret (results_cell_row rfl _ _ _ 27 _ (0, 0) _ rfl (Blk.row hM.r (Iv .u8 (NI E))) Tryd.underlying27 rfl (info_b _ lE)) rfl ⟨rfl, below_setRow hM.bel (by omega) _⟩
  ·
   have j1 : (j : Int) < 16 := by omega
   have j0 : (0 : Int) ≤ (j : Int) := by omega
   have q1 := hsh j (by omega) (by omega)
   obtain ⟨r, hr⟩ : ∃ r, r = 15 - j := ⟨_, rfl⟩
   obtain ⟨s, hs⟩ : ∃ s, s = 8 * r := ⟨_, rfl⟩
   rw [← hr, ← hs] at q1
   have r1 : IntKind.i64.wrap (15 - (j : Int)) = (r : Int) := by rw [IntKind.wrap_i64]; omega
   have r2 : IntKind.i64.wrap (8 * (r : Int)) = (s : Int) := by rw [IntKind.wrap_i64]; omega
   have s0 : (0 : Int) ≤ (s : Int) := by omega
   have s1 : min s 32 = s := by omega
   have s2 : min s 64 = s := by omega
   have cb := hM.b.cell j (by omega)
   have fb := Blk.frozen hM.b j
   have hM' := hM.setB j (MX cf (fun _ => 0) (j + 1)) (MX_step _ _ j)
   rw [MX_new] at hM'
   clear hr hs hM hsh
   go_wp2
   exact ⟨⟨j + 1, by omega, by omega, rfl, hM'⟩, by simp only [intOf]; omega⟩
end Go.Proofs.YtpihgljdbpnehaaDoor
namespace Go.Proofs.YtpihgljdbpnehaaDoor
open Go.RowKit
theorem run_buildSlice_one (w : World) (x : Nat) : (Instr.buildSlice 24 1 #[(0, .int .u8 (x : Int))]).run Tryd.prog w = .ok (.slice (some ⟨w.heap.size, 0, none⟩) 1 1) (w.alloc (.cells #[.int .u8 (x : Int)] 5)) := by
 obtain ⟨i, hi, hs, _, hz⟩ := info_u8
 simp [Instr.buildSlice, run_underlying Tryd.underlying24, sizeOf, typeInfo, hi, hs, newRow, Instr.fill, Value.cells]
 refine congrArg (fun c => w.alloc (.cells c 5)) (Array.ext (by simp) (fun j h1 h2 => ?_))
 have : j = 0 := by
  simp at h2
  exact h2
 subst this
 simp
/-- Blocks that an append leaves alone. -/
theorem SB.kept {w w1 : World} {p : Option Addr} {n c : Nat} {l : List Nat} {row : Option Nat} (h : SB w (.slice p n c) l) (g : w.grownBy w1 row) (hn : l = [] ∨ ∀ a, p = some a → some a.block ≠ row) : SB w1 (.slice p n c) l := by
 obtain ⟨q, d, e, h2, h3⟩ := h
 simp only [Value.slice.injEq] at e
 obtain ⟨rfl, rfl, rfl⟩ := e
 refine ⟨p, c, rfl, h2, ?_⟩
 rcases h3 with h3 | ⟨b, o, rfl, hb⟩
 · exact Or.inl h3
 ·
  rcases hn with hn | hn
  · exact Or.inl hn
  · exact Or.inr ⟨b, o, rfl, hb.of_block (g.block b hb.blk (hn _ rfl))⟩
theorem Blk.kept {w w1 : World} {g : Nat} {t : TypeId} {cs : Array Value} {row : Option Nat} (h : Blk w g t cs) (k : w.grownBy w1 row) (hn : some g ≠ row) : Blk w1 g t cs := Eq.trans (k.block g h.lt hn) h
theorem wp_build_one {o : Oper} {a : Act} {w : World} {K : Act → World → Prop} {Q : Exit → Act → World → Prop} (x : Operand) (ho : o.op = .buildSlice 24 1 #[(0, x)]) (n : Nat) (hx : a.eval x = .int .u8 (n : Int))
  (h : K (a.put o.dst (.slice (some ⟨w.heap.size, 0, none⟩) 1 1)) (w.alloc (.cells #[.int .u8 (n : Int)] 5))) : o.wp Tryd.prog a w K Q := by
 unfold Oper.wp execOp
 simp only [ho, Sem.run_bind, List.map_toArray, List.map_cons, List.map_nil, hx, run_buildSlice_one, Result.andThen_ok, Sem.run_pure]
 exact h
/-- What stands in masked. -/
structure HMM (w : World) (B gc : Nat) (k nn : List Nat) (row : Option Nat) (v out : Value) (bl o : List Nat) (y : Nat → Nat) (wr : World) : Prop where
 c : CI wr gc (KM boxL k 11) boxL
 s : Blk wr w.heap.size 91 (sv gc nn)
 m : BB wr (w.heap.size + 1) y
 b : SB wr v bl
 o : OwL B wr out o
 gr : w.grownBy wr row
 own : out.ownBlock = row ∨ ∃ j, out.ownBlock = some j ∧ w.heap.size + 1 < j
section
variable {w wr w1 : World} {B gc : Nat} {k nn : List Nat} {row : Option Nat} {v out : Value} {bl o : List Nat} {y : Nat → Nat}
theorem HMM.below (H : HMM w B gc k nn row v out bl o y wr) (b : Below wr.heap.size wr w1) : HMM w B gc k nn row v out bl o y w1 :=
 ⟨H.c.below b, Blk.below' H.s b, Blk.below' H.m b, H.b.below b, H.o.below b, H.gr.andThen (row' := none) ⟨b.os, b.tape, b.output, b.size, fun i hi _ => b.block i hi⟩ (fun _ h => by cases h), H.own⟩
theorem HMM.lt (H : HMM w B gc k nn row v out bl o y wr) : w.heap.size + 1 < wr.heap.size := Blk.lt H.m
theorem HMM.setM (H : HMM w B gc k nn row v out bl o y wr) (hgc : gc < w.heap.size) (hr : ∀ j, row = some j → j < w.heap.size) (hv : bl = [] ∨ ∀ a n c, v = .slice (some a) n c → a.block < w.heap.size) (z : Nat → Nat) : HMM w B gc k nn row v out bl o z (wr.setRow (w.heap.size + 1) (Iv .u8 (NI (LB z)))) := by
 have gr : wr.grownBy (wr.setRow (w.heap.size + 1) (Iv .u8 (NI (LB z)))) (some (w.heap.size + 1)) := ⟨rfl, rfl, rfl, by simp [World.setRow], fun j _ hj => setRow_other wr _ j _ (fun e => hj (by rw [e]))⟩
 refine ⟨Blk.rowFar H.c (by omega) _, Blk.rowFar H.s (by omega) _, Blk.row H.m _, ?_, H.o.of_block fun j hj => gr.block j (H.o.lt j hj).2 ?_, H.gr.andThen gr (fun j e => Or.inl (by have := Option.some.inj e; omega)), H.own⟩
 ·
  obtain ⟨p, c, rfl, _⟩ := H.b
  exact SB.kept H.b gr (hv.imp id fun hv a e => by have := hv a _ _ (by rw [e]); intro h; have := Option.some.inj h; omega)
 ·
  intro e
  have e' := Option.some.inj e
  rcases H.own with h | ⟨q, h, hq⟩
  ·
   rw [hj] at h
   have := hr j h.symm
   omega
  ·
   rw [hj] at h
   have := Option.some.inj h
   omega
/-- A byte behind out. -/
theorem HMM.app (H : HMM w B gc k nn row v out bl o y wr) (hgc : gc < w.heap.size) (hrc : row ≠ some gc) (hB : B ≤ w.heap.size) (hr : ∀ j, row = some j → j < w.heap.size) (hv : bl = [] ∨ ∀ a n c, v = .slice (some a) n c → a.block < w.heap.size ∧ some a.block ≠ row) (ty : TypeId) (x : Nat) (lo : o.length ≤ 100000) :
  ∃ v' w', (Builtin.append_ #[24, 24] ty #[out, .slice (some ⟨wr.heap.size, 0, none⟩) 1 1]).run Tryd.prog (wr.alloc (.cells #[.int .u8 (x : Int)] 5)) = .ok v' w' ∧ HMM w B gc k nn row v v' bl (o ++ [x]) y w' := by
 have b1 := (Below.refl wr.heap.size wr).alloc (Nat.le_refl _) (.cells #[.int .u8 (x : Int)] 5)
 have lt := H.lt
 have hx : BA (wr.alloc (.cells #[.int .u8 (x : Int)] 5)) wr.heap.size 0 [x] := BA.of_blk (t := 5) (l := [x]) (Blk.new wr _ _)
 have H' := H.below b1
 obtain ⟨v', w', h1, h2, h3, h4⟩ := append_ba B _ ty out o [x] H'.o wr.heap.size 0 1 hx (by simp; omega) (by have := b1.size; omega)
 refine ⟨v', w', h1, ?_⟩
 have far : ∀ g, g < w.heap.size + 2 → some g ≠ row → some g ≠ out.ownBlock := fun g hg hgr e => by
  rcases H.own with h | ⟨q, h, hq⟩
  · exact hgr (e.trans h)
  ·
   rw [h] at e
   have := Option.some.inj e
   omega
 refine ⟨Blk.kept H'.c h3 (far gc (by omega) (fun e => hrc e.symm)), Blk.kept H'.s h3 (far _ (by omega) (fun e => by have := hr _ e.symm; omega)), Blk.kept H'.m h3 (far _ (by omega) (fun e => by have := hr _ e.symm; omega)), ?_, h2, H'.gr.andThen h3 (fun j e => ?_), ?_⟩
 ·
  obtain ⟨p, c, rfl, _⟩ := H.b
  exact SB.kept H'.b h3 (hv.imp id fun hv a e => by have := hv a _ _ (by rw [e]); exact far _ (by omega) this.2)
 ·
  rcases H.own with h | ⟨q, h, hq⟩
  · exact Or.inr (h.symm.trans e)
  ·
   rw [h] at e
   have := Option.some.inj e
   exact Or.inl (by omega)
 ·
  rcases h4 with h4 | h4
  ·
   rw [h4]
   exact H.own
  ·
   rw [h4]
   exact Or.inr ⟨_, rfl, by have := b1.size; omega⟩
end
theorem xorS_step (k nn bl : List Nat) (i : Nat) (h : i < bl.length) : (xorS k nn bl).take (i + 1) = (xorS k nn bl).take i ++ [bl.getD i 0 ^^^ strF k nn i] := by
 have l : i < (xorS k nn bl).length := by rw [xorS_length]; exact h
 rw [List.take_add_one, List.getElem?_eq_getElem l]
 have e := xorS_get k nn bl i h
 rw [List.getD_eq_getElem?_getD, List.getElem?_eq_getElem l] at e
 simp only [Option.getD_some] at e
 rw [e]
 rfl
set_option maxHeartbeats 4000000 in
set_option maxRecDepth 100000 in
theorem masked_w (B gc : Nat) (k nn bl o : List Nat) (lk : k.length = 16) (ln : nn.length = 12) (bk : ∀ x ∈ k, x < 256) (bn : ∀ x ∈ nn, x < 256) (bb : ∀ x ∈ bl, x < 256) (n : Nat) (hn : n ≤ 1000) (lo : o.length ≤ 1000) (out : Value) (po pb : Option Addr) (no co cb : Nat) (eo : out = .slice po no co) (w : World)
  (hC : CI w gc (KM boxL k 11) boxL) (hO : OwL B w out o) (hB : B ≤ w.heap.size) (hbs : SB w (.slice pb n cb) bl) (hgc : out.ownBlock ≠ some gc) (hbo : bl = [] ∨ ∀ a, pb = some a → a.block < w.heap.size ∧ some a.block ≠ out.ownBlock) :
  Calls Tryd.prog 47 #[.agg (sv gc nn), out, .slice pb n cb] w fun e w' => ∃ v', e = .returned v' ∧ OwL B w' v' (o ++ xorS k nn bl) ∧ w.grownBy w' out.ownBlock ∧ (v'.ownBlock = out.ownBlock ∨ ∃ j, v'.ownBlock = some j ∧ w.heap.size ≤ j) := by
 have ro : ∀ j, out.ownBlock = some j → j < w.heap.size := fun j h => (hO.lt j h).2
 have gcl := hC.lt
 have eln := hbs.len
 have EL := Lib.hid eln
 clear eln
 have hv : bl = [] ∨ ∀ a m c, (Value.slice pb n cb) = .slice (some a) m c → a.block < w.heap.size ∧ some a.block ≠ out.ownBlock := hbo.imp id fun hbo a m c e => by
  simp only [Value.slice.injEq] at e
  exact hbo a e.1
 generalize hrow : out.ownBlock = row at *
 have HR := Lib.hid hrow
 clear hrow
 have HHV := Lib.hid hv
 have HRO := Lib.hid ro
 have HGC := Lib.hid hgc
 clear hbo hv ro hgc
 have ES := Lib.hid (xorS_step k nn bl)
 subst eo
 go_enter Tryd.func47, Tryd.ntmps47
 go_upto_region 2 with fail
 generalize hW : World.alloc (World.alloc w _) _ = W
 have b0 : Below w.heap.size w W := hW ▸ ((Below.refl w.heap.size w).alloc (Nat.le_refl _) _).alloc (by simp) _
 have hM : HMM w B gc k nn row (.slice pb n cb) (.slice po no co) bl (o ++ (xorS k nn bl).take 0) (fun _ => 0) W := by
  rw [List.take_zero, List.append_nil]
  exact ⟨hC.below b0, hW ▸ (Blk.new w _ (sv gc nn)).alloc _, hW ▸ Blk.new' (by simp) _ (Iv .u8 (NI (LB fun _ => 0))), hbs.below b0, hO.below b0, ⟨b0.os, b0.tape, b0.output, b0.size, fun i hi _ => b0.block i hi⟩, Or.inl HR.out⟩
 clear hW b0 hC hO hbs
 go_upto_region 3 with fail
 go_loopw [1, 12] (fun v t wr => ∃ (i : Nat) (y : Nat → Nat), i ≤ n ∧ t = .int .i64 (i : Int) ∧ (i % 16 ≠ 0 → y = fun t => (ecL k nn (i / 16 + 2)).getD t 0) ∧ HMM w B gc k nn row (.slice pb n cb) v bl (o ++ (xorS k nn bl).take i) y wr) (fun _ t _ => (n - intOf t).toNat)
 case atStart => exact ⟨0, fun _ => 0, by omega, rfl, fun h => absurd rfl h, hM⟩
 case round =>
  clear hM
  obtain ⟨i, y, hi, rfl, hy, hM⟩ := hrel
  by_cases hin : i = n
  ·
   subst hin
   have hOx := hM.o
   rw [List.take_of_length_le (by rw [xorS_length, ← EL.out.1]; exact Nat.le_refl _)] at hOx
   have own := hM.own
   have gr := hM.gr
   clear hM hy ES HHV HRO HGC bb bn bk
   go_wp2
   go_ret
   exact ⟨_, rfl, hOx, gr, own.imp id (fun ⟨j, e, h⟩ => ⟨j, e, by omega⟩)⟩
  ·
   have i1 : (i : Int) < (n : Int) := by omega
   have i0 : (0 : Int) ≤ (i : Int) := by omega
   have il : i < bl.length := by rw [← EL.out.1]; omega
   obtain ⟨g2, o2, rfl, hA⟩ : ∃ g o, pb = some ⟨g, o, none⟩ ∧ BA wr g o bl := by
    rcases hM.b.at_ with h0 | h0
    · omega
    · exact h0
   obtain ⟨x, hx⟩ : ∃ x, x = bl.getD i 0 := ⟨_, rfl⟩
   have cx : wr.cell? ⟨g2, o2 + i, none⟩ = some (.int .u8 (x : Int)) := by
    rw [hA.cell i il, hx]
    simp [il]
   have lx : x < 256 := hx ▸ Bytes.getD bb i
   have es := ES.out i il
   rw [← hx] at es
   have m0 : ∃ q, q = i % 16 := ⟨_, rfl⟩
   obtain ⟨q, hq⟩ := m0
   have q0 : (i : Int).tmod 16 = (q : Int) := by rw [Int.tmod_eq_emod_of_nonneg (by omega)]; omega
   have q1 : (q : Int) < 16 := by omega
   have q2 : (0 : Int) ≤ (q : Int) := by omega
   obtain ⟨d, hd⟩ : ∃ d, d = i / 16 + 2 := ⟨_, rfl⟩
   have lS : strF k nn i < 256 := strF_lt bk bn (by omega)
   have eS : (ecL k nn d).getD q 0 = strF k nn i := by
    rw [hd, hq]
    rfl
   rw [← hq, ← hd] at hy
   have HD := Lib.hid hd
   have HQ := Lib.hid hq
   clear hx il hA
   by_cases h0 : q = 0
   ·
    subst h0
    have d1 : (i : Int).tdiv 16 = ((d - 2 : Nat) : Int) := by rw [Int.tdiv_eq_ediv_of_nonneg (by omega)]; omega
    have d2 : IntKind.i64.wrap (2 + ((d - 2 : Nat) : Int)) = (d : Int) := by rw [IntKind.wrap_i64]; omega
    have d3 : IntKind.i64.wrap ((d - 2 : Nat) : Int) = ((d - 2 : Nat) : Int) := by rw [IntKind.wrap_i64]; omega
    have d4 : IntKind.u32.wrap (d : Int) = (d : Int) := by rw [IntKind.wrap_u32]; omega
    have CM := Lib.hid (fun W h => mask_w gc k nn lk ln bk bn d (by omega) W h)
    generalize d - 2 = d0 at *
    clear hq hd hy
    rw [show ((0 : Nat) : Int) = 0 from rfl] at q0
    go_wp2_with (refine wpList_load_row rfl 91 _ rfl w.heap.size rfl 91 _ (0, 0) _ hM.s Tryd.underlying91 rfl (info_sv gc nn ln) ?_)
    refine (CM.out _ hM.c).mono ?_
    rintro _ w2 ⟨rfl, b2⟩
    replace hM := hM.below b2
    clear b2 CM cx d1 d2 d3 d4
    rw [NI_of _ (ecL_length k nn d)]
    go_upto_region 7 with (refine wpList_store_row rfl 27 _ _ rfl (w.heap.size + 1) (Iv .u8 (NI (LB fun t => (ecL k nn d).getD t 0))) rfl rfl 27 _ hM.m (info_bl _) (by rw [Iv_size, Iv_size, NI_length, NI_length, LB_length, LB_length]) (Iv_one _ _) ?_)
    rename_i aK
    replace hM := hM.setM gcl HRO.out (HHV.out.imp id fun hv a m c e => (hv a m c e).1) (fun t => (ecL k nn d).getD t 0)
    have cm := hM.m.cell 0 (by omega)
    rw [eS] at cm
    generalize strF k nn i = e at *
    have ex := u8_xor_nat x e lx lS
    generalize World.setRow _ _ _ = V at *

    refine wp_region_seq ?_
    refine wpSeq_yield (S := fun w' => w' = V) (yieldsIf_move rfl _ rfl u1 rfl) rfl ?_
    simp only [Act.put, List.setIfInBounds_toArray, List.set_cons_zero, List.set_cons_succ]
    refine wpSeq_yield (S := fun w' => w' = V) (yieldsIf_move rfl _ rfl (.int .u8 (x : Int)) rfl) rfl ?_
    simp only [Act.put, List.setIfInBounds_toArray, List.set_cons_zero, List.set_cons_succ]
    refine wpSeq_yield (S := fun w' => w' = V) (yieldsIf_move rfl _ rfl (.int .i64 (i : Int)) rfl) rfl ?_
    simp only [Act.put, List.setIfInBounds_toArray, List.set_cons_zero, List.set_cons_succ]
    refine wpSeq_yield (S := fun w' => w' = V) (v := .int .i64 0) (Or.inl ⟨by rfl, fun w' hw' => by go_simp⟩) rfl ?_
    simp only [Act.put, List.setIfInBounds_toArray, List.set_cons_zero, List.set_cons_succ]
    refine wpSeq_yield (S := fun w' => w' = V) (v := .pointer (some ⟨w.heap.size + 1, 0, none⟩)) (Or.inl ⟨by rfl, fun w' hw' => by go_simp⟩) rfl ?_
    simp only [Act.put, List.setIfInBounds_toArray, List.set_cons_zero, List.set_cons_succ]
    refine wpSeq_yield (S := fun w' => w' = V) (v := .int .u8 (e : Int)) (Or.inl ⟨by rfl, fun w' hw' => by rw [hw']; go_simp⟩) rfl ?_
    simp only [Act.put, List.setIfInBounds_toArray, List.set_cons_zero, List.set_cons_succ]
    refine wpSeq_yield (S := fun w' => w' = V) (v := .int .u8 ((x ^^^ e : Nat) : Int)) (Or.inl ⟨by rfl, fun w' hw' => by go_simp⟩) rfl ?_
    simp only [Act.put, List.setIfInBounds_toArray, List.set_cons_zero, List.set_cons_succ]
    refine wpSeq_wp rfl (wp_build_one _ rfl (x ^^^ e) rfl ?_)
    simp only [Act.put, List.setIfInBounds_toArray, List.set_cons_zero, List.set_cons_succ]
    obtain ⟨v', w', hr, hM'⟩ := hM.app gcl HGC.out hB HRO.out HHV.out 24 (x ^^^ e) (by rw [List.length_append, List.length_take]; omega)
    refine wpSeq_wp rfl (wp_append_run _ _ _ _ rfl _ _ rfl rfl v' w' hr ?_)
    simp only [Act.put, List.setIfInBounds_toArray, List.set_cons_zero, List.set_cons_succ]
    refine wpSeq_yield (S := fun _ => True) (yieldsIf_assign rfl _ rfl v' rfl) trivial ?_
    refine wpSeq_nil ?_
    refine aK _ _ ?_
    clear aK
    simp only [Act.put, List.setIfInBounds_toArray, List.set_cons_zero, List.set_cons_succ]
    rw [List.append_assoc, ← es] at hM'
    clear hM hr cm ex es
    go_wp2
    exact ⟨⟨i + 1, _, by omega, rfl, fun h => by rw [show (i + 1) / 16 + 2 = d by have := HD.out; have := HQ.out; omega], hM'⟩, by simp only [intOf]; omega⟩
   ·
    have q3 : ¬ (q : Int) = 0 := by omega
    have q4 : ((q : Int) == 0) = false := by simpa using h0
    have hyy := hy h0
    rw [hyy] at hM
    have cm := hM.m.cell q (by omega)
    rw [eS] at cm
    clear hq hd hy hyy eS
    generalize strF k nn i = e at *
    have ex := u8_xor_nat x e lx lS
    go_upto_region 7 with fail
    clear cx
    rename_i aK

    refine wp_region_seq ?_
    refine wpSeq_yield (S := fun w' => w' = wr) (yieldsIf_move rfl _ rfl u1 rfl) rfl ?_
    simp only [Act.put, List.setIfInBounds_toArray, List.set_cons_zero, List.set_cons_succ]
    refine wpSeq_yield (S := fun w' => w' = wr) (yieldsIf_move rfl _ rfl (.int .u8 (x : Int)) rfl) rfl ?_
    simp only [Act.put, List.setIfInBounds_toArray, List.set_cons_zero, List.set_cons_succ]
    refine wpSeq_yield (S := fun w' => w' = wr) (yieldsIf_move rfl _ rfl (.int .i64 (i : Int)) rfl) rfl ?_
    simp only [Act.put, List.setIfInBounds_toArray, List.set_cons_zero, List.set_cons_succ]
    refine wpSeq_yield (S := fun w' => w' = wr) (v := .int .i64 (q : Int)) (Or.inl ⟨by rfl, fun w' hw' => by go_simp⟩) rfl ?_
    simp only [Act.put, List.setIfInBounds_toArray, List.set_cons_zero, List.set_cons_succ]
    refine wpSeq_yield (S := fun w' => w' = wr) (v := .pointer (some ⟨w.heap.size + 1, q, none⟩)) (Or.inl ⟨by rfl, fun w' hw' => by go_simp⟩) rfl ?_
    simp only [Act.put, List.setIfInBounds_toArray, List.set_cons_zero, List.set_cons_succ]
    refine wpSeq_yield (S := fun w' => w' = wr) (v := .int .u8 (e : Int)) (Or.inl ⟨by rfl, fun w' hw' => by rw [hw']; go_simp⟩) rfl ?_
    simp only [Act.put, List.setIfInBounds_toArray, List.set_cons_zero, List.set_cons_succ]
    refine wpSeq_yield (S := fun w' => w' = wr) (v := .int .u8 ((x ^^^ e : Nat) : Int)) (Or.inl ⟨by rfl, fun w' hw' => by go_simp⟩) rfl ?_
    simp only [Act.put, List.setIfInBounds_toArray, List.set_cons_zero, List.set_cons_succ]
    refine wpSeq_wp rfl (wp_build_one _ rfl (x ^^^ e) rfl ?_)
    simp only [Act.put, List.setIfInBounds_toArray, List.set_cons_zero, List.set_cons_succ]
    obtain ⟨v', w', hr, hM'⟩ := hM.app gcl HGC.out hB HRO.out HHV.out 24 (x ^^^ e) (by rw [List.length_append, List.length_take]; omega)
    refine wpSeq_wp rfl (wp_append_run _ _ _ _ rfl _ _ rfl rfl v' w' hr ?_)
    simp only [Act.put, List.setIfInBounds_toArray, List.set_cons_zero, List.set_cons_succ]
    refine wpSeq_yield (S := fun _ => True) (yieldsIf_assign rfl _ rfl v' rfl) trivial ?_
    refine wpSeq_nil ?_
    refine aK _ _ ?_
    clear aK
    simp only [Act.put, List.setIfInBounds_toArray, List.set_cons_zero, List.set_cons_succ]
    rw [List.append_assoc, ← es] at hM'
    clear hM hr cm ex es
    go_wp2
    exact ⟨⟨i + 1, _, by omega, rfl, fun h => by rw [show (i + 1) / 16 + 2 = d by have := HD.out; have := HQ.out; omega], hM'⟩, by simp only [intOf]; omega⟩
end Go.Proofs.YtpihgljdbpnehaaDoor
