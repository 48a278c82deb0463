/- CurveTexts returns true at every key, every small number and both bools, and leaves what it was given as it was. Conditions: the two variables of the curve's package that it reads hold what the program's text lays in them (tied by the card). -/
import Derived.Test.YtjaomgildhiddaaDoorQg
import Derived.Test.YtjaomgildhiddaaDoorRows
import Derived.Test.YtjaomgildhiddaaDoorTie
import Derived.Test.YtjaomgildhiddaaDoorCards
import Derived.Test.YtjaomgildhiddaaDoorTq
import Derived.Test.YtjaomgildhiddaaDoorLd
import Derived.SevenTiedAt
namespace Go.Proofs.YtjaomgildhiddaaDoor
open Go.RowKit
open Ed

def KV (n : Nat) : Value := Key (keyOf n)
/-- The cells of a row of keys. -/
def Kl (ns : List Nat) : Array Value := ((ns.map KV).flatMap fun v => v.cells.toList).toArray
theorem KV_size (n : Nat) : (KV n).cells.size = 32 := by
  show (Iv .u8 (keyOf n)).size = 32
  rw [Iv_size, keyOf_length]
theorem Kl_get (ns : List Nat) (k : Nat) : (Kl ns)[k]? = ((ns.map KV)[k / 32]?).bind (fun v => v.cells[k % 32]?) := by
  unfold Kl
  rw [List.getElem?_toArray]
  exact Go.Great.flat_get (by decide) _ (fun v hv => by obtain ⟨p, _, rfl⟩ := List.mem_map.1 hv; exact KV_size p) k
theorem rangeKl {w : World} {g : Nat} {t : TypeId} {ns : List Nat} (h : Blk w g t (Kl ns)) (i : Nat) (p : Nat) (hp : ns[i]? = some p) : w.rangeAt g (i * 32) (Iv .u8 (keyOf p)).toList := fun j v hv => by
  have hj : j < 32 := by
    have := (List.getElem?_eq_some_iff.1 hv).1
    rw [Array.length_toList, Iv_size, keyOf_length] at this
    exact this
  rw [h.cell, Kl_get, show (i * 32 + j) / 32 = i by omega, show (i * 32 + j) % 32 = j by omega, List.getElem?_map, hp]
  show (Iv .u8 (keyOf p))[j]? = some v
  rw [← hv, Array.getElem?_toList]
theorem info_K : (Tryd.prog.info? 23).map (·.size) = some 32 := by kernel_rfl
theorem zero_K : ((Tryd.prog.info? 23).bind (·.zero)).isSome = true := by kernel_rfl
theorem under_Ks : Tryd.prog.underlying 32 = some (.slice 23) := by kernel_rfl
theorem run_keys (n : Nat) (parts : Array (Nat × Value)) (ps : List Nat) (hp : parts.toList = ((ps.map KV).zipIdx 0).map fun x => (x.2, x.1)) (hn : ps.length = n) (hpos : 0 < n) (hs : n ≤ 1000) (w : World) :
    (Instr.buildSlice 32 n parts).run Tryd.prog w = .ok (.slice (some ⟨w.heap.size, 0, none⟩) n n) (w.alloc (.cells (Kl ps) 23)) := by
  have h1 := info_K
  have h2 := zero_K
  cases hie : Tryd.prog.info? 23 with
  | none => rw [hie] at h1; cases h1
  | some ie =>
    simp only [hie, Option.map_some, Option.some.injEq, Option.bind_some] at h1 h2
    obtain ⟨z, hz⟩ := Option.isSome_iff_exists.1 h2
    refine run_buildSlice w _ _ n parts _ ie z under_Ks hie hz (by rw [h1]; omega) (by rw [h1]; omega) ?_
    rw [hp, h1]
    exact Go.Great.fill_whole (by decide) _ _ (fun v hv => by obtain ⟨p, _, rfl⟩ := List.mem_map.1 hv; exact KV_size p) (by simp [hn])
theorem wpSeq_keys {ops : Array Oper} {Q : Exit → Act → World → Prop} {o : Oper} {rest : List Oper} {a : Act} {w : World} (hw : Region.wanted o (yielded ops a.tmps) = true) (n : Nat) (parts : Array (Nat × Operand)) (ho : o.op = .buildSlice 32 n parts)
    (ps : List Nat) (hp : (parts.map fun (i, x) => (i, a.eval x)).toList = ((ps.map KV).zipIdx 0).map fun x => (x.2, x.1)) (hn : ps.length = n) (hpos : 0 < n) (hs : n ≤ 1000)
    (h : ∀ g W, Blk W g 23 (Kl ps) → Below w.heap.size w W → w.heap.size ≤ g → wpSeq Tryd.prog ops Q rest (a.put o.dst (.slice (some ⟨g, 0, none⟩) n n)) W) : wpSeq Tryd.prog ops Q (o :: rest) a w := by
  refine wpSeq_wp hw ?_
  unfold Oper.wp execOp
  simp only [ho, Sem.run_bind, run_keys n _ ps hp hn hpos hs w, Result.andThen_ok]
  exact h _ _ (Blk.new _ _ _) ((Below.refl w.heap.size w).alloc (Nat.le_refl _) _) (Nat.le_refl _)
theorem keys3 {a : Act} {x0 x1 x2 : Operand} {p0 p1 p2 : Nat} (h0 : a.eval x0 = Key (keyOf p0)) (h1 : a.eval x1 = Key (keyOf p1)) (h2 : a.eval x2 = Key (keyOf p2)) : ((#[(0, x0), (1, x1), (2, x2)] : Array (Nat × Operand)).map fun (i, x) => (i, a.eval x)).toList = (([p0, p1, p2].map KV).zipIdx 0).map fun x => (x.2, x.1) := by
  simp [h0, h1, h2, KV]
theorem yieldsIf_keyv {ops : Array Oper} {S : World → Prop} {o : Oper} {a : Act} (n : Nat) (hn : n < 256) (hgd : Region.wanted o (yielded ops a.tmps) = true) (x : Operand) (ho : o.op = .build 23 #[(0, x)]) (hx : a.eval x = .int .u8 (n : Int)) :
    YieldsIf Tryd.prog ops S o (Key (keyOf n)) a := Or.inl ⟨hgd, fun w _ => by
  unfold Key
  rw [key_lit n hn]
  simp only [execOp, ho, List.map_toArray, List.map_cons, List.map_nil, hx]
  go_simp⟩
/-! The numbers near the prime. -/
def nearF (q : Nat) : Nat → Nat := sumF 17 (subF 16 pF (numF 3)) (numF q)
theorem sub_p3 : lv (subF 16 pF (numF 3)) 16 = pp - 3 := by rw [pp_eq]; decide +kernel
theorem sub3_lt (i : Nat) : subF 16 pF (numF 3) i < 65536 := by unfold subF; split <;> omega
theorem sub3_high (i : Nat) (h : 16 ≤ i) : subF 16 pF (numF 3) i = 0 := by unfold subF; rw [if_neg (by omega)]
theorem sum17_any (ga ca gb cb : Nat) (fa fb : Nat → Nat) (w : World) (ha : Sl w ga 16 fa) (hb : Sl w gb 2 fb) :
    Calls Tryd.prog 10 #[SlV ga 16 ca, SlV gb 2 cb] w (RetSl w 17 (sumF 17 fa fb)) := by
  have h := sum_any ga 16 ca gb 2 cb fa fb w ha hb (by decide) (by decide)
  have e : maxN 16 2 + 1 = 17 := rfl
  rw [e] at h
  exact h
end Go.Proofs.YtjaomgildhiddaaDoor
/- The law CurveTexts (printed by gencurve.py). -/
namespace Go.Proofs.YtjaomgildhiddaaDoor
open Go.RowKit

open Ed
theorem near_lt (q : Nat) (hq : q < 8) : lv (nearF q) 17 < 57896044618658097711785492504343953926634992332820282019728792003956564819968 := by
  have h := sum_val (subF 16 pF (numF 3)) (numF q) 16 2 sub3_lt (fun i => by unfold numF; split <;> (try split) <;> omega) sub3_high (fun i hi => by unfold numF; rw [if_neg (by omega), if_neg (by omega)])
  have e : maxN 16 2 + 1 = 17 := rfl
  rw [e, sub_p3, numF_num q (by omega)] at h
  show lv (sumF 17 (subF 16 pF (numF 3)) (numF q)) 17 < _
  rw [h, pp_eq]
  omega
theorem near_key (g c q N : Nat) (w : World) (hN : N = lv (nearF q) 17) (h : Sl w g 17 (nearF q)) : Calls Tryd.prog 14 #[SlV g 17 c] w fun e w' => e = .returned (Key (keyOf N)) ∧ Below w.heap.size w w' :=
  hN ▸ key_any g 17 c (nearF q) w h
set_option maxHeartbeats 8000000 in
set_option maxRecDepth 100000 in
theorem texts_t (NA sm : Nat) (kNA : NA < p256) (hsm : sm < 256) (w : World) (GX : Rng w 0 (Iv .u8 (keyOf bxN))) (GY : Rng w 1 (Iv .u8 (keyOf byN))) :
    Calls Tryd.prog 3 #[Key (keyOf NA), .int .u8 (sm : Int), .bool true] w fun e w' => e = .returned (.bool true) ∧ Below w.heap.size w w' := by
  have bGX := GX.blk
  have bGY := GY.blk
  have ipbase := pbase_is
  have ipzero := pzero_is
  obtain ⟨q, hq⟩ : ∃ q, q = sm % 8 := ⟨_, rfl⟩
  have hq8 : q < 8 := by omega
  have hq32 : q < 4294967296 := by omega
  have hm8 : ((sm : Nat) : Int).tmod 8 = (q : Int) := by
    rw [Int.tmod_eq_emod_of_nonneg (by omega)]
    omega
  have hw8 : IntKind.u32.wrap (q : Int) = (q : Int) := by rw [IntKind.wrap_u32]; omega
  obtain ⟨NR, hNR⟩ : ∃ n, n = lv (nearF q) 17 := ⟨_, rfl⟩
  have lNR : NR < 57896044618658097711785492504343953926634992332820282019728792003956564819968 := by rw [hNR]; exact near_lt q hq8
  have kNR : NR < p256 := by unfold p256; omega
  have HNR := Lib.hid hNR
  have HM8 := Lib.hid hm8
  have HW8 := Lib.hid hw8
  clear hq hm8 hw8 hNR
  unfold Key
  go_enter Tryd.func3, Tryd.ntmps3
  go_upto_region 1 with fail
  generalize hW : World.alloc w _ = W
  have hB : Below w.heap.size w W := hW ▸ (Below.refl w.heap.size w).alloc (Nat.le_refl _) _
  have K0 : Blk W (w.heap.size) 23 (Iv .u8 (keyOf NA)) := hW ▸ Blk.new' rfl _ _
  have hS : Facts [.blk (w.heap.size) 23 (Iv .u8 (keyOf NA)), .rng 0 (Iv .u8 (keyOf bxN)), .rng 1 (Iv .u8 (keyOf byN))] W := Facts.cons (f := .blk (w.heap.size) 23 (Iv .u8 (keyOf NA))) K0 (Facts.cons (f := .rng 0 (Iv .u8 (keyOf bxN))) (GX.below hB) (Facts.cons (f := .rng 1 (Iv .u8 (keyOf byN))) (GY.below hB) (Facts.nil)))
  clear hW K0
  refine wp_region_seq ?_
  refine wpSeq_wp rfl ?_
  go_simp
  refine (awake_any _ (hS.rngAt _ _ (.tail _ (.head _))) (hS.rngAt _ _ (.tail _ (.tail _ (.head _))))).mono ?_
  rintro e v1 ⟨rfl, b⟩
  replace hB := hB.trans (b.mono hB.size)
  replace hS := hS.below b
  clear b
  show wpSeq _ _ _ _ _ _
  refine wpSeq_yield (S := Facts [.blk (w.heap.size) 23 (Iv .u8 (keyOf NA)), .rng 0 (Iv .u8 (keyOf bxN)), .rng 1 (Iv .u8 (keyOf byN))]) (yieldsIf_not rfl _ _ rfl true rfl) hS ?_
  simp only [Act.put, List.setIfInBounds_toArray, List.set_cons_zero, List.set_cons_succ]
  refine wpSeq_nil ?_
  go_upto_region 3 with fail
  refine wp_region_seq ?_
  refine wpSeq_wp rfl ?_
  go_simp
  refine (p_any _).mono ?_
  rintro e v2 ⟨gs2, cs2, rfl, S2n, _, b⟩
  replace hB := hB.trans (b.mono hB.size)
  replace hS := hS.below b
  clear b
  have S2 := S2n
  clear S2n
  show wpSeq _ _ _ _ _ _
  refine wpSeq_wp rfl ?_
  go_simp
  refine (num_any 3 _ (by decide)).mono ?_
  rintro e v3 ⟨gs3, cs3, rfl, S3n, _, b⟩
  replace hB := hB.trans (b.mono hB.size)
  replace hS := hS.below b
  replace S2 := S2.below b
  clear b
  have S3 := S3n
  clear S3n
  show wpSeq _ _ _ _ _ _
  refine wpSeq_wp rfl ?_
  go_simp
  refine (minus_any gs2 16 cs2 gs3 2 cs3 _ _ _ S2 S3 (by decide)).mono ?_
  rintro e v4 ⟨gs4, cs4, rfl, S4n, _, b⟩
  replace hB := hB.trans (b.mono hB.size)
  replace hS := hS.below b
  replace S2 := S2.below b
  replace S3 := S3.below b
  clear b
  have S4 := S4n
  clear S4n
  show wpSeq _ _ _ _ _ _
  refine wpSeq_yield (S := Facts [.blk (w.heap.size) 23 (Iv .u8 (keyOf NA)), .rng 0 (Iv .u8 (keyOf bxN)), .rng 1 (Iv .u8 (keyOf byN))]) (yieldsIf_move rfl _ rfl (.int .u8 (sm : Int)) rfl) hS ?_
  simp only [Act.put, List.setIfInBounds_toArray, List.set_cons_zero, List.set_cons_succ]
  refine wpSeq_yield (S := Facts [.blk (w.heap.size) 23 (Iv .u8 (keyOf NA)), .rng 0 (Iv .u8 (keyOf bxN)), .rng 1 (Iv .u8 (keyOf byN))]) (v := (.int .u8 (q : Int))) (Or.inl ⟨by rfl, ?_⟩) hS ?_
  · intro w' _
    have c := HM8.out
    go_simp
  simp only [Act.put, List.setIfInBounds_toArray, List.set_cons_zero, List.set_cons_succ]
  refine wpSeq_yield (S := Facts [.blk (w.heap.size) 23 (Iv .u8 (keyOf NA)), .rng 0 (Iv .u8 (keyOf bxN)), .rng 1 (Iv .u8 (keyOf byN))]) (v := (.int .u32 (q : Int))) (Or.inl ⟨by rfl, ?_⟩) hS ?_
  · intro w' _
    have c := HW8.out
    go_simp
  simp only [Act.put, List.setIfInBounds_toArray, List.set_cons_zero, List.set_cons_succ]
  refine wpSeq_wp rfl ?_
  go_simp
  refine (num_any q _ hq32).mono ?_
  rintro e v5 ⟨gs5, cs5, rfl, S5n, _, b⟩
  replace hB := hB.trans (b.mono hB.size)
  replace hS := hS.below b
  replace S2 := S2.below b
  replace S3 := S3.below b
  replace S4 := S4.below b
  clear b
  have S5 := S5n
  clear S5n
  show wpSeq _ _ _ _ _ _
  refine wpSeq_wp rfl ?_
  go_simp
  refine (sum17_any gs4 cs4 gs5 cs5 _ _ _ S4 S5).mono ?_
  rintro e v6 ⟨gs6, cs6, rfl, S6n, _, b⟩
  replace hB := hB.trans (b.mono hB.size)
  replace hS := hS.below b
  replace S2 := S2.below b
  replace S3 := S3.below b
  replace S4 := S4.below b
  replace S5 := S5.below b
  clear b
  have S6 := S6n
  clear S6n
  show wpSeq _ _ _ _ _ _
  refine wpSeq_wp rfl ?_
  go_simp
  refine (near_key gs6 cs6 q NR _ HNR.out S6).mono ?_
  rintro e v7 ⟨rfl, b⟩
  replace hB := hB.trans (b.mono hB.size)
  replace hS := hS.below b
  replace S2 := S2.below b
  replace S3 := S3.below b
  replace S4 := S4.below b
  replace S5 := S5.below b
  replace S6 := S6.below b
  clear b
  show wpSeq _ _ _ _ _ _
  refine wpSeq_allocQ 23 (Iv .u8 (List.replicate 32 0)) rfl (fun W => by go_simp; rfl) ?_
  intro B1 C1 AB1 b mB1
  simp only [Act.put, List.setIfInBounds_toArray, List.set_cons_zero, List.set_cons_succ]
  have hb := b
  clear b
  refine wpSeq_store_row rfl 23 _ _ rfl (B1) (Iv .u8 (keyOf NR)) rfl rfl _ _ AB1 (info_key _ (keyOf_length _)) (by rw [Iv_size, Iv_size, keyOf_length]; rfl) (Iv_one _ _) ?_
  try simp only [Act.put, List.setIfInBounds_toArray, List.set_cons_zero, List.set_cons_succ]
  replace AB1 := AB1.row (Iv .u8 (keyOf NR))
  replace hb := below_setRow hb mB1 (Iv .u8 (keyOf NR))
  generalize hWn : World.setRow _ _ _ = Wn at *
  clear hWn
  have eB1_0 := Nat.lt_of_lt_of_le (hS.blkAt (w.heap.size) 23 (Iv .u8 (keyOf NA)) (.head _)).lt mB1
  replace mB1 := Nat.le_trans hB.size mB1
  replace hB := hB.trans (hb.mono hB.size)
  replace hS := hS.below hb
  replace S2 := S2.below hb
  replace S3 := S3.below hb
  replace S4 := S4.below hb
  replace S5 := S5.below hb
  replace S6 := S6.below hb
  clear hb
  replace hS : Facts [.blk (B1) 23 (Iv .u8 (keyOf NR)), .blk (w.heap.size) 23 (Iv .u8 (keyOf NA)), .rng 0 (Iv .u8 (keyOf bxN)), .rng 1 (Iv .u8 (keyOf byN))] _ := Facts.cons (f := .blk B1 23 (Iv .u8 (keyOf NR))) AB1 hS
  clear AB1
  refine wpSeq_nil ?_
  clear S2 S3 S4 S5 S6
  go_upto_region 4 with fail
  refine wp_region_seq ?_
  refine wpSeq_yield (S := Facts [.blk (B1) 23 (Iv .u8 (keyOf NR)), .blk (w.heap.size) 23 (Iv .u8 (keyOf NA)), .rng 0 (Iv .u8 (keyOf bxN)), .rng 1 (Iv .u8 (keyOf byN))]) (yieldsIf_move rfl _ rfl (.bool true) rfl) hS ?_
  simp only [Act.put, List.setIfInBounds_toArray, List.set_cons_zero, List.set_cons_succ]
  refine wpSeq_nil ?_
  have hb := byteAt_small NR lNR
  have hor := or_128 ⟨byteAt NR 31, hb⟩
  have hlay := key_lay NR 1 lNR (by decide)
  simp only [Nat.one_mul] at hlay hor
  obtain ⟨bv, hbv⟩ : ∃ v : Nat, v = byteAt NR 31 + 128 := ⟨_, rfl⟩
  rw [← hbv] at hlay hor
  obtain ⟨NN, hNN⟩ : ∃ n, n = NR + 57896044618658097711785492504343953926634992332820282019728792003956564819968 := ⟨_, rfl⟩
  have kNN : NN < p256 := by rw [hNN]; unfold p256; omega
  rw [← hNN] at hlay
  have HL := Lib.hid hlay
  clear hlay hbv hNN hb
  have KB := hS.blkAt (B1) 23 (Iv .u8 (keyOf NR)) (.head _)
  have c0 := key_cellj KB 31 (by decide)
  have f0 := KB.frozen 31
  go_upto_region 6 with fail
  replace KB := KB.set 31 (.int .u8 (bv : Int))
  rw [Iv_set, HL.out] at KB
  replace hB := hB.setCell (p := ⟨B1, 31, none⟩) (by show w.heap.size ≤ B1; omega) (.int .u8 (bv : Int))
  replace hS : Facts [.blk (B1) 23 (Iv .u8 (keyOf NN)), .blk (w.heap.size) 23 (Iv .u8 (keyOf NA)), .rng 0 (Iv .u8 (keyOf bxN)), .rng 1 (Iv .u8 (keyOf byN))] _ := Facts.cons (f := .blk (B1) 23 (Iv .u8 (keyOf NN))) KB (Facts.cons (f := .blk (w.heap.size) 23 (Iv .u8 (keyOf NA))) ((hS.blkAt (w.heap.size) 23 (Iv .u8 (keyOf NA)) (.tail _ (.head _))).far (p := ⟨B1, 31, none⟩) (by show _ ≠ B1; omega) _) (Facts.cons (f := .rng 0 (Iv .u8 (keyOf bxN))) ((hS.rngAt _ _ (.tail _ (.tail _ (.head _)))).far (p := ⟨B1, 31, none⟩) (by show _ ≠ B1; omega) _) (Facts.cons (f := .rng 1 (Iv .u8 (keyOf byN))) ((hS.rngAt _ _ (.tail _ (.tail _ (.tail _ (.head _))))).far (p := ⟨B1, 31, none⟩) (by show _ ≠ B1; omega) _) (Facts.nil))))
  clear c0 f0 hor KB
  generalize World.setCell _ _ _ = V at *
  refine wp_region_seq ?_
  refine wpSeq_yield (S := Facts [.blk (B1) 23 (Iv .u8 (keyOf NN)), .blk (w.heap.size) 23 (Iv .u8 (keyOf NA)), .rng 0 (Iv .u8 (keyOf bxN)), .rng 1 (Iv .u8 (keyOf byN))]) (show YieldsIf _ _ _ _ (Key (keyOf NA)) _ from yieldsIf_load rfl 23 _ rfl (w.heap.size) rfl 23 _ _ (.tail _ (.head _)) Tryd.underlying23 rfl (info_key _ (keyOf_length _))) hS ?_
  simp only [Act.put, List.setIfInBounds_toArray, List.set_cons_zero, List.set_cons_succ]
  refine wpSeq_yield (S := Facts [.blk (B1) 23 (Iv .u8 (keyOf NN)), .blk (w.heap.size) 23 (Iv .u8 (keyOf NA)), .rng 0 (Iv .u8 (keyOf bxN)), .rng 1 (Iv .u8 (keyOf byN))]) (show YieldsIf _ _ _ _ (Key (keyOf NN)) _ from yieldsIf_load rfl 23 _ rfl (B1) rfl 23 _ _ (.head _) Tryd.underlying23 rfl (info_key _ (keyOf_length _))) hS ?_
  simp only [Act.put, List.setIfInBounds_toArray, List.set_cons_zero, List.set_cons_succ]
  refine wpSeq_yield (S := Facts [.blk (B1) 23 (Iv .u8 (keyOf NN)), .blk (w.heap.size) 23 (Iv .u8 (keyOf NA)), .rng 0 (Iv .u8 (keyOf bxN)), .rng 1 (Iv .u8 (keyOf byN))]) (yieldsIf_move rfl _ rfl (.int .u8 (sm : Int)) rfl) hS ?_
  simp only [Act.put, List.setIfInBounds_toArray, List.set_cons_zero, List.set_cons_succ]
  refine wpSeq_yield (S := Facts [.blk (B1) 23 (Iv .u8 (keyOf NN)), .blk (w.heap.size) 23 (Iv .u8 (keyOf NA)), .rng 0 (Iv .u8 (keyOf bxN)), .rng 1 (Iv .u8 (keyOf byN))]) (yieldsIf_keyv sm hsm rfl _ rfl rfl) hS ?_
  simp only [Act.put, List.setIfInBounds_toArray, List.set_cons_zero, List.set_cons_succ]
  refine wpSeq_keys rfl 3 _ rfl [NA, NN, sm] (keys3 rfl rfl rfl) rfl (by decide) (by decide) ?_
  intro GL CL AL b mL
  simp only [Act.put, List.setIfInBounds_toArray, List.set_cons_zero, List.set_cons_succ]
  replace mL := Nat.le_trans hB.size mL
  replace hB := hB.trans (b.mono hB.size)
  replace hS := hS.below b
  clear b
  replace hS : Facts [.blk (GL) 23 (Kl [NA, NN, sm]), .blk (B1) 23 (Iv .u8 (keyOf NN)), .blk (w.heap.size) 23 (Iv .u8 (keyOf NA)), .rng 0 (Iv .u8 (keyOf bxN)), .rng 1 (Iv .u8 (keyOf byN))] _ := Facts.cons (f := .blk GL 23 (Kl [NA, NN, sm])) AL hS
  clear AL
  refine wpSeq_yield (S := Facts [.blk (GL) 23 (Kl [NA, NN, sm]), .blk (B1) 23 (Iv .u8 (keyOf NN)), .blk (w.heap.size) 23 (Iv .u8 (keyOf NA)), .rng 0 (Iv .u8 (keyOf bxN)), .rng 1 (Iv .u8 (keyOf byN))]) (v := (.int .i64 3)) (Or.inl ⟨by rfl, ?_⟩) hS ?_
  · intro w' _
    go_simp
  simp only [Act.put, List.setIfInBounds_toArray, List.set_cons_zero, List.set_cons_succ]
  refine wpSeq_yield (S := Facts [.blk (GL) 23 (Kl [NA, NN, sm]), .blk (B1) 23 (Iv .u8 (keyOf NN)), .blk (w.heap.size) 23 (Iv .u8 (keyOf NA)), .rng 0 (Iv .u8 (keyOf bxN)), .rng 1 (Iv .u8 (keyOf byN))]) (yieldsIf_move rfl _ rfl (.int .i64 0) rfl) hS ?_
  simp only [Act.put, List.setIfInBounds_toArray, List.set_cons_zero, List.set_cons_succ]
  refine wpSeq_nil ?_
  have hall : ∀ n ∈ [NA, NN, sm], n < p256 := fun n hn => by
    rcases List.mem_cons.1 hn with rfl | hn
    · exact kNA
    · rcases List.mem_cons.1 hn with rfl | hn
      · exact kNN
      · rw [List.mem_singleton.1 hn]; exact Nat.lt_trans hsm (by decide)
  have hlen : ([NA, NN, sm]).length = 3 := rfl
  have hS9 : Facts [.blk (GL) 23 (Kl [NA, NN, sm]), .rng 0 (Iv .u8 (keyOf bxN)), .rng 1 (Iv .u8 (keyOf byN))] _ := Facts.cons (f := .blk GL 23 (Kl [NA, NN, sm])) (hS.blkAt GL 23 (Kl [NA, NN, sm]) (.head _)) (Facts.cons (f := .rng 0 (Iv .u8 (keyOf bxN))) (hS.rngAt _ _ (.tail _ (.tail _ (.tail _ (.head _))))) (Facts.cons (f := .rng 1 (Iv .u8 (keyOf byN))) (hS.rngAt _ _ (.tail _ (.tail _ (.tail _ (.tail _ (.head _)))))) Facts.nil))
  replace hS := hS9
  clear hS9
  generalize [NA, NN, sm] = ns at *
  go_wp2_with fail
  go_loopw [36] (fun i wr => ∃ j : Nat, j ≤ 3 ∧ i = .int .i64 j ∧ Below w.heap.size w wr ∧ Facts [.blk (GL) 23 (Kl ns), .rng 0 (Iv .u8 (keyOf bxN)), .rng 1 (Iv .u8 (keyOf byN))] wr) (fun i _ => 3 - (intOf i).toNat)
  case atStart => exact ⟨0, by omega, rfl, hB, hS⟩
  case round =>
    clear hS hB
    obtain ⟨j, hj, rfl, hB, hS⟩ := hrel
    by_cases hlt : j < 3
    · have i1 : (0 : Int) ≤ (j : Int) := by omega
      have i2 : (j : Int) < 3 := by omega
      have i3 : (j : Int).toNat = j := by omega
      obtain ⟨TT, hT⟩ : ∃ t, ns[j]? = some t := ⟨_, List.getElem?_eq_getElem (by omega)⟩
      have kTT := hall TT (List.mem_of_getElem? hT)
      have HTT := Lib.hid hT
      clear hT
      by_cases hP : ∃ P : Pt dd, textN P = TT
      · obtain ⟨P, hP⟩ := hP
        have HP := Lib.hid hP
        clear hP
        go_upto_region 8 with fail
        refine wp_region_seq ?_
        refine wpSeq_yield (S := Facts [.blk (GL) 23 (Kl ns), .rng 0 (Iv .u8 (keyOf bxN)), .rng 1 (Iv .u8 (keyOf byN))]) (v := (.pointer (some ⟨GL, j * 32, none⟩))) (Or.inl ⟨by rfl, ?_⟩) hS ?_
        · intro w' _
          go_simp
        simp only [Act.put, List.setIfInBounds_toArray, List.set_cons_zero, List.set_cons_succ]
        refine wpSeq_yield (S := Facts [.blk (GL) 23 (Kl ns), .rng 0 (Iv .u8 (keyOf bxN)), .rng 1 (Iv .u8 (keyOf byN))]) (show YieldsIf _ _ _ _ (Key (keyOf TT)) _ from yieldsIf_load_mid rfl 23 _ rfl GL (j * 32) rfl (Iv .u8 (keyOf TT)).toList _ (fun _ h => rangeKl (h.blkAt GL 23 (Kl ns) (.head _)) j TT HTT.out) Tryd.underlying23 rfl (info_keyL _)) hS ?_
        simp only [Act.put, List.setIfInBounds_toArray, List.set_cons_zero, List.set_cons_succ]
        refine wpSeq_allocQ 23 (Iv .u8 (List.replicate 32 0)) rfl (fun W => by go_simp; rfl) ?_
        intro B101 C101 AB101 b mB101
        simp only [Act.put, List.setIfInBounds_toArray, List.set_cons_zero, List.set_cons_succ]
        have hb := b
        clear b
        refine wpSeq_store_row rfl 23 _ _ rfl (B101) (Iv .u8 (keyOf TT)) rfl rfl _ _ AB101 (info_key _ (keyOf_length _)) (by rw [Iv_size, Iv_size, keyOf_length]; rfl) (Iv_one _ _) ?_
        try simp only [Act.put, List.setIfInBounds_toArray, List.set_cons_zero, List.set_cons_succ]
        replace AB101 := AB101.row (Iv .u8 (keyOf TT))
        replace hb := below_setRow hb mB101 (Iv .u8 (keyOf TT))
        generalize hWn : World.setRow _ _ _ = Wn at *
        clear hWn
        have eB101_0 := Nat.lt_of_lt_of_le (hS.blkAt (GL) 23 (Kl ns) (.head _)).lt mB101
        replace mB101 := Nat.le_trans hB.size mB101
        replace hB := hB.trans (hb.mono hB.size)
        replace hS := hS.below hb
        clear hb
        replace hS : Facts [.blk (B101) 23 (Iv .u8 (keyOf TT)), .blk (GL) 23 (Kl ns), .rng 0 (Iv .u8 (keyOf bxN)), .rng 1 (Iv .u8 (keyOf byN))] _ := Facts.cons (f := .blk B101 23 (Iv .u8 (keyOf TT))) AB101 hS
        clear AB101
        refine wpSeq_nil ?_
        go_upto_region 9 with fail
        refine wp_region_seq ?_
        refine wpSeq_yield (S := Facts [.blk (B101) 23 (Iv .u8 (keyOf TT)), .blk (GL) 23 (Kl ns), .rng 0 (Iv .u8 (keyOf bxN)), .rng 1 (Iv .u8 (keyOf byN))]) (show YieldsIf _ _ _ _ (Key (keyOf TT)) _ from yieldsIf_load rfl 23 _ rfl (B101) rfl 23 _ _ (.head _) Tryd.underlying23 rfl (info_key _ (keyOf_length _))) hS ?_
        simp only [Act.put, List.setIfInBounds_toArray, List.set_cons_zero, List.set_cons_succ]
        refine wpSeq_wp rfl ?_
        go_simp
        refine (cdec_some TT kTT P HP.out _).mono ?_
        rintro e v108 ⟨p108, rfl, ip108, b⟩
        replace hB := hB.trans (b.mono hB.size)
        replace hS := hS.below b
        clear b
        show wpSeq _ _ _ _ _ _
        refine wpSeq_yield (S := Facts [.blk (B101) 23 (Iv .u8 (keyOf TT)), .blk (GL) 23 (Kl ns), .rng 0 (Iv .u8 (keyOf bxN)), .rng 1 (Iv .u8 (keyOf byN))]) (yieldsIf_move rfl _ rfl (.tuple #[(PV p108), (.bool true)]) rfl) hS ?_
        simp only [Act.put, List.setIfInBounds_toArray, List.set_cons_zero, List.set_cons_succ]
        refine wpSeq_yield (S := Facts [.blk (B101) 23 (Iv .u8 (keyOf TT)), .blk (GL) 23 (Kl ns), .rng 0 (Iv .u8 (keyOf bxN)), .rng 1 (Iv .u8 (keyOf byN))]) (show YieldsIf _ _ _ _ (PV p108) _ from yieldsIf_extract rfl _ _ rfl _ rfl _ rfl) hS ?_
        simp only [Act.put, List.setIfInBounds_toArray, List.set_cons_zero, List.set_cons_succ]
        refine wpSeq_yield (S := Facts [.blk (B101) 23 (Iv .u8 (keyOf TT)), .blk (GL) 23 (Kl ns), .rng 0 (Iv .u8 (keyOf bxN)), .rng 1 (Iv .u8 (keyOf byN))]) (show YieldsIf _ _ _ _ (.bool true) _ from yieldsIf_extract rfl _ _ rfl _ rfl _ rfl) hS ?_
        simp only [Act.put, List.setIfInBounds_toArray, List.set_cons_zero, List.set_cons_succ]
        refine wpSeq_allocQ 38 (Pc p40) rfl (fun W => by go_simp; rfl) ?_
        intro B102 C102 AB102 b mB102
        simp only [Act.put, List.setIfInBounds_toArray, List.set_cons_zero, List.set_cons_succ]
        have hb := b
        clear b
        refine wpSeq_store_row rfl 38 _ _ rfl (B102) (Pc p108) rfl rfl _ _ AB102 (info_Pc _) (Pc_same _ _) (Pc_one _) ?_
        try simp only [Act.put, List.setIfInBounds_toArray, List.set_cons_zero, List.set_cons_succ]
        replace AB102 := AB102.row (Pc p108)
        replace hb := below_setRow hb mB102 (Pc p108)
        generalize hWn : World.setRow _ _ _ = Wn at *
        clear hWn
        replace mB102 := Nat.le_trans hB.size mB102
        replace hB := hB.trans (hb.mono hB.size)
        replace hS := hS.below hb
        clear hb
        replace hS : Facts [.blk (B102) 38 (Pc p108), .blk (B101) 23 (Iv .u8 (keyOf TT)), .blk (GL) 23 (Kl ns), .rng 0 (Iv .u8 (keyOf bxN)), .rng 1 (Iv .u8 (keyOf byN))] _ := Facts.cons (f := .blk B102 38 (Pc p108)) AB102 hS
        clear AB102
        refine wpSeq_yield (S := Facts [.blk (B102) 38 (Pc p108), .blk (B101) 23 (Iv .u8 (keyOf TT)), .blk (GL) 23 (Kl ns), .rng 0 (Iv .u8 (keyOf bxN)), .rng 1 (Iv .u8 (keyOf byN))]) (yieldsIf_assign rfl _ rfl (.bool true) rfl) hS ?_
        simp only [Act.put, List.setIfInBounds_toArray, List.set_cons_zero, List.set_cons_succ]
        refine wpSeq_nil ?_
        go_upto_region 10 with fail
        refine wp_region_seq ?_
        refine wpSeq_yield (S := Facts [.blk (B102) 38 (Pc p108), .blk (B101) 23 (Iv .u8 (keyOf TT)), .blk (GL) 23 (Kl ns), .rng 0 (Iv .u8 (keyOf bxN)), .rng 1 (Iv .u8 (keyOf byN))]) (show YieldsIf _ _ _ _ (Key (keyOf TT)) _ from yieldsIf_load rfl 23 _ rfl (B101) rfl 23 _ _ (.tail _ (.head _)) Tryd.underlying23 rfl (info_key _ (keyOf_length _))) hS ?_
        simp only [Act.put, List.setIfInBounds_toArray, List.set_cons_zero, List.set_cons_succ]
        refine wpSeq_wp rfl ?_
        go_simp
        refine (rread_some TT kTT P HP.out _).mono ?_
        rintro e v109 ⟨r109, rfl, Hr109n, b⟩
        replace hB := hB.trans (b.mono hB.size)
        replace hS := hS.below b
        clear b
        have Hr109 := Hr109n
        clear Hr109n
        show wpSeq _ _ _ _ _ _
        refine wpSeq_yield (S := Facts [.blk (B102) 38 (Pc p108), .blk (B101) 23 (Iv .u8 (keyOf TT)), .blk (GL) 23 (Kl ns), .rng 0 (Iv .u8 (keyOf bxN)), .rng 1 (Iv .u8 (keyOf byN))]) (yieldsIf_move rfl _ rfl (.tuple #[(RW r109), (.bool true)]) rfl) hS ?_
        simp only [Act.put, List.setIfInBounds_toArray, List.set_cons_zero, List.set_cons_succ]
        refine wpSeq_yield (S := Facts [.blk (B102) 38 (Pc p108), .blk (B101) 23 (Iv .u8 (keyOf TT)), .blk (GL) 23 (Kl ns), .rng 0 (Iv .u8 (keyOf bxN)), .rng 1 (Iv .u8 (keyOf byN))]) (show YieldsIf _ _ _ _ (RW r109) _ from yieldsIf_extract rfl _ _ rfl _ rfl _ rfl) hS ?_
        simp only [Act.put, List.setIfInBounds_toArray, List.set_cons_zero, List.set_cons_succ]
        refine wpSeq_yield (S := Facts [.blk (B102) 38 (Pc p108), .blk (B101) 23 (Iv .u8 (keyOf TT)), .blk (GL) 23 (Kl ns), .rng 0 (Iv .u8 (keyOf bxN)), .rng 1 (Iv .u8 (keyOf byN))]) (show YieldsIf _ _ _ _ (.bool true) _ from yieldsIf_extract rfl _ _ rfl _ rfl _ rfl) hS ?_
        simp only [Act.put, List.setIfInBounds_toArray, List.set_cons_zero, List.set_cons_succ]
        refine wpSeq_allocQ 42 zR rfl (fun W => by go_simp; rfl) ?_
        intro B103 C103 AB103 b mB103
        simp only [Act.put, List.setIfInBounds_toArray, List.set_cons_zero, List.set_cons_succ]
        have hb := b
        clear b
        refine wpSeq_store_row rfl 42 _ _ rfl (B103) (Rc r109) rfl rfl _ _ AB103 (info_Rc _) rfl Hr109.one ?_
        try simp only [Act.put, List.setIfInBounds_toArray, List.set_cons_zero, List.set_cons_succ]
        replace AB103 := AB103.row (Rc r109)
        replace hb := below_setRow hb mB103 (Rc r109)
        generalize hWn : World.setRow _ _ _ = Wn at *
        clear hWn
        replace mB103 := Nat.le_trans hB.size mB103
        replace hB := hB.trans (hb.mono hB.size)
        replace hS := hS.below hb
        replace Hr109 := Hr109.below hb
        clear hb
        replace hS : Facts [.blk (B103) 42 (Rc r109), .blk (B102) 38 (Pc p108), .blk (B101) 23 (Iv .u8 (keyOf TT)), .blk (GL) 23 (Kl ns), .rng 0 (Iv .u8 (keyOf bxN)), .rng 1 (Iv .u8 (keyOf byN))] _ := Facts.cons (f := .blk B103 42 (Rc r109)) AB103 hS
        clear AB103
        refine wpSeq_yield (S := Facts [.blk (B103) 42 (Rc r109), .blk (B102) 38 (Pc p108), .blk (B101) 23 (Iv .u8 (keyOf TT)), .blk (GL) 23 (Kl ns), .rng 0 (Iv .u8 (keyOf bxN)), .rng 1 (Iv .u8 (keyOf byN))]) (yieldsIf_assign rfl _ rfl (.bool true) rfl) hS ?_
        simp only [Act.put, List.setIfInBounds_toArray, List.set_cons_zero, List.set_cons_succ]
        refine wpSeq_nil ?_
        go_upto_region 11 with fail
        replace hS := hS.drew
        replace hB := below_drew hB
        replace Hr109 := Hr109.drew
        refine wp_region_S (S := Facts [.blk (B103) 42 (Rc r109), .blk (B102) 38 (Pc p108), .blk (B101) 23 (Iv .u8 (keyOf TT)), .blk (GL) 23 (Kl ns), .rng 0 (Iv .u8 (keyOf bxN)), .rng 1 (Iv .u8 (keyOf byN))]) (by kernel_rfl) ?_
        refine wpAnyS_takeL 0 rfl (by kernel_rfl) (by kernel_rfl) (by kernel_rfl) (fun _ _ _ h => h) (yieldsIf_move rfl _ rfl (.bool true) rfl) hS ?_
        simp only [Act.put, List.setIfInBounds_toArray, List.set_cons_zero, List.set_cons_succ]
        refine wpAnyS_takeL 1 rfl (by kernel_rfl) (by kernel_rfl) (by kernel_rfl) (fun _ _ _ h => h) (yieldsIf_move rfl _ rfl (.bool true) rfl) hS ?_
        simp only [Act.put, List.setIfInBounds_toArray, List.set_cons_zero, List.set_cons_succ]
        refine wpAnyS_takeL 2 rfl (by kernel_rfl) (by kernel_rfl) (by kernel_rfl) (fun _ _ _ h => h) (yieldsIf_neqb rfl _ _ rfl true true rfl rfl false rfl) hS ?_
        simp only [Act.put, List.setIfInBounds_toArray, List.set_cons_zero, List.set_cons_succ]
        refine wpAnyS_takeL 3 rfl (by kernel_rfl) (by kernel_rfl) (by kernel_rfl) (fun _ _ _ h => h) (yieldsIf_move rfl _ rfl (.bool false) rfl) hS ?_
        simp only [Act.put, List.setIfInBounds_toArray, List.set_cons_zero, List.set_cons_succ]
        refine wpAnyS_takeL 4 rfl (by kernel_rfl) (by kernel_rfl) (by kernel_rfl) (fun _ _ _ h => h) (yieldsIf_move rfl _ rfl (.bool true) rfl) hS ?_
        simp only [Act.put, List.setIfInBounds_toArray, List.set_cons_zero, List.set_cons_succ]
        refine wpAnyS_takeL 5 rfl (by kernel_rfl) (by kernel_rfl) (by kernel_rfl) (fun _ _ _ h => h) (yieldsIf_move rfl _ rfl (.bool true) rfl) hS ?_
        simp only [Act.put, List.setIfInBounds_toArray, List.set_cons_zero, List.set_cons_succ]
        refine wpAnyS_takeL 6 rfl (by kernel_rfl) (by kernel_rfl) (by kernel_rfl) (fun _ _ _ h => h) (show YieldsIf _ _ _ _ (PV p108) _ from yieldsIf_load rfl 38 _ rfl (B102) rfl 38 _ _ (.tail _ (.head _)) Tryd.underlying38 rfl (info_Pc _)) hS ?_
        simp only [Act.put, List.setIfInBounds_toArray, List.set_cons_zero, List.set_cons_succ]
        refine wpAnyS_takeL 8 rfl (by kernel_rfl) (by kernel_rfl) (by kernel_rfl) (fun _ _ _ h => h) (show YieldsIf _ _ _ _ (Key (keyOf TT)) _ from yieldsIf_load rfl 23 _ rfl (B101) rfl 23 _ _ (.tail _ (.tail _ (.head _))) Tryd.underlying23 rfl (info_key _ (keyOf_length _))) hS ?_
        simp only [Act.put, List.setIfInBounds_toArray, List.set_cons_zero, List.set_cons_succ]
        refine wpAnyS_one (i := 7) (by kernel_rfl) ?_
        unfold wpOp
        go_simp
        left
        refine (cenc p108 P ip108 TT HP.out.symm _).mono ?_
        rintro e v110 ⟨rfl, b⟩
        replace hB := hB.trans (b.mono hB.size)
        replace hS := hS.below b
        replace Hr109 := Hr109.below b
        clear b
        refine ⟨hS, ?_⟩
        refine wpAnyS_takeL 9 rfl (by kernel_rfl) (by kernel_rfl) (by kernel_rfl) (fun _ _ _ h => h) (yieldsIf_neqk rfl _ _ rfl TT TT rfl rfl false kTT kTT (by rw [decide_eq_true rfl]; rfl)) hS ?_
        simp only [Act.put, List.setIfInBounds_toArray, List.set_cons_zero, List.set_cons_succ]
        refine wpAnyS_takeL 10 rfl (by kernel_rfl) (by kernel_rfl) (by kernel_rfl) (fun _ _ _ h => h) (yieldsIf_move rfl _ rfl (.bool false) rfl) hS ?_
        simp only [Act.put, List.setIfInBounds_toArray, List.set_cons_zero, List.set_cons_succ]
        refine wpAnyS_takeL 11 rfl (by kernel_rfl) (by kernel_rfl) (by kernel_rfl) (fun _ _ _ h => h) (show YieldsIf _ _ _ _ (RW r109) _ from yieldsIf_load rfl 42 _ rfl (B103) rfl 42 _ _ (.head _) Tryd.underlying42 rfl (info_Rc _)) hS ?_
        simp only [Act.put, List.setIfInBounds_toArray, List.set_cons_zero, List.set_cons_succ]
        refine wpAnyS_takeL 13 rfl (by kernel_rfl) (by kernel_rfl) (by kernel_rfl) (fun _ _ _ h => h) (show YieldsIf _ _ _ _ (Key (keyOf TT)) _ from yieldsIf_load rfl 23 _ rfl (B101) rfl 23 _ _ (.tail _ (.tail _ (.head _))) Tryd.underlying23 rfl (info_key _ (keyOf_length _))) hS ?_
        simp only [Act.put, List.setIfInBounds_toArray, List.set_cons_zero, List.set_cons_succ]
        refine wpAnyS_one (i := 12) (by kernel_rfl) ?_
        unfold wpOp
        go_simp
        left
        refine (rtext_v r109 P TT _ Hr109 HP.out.symm).mono ?_
        rintro e v111 ⟨rfl, b⟩
        replace hB := hB.trans (b.mono hB.size)
        replace hS := hS.below b
        replace Hr109 := Hr109.below b
        clear b
        refine ⟨hS, ?_⟩
        refine wpAnyS_takeL 14 rfl (by kernel_rfl) (by kernel_rfl) (by kernel_rfl) (fun _ _ _ h => h) (yieldsIf_neqk rfl _ _ rfl TT TT rfl rfl false kTT kTT (by rw [decide_eq_true rfl]; rfl)) hS ?_
        simp only [Act.put, List.setIfInBounds_toArray, List.set_cons_zero, List.set_cons_succ]
        refine wpAnyS_takeL 15 rfl (by kernel_rfl) (by kernel_rfl) (by kernel_rfl) (fun _ _ _ h => h) (yieldsIf_pick rfl _ _ _ rfl false rfl _ rfl) hS ?_
        simp only [Act.put, List.setIfInBounds_toArray, List.set_cons_zero, List.set_cons_succ]
        refine wpAnyS_takeL 16 rfl (by kernel_rfl) (by kernel_rfl) (by kernel_rfl) (fun _ _ _ h => h) (yieldsIf_pick rfl _ _ _ rfl true rfl _ rfl) hS ?_
        simp only [Act.put, List.setIfInBounds_toArray, List.set_cons_zero, List.set_cons_succ]
        refine wpAnyS_takeL 17 rfl (by kernel_rfl) (by kernel_rfl) (by kernel_rfl) (fun _ _ _ h => h) (yieldsIf_pick rfl _ _ _ rfl false rfl _ rfl) hS ?_
        simp only [Act.put, List.setIfInBounds_toArray, List.set_cons_zero, List.set_cons_succ]
        refine wpAnyS_done (by kernel_rfl) ?_ _
        have hS9 : Facts [.blk (GL) 23 (Kl ns), .rng 0 (Iv .u8 (keyOf bxN)), .rng 1 (Iv .u8 (keyOf byN))] _ := Facts.cons (f := .blk GL 23 (Kl ns)) (hS.blkAt GL 23 (Kl ns) (.tail _ (.tail _ (.tail _ (.head _))))) (Facts.cons (f := .rng 0 (Iv .u8 (keyOf bxN))) (hS.rngAt _ _ (.tail _ (.tail _ (.tail _ (.tail _ (.head _)))))) (Facts.cons (f := .rng 1 (Iv .u8 (keyOf byN))) (hS.rngAt _ _ (.tail _ (.tail _ (.tail _ (.tail _ (.tail _ (.head _))))))) Facts.nil))
        clear hS
        go_wp2
        exact ⟨⟨j + 1, by omega, by go_num, hB, hS9⟩, by simp [intOf]; omega⟩
      · have HP := Lib.hid (show ∀ P : Pt dd, textN P ≠ TT from fun P e => hP ⟨P, e⟩)
        clear hP
        go_upto_region 8 with fail
        refine wp_region_seq ?_
        refine wpSeq_yield (S := Facts [.blk (GL) 23 (Kl ns), .rng 0 (Iv .u8 (keyOf bxN)), .rng 1 (Iv .u8 (keyOf byN))]) (v := (.pointer (some ⟨GL, j * 32, none⟩))) (Or.inl ⟨by rfl, ?_⟩) hS ?_
        · intro w' _
          go_simp
        simp only [Act.put, List.setIfInBounds_toArray, List.set_cons_zero, List.set_cons_succ]
        refine wpSeq_yield (S := Facts [.blk (GL) 23 (Kl ns), .rng 0 (Iv .u8 (keyOf bxN)), .rng 1 (Iv .u8 (keyOf byN))]) (show YieldsIf _ _ _ _ (Key (keyOf TT)) _ from yieldsIf_load_mid rfl 23 _ rfl GL (j * 32) rfl (Iv .u8 (keyOf TT)).toList _ (fun _ h => rangeKl (h.blkAt GL 23 (Kl ns) (.head _)) j TT HTT.out) Tryd.underlying23 rfl (info_keyL _)) hS ?_
        simp only [Act.put, List.setIfInBounds_toArray, List.set_cons_zero, List.set_cons_succ]
        refine wpSeq_allocQ 23 (Iv .u8 (List.replicate 32 0)) rfl (fun W => by go_simp; rfl) ?_
        intro B201 C201 AB201 b mB201
        simp only [Act.put, List.setIfInBounds_toArray, List.set_cons_zero, List.set_cons_succ]
        have hb := b
        clear b
        refine wpSeq_store_row rfl 23 _ _ rfl (B201) (Iv .u8 (keyOf TT)) rfl rfl _ _ AB201 (info_key _ (keyOf_length _)) (by rw [Iv_size, Iv_size, keyOf_length]; rfl) (Iv_one _ _) ?_
        try simp only [Act.put, List.setIfInBounds_toArray, List.set_cons_zero, List.set_cons_succ]
        replace AB201 := AB201.row (Iv .u8 (keyOf TT))
        replace hb := below_setRow hb mB201 (Iv .u8 (keyOf TT))
        generalize hWn : World.setRow _ _ _ = Wn at *
        clear hWn
        have eB201_0 := Nat.lt_of_lt_of_le (hS.blkAt (GL) 23 (Kl ns) (.head _)).lt mB201
        replace mB201 := Nat.le_trans hB.size mB201
        replace hB := hB.trans (hb.mono hB.size)
        replace hS := hS.below hb
        clear hb
        replace hS : Facts [.blk (B201) 23 (Iv .u8 (keyOf TT)), .blk (GL) 23 (Kl ns), .rng 0 (Iv .u8 (keyOf bxN)), .rng 1 (Iv .u8 (keyOf byN))] _ := Facts.cons (f := .blk B201 23 (Iv .u8 (keyOf TT))) AB201 hS
        clear AB201
        refine wpSeq_nil ?_
        go_upto_region 9 with fail
        refine wp_region_seq ?_
        refine wpSeq_yield (S := Facts [.blk (B201) 23 (Iv .u8 (keyOf TT)), .blk (GL) 23 (Kl ns), .rng 0 (Iv .u8 (keyOf bxN)), .rng 1 (Iv .u8 (keyOf byN))]) (show YieldsIf _ _ _ _ (Key (keyOf TT)) _ from yieldsIf_load rfl 23 _ rfl (B201) rfl 23 _ _ (.head _) Tryd.underlying23 rfl (info_key _ (keyOf_length _))) hS ?_
        simp only [Act.put, List.setIfInBounds_toArray, List.set_cons_zero, List.set_cons_succ]
        refine wpSeq_wp rfl ?_
        go_simp
        refine (cdec_none TT kTT HP.out _).mono ?_
        rintro e v208 ⟨rfl, b⟩
        replace hB := hB.trans (b.mono hB.size)
        replace hS := hS.below b
        clear b
        show wpSeq _ _ _ _ _ _
        refine wpSeq_yield (S := Facts [.blk (B201) 23 (Iv .u8 (keyOf TT)), .blk (GL) 23 (Kl ns), .rng 0 (Iv .u8 (keyOf bxN)), .rng 1 (Iv .u8 (keyOf byN))]) (yieldsIf_move rfl _ rfl (.tuple #[(PV p40), (.bool false)]) rfl) hS ?_
        simp only [Act.put, List.setIfInBounds_toArray, List.set_cons_zero, List.set_cons_succ]
        refine wpSeq_yield (S := Facts [.blk (B201) 23 (Iv .u8 (keyOf TT)), .blk (GL) 23 (Kl ns), .rng 0 (Iv .u8 (keyOf bxN)), .rng 1 (Iv .u8 (keyOf byN))]) (show YieldsIf _ _ _ _ (PV p40) _ from yieldsIf_extract rfl _ _ rfl _ rfl _ rfl) hS ?_
        simp only [Act.put, List.setIfInBounds_toArray, List.set_cons_zero, List.set_cons_succ]
        refine wpSeq_yield (S := Facts [.blk (B201) 23 (Iv .u8 (keyOf TT)), .blk (GL) 23 (Kl ns), .rng 0 (Iv .u8 (keyOf bxN)), .rng 1 (Iv .u8 (keyOf byN))]) (show YieldsIf _ _ _ _ (.bool false) _ from yieldsIf_extract rfl _ _ rfl _ rfl _ rfl) hS ?_
        simp only [Act.put, List.setIfInBounds_toArray, List.set_cons_zero, List.set_cons_succ]
        refine wpSeq_allocQ 38 (Pc p40) rfl (fun W => by go_simp; rfl) ?_
        intro B202 C202 AB202 b mB202
        simp only [Act.put, List.setIfInBounds_toArray, List.set_cons_zero, List.set_cons_succ]
        have hb := b
        clear b
        refine wpSeq_store_row rfl 38 _ _ rfl (B202) (Pc p40) rfl rfl _ _ AB202 (info_Pc _) (Pc_same _ _) (Pc_one _) ?_
        try simp only [Act.put, List.setIfInBounds_toArray, List.set_cons_zero, List.set_cons_succ]
        replace AB202 := AB202.row (Pc p40)
        replace hb := below_setRow hb mB202 (Pc p40)
        generalize hWn : World.setRow _ _ _ = Wn at *
        clear hWn
        replace mB202 := Nat.le_trans hB.size mB202
        replace hB := hB.trans (hb.mono hB.size)
        replace hS := hS.below hb
        clear hb
        replace hS : Facts [.blk (B202) 38 (Pc p40), .blk (B201) 23 (Iv .u8 (keyOf TT)), .blk (GL) 23 (Kl ns), .rng 0 (Iv .u8 (keyOf bxN)), .rng 1 (Iv .u8 (keyOf byN))] _ := Facts.cons (f := .blk B202 38 (Pc p40)) AB202 hS
        clear AB202
        refine wpSeq_yield (S := Facts [.blk (B202) 38 (Pc p40), .blk (B201) 23 (Iv .u8 (keyOf TT)), .blk (GL) 23 (Kl ns), .rng 0 (Iv .u8 (keyOf bxN)), .rng 1 (Iv .u8 (keyOf byN))]) (yieldsIf_assign rfl _ rfl (.bool false) rfl) hS ?_
        simp only [Act.put, List.setIfInBounds_toArray, List.set_cons_zero, List.set_cons_succ]
        refine wpSeq_nil ?_
        go_upto_region 10 with fail
        refine wp_region_seq ?_
        refine wpSeq_yield (S := Facts [.blk (B202) 38 (Pc p40), .blk (B201) 23 (Iv .u8 (keyOf TT)), .blk (GL) 23 (Kl ns), .rng 0 (Iv .u8 (keyOf bxN)), .rng 1 (Iv .u8 (keyOf byN))]) (show YieldsIf _ _ _ _ (Key (keyOf TT)) _ from yieldsIf_load rfl 23 _ rfl (B201) rfl 23 _ _ (.tail _ (.head _)) Tryd.underlying23 rfl (info_key _ (keyOf_length _))) hS ?_
        simp only [Act.put, List.setIfInBounds_toArray, List.set_cons_zero, List.set_cons_succ]
        refine wpSeq_wp rfl ?_
        go_simp
        refine (rread_none TT kTT HP.out _).mono ?_
        rintro e v209 ⟨rfl, b⟩
        replace hB := hB.trans (b.mono hB.size)
        replace hS := hS.below b
        clear b
        show wpSeq _ _ _ _ _ _
        refine wpSeq_yield (S := Facts [.blk (B202) 38 (Pc p40), .blk (B201) 23 (Iv .u8 (keyOf TT)), .blk (GL) 23 (Kl ns), .rng 0 (Iv .u8 (keyOf bxN)), .rng 1 (Iv .u8 (keyOf byN))]) (yieldsIf_move rfl _ rfl (.tuple #[(.agg zR), (.bool false)]) rfl) hS ?_
        simp only [Act.put, List.setIfInBounds_toArray, List.set_cons_zero, List.set_cons_succ]
        refine wpSeq_yield (S := Facts [.blk (B202) 38 (Pc p40), .blk (B201) 23 (Iv .u8 (keyOf TT)), .blk (GL) 23 (Kl ns), .rng 0 (Iv .u8 (keyOf bxN)), .rng 1 (Iv .u8 (keyOf byN))]) (show YieldsIf _ _ _ _ (.agg zR) _ from yieldsIf_extract rfl _ _ rfl _ rfl _ rfl) hS ?_
        simp only [Act.put, List.setIfInBounds_toArray, List.set_cons_zero, List.set_cons_succ]
        refine wpSeq_yield (S := Facts [.blk (B202) 38 (Pc p40), .blk (B201) 23 (Iv .u8 (keyOf TT)), .blk (GL) 23 (Kl ns), .rng 0 (Iv .u8 (keyOf bxN)), .rng 1 (Iv .u8 (keyOf byN))]) (show YieldsIf _ _ _ _ (.bool false) _ from yieldsIf_extract rfl _ _ rfl _ rfl _ rfl) hS ?_
        simp only [Act.put, List.setIfInBounds_toArray, List.set_cons_zero, List.set_cons_succ]
        refine wpSeq_allocQ 42 zR rfl (fun W => by go_simp; rfl) ?_
        intro B203 C203 AB203 b mB203
        simp only [Act.put, List.setIfInBounds_toArray, List.set_cons_zero, List.set_cons_succ]
        have hb := b
        clear b
        refine wpSeq_store_row rfl 42 _ _ rfl (B203) zR rfl rfl _ _ AB203 info_zR rfl zR_one ?_
        try simp only [Act.put, List.setIfInBounds_toArray, List.set_cons_zero, List.set_cons_succ]
        replace AB203 := AB203.row zR
        replace hb := below_setRow hb mB203 zR
        generalize hWn : World.setRow _ _ _ = Wn at *
        clear hWn
        replace mB203 := Nat.le_trans hB.size mB203
        replace hB := hB.trans (hb.mono hB.size)
        replace hS := hS.below hb
        clear hb
        replace hS : Facts [.blk (B203) 42 zR, .blk (B202) 38 (Pc p40), .blk (B201) 23 (Iv .u8 (keyOf TT)), .blk (GL) 23 (Kl ns), .rng 0 (Iv .u8 (keyOf bxN)), .rng 1 (Iv .u8 (keyOf byN))] _ := Facts.cons (f := .blk B203 42 zR) AB203 hS
        clear AB203
        refine wpSeq_yield (S := Facts [.blk (B203) 42 zR, .blk (B202) 38 (Pc p40), .blk (B201) 23 (Iv .u8 (keyOf TT)), .blk (GL) 23 (Kl ns), .rng 0 (Iv .u8 (keyOf bxN)), .rng 1 (Iv .u8 (keyOf byN))]) (yieldsIf_assign rfl _ rfl (.bool false) rfl) hS ?_
        simp only [Act.put, List.setIfInBounds_toArray, List.set_cons_zero, List.set_cons_succ]
        refine wpSeq_nil ?_
        go_upto_region 11 with fail
        replace hS := hS.drew
        replace hB := below_drew hB
        refine wp_region_S (S := Facts [.blk (B203) 42 zR, .blk (B202) 38 (Pc p40), .blk (B201) 23 (Iv .u8 (keyOf TT)), .blk (GL) 23 (Kl ns), .rng 0 (Iv .u8 (keyOf bxN)), .rng 1 (Iv .u8 (keyOf byN))]) (by kernel_rfl) ?_
        refine wpAnyS_takeL 0 rfl (by kernel_rfl) (by kernel_rfl) (by kernel_rfl) (fun _ _ _ h => h) (yieldsIf_move rfl _ rfl (.bool false) rfl) hS ?_
        simp only [Act.put, List.setIfInBounds_toArray, List.set_cons_zero, List.set_cons_succ]
        refine wpAnyS_takeL 1 rfl (by kernel_rfl) (by kernel_rfl) (by kernel_rfl) (fun _ _ _ h => h) (yieldsIf_move rfl _ rfl (.bool false) rfl) hS ?_
        simp only [Act.put, List.setIfInBounds_toArray, List.set_cons_zero, List.set_cons_succ]
        refine wpAnyS_takeL 2 rfl (by kernel_rfl) (by kernel_rfl) (by kernel_rfl) (fun _ _ _ h => h) (yieldsIf_neqb rfl _ _ rfl false false rfl rfl false rfl) hS ?_
        simp only [Act.put, List.setIfInBounds_toArray, List.set_cons_zero, List.set_cons_succ]
        refine wpAnyS_takeL 3 rfl (by kernel_rfl) (by kernel_rfl) (by kernel_rfl) (fun _ _ _ h => h) (yieldsIf_move rfl _ rfl (.bool false) rfl) hS ?_
        simp only [Act.put, List.setIfInBounds_toArray, List.set_cons_zero, List.set_cons_succ]
        refine wpAnyS_takeL 4 rfl (by kernel_rfl) (by kernel_rfl) (by kernel_rfl) (fun _ _ _ h => h) (yieldsIf_move rfl _ rfl (.bool false) rfl) hS ?_
        simp only [Act.put, List.setIfInBounds_toArray, List.set_cons_zero, List.set_cons_succ]
        refine wpAnyS_takeL 5 rfl (by kernel_rfl) (by kernel_rfl) (by kernel_rfl) (fun _ _ _ h => h) (yieldsIf_move rfl _ rfl (.bool false) rfl) hS ?_
        simp only [Act.put, List.setIfInBounds_toArray, List.set_cons_zero, List.set_cons_succ]
        refine wpAnyS_takeL 6 rfl (by kernel_rfl) (by kernel_rfl) (by kernel_rfl) (fun _ _ _ h => h) (yieldsIf_off rfl) hS ?_
        simp only [Act.put, List.setIfInBounds_toArray, List.set_cons_zero, List.set_cons_succ]
        refine wpAnyS_takeL 7 rfl (by kernel_rfl) (by kernel_rfl) (by kernel_rfl) (fun _ _ _ h => h) (yieldsIf_off rfl) hS ?_
        simp only [Act.put, List.setIfInBounds_toArray, List.set_cons_zero, List.set_cons_succ]
        refine wpAnyS_takeL 8 rfl (by kernel_rfl) (by kernel_rfl) (by kernel_rfl) (fun _ _ _ h => h) (yieldsIf_off rfl) hS ?_
        simp only [Act.put, List.setIfInBounds_toArray, List.set_cons_zero, List.set_cons_succ]
        refine wpAnyS_takeL 9 rfl (by kernel_rfl) (by kernel_rfl) (by kernel_rfl) (fun _ _ _ h => h) (yieldsIf_off rfl) hS ?_
        simp only [Act.put, List.setIfInBounds_toArray, List.set_cons_zero, List.set_cons_succ]
        refine wpAnyS_takeL 10 rfl (by kernel_rfl) (by kernel_rfl) (by kernel_rfl) (fun _ _ _ h => h) (yieldsIf_off rfl) hS ?_
        simp only [Act.put, List.setIfInBounds_toArray, List.set_cons_zero, List.set_cons_succ]
        refine wpAnyS_takeL 11 rfl (by kernel_rfl) (by kernel_rfl) (by kernel_rfl) (fun _ _ _ h => h) (yieldsIf_off rfl) hS ?_
        simp only [Act.put, List.setIfInBounds_toArray, List.set_cons_zero, List.set_cons_succ]
        refine wpAnyS_takeL 12 rfl (by kernel_rfl) (by kernel_rfl) (by kernel_rfl) (fun _ _ _ h => h) (yieldsIf_off rfl) hS ?_
        simp only [Act.put, List.setIfInBounds_toArray, List.set_cons_zero, List.set_cons_succ]
        refine wpAnyS_takeL 13 rfl (by kernel_rfl) (by kernel_rfl) (by kernel_rfl) (fun _ _ _ h => h) (yieldsIf_off rfl) hS ?_
        simp only [Act.put, List.setIfInBounds_toArray, List.set_cons_zero, List.set_cons_succ]
        refine wpAnyS_takeL 14 rfl (by kernel_rfl) (by kernel_rfl) (by kernel_rfl) (fun _ _ _ h => h) (yieldsIf_off rfl) hS ?_
        simp only [Act.put, List.setIfInBounds_toArray, List.set_cons_zero, List.set_cons_succ]
        refine wpAnyS_takeL 15 rfl (by kernel_rfl) (by kernel_rfl) (by kernel_rfl) (fun _ _ _ h => h) (yieldsIf_off rfl) hS ?_
        simp only [Act.put, List.setIfInBounds_toArray, List.set_cons_zero, List.set_cons_succ]
        refine wpAnyS_takeL 16 rfl (by kernel_rfl) (by kernel_rfl) (by kernel_rfl) (fun _ _ _ h => h) (yieldsIf_pick rfl _ _ _ rfl false rfl _ rfl) hS ?_
        simp only [Act.put, List.setIfInBounds_toArray, List.set_cons_zero, List.set_cons_succ]
        refine wpAnyS_takeL 17 rfl (by kernel_rfl) (by kernel_rfl) (by kernel_rfl) (fun _ _ _ h => h) (yieldsIf_pick rfl _ _ _ rfl false rfl _ rfl) hS ?_
        simp only [Act.put, List.setIfInBounds_toArray, List.set_cons_zero, List.set_cons_succ]
        refine wpAnyS_done (by kernel_rfl) ?_ _
        have hS9 : Facts [.blk (GL) 23 (Kl ns), .rng 0 (Iv .u8 (keyOf bxN)), .rng 1 (Iv .u8 (keyOf byN))] _ := Facts.cons (f := .blk GL 23 (Kl ns)) (hS.blkAt GL 23 (Kl ns) (.tail _ (.tail _ (.tail _ (.head _))))) (Facts.cons (f := .rng 0 (Iv .u8 (keyOf bxN))) (hS.rngAt _ _ (.tail _ (.tail _ (.tail _ (.tail _ (.head _)))))) (Facts.cons (f := .rng 1 (Iv .u8 (keyOf byN))) (hS.rngAt _ _ (.tail _ (.tail _ (.tail _ (.tail _ (.tail _ (.head _))))))) Facts.nil))
        clear hS
        go_wp2
        exact ⟨⟨j + 1, by omega, by go_num, hB, hS9⟩, by simp [intOf]; omega⟩
    · obtain rfl : j = 3 := by omega
      go_wp2
      exact bodyPost_ret (results_tmp rfl _ _ _) rfl ⟨rfl, hB⟩
set_option maxHeartbeats 8000000 in
set_option maxRecDepth 100000 in
theorem texts_f (NA sm : Nat) (kNA : NA < p256) (hsm : sm < 256) (w : World) (GX : Rng w 0 (Iv .u8 (keyOf bxN))) (GY : Rng w 1 (Iv .u8 (keyOf byN))) :
    Calls Tryd.prog 3 #[Key (keyOf NA), .int .u8 (sm : Int), .bool false] w fun e w' => e = .returned (.bool true) ∧ Below w.heap.size w w' := by
  have bGX := GX.blk
  have bGY := GY.blk
  have ipbase := pbase_is
  have ipzero := pzero_is
  obtain ⟨q, hq⟩ : ∃ q, q = sm % 8 := ⟨_, rfl⟩
  have hq8 : q < 8 := by omega
  have hq32 : q < 4294967296 := by omega
  have hm8 : ((sm : Nat) : Int).tmod 8 = (q : Int) := by
    rw [Int.tmod_eq_emod_of_nonneg (by omega)]
    omega
  have hw8 : IntKind.u32.wrap (q : Int) = (q : Int) := by rw [IntKind.wrap_u32]; omega
  obtain ⟨NR, hNR⟩ : ∃ n, n = lv (nearF q) 17 := ⟨_, rfl⟩
  have lNR : NR < 57896044618658097711785492504343953926634992332820282019728792003956564819968 := by rw [hNR]; exact near_lt q hq8
  have kNR : NR < p256 := by unfold p256; omega
  have HNR := Lib.hid hNR
  have HM8 := Lib.hid hm8
  have HW8 := Lib.hid hw8
  clear hq hm8 hw8 hNR
  unfold Key
  go_enter Tryd.func3, Tryd.ntmps3
  go_upto_region 1 with fail
  generalize hW : World.alloc w _ = W
  have hB : Below w.heap.size w W := hW ▸ (Below.refl w.heap.size w).alloc (Nat.le_refl _) _
  have K0 : Blk W (w.heap.size) 23 (Iv .u8 (keyOf NA)) := hW ▸ Blk.new' rfl _ _
  have hS : Facts [.blk (w.heap.size) 23 (Iv .u8 (keyOf NA)), .rng 0 (Iv .u8 (keyOf bxN)), .rng 1 (Iv .u8 (keyOf byN))] W := Facts.cons (f := .blk (w.heap.size) 23 (Iv .u8 (keyOf NA))) K0 (Facts.cons (f := .rng 0 (Iv .u8 (keyOf bxN))) (GX.below hB) (Facts.cons (f := .rng 1 (Iv .u8 (keyOf byN))) (GY.below hB) (Facts.nil)))
  clear hW K0
  refine wp_region_seq ?_
  refine wpSeq_wp rfl ?_
  go_simp
  refine (awake_any _ (hS.rngAt _ _ (.tail _ (.head _))) (hS.rngAt _ _ (.tail _ (.tail _ (.head _))))).mono ?_
  rintro e v1 ⟨rfl, b⟩
  replace hB := hB.trans (b.mono hB.size)
  replace hS := hS.below b
  clear b
  show wpSeq _ _ _ _ _ _
  refine wpSeq_yield (S := Facts [.blk (w.heap.size) 23 (Iv .u8 (keyOf NA)), .rng 0 (Iv .u8 (keyOf bxN)), .rng 1 (Iv .u8 (keyOf byN))]) (yieldsIf_not rfl _ _ rfl true rfl) hS ?_
  simp only [Act.put, List.setIfInBounds_toArray, List.set_cons_zero, List.set_cons_succ]
  refine wpSeq_nil ?_
  go_upto_region 3 with fail
  refine wp_region_seq ?_
  refine wpSeq_wp rfl ?_
  go_simp
  refine (p_any _).mono ?_
  rintro e v2 ⟨gs2, cs2, rfl, S2n, _, b⟩
  replace hB := hB.trans (b.mono hB.size)
  replace hS := hS.below b
  clear b
  have S2 := S2n
  clear S2n
  show wpSeq _ _ _ _ _ _
  refine wpSeq_wp rfl ?_
  go_simp
  refine (num_any 3 _ (by decide)).mono ?_
  rintro e v3 ⟨gs3, cs3, rfl, S3n, _, b⟩
  replace hB := hB.trans (b.mono hB.size)
  replace hS := hS.below b
  replace S2 := S2.below b
  clear b
  have S3 := S3n
  clear S3n
  show wpSeq _ _ _ _ _ _
  refine wpSeq_wp rfl ?_
  go_simp
  refine (minus_any gs2 16 cs2 gs3 2 cs3 _ _ _ S2 S3 (by decide)).mono ?_
  rintro e v4 ⟨gs4, cs4, rfl, S4n, _, b⟩
  replace hB := hB.trans (b.mono hB.size)
  replace hS := hS.below b
  replace S2 := S2.below b
  replace S3 := S3.below b
  clear b
  have S4 := S4n
  clear S4n
  show wpSeq _ _ _ _ _ _
  refine wpSeq_yield (S := Facts [.blk (w.heap.size) 23 (Iv .u8 (keyOf NA)), .rng 0 (Iv .u8 (keyOf bxN)), .rng 1 (Iv .u8 (keyOf byN))]) (yieldsIf_move rfl _ rfl (.int .u8 (sm : Int)) rfl) hS ?_
  simp only [Act.put, List.setIfInBounds_toArray, List.set_cons_zero, List.set_cons_succ]
  refine wpSeq_yield (S := Facts [.blk (w.heap.size) 23 (Iv .u8 (keyOf NA)), .rng 0 (Iv .u8 (keyOf bxN)), .rng 1 (Iv .u8 (keyOf byN))]) (v := (.int .u8 (q : Int))) (Or.inl ⟨by rfl, ?_⟩) hS ?_
  · intro w' _
    have c := HM8.out
    go_simp
  simp only [Act.put, List.setIfInBounds_toArray, List.set_cons_zero, List.set_cons_succ]
  refine wpSeq_yield (S := Facts [.blk (w.heap.size) 23 (Iv .u8 (keyOf NA)), .rng 0 (Iv .u8 (keyOf bxN)), .rng 1 (Iv .u8 (keyOf byN))]) (v := (.int .u32 (q : Int))) (Or.inl ⟨by rfl, ?_⟩) hS ?_
  · intro w' _
    have c := HW8.out
    go_simp
  simp only [Act.put, List.setIfInBounds_toArray, List.set_cons_zero, List.set_cons_succ]
  refine wpSeq_wp rfl ?_
  go_simp
  refine (num_any q _ hq32).mono ?_
  rintro e v5 ⟨gs5, cs5, rfl, S5n, _, b⟩
  replace hB := hB.trans (b.mono hB.size)
  replace hS := hS.below b
  replace S2 := S2.below b
  replace S3 := S3.below b
  replace S4 := S4.below b
  clear b
  have S5 := S5n
  clear S5n
  show wpSeq _ _ _ _ _ _
  refine wpSeq_wp rfl ?_
  go_simp
  refine (sum17_any gs4 cs4 gs5 cs5 _ _ _ S4 S5).mono ?_
  rintro e v6 ⟨gs6, cs6, rfl, S6n, _, b⟩
  replace hB := hB.trans (b.mono hB.size)
  replace hS := hS.below b
  replace S2 := S2.below b
  replace S3 := S3.below b
  replace S4 := S4.below b
  replace S5 := S5.below b
  clear b
  have S6 := S6n
  clear S6n
  show wpSeq _ _ _ _ _ _
  refine wpSeq_wp rfl ?_
  go_simp
  refine (near_key gs6 cs6 q NR _ HNR.out S6).mono ?_
  rintro e v7 ⟨rfl, b⟩
  replace hB := hB.trans (b.mono hB.size)
  replace hS := hS.below b
  replace S2 := S2.below b
  replace S3 := S3.below b
  replace S4 := S4.below b
  replace S5 := S5.below b
  replace S6 := S6.below b
  clear b
  show wpSeq _ _ _ _ _ _
  refine wpSeq_allocQ 23 (Iv .u8 (List.replicate 32 0)) rfl (fun W => by go_simp; rfl) ?_
  intro B1 C1 AB1 b mB1
  simp only [Act.put, List.setIfInBounds_toArray, List.set_cons_zero, List.set_cons_succ]
  have hb := b
  clear b
  refine wpSeq_store_row rfl 23 _ _ rfl (B1) (Iv .u8 (keyOf NR)) rfl rfl _ _ AB1 (info_key _ (keyOf_length _)) (by rw [Iv_size, Iv_size, keyOf_length]; rfl) (Iv_one _ _) ?_
  try simp only [Act.put, List.setIfInBounds_toArray, List.set_cons_zero, List.set_cons_succ]
  replace AB1 := AB1.row (Iv .u8 (keyOf NR))
  replace hb := below_setRow hb mB1 (Iv .u8 (keyOf NR))
  generalize hWn : World.setRow _ _ _ = Wn at *
  clear hWn
  have eB1_0 := Nat.lt_of_lt_of_le (hS.blkAt (w.heap.size) 23 (Iv .u8 (keyOf NA)) (.head _)).lt mB1
  replace mB1 := Nat.le_trans hB.size mB1
  replace hB := hB.trans (hb.mono hB.size)
  replace hS := hS.below hb
  replace S2 := S2.below hb
  replace S3 := S3.below hb
  replace S4 := S4.below hb
  replace S5 := S5.below hb
  replace S6 := S6.below hb
  clear hb
  replace hS : Facts [.blk (B1) 23 (Iv .u8 (keyOf NR)), .blk (w.heap.size) 23 (Iv .u8 (keyOf NA)), .rng 0 (Iv .u8 (keyOf bxN)), .rng 1 (Iv .u8 (keyOf byN))] _ := Facts.cons (f := .blk B1 23 (Iv .u8 (keyOf NR))) AB1 hS
  clear AB1
  refine wpSeq_nil ?_
  clear S2 S3 S4 S5 S6
  go_upto_region 4 with fail
  refine wp_region_seq ?_
  refine wpSeq_yield (S := Facts [.blk (B1) 23 (Iv .u8 (keyOf NR)), .blk (w.heap.size) 23 (Iv .u8 (keyOf NA)), .rng 0 (Iv .u8 (keyOf bxN)), .rng 1 (Iv .u8 (keyOf byN))]) (yieldsIf_move rfl _ rfl (.bool false) rfl) hS ?_
  simp only [Act.put, List.setIfInBounds_toArray, List.set_cons_zero, List.set_cons_succ]
  refine wpSeq_nil ?_
  go_upto_region 6 with fail
  refine wp_region_seq ?_
  refine wpSeq_yield (S := Facts [.blk (B1) 23 (Iv .u8 (keyOf NR)), .blk (w.heap.size) 23 (Iv .u8 (keyOf NA)), .rng 0 (Iv .u8 (keyOf bxN)), .rng 1 (Iv .u8 (keyOf byN))]) (show YieldsIf _ _ _ _ (Key (keyOf NA)) _ from yieldsIf_load rfl 23 _ rfl (w.heap.size) rfl 23 _ _ (.tail _ (.head _)) Tryd.underlying23 rfl (info_key _ (keyOf_length _))) hS ?_
  simp only [Act.put, List.setIfInBounds_toArray, List.set_cons_zero, List.set_cons_succ]
  refine wpSeq_yield (S := Facts [.blk (B1) 23 (Iv .u8 (keyOf NR)), .blk (w.heap.size) 23 (Iv .u8 (keyOf NA)), .rng 0 (Iv .u8 (keyOf bxN)), .rng 1 (Iv .u8 (keyOf byN))]) (show YieldsIf _ _ _ _ (Key (keyOf NR)) _ from yieldsIf_load rfl 23 _ rfl (B1) rfl 23 _ _ (.head _) Tryd.underlying23 rfl (info_key _ (keyOf_length _))) hS ?_
  simp only [Act.put, List.setIfInBounds_toArray, List.set_cons_zero, List.set_cons_succ]
  refine wpSeq_yield (S := Facts [.blk (B1) 23 (Iv .u8 (keyOf NR)), .blk (w.heap.size) 23 (Iv .u8 (keyOf NA)), .rng 0 (Iv .u8 (keyOf bxN)), .rng 1 (Iv .u8 (keyOf byN))]) (yieldsIf_move rfl _ rfl (.int .u8 (sm : Int)) rfl) hS ?_
  simp only [Act.put, List.setIfInBounds_toArray, List.set_cons_zero, List.set_cons_succ]
  refine wpSeq_yield (S := Facts [.blk (B1) 23 (Iv .u8 (keyOf NR)), .blk (w.heap.size) 23 (Iv .u8 (keyOf NA)), .rng 0 (Iv .u8 (keyOf bxN)), .rng 1 (Iv .u8 (keyOf byN))]) (yieldsIf_keyv sm hsm rfl _ rfl rfl) hS ?_
  simp only [Act.put, List.setIfInBounds_toArray, List.set_cons_zero, List.set_cons_succ]
  refine wpSeq_keys rfl 3 _ rfl [NA, NR, sm] (keys3 rfl rfl rfl) rfl (by decide) (by decide) ?_
  intro GL CL AL b mL
  simp only [Act.put, List.setIfInBounds_toArray, List.set_cons_zero, List.set_cons_succ]
  replace mL := Nat.le_trans hB.size mL
  replace hB := hB.trans (b.mono hB.size)
  replace hS := hS.below b
  clear b
  replace hS : Facts [.blk (GL) 23 (Kl [NA, NR, sm]), .blk (B1) 23 (Iv .u8 (keyOf NR)), .blk (w.heap.size) 23 (Iv .u8 (keyOf NA)), .rng 0 (Iv .u8 (keyOf bxN)), .rng 1 (Iv .u8 (keyOf byN))] _ := Facts.cons (f := .blk GL 23 (Kl [NA, NR, sm])) AL hS
  clear AL
  refine wpSeq_yield (S := Facts [.blk (GL) 23 (Kl [NA, NR, sm]), .blk (B1) 23 (Iv .u8 (keyOf NR)), .blk (w.heap.size) 23 (Iv .u8 (keyOf NA)), .rng 0 (Iv .u8 (keyOf bxN)), .rng 1 (Iv .u8 (keyOf byN))]) (v := (.int .i64 3)) (Or.inl ⟨by rfl, ?_⟩) hS ?_
  · intro w' _
    go_simp
  simp only [Act.put, List.setIfInBounds_toArray, List.set_cons_zero, List.set_cons_succ]
  refine wpSeq_yield (S := Facts [.blk (GL) 23 (Kl [NA, NR, sm]), .blk (B1) 23 (Iv .u8 (keyOf NR)), .blk (w.heap.size) 23 (Iv .u8 (keyOf NA)), .rng 0 (Iv .u8 (keyOf bxN)), .rng 1 (Iv .u8 (keyOf byN))]) (yieldsIf_move rfl _ rfl (.int .i64 0) rfl) hS ?_
  simp only [Act.put, List.setIfInBounds_toArray, List.set_cons_zero, List.set_cons_succ]
  refine wpSeq_nil ?_
  have hall : ∀ n ∈ [NA, NR, sm], n < p256 := fun n hn => by
    rcases List.mem_cons.1 hn with rfl | hn
    · exact kNA
    · rcases List.mem_cons.1 hn with rfl | hn
      · exact kNR
      · rw [List.mem_singleton.1 hn]; exact Nat.lt_trans hsm (by decide)
  have hlen : ([NA, NR, sm]).length = 3 := rfl
  have hS9 : Facts [.blk (GL) 23 (Kl [NA, NR, sm]), .rng 0 (Iv .u8 (keyOf bxN)), .rng 1 (Iv .u8 (keyOf byN))] _ := Facts.cons (f := .blk GL 23 (Kl [NA, NR, sm])) (hS.blkAt GL 23 (Kl [NA, NR, sm]) (.head _)) (Facts.cons (f := .rng 0 (Iv .u8 (keyOf bxN))) (hS.rngAt _ _ (.tail _ (.tail _ (.tail _ (.head _))))) (Facts.cons (f := .rng 1 (Iv .u8 (keyOf byN))) (hS.rngAt _ _ (.tail _ (.tail _ (.tail _ (.tail _ (.head _)))))) Facts.nil))
  replace hS := hS9
  clear hS9
  generalize [NA, NR, sm] = ns at *
  go_wp2_with fail
  go_loopw [36] (fun i wr => ∃ j : Nat, j ≤ 3 ∧ i = .int .i64 j ∧ Below w.heap.size w wr ∧ Facts [.blk (GL) 23 (Kl ns), .rng 0 (Iv .u8 (keyOf bxN)), .rng 1 (Iv .u8 (keyOf byN))] wr) (fun i _ => 3 - (intOf i).toNat)
  case atStart => exact ⟨0, by omega, rfl, hB, hS⟩
  case round =>
    clear hS hB
    obtain ⟨j, hj, rfl, hB, hS⟩ := hrel
    by_cases hlt : j < 3
    · have i1 : (0 : Int) ≤ (j : Int) := by omega
      have i2 : (j : Int) < 3 := by omega
      have i3 : (j : Int).toNat = j := by omega
      obtain ⟨TT, hT⟩ : ∃ t, ns[j]? = some t := ⟨_, List.getElem?_eq_getElem (by omega)⟩
      have kTT := hall TT (List.mem_of_getElem? hT)
      have HTT := Lib.hid hT
      clear hT
      by_cases hP : ∃ P : Pt dd, textN P = TT
      · obtain ⟨P, hP⟩ := hP
        have HP := Lib.hid hP
        clear hP
        go_upto_region 8 with fail
        refine wp_region_seq ?_
        refine wpSeq_yield (S := Facts [.blk (GL) 23 (Kl ns), .rng 0 (Iv .u8 (keyOf bxN)), .rng 1 (Iv .u8 (keyOf byN))]) (v := (.pointer (some ⟨GL, j * 32, none⟩))) (Or.inl ⟨by rfl, ?_⟩) hS ?_
        · intro w' _
          go_simp
        simp only [Act.put, List.setIfInBounds_toArray, List.set_cons_zero, List.set_cons_succ]
        refine wpSeq_yield (S := Facts [.blk (GL) 23 (Kl ns), .rng 0 (Iv .u8 (keyOf bxN)), .rng 1 (Iv .u8 (keyOf byN))]) (show YieldsIf _ _ _ _ (Key (keyOf TT)) _ from yieldsIf_load_mid rfl 23 _ rfl GL (j * 32) rfl (Iv .u8 (keyOf TT)).toList _ (fun _ h => rangeKl (h.blkAt GL 23 (Kl ns) (.head _)) j TT HTT.out) Tryd.underlying23 rfl (info_keyL _)) hS ?_
        simp only [Act.put, List.setIfInBounds_toArray, List.set_cons_zero, List.set_cons_succ]
        refine wpSeq_allocQ 23 (Iv .u8 (List.replicate 32 0)) rfl (fun W => by go_simp; rfl) ?_
        intro B101 C101 AB101 b mB101
        simp only [Act.put, List.setIfInBounds_toArray, List.set_cons_zero, List.set_cons_succ]
        have hb := b
        clear b
        refine wpSeq_store_row rfl 23 _ _ rfl (B101) (Iv .u8 (keyOf TT)) rfl rfl _ _ AB101 (info_key _ (keyOf_length _)) (by rw [Iv_size, Iv_size, keyOf_length]; rfl) (Iv_one _ _) ?_
        try simp only [Act.put, List.setIfInBounds_toArray, List.set_cons_zero, List.set_cons_succ]
        replace AB101 := AB101.row (Iv .u8 (keyOf TT))
        replace hb := below_setRow hb mB101 (Iv .u8 (keyOf TT))
        generalize hWn : World.setRow _ _ _ = Wn at *
        clear hWn
        have eB101_0 := Nat.lt_of_lt_of_le (hS.blkAt (GL) 23 (Kl ns) (.head _)).lt mB101
        replace mB101 := Nat.le_trans hB.size mB101
        replace hB := hB.trans (hb.mono hB.size)
        replace hS := hS.below hb
        clear hb
        replace hS : Facts [.blk (B101) 23 (Iv .u8 (keyOf TT)), .blk (GL) 23 (Kl ns), .rng 0 (Iv .u8 (keyOf bxN)), .rng 1 (Iv .u8 (keyOf byN))] _ := Facts.cons (f := .blk B101 23 (Iv .u8 (keyOf TT))) AB101 hS
        clear AB101
        refine wpSeq_nil ?_
        go_upto_region 9 with fail
        refine wp_region_seq ?_
        refine wpSeq_yield (S := Facts [.blk (B101) 23 (Iv .u8 (keyOf TT)), .blk (GL) 23 (Kl ns), .rng 0 (Iv .u8 (keyOf bxN)), .rng 1 (Iv .u8 (keyOf byN))]) (show YieldsIf _ _ _ _ (Key (keyOf TT)) _ from yieldsIf_load rfl 23 _ rfl (B101) rfl 23 _ _ (.head _) Tryd.underlying23 rfl (info_key _ (keyOf_length _))) hS ?_
        simp only [Act.put, List.setIfInBounds_toArray, List.set_cons_zero, List.set_cons_succ]
        refine wpSeq_wp rfl ?_
        go_simp
        refine (cdec_some TT kTT P HP.out _).mono ?_
        rintro e v108 ⟨p108, rfl, ip108, b⟩
        replace hB := hB.trans (b.mono hB.size)
        replace hS := hS.below b
        clear b
        show wpSeq _ _ _ _ _ _
        refine wpSeq_yield (S := Facts [.blk (B101) 23 (Iv .u8 (keyOf TT)), .blk (GL) 23 (Kl ns), .rng 0 (Iv .u8 (keyOf bxN)), .rng 1 (Iv .u8 (keyOf byN))]) (yieldsIf_move rfl _ rfl (.tuple #[(PV p108), (.bool true)]) rfl) hS ?_
        simp only [Act.put, List.setIfInBounds_toArray, List.set_cons_zero, List.set_cons_succ]
        refine wpSeq_yield (S := Facts [.blk (B101) 23 (Iv .u8 (keyOf TT)), .blk (GL) 23 (Kl ns), .rng 0 (Iv .u8 (keyOf bxN)), .rng 1 (Iv .u8 (keyOf byN))]) (show YieldsIf _ _ _ _ (PV p108) _ from yieldsIf_extract rfl _ _ rfl _ rfl _ rfl) hS ?_
        simp only [Act.put, List.setIfInBounds_toArray, List.set_cons_zero, List.set_cons_succ]
        refine wpSeq_yield (S := Facts [.blk (B101) 23 (Iv .u8 (keyOf TT)), .blk (GL) 23 (Kl ns), .rng 0 (Iv .u8 (keyOf bxN)), .rng 1 (Iv .u8 (keyOf byN))]) (show YieldsIf _ _ _ _ (.bool true) _ from yieldsIf_extract rfl _ _ rfl _ rfl _ rfl) hS ?_
        simp only [Act.put, List.setIfInBounds_toArray, List.set_cons_zero, List.set_cons_succ]
        refine wpSeq_allocQ 38 (Pc p40) rfl (fun W => by go_simp; rfl) ?_
        intro B102 C102 AB102 b mB102
        simp only [Act.put, List.setIfInBounds_toArray, List.set_cons_zero, List.set_cons_succ]
        have hb := b
        clear b
        refine wpSeq_store_row rfl 38 _ _ rfl (B102) (Pc p108) rfl rfl _ _ AB102 (info_Pc _) (Pc_same _ _) (Pc_one _) ?_
        try simp only [Act.put, List.setIfInBounds_toArray, List.set_cons_zero, List.set_cons_succ]
        replace AB102 := AB102.row (Pc p108)
        replace hb := below_setRow hb mB102 (Pc p108)
        generalize hWn : World.setRow _ _ _ = Wn at *
        clear hWn
        replace mB102 := Nat.le_trans hB.size mB102
        replace hB := hB.trans (hb.mono hB.size)
        replace hS := hS.below hb
        clear hb
        replace hS : Facts [.blk (B102) 38 (Pc p108), .blk (B101) 23 (Iv .u8 (keyOf TT)), .blk (GL) 23 (Kl ns), .rng 0 (Iv .u8 (keyOf bxN)), .rng 1 (Iv .u8 (keyOf byN))] _ := Facts.cons (f := .blk B102 38 (Pc p108)) AB102 hS
        clear AB102
        refine wpSeq_yield (S := Facts [.blk (B102) 38 (Pc p108), .blk (B101) 23 (Iv .u8 (keyOf TT)), .blk (GL) 23 (Kl ns), .rng 0 (Iv .u8 (keyOf bxN)), .rng 1 (Iv .u8 (keyOf byN))]) (yieldsIf_assign rfl _ rfl (.bool true) rfl) hS ?_
        simp only [Act.put, List.setIfInBounds_toArray, List.set_cons_zero, List.set_cons_succ]
        refine wpSeq_nil ?_
        go_upto_region 10 with fail
        refine wp_region_seq ?_
        refine wpSeq_yield (S := Facts [.blk (B102) 38 (Pc p108), .blk (B101) 23 (Iv .u8 (keyOf TT)), .blk (GL) 23 (Kl ns), .rng 0 (Iv .u8 (keyOf bxN)), .rng 1 (Iv .u8 (keyOf byN))]) (show YieldsIf _ _ _ _ (Key (keyOf TT)) _ from yieldsIf_load rfl 23 _ rfl (B101) rfl 23 _ _ (.tail _ (.head _)) Tryd.underlying23 rfl (info_key _ (keyOf_length _))) hS ?_
        simp only [Act.put, List.setIfInBounds_toArray, List.set_cons_zero, List.set_cons_succ]
        refine wpSeq_wp rfl ?_
        go_simp
        refine (rread_some TT kTT P HP.out _).mono ?_
        rintro e v109 ⟨r109, rfl, Hr109n, b⟩
        replace hB := hB.trans (b.mono hB.size)
        replace hS := hS.below b
        clear b
        have Hr109 := Hr109n
        clear Hr109n
        show wpSeq _ _ _ _ _ _
        refine wpSeq_yield (S := Facts [.blk (B102) 38 (Pc p108), .blk (B101) 23 (Iv .u8 (keyOf TT)), .blk (GL) 23 (Kl ns), .rng 0 (Iv .u8 (keyOf bxN)), .rng 1 (Iv .u8 (keyOf byN))]) (yieldsIf_move rfl _ rfl (.tuple #[(RW r109), (.bool true)]) rfl) hS ?_
        simp only [Act.put, List.setIfInBounds_toArray, List.set_cons_zero, List.set_cons_succ]
        refine wpSeq_yield (S := Facts [.blk (B102) 38 (Pc p108), .blk (B101) 23 (Iv .u8 (keyOf TT)), .blk (GL) 23 (Kl ns), .rng 0 (Iv .u8 (keyOf bxN)), .rng 1 (Iv .u8 (keyOf byN))]) (show YieldsIf _ _ _ _ (RW r109) _ from yieldsIf_extract rfl _ _ rfl _ rfl _ rfl) hS ?_
        simp only [Act.put, List.setIfInBounds_toArray, List.set_cons_zero, List.set_cons_succ]
        refine wpSeq_yield (S := Facts [.blk (B102) 38 (Pc p108), .blk (B101) 23 (Iv .u8 (keyOf TT)), .blk (GL) 23 (Kl ns), .rng 0 (Iv .u8 (keyOf bxN)), .rng 1 (Iv .u8 (keyOf byN))]) (show YieldsIf _ _ _ _ (.bool true) _ from yieldsIf_extract rfl _ _ rfl _ rfl _ rfl) hS ?_
        simp only [Act.put, List.setIfInBounds_toArray, List.set_cons_zero, List.set_cons_succ]
        refine wpSeq_allocQ 42 zR rfl (fun W => by go_simp; rfl) ?_
        intro B103 C103 AB103 b mB103
        simp only [Act.put, List.setIfInBounds_toArray, List.set_cons_zero, List.set_cons_succ]
        have hb := b
        clear b
        refine wpSeq_store_row rfl 42 _ _ rfl (B103) (Rc r109) rfl rfl _ _ AB103 (info_Rc _) rfl Hr109.one ?_
        try simp only [Act.put, List.setIfInBounds_toArray, List.set_cons_zero, List.set_cons_succ]
        replace AB103 := AB103.row (Rc r109)
        replace hb := below_setRow hb mB103 (Rc r109)
        generalize hWn : World.setRow _ _ _ = Wn at *
        clear hWn
        replace mB103 := Nat.le_trans hB.size mB103
        replace hB := hB.trans (hb.mono hB.size)
        replace hS := hS.below hb
        replace Hr109 := Hr109.below hb
        clear hb
        replace hS : Facts [.blk (B103) 42 (Rc r109), .blk (B102) 38 (Pc p108), .blk (B101) 23 (Iv .u8 (keyOf TT)), .blk (GL) 23 (Kl ns), .rng 0 (Iv .u8 (keyOf bxN)), .rng 1 (Iv .u8 (keyOf byN))] _ := Facts.cons (f := .blk B103 42 (Rc r109)) AB103 hS
        clear AB103
        refine wpSeq_yield (S := Facts [.blk (B103) 42 (Rc r109), .blk (B102) 38 (Pc p108), .blk (B101) 23 (Iv .u8 (keyOf TT)), .blk (GL) 23 (Kl ns), .rng 0 (Iv .u8 (keyOf bxN)), .rng 1 (Iv .u8 (keyOf byN))]) (yieldsIf_assign rfl _ rfl (.bool true) rfl) hS ?_
        simp only [Act.put, List.setIfInBounds_toArray, List.set_cons_zero, List.set_cons_succ]
        refine wpSeq_nil ?_
        go_upto_region 11 with fail
        replace hS := hS.drew
        replace hB := below_drew hB
        replace Hr109 := Hr109.drew
        refine wp_region_S (S := Facts [.blk (B103) 42 (Rc r109), .blk (B102) 38 (Pc p108), .blk (B101) 23 (Iv .u8 (keyOf TT)), .blk (GL) 23 (Kl ns), .rng 0 (Iv .u8 (keyOf bxN)), .rng 1 (Iv .u8 (keyOf byN))]) (by kernel_rfl) ?_
        refine wpAnyS_takeL 0 rfl (by kernel_rfl) (by kernel_rfl) (by kernel_rfl) (fun _ _ _ h => h) (yieldsIf_move rfl _ rfl (.bool true) rfl) hS ?_
        simp only [Act.put, List.setIfInBounds_toArray, List.set_cons_zero, List.set_cons_succ]
        refine wpAnyS_takeL 1 rfl (by kernel_rfl) (by kernel_rfl) (by kernel_rfl) (fun _ _ _ h => h) (yieldsIf_move rfl _ rfl (.bool true) rfl) hS ?_
        simp only [Act.put, List.setIfInBounds_toArray, List.set_cons_zero, List.set_cons_succ]
        refine wpAnyS_takeL 2 rfl (by kernel_rfl) (by kernel_rfl) (by kernel_rfl) (fun _ _ _ h => h) (yieldsIf_neqb rfl _ _ rfl true true rfl rfl false rfl) hS ?_
        simp only [Act.put, List.setIfInBounds_toArray, List.set_cons_zero, List.set_cons_succ]
        refine wpAnyS_takeL 3 rfl (by kernel_rfl) (by kernel_rfl) (by kernel_rfl) (fun _ _ _ h => h) (yieldsIf_move rfl _ rfl (.bool false) rfl) hS ?_
        simp only [Act.put, List.setIfInBounds_toArray, List.set_cons_zero, List.set_cons_succ]
        refine wpAnyS_takeL 4 rfl (by kernel_rfl) (by kernel_rfl) (by kernel_rfl) (fun _ _ _ h => h) (yieldsIf_move rfl _ rfl (.bool true) rfl) hS ?_
        simp only [Act.put, List.setIfInBounds_toArray, List.set_cons_zero, List.set_cons_succ]
        refine wpAnyS_takeL 5 rfl (by kernel_rfl) (by kernel_rfl) (by kernel_rfl) (fun _ _ _ h => h) (yieldsIf_move rfl _ rfl (.bool true) rfl) hS ?_
        simp only [Act.put, List.setIfInBounds_toArray, List.set_cons_zero, List.set_cons_succ]
        refine wpAnyS_takeL 6 rfl (by kernel_rfl) (by kernel_rfl) (by kernel_rfl) (fun _ _ _ h => h) (show YieldsIf _ _ _ _ (PV p108) _ from yieldsIf_load rfl 38 _ rfl (B102) rfl 38 _ _ (.tail _ (.head _)) Tryd.underlying38 rfl (info_Pc _)) hS ?_
        simp only [Act.put, List.setIfInBounds_toArray, List.set_cons_zero, List.set_cons_succ]
        refine wpAnyS_takeL 8 rfl (by kernel_rfl) (by kernel_rfl) (by kernel_rfl) (fun _ _ _ h => h) (show YieldsIf _ _ _ _ (Key (keyOf TT)) _ from yieldsIf_load rfl 23 _ rfl (B101) rfl 23 _ _ (.tail _ (.tail _ (.head _))) Tryd.underlying23 rfl (info_key _ (keyOf_length _))) hS ?_
        simp only [Act.put, List.setIfInBounds_toArray, List.set_cons_zero, List.set_cons_succ]
        refine wpAnyS_one (i := 7) (by kernel_rfl) ?_
        unfold wpOp
        go_simp
        left
        refine (cenc p108 P ip108 TT HP.out.symm _).mono ?_
        rintro e v110 ⟨rfl, b⟩
        replace hB := hB.trans (b.mono hB.size)
        replace hS := hS.below b
        replace Hr109 := Hr109.below b
        clear b
        refine ⟨hS, ?_⟩
        refine wpAnyS_takeL 9 rfl (by kernel_rfl) (by kernel_rfl) (by kernel_rfl) (fun _ _ _ h => h) (yieldsIf_neqk rfl _ _ rfl TT TT rfl rfl false kTT kTT (by rw [decide_eq_true rfl]; rfl)) hS ?_
        simp only [Act.put, List.setIfInBounds_toArray, List.set_cons_zero, List.set_cons_succ]
        refine wpAnyS_takeL 10 rfl (by kernel_rfl) (by kernel_rfl) (by kernel_rfl) (fun _ _ _ h => h) (yieldsIf_move rfl _ rfl (.bool false) rfl) hS ?_
        simp only [Act.put, List.setIfInBounds_toArray, List.set_cons_zero, List.set_cons_succ]
        refine wpAnyS_takeL 11 rfl (by kernel_rfl) (by kernel_rfl) (by kernel_rfl) (fun _ _ _ h => h) (show YieldsIf _ _ _ _ (RW r109) _ from yieldsIf_load rfl 42 _ rfl (B103) rfl 42 _ _ (.head _) Tryd.underlying42 rfl (info_Rc _)) hS ?_
        simp only [Act.put, List.setIfInBounds_toArray, List.set_cons_zero, List.set_cons_succ]
        refine wpAnyS_takeL 13 rfl (by kernel_rfl) (by kernel_rfl) (by kernel_rfl) (fun _ _ _ h => h) (show YieldsIf _ _ _ _ (Key (keyOf TT)) _ from yieldsIf_load rfl 23 _ rfl (B101) rfl 23 _ _ (.tail _ (.tail _ (.head _))) Tryd.underlying23 rfl (info_key _ (keyOf_length _))) hS ?_
        simp only [Act.put, List.setIfInBounds_toArray, List.set_cons_zero, List.set_cons_succ]
        refine wpAnyS_one (i := 12) (by kernel_rfl) ?_
        unfold wpOp
        go_simp
        left
        refine (rtext_v r109 P TT _ Hr109 HP.out.symm).mono ?_
        rintro e v111 ⟨rfl, b⟩
        replace hB := hB.trans (b.mono hB.size)
        replace hS := hS.below b
        replace Hr109 := Hr109.below b
        clear b
        refine ⟨hS, ?_⟩
        refine wpAnyS_takeL 14 rfl (by kernel_rfl) (by kernel_rfl) (by kernel_rfl) (fun _ _ _ h => h) (yieldsIf_neqk rfl _ _ rfl TT TT rfl rfl false kTT kTT (by rw [decide_eq_true rfl]; rfl)) hS ?_
        simp only [Act.put, List.setIfInBounds_toArray, List.set_cons_zero, List.set_cons_succ]
        refine wpAnyS_takeL 15 rfl (by kernel_rfl) (by kernel_rfl) (by kernel_rfl) (fun _ _ _ h => h) (yieldsIf_pick rfl _ _ _ rfl false rfl _ rfl) hS ?_
        simp only [Act.put, List.setIfInBounds_toArray, List.set_cons_zero, List.set_cons_succ]
        refine wpAnyS_takeL 16 rfl (by kernel_rfl) (by kernel_rfl) (by kernel_rfl) (fun _ _ _ h => h) (yieldsIf_pick rfl _ _ _ rfl true rfl _ rfl) hS ?_
        simp only [Act.put, List.setIfInBounds_toArray, List.set_cons_zero, List.set_cons_succ]
        refine wpAnyS_takeL 17 rfl (by kernel_rfl) (by kernel_rfl) (by kernel_rfl) (fun _ _ _ h => h) (yieldsIf_pick rfl _ _ _ rfl false rfl _ rfl) hS ?_
        simp only [Act.put, List.setIfInBounds_toArray, List.set_cons_zero, List.set_cons_succ]
        refine wpAnyS_done (by kernel_rfl) ?_ _
        have hS9 : Facts [.blk (GL) 23 (Kl ns), .rng 0 (Iv .u8 (keyOf bxN)), .rng 1 (Iv .u8 (keyOf byN))] _ := Facts.cons (f := .blk GL 23 (Kl ns)) (hS.blkAt GL 23 (Kl ns) (.tail _ (.tail _ (.tail _ (.head _))))) (Facts.cons (f := .rng 0 (Iv .u8 (keyOf bxN))) (hS.rngAt _ _ (.tail _ (.tail _ (.tail _ (.tail _ (.head _)))))) (Facts.cons (f := .rng 1 (Iv .u8 (keyOf byN))) (hS.rngAt _ _ (.tail _ (.tail _ (.tail _ (.tail _ (.tail _ (.head _))))))) Facts.nil))
        clear hS
        go_wp2
        exact ⟨⟨j + 1, by omega, by go_num, hB, hS9⟩, by simp [intOf]; omega⟩
      · have HP := Lib.hid (show ∀ P : Pt dd, textN P ≠ TT from fun P e => hP ⟨P, e⟩)
        clear hP
        go_upto_region 8 with fail
        refine wp_region_seq ?_
        refine wpSeq_yield (S := Facts [.blk (GL) 23 (Kl ns), .rng 0 (Iv .u8 (keyOf bxN)), .rng 1 (Iv .u8 (keyOf byN))]) (v := (.pointer (some ⟨GL, j * 32, none⟩))) (Or.inl ⟨by rfl, ?_⟩) hS ?_
        · intro w' _
          go_simp
        simp only [Act.put, List.setIfInBounds_toArray, List.set_cons_zero, List.set_cons_succ]
        refine wpSeq_yield (S := Facts [.blk (GL) 23 (Kl ns), .rng 0 (Iv .u8 (keyOf bxN)), .rng 1 (Iv .u8 (keyOf byN))]) (show YieldsIf _ _ _ _ (Key (keyOf TT)) _ from yieldsIf_load_mid rfl 23 _ rfl GL (j * 32) rfl (Iv .u8 (keyOf TT)).toList _ (fun _ h => rangeKl (h.blkAt GL 23 (Kl ns) (.head _)) j TT HTT.out) Tryd.underlying23 rfl (info_keyL _)) hS ?_
        simp only [Act.put, List.setIfInBounds_toArray, List.set_cons_zero, List.set_cons_succ]
        refine wpSeq_allocQ 23 (Iv .u8 (List.replicate 32 0)) rfl (fun W => by go_simp; rfl) ?_
        intro B201 C201 AB201 b mB201
        simp only [Act.put, List.setIfInBounds_toArray, List.set_cons_zero, List.set_cons_succ]
        have hb := b
        clear b
        refine wpSeq_store_row rfl 23 _ _ rfl (B201) (Iv .u8 (keyOf TT)) rfl rfl _ _ AB201 (info_key _ (keyOf_length _)) (by rw [Iv_size, Iv_size, keyOf_length]; rfl) (Iv_one _ _) ?_
        try simp only [Act.put, List.setIfInBounds_toArray, List.set_cons_zero, List.set_cons_succ]
        replace AB201 := AB201.row (Iv .u8 (keyOf TT))
        replace hb := below_setRow hb mB201 (Iv .u8 (keyOf TT))
        generalize hWn : World.setRow _ _ _ = Wn at *
        clear hWn
        have eB201_0 := Nat.lt_of_lt_of_le (hS.blkAt (GL) 23 (Kl ns) (.head _)).lt mB201
        replace mB201 := Nat.le_trans hB.size mB201
        replace hB := hB.trans (hb.mono hB.size)
        replace hS := hS.below hb
        clear hb
        replace hS : Facts [.blk (B201) 23 (Iv .u8 (keyOf TT)), .blk (GL) 23 (Kl ns), .rng 0 (Iv .u8 (keyOf bxN)), .rng 1 (Iv .u8 (keyOf byN))] _ := Facts.cons (f := .blk B201 23 (Iv .u8 (keyOf TT))) AB201 hS
        clear AB201
        refine wpSeq_nil ?_
        go_upto_region 9 with fail
        refine wp_region_seq ?_
        refine wpSeq_yield (S := Facts [.blk (B201) 23 (Iv .u8 (keyOf TT)), .blk (GL) 23 (Kl ns), .rng 0 (Iv .u8 (keyOf bxN)), .rng 1 (Iv .u8 (keyOf byN))]) (show YieldsIf _ _ _ _ (Key (keyOf TT)) _ from yieldsIf_load rfl 23 _ rfl (B201) rfl 23 _ _ (.head _) Tryd.underlying23 rfl (info_key _ (keyOf_length _))) hS ?_
        simp only [Act.put, List.setIfInBounds_toArray, List.set_cons_zero, List.set_cons_succ]
        refine wpSeq_wp rfl ?_
        go_simp
        refine (cdec_none TT kTT HP.out _).mono ?_
        rintro e v208 ⟨rfl, b⟩
        replace hB := hB.trans (b.mono hB.size)
        replace hS := hS.below b
        clear b
        show wpSeq _ _ _ _ _ _
        refine wpSeq_yield (S := Facts [.blk (B201) 23 (Iv .u8 (keyOf TT)), .blk (GL) 23 (Kl ns), .rng 0 (Iv .u8 (keyOf bxN)), .rng 1 (Iv .u8 (keyOf byN))]) (yieldsIf_move rfl _ rfl (.tuple #[(PV p40), (.bool false)]) rfl) hS ?_
        simp only [Act.put, List.setIfInBounds_toArray, List.set_cons_zero, List.set_cons_succ]
        refine wpSeq_yield (S := Facts [.blk (B201) 23 (Iv .u8 (keyOf TT)), .blk (GL) 23 (Kl ns), .rng 0 (Iv .u8 (keyOf bxN)), .rng 1 (Iv .u8 (keyOf byN))]) (show YieldsIf _ _ _ _ (PV p40) _ from yieldsIf_extract rfl _ _ rfl _ rfl _ rfl) hS ?_
        simp only [Act.put, List.setIfInBounds_toArray, List.set_cons_zero, List.set_cons_succ]
        refine wpSeq_yield (S := Facts [.blk (B201) 23 (Iv .u8 (keyOf TT)), .blk (GL) 23 (Kl ns), .rng 0 (Iv .u8 (keyOf bxN)), .rng 1 (Iv .u8 (keyOf byN))]) (show YieldsIf _ _ _ _ (.bool false) _ from yieldsIf_extract rfl _ _ rfl _ rfl _ rfl) hS ?_
        simp only [Act.put, List.setIfInBounds_toArray, List.set_cons_zero, List.set_cons_succ]
        refine wpSeq_allocQ 38 (Pc p40) rfl (fun W => by go_simp; rfl) ?_
        intro B202 C202 AB202 b mB202
        simp only [Act.put, List.setIfInBounds_toArray, List.set_cons_zero, List.set_cons_succ]
        have hb := b
        clear b
        refine wpSeq_store_row rfl 38 _ _ rfl (B202) (Pc p40) rfl rfl _ _ AB202 (info_Pc _) (Pc_same _ _) (Pc_one _) ?_
        try simp only [Act.put, List.setIfInBounds_toArray, List.set_cons_zero, List.set_cons_succ]
        replace AB202 := AB202.row (Pc p40)
        replace hb := below_setRow hb mB202 (Pc p40)
        generalize hWn : World.setRow _ _ _ = Wn at *
        clear hWn
        replace mB202 := Nat.le_trans hB.size mB202
        replace hB := hB.trans (hb.mono hB.size)
        replace hS := hS.below hb
        clear hb
        replace hS : Facts [.blk (B202) 38 (Pc p40), .blk (B201) 23 (Iv .u8 (keyOf TT)), .blk (GL) 23 (Kl ns), .rng 0 (Iv .u8 (keyOf bxN)), .rng 1 (Iv .u8 (keyOf byN))] _ := Facts.cons (f := .blk B202 38 (Pc p40)) AB202 hS
        clear AB202
        refine wpSeq_yield (S := Facts [.blk (B202) 38 (Pc p40), .blk (B201) 23 (Iv .u8 (keyOf TT)), .blk (GL) 23 (Kl ns), .rng 0 (Iv .u8 (keyOf bxN)), .rng 1 (Iv .u8 (keyOf byN))]) (yieldsIf_assign rfl _ rfl (.bool false) rfl) hS ?_
        simp only [Act.put, List.setIfInBounds_toArray, List.set_cons_zero, List.set_cons_succ]
        refine wpSeq_nil ?_
        go_upto_region 10 with fail
        refine wp_region_seq ?_
        refine wpSeq_yield (S := Facts [.blk (B202) 38 (Pc p40), .blk (B201) 23 (Iv .u8 (keyOf TT)), .blk (GL) 23 (Kl ns), .rng 0 (Iv .u8 (keyOf bxN)), .rng 1 (Iv .u8 (keyOf byN))]) (show YieldsIf _ _ _ _ (Key (keyOf TT)) _ from yieldsIf_load rfl 23 _ rfl (B201) rfl 23 _ _ (.tail _ (.head _)) Tryd.underlying23 rfl (info_key _ (keyOf_length _))) hS ?_
        simp only [Act.put, List.setIfInBounds_toArray, List.set_cons_zero, List.set_cons_succ]
        refine wpSeq_wp rfl ?_
        go_simp
        refine (rread_none TT kTT HP.out _).mono ?_
        rintro e v209 ⟨rfl, b⟩
        replace hB := hB.trans (b.mono hB.size)
        replace hS := hS.below b
        clear b
        show wpSeq _ _ _ _ _ _
        refine wpSeq_yield (S := Facts [.blk (B202) 38 (Pc p40), .blk (B201) 23 (Iv .u8 (keyOf TT)), .blk (GL) 23 (Kl ns), .rng 0 (Iv .u8 (keyOf bxN)), .rng 1 (Iv .u8 (keyOf byN))]) (yieldsIf_move rfl _ rfl (.tuple #[(.agg zR), (.bool false)]) rfl) hS ?_
        simp only [Act.put, List.setIfInBounds_toArray, List.set_cons_zero, List.set_cons_succ]
        refine wpSeq_yield (S := Facts [.blk (B202) 38 (Pc p40), .blk (B201) 23 (Iv .u8 (keyOf TT)), .blk (GL) 23 (Kl ns), .rng 0 (Iv .u8 (keyOf bxN)), .rng 1 (Iv .u8 (keyOf byN))]) (show YieldsIf _ _ _ _ (.agg zR) _ from yieldsIf_extract rfl _ _ rfl _ rfl _ rfl) hS ?_
        simp only [Act.put, List.setIfInBounds_toArray, List.set_cons_zero, List.set_cons_succ]
        refine wpSeq_yield (S := Facts [.blk (B202) 38 (Pc p40), .blk (B201) 23 (Iv .u8 (keyOf TT)), .blk (GL) 23 (Kl ns), .rng 0 (Iv .u8 (keyOf bxN)), .rng 1 (Iv .u8 (keyOf byN))]) (show YieldsIf _ _ _ _ (.bool false) _ from yieldsIf_extract rfl _ _ rfl _ rfl _ rfl) hS ?_
        simp only [Act.put, List.setIfInBounds_toArray, List.set_cons_zero, List.set_cons_succ]
        refine wpSeq_allocQ 42 zR rfl (fun W => by go_simp; rfl) ?_
        intro B203 C203 AB203 b mB203
        simp only [Act.put, List.setIfInBounds_toArray, List.set_cons_zero, List.set_cons_succ]
        have hb := b
        clear b
        refine wpSeq_store_row rfl 42 _ _ rfl (B203) zR rfl rfl _ _ AB203 info_zR rfl zR_one ?_
        try simp only [Act.put, List.setIfInBounds_toArray, List.set_cons_zero, List.set_cons_succ]
        replace AB203 := AB203.row zR
        replace hb := below_setRow hb mB203 zR
        generalize hWn : World.setRow _ _ _ = Wn at *
        clear hWn
        replace mB203 := Nat.le_trans hB.size mB203
        replace hB := hB.trans (hb.mono hB.size)
        replace hS := hS.below hb
        clear hb
        replace hS : Facts [.blk (B203) 42 zR, .blk (B202) 38 (Pc p40), .blk (B201) 23 (Iv .u8 (keyOf TT)), .blk (GL) 23 (Kl ns), .rng 0 (Iv .u8 (keyOf bxN)), .rng 1 (Iv .u8 (keyOf byN))] _ := Facts.cons (f := .blk B203 42 zR) AB203 hS
        clear AB203
        refine wpSeq_yield (S := Facts [.blk (B203) 42 zR, .blk (B202) 38 (Pc p40), .blk (B201) 23 (Iv .u8 (keyOf TT)), .blk (GL) 23 (Kl ns), .rng 0 (Iv .u8 (keyOf bxN)), .rng 1 (Iv .u8 (keyOf byN))]) (yieldsIf_assign rfl _ rfl (.bool false) rfl) hS ?_
        simp only [Act.put, List.setIfInBounds_toArray, List.set_cons_zero, List.set_cons_succ]
        refine wpSeq_nil ?_
        go_upto_region 11 with fail
        replace hS := hS.drew
        replace hB := below_drew hB
        refine wp_region_S (S := Facts [.blk (B203) 42 zR, .blk (B202) 38 (Pc p40), .blk (B201) 23 (Iv .u8 (keyOf TT)), .blk (GL) 23 (Kl ns), .rng 0 (Iv .u8 (keyOf bxN)), .rng 1 (Iv .u8 (keyOf byN))]) (by kernel_rfl) ?_
        refine wpAnyS_takeL 0 rfl (by kernel_rfl) (by kernel_rfl) (by kernel_rfl) (fun _ _ _ h => h) (yieldsIf_move rfl _ rfl (.bool false) rfl) hS ?_
        simp only [Act.put, List.setIfInBounds_toArray, List.set_cons_zero, List.set_cons_succ]
        refine wpAnyS_takeL 1 rfl (by kernel_rfl) (by kernel_rfl) (by kernel_rfl) (fun _ _ _ h => h) (yieldsIf_move rfl _ rfl (.bool false) rfl) hS ?_
        simp only [Act.put, List.setIfInBounds_toArray, List.set_cons_zero, List.set_cons_succ]
        refine wpAnyS_takeL 2 rfl (by kernel_rfl) (by kernel_rfl) (by kernel_rfl) (fun _ _ _ h => h) (yieldsIf_neqb rfl _ _ rfl false false rfl rfl false rfl) hS ?_
        simp only [Act.put, List.setIfInBounds_toArray, List.set_cons_zero, List.set_cons_succ]
        refine wpAnyS_takeL 3 rfl (by kernel_rfl) (by kernel_rfl) (by kernel_rfl) (fun _ _ _ h => h) (yieldsIf_move rfl _ rfl (.bool false) rfl) hS ?_
        simp only [Act.put, List.setIfInBounds_toArray, List.set_cons_zero, List.set_cons_succ]
        refine wpAnyS_takeL 4 rfl (by kernel_rfl) (by kernel_rfl) (by kernel_rfl) (fun _ _ _ h => h) (yieldsIf_move rfl _ rfl (.bool false) rfl) hS ?_
        simp only [Act.put, List.setIfInBounds_toArray, List.set_cons_zero, List.set_cons_succ]
        refine wpAnyS_takeL 5 rfl (by kernel_rfl) (by kernel_rfl) (by kernel_rfl) (fun _ _ _ h => h) (yieldsIf_move rfl _ rfl (.bool false) rfl) hS ?_
        simp only [Act.put, List.setIfInBounds_toArray, List.set_cons_zero, List.set_cons_succ]
        refine wpAnyS_takeL 6 rfl (by kernel_rfl) (by kernel_rfl) (by kernel_rfl) (fun _ _ _ h => h) (yieldsIf_off rfl) hS ?_
        simp only [Act.put, List.setIfInBounds_toArray, List.set_cons_zero, List.set_cons_succ]
        refine wpAnyS_takeL 7 rfl (by kernel_rfl) (by kernel_rfl) (by kernel_rfl) (fun _ _ _ h => h) (yieldsIf_off rfl) hS ?_
        simp only [Act.put, List.setIfInBounds_toArray, List.set_cons_zero, List.set_cons_succ]
        refine wpAnyS_takeL 8 rfl (by kernel_rfl) (by kernel_rfl) (by kernel_rfl) (fun _ _ _ h => h) (yieldsIf_off rfl) hS ?_
        simp only [Act.put, List.setIfInBounds_toArray, List.set_cons_zero, List.set_cons_succ]
        refine wpAnyS_takeL 9 rfl (by kernel_rfl) (by kernel_rfl) (by kernel_rfl) (fun _ _ _ h => h) (yieldsIf_off rfl) hS ?_
        simp only [Act.put, List.setIfInBounds_toArray, List.set_cons_zero, List.set_cons_succ]
        refine wpAnyS_takeL 10 rfl (by kernel_rfl) (by kernel_rfl) (by kernel_rfl) (fun _ _ _ h => h) (yieldsIf_off rfl) hS ?_
        simp only [Act.put, List.setIfInBounds_toArray, List.set_cons_zero, List.set_cons_succ]
        refine wpAnyS_takeL 11 rfl (by kernel_rfl) (by kernel_rfl) (by kernel_rfl) (fun _ _ _ h => h) (yieldsIf_off rfl) hS ?_
        simp only [Act.put, List.setIfInBounds_toArray, List.set_cons_zero, List.set_cons_succ]
        refine wpAnyS_takeL 12 rfl (by kernel_rfl) (by kernel_rfl) (by kernel_rfl) (fun _ _ _ h => h) (yieldsIf_off rfl) hS ?_
        simp only [Act.put, List.setIfInBounds_toArray, List.set_cons_zero, List.set_cons_succ]
        refine wpAnyS_takeL 13 rfl (by kernel_rfl) (by kernel_rfl) (by kernel_rfl) (fun _ _ _ h => h) (yieldsIf_off rfl) hS ?_
        simp only [Act.put, List.setIfInBounds_toArray, List.set_cons_zero, List.set_cons_succ]
        refine wpAnyS_takeL 14 rfl (by kernel_rfl) (by kernel_rfl) (by kernel_rfl) (fun _ _ _ h => h) (yieldsIf_off rfl) hS ?_
        simp only [Act.put, List.setIfInBounds_toArray, List.set_cons_zero, List.set_cons_succ]
        refine wpAnyS_takeL 15 rfl (by kernel_rfl) (by kernel_rfl) (by kernel_rfl) (fun _ _ _ h => h) (yieldsIf_off rfl) hS ?_
        simp only [Act.put, List.setIfInBounds_toArray, List.set_cons_zero, List.set_cons_succ]
        refine wpAnyS_takeL 16 rfl (by kernel_rfl) (by kernel_rfl) (by kernel_rfl) (fun _ _ _ h => h) (yieldsIf_pick rfl _ _ _ rfl false rfl _ rfl) hS ?_
        simp only [Act.put, List.setIfInBounds_toArray, List.set_cons_zero, List.set_cons_succ]
        refine wpAnyS_takeL 17 rfl (by kernel_rfl) (by kernel_rfl) (by kernel_rfl) (fun _ _ _ h => h) (yieldsIf_pick rfl _ _ _ rfl false rfl _ rfl) hS ?_
        simp only [Act.put, List.setIfInBounds_toArray, List.set_cons_zero, List.set_cons_succ]
        refine wpAnyS_done (by kernel_rfl) ?_ _
        have hS9 : Facts [.blk (GL) 23 (Kl ns), .rng 0 (Iv .u8 (keyOf bxN)), .rng 1 (Iv .u8 (keyOf byN))] _ := Facts.cons (f := .blk GL 23 (Kl ns)) (hS.blkAt GL 23 (Kl ns) (.tail _ (.tail _ (.tail _ (.head _))))) (Facts.cons (f := .rng 0 (Iv .u8 (keyOf bxN))) (hS.rngAt _ _ (.tail _ (.tail _ (.tail _ (.tail _ (.head _)))))) (Facts.cons (f := .rng 1 (Iv .u8 (keyOf byN))) (hS.rngAt _ _ (.tail _ (.tail _ (.tail _ (.tail _ (.tail _ (.head _))))))) Facts.nil))
        clear hS
        go_wp2
        exact ⟨⟨j + 1, by omega, by go_num, hB, hS9⟩, by simp [intOf]; omega⟩
    · obtain rfl : j = 3 := by omega
      go_wp2
      exact bodyPost_ret (results_tmp rfl _ _ _) rfl ⟨rfl, hB⟩
theorem texts_n (NA sm : Nat) (kNA : NA < p256) (hsm : sm < 256) (c : Bool) (w : World) (GX : Rng w 0 (Iv .u8 (keyOf bxN))) (GY : Rng w 1 (Iv .u8 (keyOf byN))) :
    Calls Tryd.prog 3 #[Key (keyOf NA), .int .u8 (sm : Int), .bool c] w fun e w' => e = .returned (.bool true) ∧ Below w.heap.size w w' := by
  cases c
  · exact texts_f NA sm kNA hsm w GX GY
  · exact texts_t NA sm kNA hsm w GX GY
end Go.Proofs.YtjaomgildhiddaaDoor
namespace Go.Proofs.YtjaomgildhiddaaDoor
open Go.ChangeShapes Go.WideShapes Go.ChangeAt Go.RowKit

theorem own : ownKnob Tryd.prog.godebug = none := by kernel_rfl
theorem nat_of_u8 {n : Int} (h : (Lit.int .u8 n).wf = true) : ∃ k : Nat, n = ((k : Nat) : Int) ∧ k < 256 := by
  simp [Lit.wf, IntKind.min, IntKind.max, IntKind.signed, IntKind.bits] at h
  exact ⟨n.toNat, by omega, by omega⟩
set_option maxHeartbeats 1000000 in
set_option maxRecDepth 100000 in
theorem texts_lifted (os : Os) (started : os.Started) (H : Type) (enc : TypeId × Value → H) :
    ReturnsInHanded {} Tryd.checked os 3 .any (fun w args => (Rows.curveTextsSpec.pre enc Tryd.prog Tryd.f3 [] false w args ∧ laidMetH Tryd.prog Rows.curveTextsRow.laid w) ∧ sizedMet enc Tryd.prog Tryd.f3 (OpenSpec.ofChange Rows.curveTextsSpec) false w args)
      (Rows.curveTextsSpec.post enc Tryd.prog Tryd.f3 false true false false) := by
  refine returnsInHanded_of_change_and (C := Tryd.checked) (X := fun w _ => laidMetH Tryd.prog Rows.curveTextsRow.laid w) (fun _ _ _ hh h => h.of_heap hh) own started (by kernel_rfl) Tryd.func3
    (ChangeSpec.witness_shaped (enc := enc) (C := Tryd.checked) (os := os) (X := fun w _ => laidMetH Tryd.prog Rows.curveTextsRow.laid w) false (World.doorLaid Tryd.prog 24 os) #[Key (List.replicate 32 0), .int .u8 0, .bool false] 8 rfl (World.shaped_of_RefB (by kernel_rfl) (by kernel_rfl)) (by kernel_rfl) (by kernel_rfl) (by kernel_rfl) (door_met2 os _)) ?_
  intro W base args ds gs before hval0 hW _ _ hL _
  have hval : ∀ (j : Nat) t v, Tryd.f3.params[j]? = some t → args[j]? = some v → Value.okWide Tryd.prog W .any base t v := hval0
  have hW' := hW
  obtain ⟨p, q, hA0, hV, rfl, _, _⟩ := hW
  have hA : DataW.TrodAll enc Tryd.prog W 0 (fun _ => true) true Tryd.f3.params.toList args.toList ds p := hA0
  rw [Tryd.params3] at hA hval
  obtain ⟨v0, v1, v2, d0, d1, d2, p0, p1, p2, rfl, rfl, rfl, h0, h1, h2⟩ := trodAll_three hA
  obtain ⟨rfl, rfl⟩ := trodVars_none hV
  obtain ⟨l0, f0, rfl, rfl, rfl, hl0, hwf0⟩ := open_key (hval 0 23 v0 rfl rfl) h0
  obtain ⟨m1, rfl, rfl, rfl, hm1⟩ := open_int Tryd.underlying5 (hval 1 5 v1 rfl rfl) h1
  obtain ⟨n1, rfl, hn1⟩ := nat_of_u8 hm1
  obtain ⟨n2, rfl, rfl, rfl⟩ := open_bool Tryd.underlying4 (hval 2 4 v2 rfl rfl) h2
  clear hA0 hval0
  rw [MakeChecks.laidMetH_plain _ _ _ (by kernel_rfl)] at hL
  obtain ⟨GX, GY⟩ := xy_of_laid hL
  have hk0 := key_of_bytes hl0
  have kN0 : leTo f0 32 < p256 := leTo_lt256 hl0.lt
  have walk := texts_n _ n1 kN0 hn1 n2 W GX GY
  rw [← hk0] at walk
  refine walk.mono fun e W' ⟨he, hb⟩ => ?_
  subst he
  exact ⟨_, rfl, post_below (pa := []) (pv := []) hW' (fun _ _ _ => trodAll_mk1 (shut_bool Tryd.underlying4 _)) (fun sp => trodAll_mk3 (shut_key l0 hl0.len hwf0) (shut_int Tryd.underlying5 hm1) (shut_bool Tryd.underlying4 _)) (fun _ => rfl) rfl hb (ok_one (by kernel_rfl) rfl (okWide_bool_mk Tryd.underlying4 _))⟩

theorem texts_row : Rows.CurveTextsSaid :=
  OpenClaim.holds_of_wide 3 Tryd.f3 rfl rfl rfl rfl rfl rfl rfl ⟨rfl, rfl, rfl, rfl, rfl⟩ rfl rfl rfl rfl rfl (by kernel_rfl) Tryd.func3 (by kernel_rfl)
    (of_decide_eq_true (by kernel_rfl)) (by unfold Func.isWrapper; first | (rw [if_pos (by decide +kernel)]; kernel_rfl) | (rw [if_neg (by decide +kernel)]; exact ⟨rfl, rfl⟩))
    (fun os started H enc _ => texts_lifted os started H enc)

theorem curveTexts_holds : Rows.CurveTextsCardSaid :=
  Claim7.holds_tied_plain_at .later [] [.data, .data] true Rows.curveTextsCard.stood.harness false
    texts_row (fun _ h => by cases h) (by kernel_rfl) (fun _ h => by cases h) curveTexts_row_tie rfl ⟨rfl, rfl⟩ (by kernel_rfl) rfl
    (fun f fn hf hfn => by
      obtain rfl : f = 3 := Option.some.inj ((show Tryd.prog.funcNamed "skiff/skifflaw06.CurveTexts" = some 3 by kernel_rfl).symm.trans hf) |>.symm
      obtain rfl : fn = Tryd.f3 := (Option.some.inj (Tryd.func3.symm.trans hfn)).symm
      exact ⟨by kernel_rfl, fun j t ht => by
        rw [Tryd.params3] at ht
        have hm : t ∈ [23, 5, 4] := by simpa using Array.mem_of_getElem? ht
        have hall : ([23, 5, 4].all fun u => !Tryd.prog.wantsStandIn u) = true := by kernel_rfl
        exact (show Tryd.prog.wantsStandIn t = false by simpa using List.all_eq_true.1 hall t hm)⟩)
    (by kernel_rfl)
#print axioms curveTexts_holds
end Go.Proofs.YtjaomgildhiddaaDoor
