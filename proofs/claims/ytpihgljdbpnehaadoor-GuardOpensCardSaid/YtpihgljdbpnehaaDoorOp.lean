/- Cases, keys, handed in, opened. -/
import Derived.Test.YtpihgljdbpnehaaDoorQg0Pz
import Derived.Test.YtpihgljdbpnehaaDoorLq0Nb
import Derived.ChangeArms
namespace Go.Proofs.YtpihgljdbpnehaaDoor
open Go.ChangeShapes Go.WideShapes Go.ChangeAt Go.RowKit
theorem cells_key : Tryd.prog.cellsOf 23 = 32 := by kernel_rfl
theorem cells_u64 : Tryd.prog.cellsOf 38 = 1 := by kernel_rfl
theorem cells_bool : Tryd.prog.cellsOf 4 = 1 := by kernel_rfl
theorem cells_case : Tryd.prog.cellsOf 40 = 39 := by kernel_rfl
theorem u64_nat {n : Int} (h : (Lit.int .u64 n).wf = true) : ∃ k : Nat, n = (k : Int) ∧ k < 18446744073709551616 := by
 simp [Lit.wf, IntKind.min, IntKind.max, IntKind.signed, IntKind.bits] at h
 exact ⟨n.toNat, by omega, by omega⟩
section
variable {H : Type} {enc : TypeId × Value → H} {W : World}
/-- Eight parameters. -/
theorem trodAll_eight {P : Program} {w : World} {base : Nat} {spare : Nat → Bool} {held : Bool} {t0 t1 t2 t3 t4 t5 t6 t7 : TypeId} {args : Array Value} {ds : List (DataW H)} {ps : List MemPlace} (h : DataW.TrodAll enc P w base spare held [t0, t1, t2, t3, t4, t5, t6, t7] args.toList ds ps) :
  ∃ v0 v1 v2 v3 v4 v5 v6 v7 d0 d1 d2 d3 d4 d5 d6 d7 p0 p1 p2 p3 p4 p5 p6 p7, args = #[v0, v1, v2, v3, v4, v5, v6, v7] ∧ ds = [d0, d1, d2, d3, d4, d5, d6, d7] ∧ ps = p0 ++ (p1 ++ (p2 ++ (p3 ++ (p4 ++ (p5 ++ (p6 ++ p7)))))) ∧ DataW.Trod enc P w base spare held t0 v0 d0 p0 ∧ DataW.Trod enc P w base spare held t1 v1 d1 p1 ∧ DataW.Trod enc P w base spare held t2 v2 d2 p2 ∧ DataW.Trod enc P w base spare held t3 v3 d3 p3 ∧ DataW.Trod enc P w base spare held t4 v4 d4 p4 ∧ DataW.Trod enc P w base spare held t5 v5 d5 p5 ∧ DataW.Trod enc P w base spare held t6 v6 d6 p6 ∧ DataW.Trod enc P w base spare held t7 v7 d7 p7 := by
 obtain ⟨v0, r0, d0, e0, p0, q0, hargs, rfl, rfl, h0, h⟩ := trodAll_cons h
 obtain ⟨v1, r1, d1, e1, p1, q1, rfl, rfl, rfl, h1, h⟩ := trodAll_cons h
 obtain ⟨v2, r2, d2, e2, p2, q2, rfl, rfl, rfl, h2, h⟩ := trodAll_cons h
 obtain ⟨v3, r3, d3, e3, p3, q3, rfl, rfl, rfl, h3, h⟩ := trodAll_cons h
 obtain ⟨v4, r4, d4, e4, p4, q4, rfl, rfl, rfl, h4, h⟩ := trodAll_cons h
 obtain ⟨v5, r5, d5, e5, p5, q5, rfl, rfl, rfl, h5, h⟩ := trodAll_cons h
 obtain ⟨v6, r6, d6, e6, p6, q6, rfl, rfl, rfl, h6, h⟩ := trodAll_cons h
 obtain ⟨v7, r7, d7, e7, p7, q7, rfl, rfl, rfl, h7, h⟩ := trodAll_cons h
 obtain ⟨rfl, rfl, rfl⟩ := trodAll_nil h
 exact ⟨v0, v1, v2, v3, v4, v5, v6, v7, d0, d1, d2, d3, d4, d5, d6, d7, p0, p1, p2, p3, p4, p5, p6, p7, by cases args; simp_all, rfl, by simp, h0, h1, h2, h3, h4, h5, h6, h7⟩
set_option maxRecDepth 100000 in
theorem key_f {fuel : Nat} {base : Nat} {sp : Nat → Bool} {held : Bool} {cs : List Value} {x : DataW H × List MemPlace} (hlen : cs.length = 32) (hf : DataW.trod enc Tryd.prog W base sp held fuel 23 cs = some x) :
  ∃ l, cs = (NI l).map (Value.int .u8) ∧ l.length = 32 ∧ Bytes l := by
 obtain ⟨xs, m, rfl, hx, hlen2, hn, hel⟩ := DataW.trod_array Tryd.underlying23 hf
 have hel2 : ∀ i, i < 32 → ∃ n, cs[i]? = some (.int .u8 n) ∧ (Lit.int .u8 n).wf = true := by
  intro i hi
  have h0 := hel i hi
  rw [cells_u8, Nat.mul_one] at h0
  cases hxi : xs[i]? with
  | none => rw [List.getElem?_eq_none_iff] at hxi; omega
  | some y =>
   rw [hxi] at h0
   obtain ⟨n, hc, rfl, hw⟩ := DataW.trod_int Tryd.underlying5 h0
   refine ⟨n, ?_, hw⟩
   have h5 : ((cs.drop i).take 1).head? = some (.int .u8 n) := by rw [hc]; rfl
   rw [List.head?_take, if_neg (by decide), List.head?_drop] at h5
   exact h5
 obtain ⟨l, hl⟩ : ∃ l : List Nat, l = (List.range 32).map fun i => match cs[i]? with | some (.int .u8 n) => n.toNat | _ => 0 := ⟨_, rfl⟩
 have hlen8 : l.length = 32 := by simp [hl]
 have hget : ∀ i (_ : i < 32), cs[i]? = some (.int .u8 ((l.getD i 0 : Nat) : Int)) ∧ l.getD i 0 < 256 := by
  intro i h
  obtain ⟨n, h1, h3⟩ := hel2 i h
  have hn := wf_u8 h3
  have : ((l.getD i 0 : Nat) : Int) = n := by
   rw [hl]
   simp [h, h1]
   omega
  rw [this]
  exact ⟨h1, by omega⟩
 refine ⟨l, ?_, hlen8, fun x hx => ?_⟩
 ·
  refine List.ext_getElem? fun i => ?_
  by_cases hi : i < 32
  ·
   rw [(hget i hi).1]
   simp [NI, List.getD_eq_getElem?_getD, show i < l.length by omega]
  · rw [List.getElem?_eq_none (by omega), List.getElem?_eq_none (by simp [NI]; omega)]
 ·
  obtain ⟨i, hi, rfl⟩ := List.mem_iff_getElem.1 hx
  have := (hget i (by omega)).2
  rw [List.getD_eq_getElem?_getD, List.getElem?_eq_getElem hi] at this
  exact this
set_option maxRecDepth 100000 in
theorem open_key32 {r : Reach} {b0 base : Nat} {sp : Nat → Bool} {held : Bool} {v : Value} {d : DataW H} {ps : List MemPlace}
  (hval : Value.okWide Tryd.prog W r b0 23 v) (hd : DataW.Trod enc Tryd.prog W base sp held 23 v d ps) :
  ∃ l, v = .agg (Iv .u8 (NI l)) ∧ l.length = 32 ∧ Bytes l := by
 obtain ⟨cs, rfl, hsz, _⟩ : ∃ cs, v = .agg cs ∧ cs.size = Tryd.prog.cellsOf 23 ∧ Row.okWide Tryd.prog W r b0 23 cs := by
  simpa [Value.okWide, Tryd.underlying23] using hval
 rw [cells_key] at hsz
 obtain ⟨fuel, hf⟩ := hd
 have hf' : DataW.trod enc Tryd.prog W base sp held fuel 23 cs.toList = some (d, ps) := by simpa [Value.cells] using hf
 obtain ⟨l, e, hl, hb⟩ := key_f (by simpa using hsz) hf'
 refine ⟨l, ?_, hl, hb⟩
 congr 1
 apply Array.toList_inj.1
 rw [e]
 simp [Iv]
set_option maxRecDepth 100000 in
theorem case_f {fuel : Nat} {cs : List Value} {x : DataW H × List MemPlace} (hf : DataW.trod enc Tryd.prog W 0 (fun _ => true) true fuel 40 cs = some x) :
  ∃ (s : List Nat) (sp : Int) (vt vf vb : Value) (to fr bb : List Nat) (pn ac : Nat) (r : Bool), cs = (csA s (csT sp vt vf pn ac r vb)).toList ∧ s.length = 32 ∧ Bytes s ∧ i64_ok sp ∧ pn < 18446744073709551616 ∧ ac < 18446744073709551616 ∧ SB W vt to ∧ SB W vf fr ∧ SB W vb bb ∧ Bytes to ∧ Bytes fr ∧ Bytes bb := by
 obtain ⟨xs, n, _, _, hlen, hn, hel⟩ := DataW.trod_struct Tryd.underlying40 hf
 rw [cells_case] at hlen
 obtain ⟨hd, tl, rfl, h32⟩ : ∃ hd tl, cs = hd ++ tl ∧ hd.length = 32 := ⟨cs.take 32, cs.drop 32, (List.take_append_drop 32 cs).symm, by rw [List.length_take]; omega⟩
 have h7 : tl.length = 7 := by rw [List.length_append] at hlen; omega
 match tl, h7 with
 | [c0, c1, c2, c3, c4, c5, c6], _ =>
  match xs, hn with
  | [y0, y1, y2, y3, y4, y5, y6, y7], _ =>
   have t0 : DataW.trod enc Tryd.prog W 0 (fun _ => true) true n 23 (((hd ++ [c0, c1, c2, c3, c4, c5, c6]).drop 0).take (Tryd.prog.cellsOf 23)) = some y0 := hel 0 _ rfl
   have t1 : DataW.trod enc Tryd.prog W 0 (fun _ => true) true n 3 (((hd ++ [c0, c1, c2, c3, c4, c5, c6]).drop 32).take (Tryd.prog.cellsOf 3)) = some y1 := hel 1 _ rfl
   have t2 : DataW.trod enc Tryd.prog W 0 (fun _ => true) true n 24 (((hd ++ [c0, c1, c2, c3, c4, c5, c6]).drop 33).take (Tryd.prog.cellsOf 24)) = some y2 := hel 2 _ rfl
   have t3 : DataW.trod enc Tryd.prog W 0 (fun _ => true) true n 24 (((hd ++ [c0, c1, c2, c3, c4, c5, c6]).drop 34).take (Tryd.prog.cellsOf 24)) = some y3 := hel 3 _ rfl
   have t4 : DataW.trod enc Tryd.prog W 0 (fun _ => true) true n 38 (((hd ++ [c0, c1, c2, c3, c4, c5, c6]).drop 35).take (Tryd.prog.cellsOf 38)) = some y4 := hel 4 _ rfl
   have t5 : DataW.trod enc Tryd.prog W 0 (fun _ => true) true n 38 (((hd ++ [c0, c1, c2, c3, c4, c5, c6]).drop 36).take (Tryd.prog.cellsOf 38)) = some y5 := hel 5 _ rfl
   have t6 : DataW.trod enc Tryd.prog W 0 (fun _ => true) true n 4 (((hd ++ [c0, c1, c2, c3, c4, c5, c6]).drop 37).take (Tryd.prog.cellsOf 4)) = some y6 := hel 6 _ rfl
   have t7 : DataW.trod enc Tryd.prog W 0 (fun _ => true) true n 24 (((hd ++ [c0, c1, c2, c3, c4, c5, c6]).drop 38).take (Tryd.prog.cellsOf 24)) = some y7 := hel 7 _ rfl
   have dr : ∀ k, (hd ++ [c0, c1, c2, c3, c4, c5, c6]).drop (32 + k) = [c0, c1, c2, c3, c4, c5, c6].drop k := fun k => by
    rw [List.drop_append, h32, List.drop_eq_nil_of_le (by omega), List.nil_append, Nat.add_sub_cancel_left]
   have e0 := dr 0
   have e1 := dr 1
   have e2 := dr 2
   have e3 := dr 3
   have e4 := dr 4
   have e5 := dr 5
   have e6 := dr 6
   have tk : (hd ++ [c0, c1, c2, c3, c4, c5, c6]).take 32 = hd := List.take_left' h32
   simp only [Nat.add_zero, Nat.reduceAdd, List.drop_zero, List.drop_succ_cons] at e0 e1 e2 e3 e4 e5 e6
   simp only [cells_key, List.drop_zero, tk] at t0
   simp only [cells_int, e0, List.take_succ_cons, List.take_zero] at t1
   simp only [cells_bytes, e1, List.take_succ_cons, List.take_zero] at t2
   simp only [cells_bytes, e2, List.take_succ_cons, List.take_zero] at t3
   simp only [cells_u64, e3, List.take_succ_cons, List.take_zero] at t4
   simp only [cells_u64, e4, List.take_succ_cons, List.take_zero] at t5
   simp only [cells_bool, e5, List.take_succ_cons, List.take_zero] at t6
   simp only [cells_bytes, e6, List.take_succ_cons, List.take_zero] at t7
   obtain ⟨s, es, ls, bs⟩ := key_f h32 t0
   obtain ⟨n1, f1, _, w1⟩ := DataW.trod_int Tryd.underlying3 t1
   obtain ⟨p2, q2, to, f2, s2, b2⟩ := bytes_f t2
   obtain ⟨p3, q3, fr, f3, s3, b3⟩ := bytes_f t3
   obtain ⟨n4, f4, _, w4⟩ := DataW.trod_int Tryd.underlying38 t4
   obtain ⟨n5, f5, _, w5⟩ := DataW.trod_int Tryd.underlying38 t5
   obtain ⟨n6, f6, _⟩ := DataW.trod_bool Tryd.underlying4 t6
   obtain ⟨p7, q7, bb, f7, s7, b7⟩ := bytes_f t7
   simp only [List.cons.injEq, and_true] at f1 f2 f3 f4 f5 f6 f7
   subst f1 f2 f3 f4 f5 f6 f7
   obtain ⟨pn, rfl, hp⟩ := u64_nat w4
   obtain ⟨ac, rfl, ha⟩ := u64_nat w5
   exact ⟨s, n1, _, _, _, to, fr, bb, pn, ac, n6, by rw [es]; simp [csA, csT, Iv], ls, bs, int_ok w1, hp, ha, s2, s3, s7, b2, b3, b7⟩
set_option maxRecDepth 100000 in
theorem open_case {r : Reach} {base : Nat} {v : Value} {d : DataW H} {ps : List MemPlace} (hval : Value.okWide Tryd.prog W r base 40 v) (hd : DataW.Trod enc Tryd.prog W 0 (fun _ => true) true 40 v d ps) :
  ∃ (s : List Nat) (sp : Int) (vt vf vb : Value) (to fr bb : List Nat) (pn ac : Nat) (r : Bool), v = .agg (csA s (csT sp vt vf pn ac r vb)) ∧ s.length = 32 ∧ Bytes s ∧ i64_ok sp ∧ pn < 18446744073709551616 ∧ ac < 18446744073709551616 ∧ SB W vt to ∧ SB W vf fr ∧ SB W vb bb ∧ Bytes to ∧ Bytes fr ∧ Bytes bb := by
 obtain ⟨cs, rfl, _⟩ := okWide_struct Tryd.underlying40 hval
 obtain ⟨fuel, hf⟩ := hd
 obtain ⟨s, sp, vt, vf, vb, to, fr, bb, pn, ac, r, e, h⟩ := case_f hf
 refine ⟨s, sp, vt, vf, vb, to, fr, bb, pn, ac, r, ?_, h⟩
 congr 1
 apply Array.toList_inj.1
 rw [← e]
 simp [Value.cells]
end
end Go.Proofs.YtpihgljdbpnehaaDoor
