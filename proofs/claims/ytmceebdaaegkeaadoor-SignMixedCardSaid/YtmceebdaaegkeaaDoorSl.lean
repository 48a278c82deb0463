/- How a Key reads as data, opened and shut; the row's last step from 'Below'. -/
import Derived.Test.YtmceebdaaegkeaaDoorFm
import Derived.ProofKit
import Derived.OpenShut
import Derived.DataShut
import Derived.ChangeSame
import Derived.JoinedOf
import Derived.JoinedAt
import Derived.RowKit3
import Derived.Test.YtmceebdaaegkeaaDoorSb
import Derived.Test.YtmceebdaaegkeaaDoorSe
import Derived.Test.YtmceebdaaegkeaaDoorLh
namespace Go.Proofs.YtmceebdaaegkeaaDoor
open Go.ChangeShapes Go.WideShapes Go.ChangeAt Go.RowKit

theorem cells_key : Tryd.prog.cellsOf 23 = 32 := by kernel_rfl
theorem cells_u8 : Tryd.prog.cellsOf 5 = 1 := by kernel_rfl
theorem wf_u8 {n : Int} (h : (Lit.int .u8 n).wf = true) : 0 ≤ n ∧ n ≤ 255 := by
  simp [Lit.wf, IntKind.min, IntKind.max, IntKind.signed, IntKind.bits] at h
  omega

section
variable {H : Type} {enc : TypeId × Value → H}
/-- A Key's data. -/
def keyData (l : List Int) : DataW H := .agg (l.map fun n => .lit (.int .u8 n))
theorem shut_key {w : World} {base : Nat} {sp : Nat → Bool} {held : Bool} (l : List Int) (hl : l.length = 32) (hwf : ∀ n ∈ l, (Lit.int .u8 n).wf = true) :
    DataW.Trod enc Tryd.prog w base sp held 23 (Key l) (keyData l) [] := by
  refine ⟨2, ?_⟩
  have e : (List.range 32).mapM (fun i => DataW.trod enc Tryd.prog w base sp held 1 5 (((l.map (Value.int .u8)).drop i).take 1)) = some (l.map fun n => ((.lit (.int .u8 n) : DataW H), ([] : List MemPlace))) := by
    apply mapM_some_of_get
    · simp [hl]
    · intro i x hx
      have hi : i < 32 := by
        have := List.getElem?_eq_some_iff.1 hx
        obtain ⟨h, _⟩ := this
        simpa using h
      have hxi : x = i := by
        rw [List.getElem?_eq_getElem (by simpa using hi)] at hx
        simpa using hx.symm
      subst hxi
      have hix : x < l.length := by omega
      have hd : ((l.map (Value.int .u8)).drop x).take 1 = [.int .u8 l[x]] := by
        rw [List.drop_eq_getElem_cons (by simpa using hix)]
        simp
      rw [hd]
      have hw := hwf l[x] (List.getElem_mem hix)
      simp [DataW.trod, Tryd.underlying5, hw, hix]
  unfold DataW.trod
  simp [Key, Iv, Value.cells, Tryd.underlying23, cells_key, cells_u8, hl, keyData]
  refine ⟨_, e, ?_, ?_⟩
  · simp
  · intro a b h
    simp only [List.mem_map, Prod.mk.injEq] at h
    obtain ⟨_, _, _, h⟩ := h
    exact h.symm

set_option maxRecDepth 100000 in
set_option maxHeartbeats 1000000 in
theorem open_key {w : World} {r : Reach} {b0 base : Nat} {sp : Nat → Bool} {held : Bool} {v : Value} {d : DataW H} {ps : List MemPlace}
    (hval : Value.okWide Tryd.prog w r b0 23 v) (hd : DataW.Trod enc Tryd.prog w base sp held 23 v d ps) :
    ∃ l f, v = Key l ∧ d = keyData l ∧ ps = [] ∧ Bytes32 l f ∧ ∀ n ∈ l, (Lit.int .u8 n).wf = true := by
  obtain ⟨cs, rfl, hsz, _⟩ : ∃ cs, v = .agg cs ∧ cs.size = Tryd.prog.cellsOf 23 ∧ Row.okWide Tryd.prog w r b0 23 cs := by
    simpa [Value.okWide, Tryd.underlying23] using hval
  rw [cells_key] at hsz
  obtain ⟨fuel, hf⟩ := hd
  obtain ⟨xs, m, rfl, hx, hlen, hn, hel⟩ := DataW.trod_array Tryd.underlying23 hf
  have hel2 : ∀ i, i < 32 → ∃ n, cs[i]? = some (.int .u8 n) ∧ xs[i]? = some (.lit (.int .u8 n), []) ∧ (Lit.int .u8 n).wf = true := by
    intro i hi
    have h0 := hel i hi
    rw [cells_u8, Nat.mul_one] at h0
    cases hxi : xs[i]? with
    | none => rw [List.getElem?_eq_none_iff] at hxi; omega
    | some y =>
      rw [hxi] at h0
      obtain ⟨n, hc, rfl, hw⟩ := DataW.trod_int Tryd.underlying5 h0
      refine ⟨n, ?_, rfl, hw⟩
      have hi2 : i < cs.toList.length := by simp; omega
      have : ((cs.toList.drop i).take 1) = [.int .u8 n] := hc
      rw [List.drop_eq_getElem_cons hi2] at this
      simp at this
      rw [Array.getElem?_eq_getElem (by omega), this]
  obtain ⟨l, hl⟩ : ∃ l : List Int, l = (List.range 32).map fun i => match cs[i]? with | some (.int .u8 n) => n | _ => 0 := ⟨_, rfl⟩
  have hlen32 : l.length = 32 := by simp [hl]
  have hget : ∀ i (h : i < 32), cs[i]? = some (.int .u8 (l.getD i 0)) ∧ xs[i]? = some (.lit (.int .u8 (l.getD i 0)), []) ∧ (Lit.int .u8 (l.getD i 0)).wf = true := by
    intro i h
    obtain ⟨n, h1, h2, h3⟩ := hel2 i h
    have : l.getD i 0 = n := by
      rw [hl]
      simp [h, h1]
    rw [this]
    exact ⟨h1, h2, h3⟩
  have hcs : cs = Iv .u8 l := by
    apply Array.ext_getElem?
    intro i
    by_cases h : i < 32
    · rw [(hget i h).1, Iv_get _ _ _ (by omega)]
    · rw [Array.getElem?_eq_none (by omega), Array.getElem?_eq_none (by rw [Iv_size]; omega)]
  have hxs : xs = l.map fun n => ((.lit (.int .u8 n) : DataW H), ([] : List MemPlace)) := by
    apply List.ext_getElem?
    intro i
    by_cases h : i < 32
    · rw [(hget i h).2.1]
      simp [hlen32, h]
    · rw [List.getElem?_eq_none (by omega), List.getElem?_eq_none (by simp; omega)]
  have hwf : ∀ n ∈ l, (Lit.int .u8 n).wf = true := by
    intro n hn2
    obtain ⟨i, hi, rfl⟩ := List.getElem_of_mem hn2
    have := (hget i (by omega)).2.2
    simpa [hi] using this
  have hb : ∀ i, 0 ≤ l.getD i 0 ∧ l.getD i 0 ≤ 255 := by
    intro i
    by_cases h : i < 32
    · exact wf_u8 (hget i h).2.2
    · have : l.getD i 0 = 0 := by simp [List.getD, show l.length ≤ i by omega]
      omega
  subst hxs
  simp only [Prod.mk.injEq] at hx
  refine ⟨l, fun i => (l.getD i 0).toNat, by rw [hcs]; rfl, ?_, ?_, ⟨hlen32, fun i h => ?_, fun i => ?_⟩, hwf⟩
  · rw [hx.1, keyData, List.map_map]
    rfl
  · rw [hx.2]
    simp
  · have := hb i
    omega
  · have := hb i
    omega
/-- The row's last step where the call leaves what was there as it was. -/
theorem post_below {P : Program} {f : Func} {s : ChangeSpec} {apart fresh handsOn again : Bool} {W W' : World} {args : Array Value} {v : Value} {ds gs : List (DataW H)} {before pa pv : List MemPlace}
    (hW : DataW.Whole enc P f.params.toList s.vars apart W args.toList ds gs before)
    (hres : ∀ (b : Nat) (sp : Nat → Bool) (hd : Bool), DataW.TrodAll enc P W' b sp hd f.resultTypes.toList (v.resultList f.resultTypes.size) (s.fn H (ds ++ gs)).results [])
    (hargs : ∀ sp : Nat → Bool, DataW.TrodAll enc P W' 0 sp true f.params.toList args.toList (s.fn H (ds ++ gs)).args pa)
    (hvars : ∀ sp : Nat → Bool, DataW.TrodVars enc P W' sp s.vars (s.fn H (ds ++ gs)).vars pv)
    (hps : before = pa ++ pv) (hb : Below W.heap.size W W')
    (hok : ∀ (j : Nat) (t : TypeId) (r : Value), f.resultTypes[j]? = some t → (v.resultList f.resultTypes.size)[j]? = some r → Value.okWide P W' .any 0 t r) :
    s.post enc P f apart fresh handsOn again W args v W' := by
  have hlt : ∀ p ∈ before, p.block < W.heap.size := fun p hp => hW.lt p hp
  refine ⟨ds, gs, before, [], pa, pv, hW, hres _ _ _, hargs _, hvars _, World.keptBut_mono (fun p hp => ⟨hp, ?_⟩) (hb.frame (· ∈ before)), fun _ => ?_⟩
  · rw [hps, List.mem_append] at hp
    exact Or.inr hp
  · obtain ⟨_, _, _, _, _, hz, hn⟩ := hW
    refine ⟨hok, _, _, ([] ++ pa) ++ pv, ⟨[] ++ pa, pv, trodAll_append (hargs _) (hres _ _ _), hvars _, rfl, ?_, ?_⟩, ?_⟩
    · intro b off hp
      have hin : MemPlace.cell b off ∈ before := by rw [hps]; simpa using hp
      rw [hb.frozen (hlt _ hin)]
      exact hz b off hin
    · intro ha
      have := hn ha
      rw [hps] at this
      simpa using this
    · intro p hp _
      rw [hps]
      simpa using hp
end

end Go.Proofs.YtmceebdaaegkeaaDoor
/- The contract of scalar's followed. -/
namespace Go.Proofs.YtmceebdaaegkeaaDoor.Sc
open Go.RowKit

theorem info4 (a b c d : Value) : (Tryd.prog.info? 66).map (·.size) = some (#[a, b, c, d] : Array Value).size := by kernel_rfl
set_option maxHeartbeats 2000000 in
set_option maxRecDepth 100000 in
theorem followed_any (n low : Nat) (w : World) (hn : n < LL) (hl : low < 4294967296) :
    Calls Tryd.prog 38 #[Nm n, .int .u32 (low : Int)] w fun e w' => e = .returned (Nm ((n * 4294967296 + low) % LL)) ∧ Below w.heap.size w w' := by
  rw [LL_eq] at hn
  obtain ⟨a, b, c, d, en, hv, a0, a1, b0, b1, c0, c1, d0, d1⟩ := nm_parts n (Nat.lt_trans hn (by decide))
  unfold Nm
  rw [en]
  obtain ⟨ab, hab⟩ : ∃ r, r = d / 268435456 := ⟨_, rfl⟩
  obtain ⟨g0, hg0⟩ : ∃ r, r = ab * 6346243789798364141 / 18446744073709551616 := ⟨_, rfl⟩
  obtain ⟨p0, hp0⟩ : ∃ r, r = ab * 6346243789798364141 % 18446744073709551616 := ⟨_, rfl⟩
  obtain ⟨g1, hg1⟩ : ∃ r, r = ab * 1503914060200516822 / 18446744073709551616 := ⟨_, rfl⟩
  obtain ⟨t1, ht1⟩ : ∃ r, r = ab * 1503914060200516822 % 18446744073709551616 := ⟨_, rfl⟩
  obtain ⟨p1, hp1⟩ : ∃ r, r = (t1 + g0) % 18446744073709551616 := ⟨_, rfl⟩
  obtain ⟨cy, hcy⟩ : ∃ r, r = (t1 + g0) / 18446744073709551616 := ⟨_, rfl⟩
  obtain ⟨x3, hx3⟩ : ∃ r, r = (d * 4294967296 % 18446744073709551616 + c / 4294967296) % 1152921504606846976 := ⟨_, rfl⟩
  obtain ⟨x2, hx2⟩ : ∃ r, r = c * 4294967296 % 18446744073709551616 + b / 4294967296 := ⟨_, rfl⟩
  obtain ⟨x1, hx1⟩ : ∃ r, r = b * 4294967296 % 18446744073709551616 + a / 4294967296 := ⟨_, rfl⟩
  obtain ⟨x0, hx0⟩ : ∃ r, r = a * 4294967296 % 18446744073709551616 + (low : Int) := ⟨_, rfl⟩
  obtain ⟨r0, hr0⟩ : ∃ r, r = (x0 - p0) % 18446744073709551616 := ⟨_, rfl⟩
  obtain ⟨q0, hq0⟩ : ∃ r, r = -((x0 - p0) / 18446744073709551616) := ⟨_, rfl⟩
  obtain ⟨r1, hr1⟩ : ∃ r, r = (x1 - p1 - q0) % 18446744073709551616 := ⟨_, rfl⟩
  obtain ⟨q1, hq1⟩ : ∃ r, r = -((x1 - p1 - q0) / 18446744073709551616) := ⟨_, rfl⟩
  obtain ⟨r2, hr2⟩ : ∃ r, r = (x2 - (g1 + cy) - q1) % 18446744073709551616 := ⟨_, rfl⟩
  obtain ⟨q2, hq2⟩ : ∃ r, r = -((x2 - (g1 + cy) - q1) / 18446744073709551616) := ⟨_, rfl⟩
  obtain ⟨r3, hr3⟩ : ∃ r, r = (x3 - 0 - q2) % 18446744073709551616 := ⟨_, rfl⟩
  obtain ⟨q3, hq3⟩ : ∃ r, r = -((x3 - 0 - q2) / 18446744073709551616) := ⟨_, rfl⟩
  have hd : d < 18446744073709551616 := d1
  have fa := follow_arith n low a b c d ab g0 p0 g1 t1 p1 cy x3 x2 x1 x0 r0 q0 r1 q1 r2 q2 r3 q3 hn hl hv ⟨a0, a1⟩ ⟨b0, b1⟩ ⟨c0, c1⟩ ⟨d0, d1⟩ hab hg0 hp0 hg1 ht1 hp1 hcy hx3 hx2 hx1 hx0 hr0 hq0 hr1 hq1 hr2 hq2 hr3 hq3
  obtain ⟨bab, bx0, bx1, bx2, bx3, bp0, bp1, bg, bg0, bt1, bcy, bq0, bq1, bq2, bq3, br0, br1, br2, br3, m, R, hm, hmlt, hR, hmq⟩ := fa
  have em : Nm_cells m = #[.int .u64 r0, .int .u64 r1, .int .u64 r2, .int .u64 r3] := Nm_of _ _ _ _ _ hm br0.1 br0.2 br1.1 br1.2 br2.1 br2.2 br3.1 br3.2
  have cP := fun W => plusOrder_v m q3 R W hmlt hmq
  have hRlt : R < LL := hR ▸ Nat.mod_lt _ LL_pos
  rw [LL_eq] at hRlt
  obtain ⟨u0, u1, u2, u3, eR, _⟩ := nm_parts R (Nat.lt_trans hRlt (by decide))
  rw [← hR, eR]
  unfold Nm at cP
  rw [em, eR] at cP
  have CP := Lib.hid cP
  have mul0 := fun W => mul64_any ab 6346243789798364141 bab.1 (by decide) (low_bd bab) (by decide) W
  have mul1 := fun W => mul64_any ab 1503914060200516822 bab.1 (by decide) (low_bd bab) (by decide) W
  rw [← hg0, ← hp0] at mul0
  rw [← hg1, ← ht1] at mul1
  have ad := add64_run0 t1 g0 bt1.1 bg0.1
  rw [← hp1, ← hcy] at ad
  have sh := fun W => sub64_run0 x0 p0 bx0.1 bp0.1 bx0.2 bp0.2 W
  rw [← hr0, ← hq0] at sh
  have sh1 := fun W => sub64_run x1 p1 q0 bx1.1 bp1.1 bq0.1 bq0.2 bx1.2 bp1.2 W
  rw [← hr1, ← hq1] at sh1
  have sh2 := fun W => sub64_run x2 (g1 + cy) q1 bx2.1 (gc_bd bg bcy).1 bq1.1 bq1.2 bx2.2 (gc_bd bg bcy).2 W
  rw [← hr2, ← hq2] at sh2
  have sh3 := fun W => sub64_run x3 0 q2 bx3.1 (by decide) bq2.1 bq2.2 (top_lt bx3) (by decide) W
  rw [← hr3, ← hq3] at sh3
  have o3 := shl_or d c d0 d1 c0 c1
  have o2 := shl_or c b c0 c1 b0 b1
  have o1 := shl_or b a b0 b1 a0 a1
  have n3 := and60 (d * 4294967296 % 18446744073709551616 + c / 4294967296) (tn_bd c0 c1).1 (tn_bd c0 c1).2
  rw [← hx3] at n3
  rw [← hx2] at o2
  rw [← hx1] at o1
  have o0 := or_low a low hl
  rw [← hx0] at o0
  have wl := wrap_low low hl
  have M0 := Lib.hid mul0; have M1 := Lib.hid mul1
  have wgc := (gc_bd bg bcy).2
  have hab' : d / 268435456 = ab := hab.symm
  clear hab
  clear mul0 mul1 hg0 hp0 hg1 ht1 hp1 hcy hr0 hq0 hr1 hq1 hr2 hq2 hr3 hq3 hx0 hx1 hx2 hx3 hm hmlt hmq hR hRlt cP em eR hv en hn hd
  go_enter Tryd.func38, Tryd.ntmps38
  go_wp2_with fail
  refine (M0.out _).mono ?_
  rintro e w1 ⟨rfl, rfl⟩
  go_wp2_with fail
  refine (M1.out _).mono ?_
  rintro e w1 ⟨rfl, rfl⟩
  go_wp2_with fail
  generalize hW : World.alloc (World.alloc w _) _ = W1
  have HR : Blk W1 (w.heap.size + 1) 66 #[.int .u64 0, .int .u64 0, .int .u64 0, .int .u64 0] := by
    subst hW
    skip
    exact Blk.new' (by simp) _ _
  have HB : Below w.heap.size w W1 := by
    subst hW
    repeat (first | exact Below.refl _ _ | refine Below.setCell ?_ (by simp) _ | refine Below.alloc ?_ (by simp) _ | refine Below.alloc ?_ (Nat.le_refl _) _)
  clear hW
  refine (CP.out _).mono ?_
  rintro e w1 ⟨rfl, hb⟩
  have HR1 := HR.below hb HR.lt
  have HB1 := HB.trans (hb.mono HB.size)
  clear hb HR HB
  have k0 := HR1.cell 0; have k1 := HR1.cell 1; have k2 := HR1.cell 2; have k3 := HR1.cell 3
  have z0 := HR1.frozen 0; have z1 := HR1.frozen 1; have z2 := HR1.frozen 2; have z3 := HR1.frozen 3
  simp only [List.getElem?_toArray, List.getElem?_cons_zero, List.getElem?_cons_succ] at k0 k1 k2 k3
  go_wp2
  have HF : Blk ((((w1.setCell ⟨w.heap.size + 1, 0, none⟩ (.int .u64 u0)).setCell ⟨w.heap.size + 1, 1, none⟩ (.int .u64 u1)).setCell ⟨w.heap.size + 1, 2, none⟩ (.int .u64 u2)).setCell ⟨w.heap.size + 1, 3, none⟩ (.int .u64 u3)) (w.heap.size + 1) 66 #[.int .u64 u0, .int .u64 u1, .int .u64 u2, .int .u64 u3] :=
    (((HR1.set 0 _).set 1 _).set 2 _).set 3 _
  exact bodyPost_ret (results_cell_row rfl _ _ _ 66 _ (0, 0) _ rfl HF Tryd.underlying66 rfl (info4 _ _ _ _)) rfl ⟨rfl, (((HB1.setCell (p := ⟨w.heap.size + 1, 0, none⟩) (by simp) _).setCell (p := ⟨w.heap.size + 1, 1, none⟩) (by simp) _).setCell (p := ⟨w.heap.size + 1, 2, none⟩) (by simp) _).setCell (p := ⟨w.heap.size + 1, 3, none⟩) (by simp) _⟩

end Go.Proofs.YtmceebdaaegkeaaDoor.Sc
/- What memory holds, as a list of facts that stand over what the program does elsewhere; contracts by value. -/
namespace Go.Proofs.YtmceebdaaegkeaaDoor.Sc
open Go.RowKit

inductive Fact where
  | blk (g : Nat) (t : TypeId) (cs : Array Value)
def Fact.at : Fact → World → Prop
  | .blk g t cs, w => Blk w g t cs
def Facts (L : List Fact) (w : World) : Prop := ∀ f ∈ L, f.at w
theorem Fact.at.below {f : Fact} {w w1 : World} (h : f.at w) (hb : Below w.heap.size w w1) : f.at w1 := by
  cases f with
  | blk g t cs => exact Blk.below' h hb
theorem Facts.below {L : List Fact} {w w1 : World} (h : Facts L w) (hb : Below w.heap.size w w1) : Facts L w1 := fun f hf => (h f hf).below hb
theorem Facts.drew {L : List Fact} {w : World} (h : Facts L w) : Facts L w.drew := h.below (below_drew (Below.refl _ _))
theorem Facts.nil {w : World} : Facts [] w := fun _ h => by cases h
theorem Facts.cons {f : Fact} {L : List Fact} {w : World} (h : f.at w) (hl : Facts L w) : Facts (f :: L) w := fun x hx => by
  rcases List.mem_cons.1 hx with rfl | hx
  · exact h
  · exact hl x hx
theorem Facts.blkAt {L : List Fact} {w : World} (h : Facts L w) (g : Nat) (t : TypeId) (cs : Array Value) (hm : Fact.blk g t cs ∈ L) : Blk w g t cs := h _ hm

/-- A whole row loaded, named by its value. -/
theorem yieldsIf_load {P : Program} {ops : Array Oper} {L : List Fact} {o : Oper} {a : Act} (hgd : Region.wanted o (yielded ops a.tmps) = true) (ty : TypeId) (x : Operand) (ho : o.op = .load ty x) (g : Nat) (hx : a.eval x = .pointer (some ⟨g, 0, none⟩))
    (t : TypeId) (cs : Array Value) (d : TypeDesc) (hm : Fact.blk g t cs ∈ L) (hu : P.underlying ty = some d) (hd : (match d with | .struct _ | .array _ _ => true | _ => false) = true) (hi : (P.info? ty).map (·.size) = some cs.size) :
    YieldsIf P ops (Facts L) o (.agg cs) a := yieldsIf_row_wanted hgd ty x ho g hx t cs d (fun _ h => h.blkAt g t cs hm) hu hd hi

theorem job_frame {P : Program} {ops : Array Oper} {Q : Exit → Act → World → Prop} {S : World → Prop} {J : List Job} {j : Job} {val : Nat → Value} {a : Act} {R : Value → World → Prop} (J' : List Job) (hp : predsOf ops J j = J') (h : JobAt P ops Q S (putAll val J' a) j R) :
    JobAt P ops Q S (putAll val (predsOf ops J j) a) j R := hp ▸ h

theorem words_v (l : List Int) (f : Nat → Nat) (hl : Bytes32 l f) (X : Nat) (hX : X = leTo f 32) (w : World) : Calls Tryd.prog 37 #[Key l] w fun e w' => e = .returned (Nm X) ∧ Below w.heap.size w w' := hX ▸ swords_any l f hl w
theorem product_v (A B C P : Nat) (hA : A < pw 4) (hB : B < pw 4) (hC : C < pw 4) (hP : P = A * B + C) (w : World) : Calls Tryd.prog 36 #[Nm A, Nm B, Nm C] w fun e w' => e = .returned (.agg (W8 (wordAt P))) ∧ Below w.heap.size w w' := hP ▸ product_any A B C w hA hB hC
theorem bytes32_lt {l : List Int} {f : Nat → Nat} (hl : Bytes32 l f) : leTo f 32 < pw 4 := leTo_lt f hl.lt 32
theorem blk_ne {w : World} {g k : Nat} {t u : TypeId} {cs ds : Array Value} (h : Blk w g t cs) (h' : Blk w k u ds) (hn : t ≠ u) : g ≠ k := fun e => by
  subst e
  have := h.symm.trans h'
  simp only [Option.some.injEq, Obj.cells.injEq] at this
  exact hn this.2.1


end Go.Proofs.YtmceebdaaegkeaaDoor.Sc
