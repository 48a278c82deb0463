/- The reference's Put (printed by gen17/sl.py). -/
import Derived.Test.YtnahjmladhbmpaaSk
namespace Go.Proofs.Ytnahjmladhbmpaa
open Go.RowKit

theorem append_w0 (w : World) (ty : TypeId) (v : Value) (p : Option Addr) (n cap c : Nat) (q : Option Addr) (hv : v = .slice q n cap) (hc : n ≤ cap) :
    (Builtin.append_ #[31, 31] ty #[v, .slice p 0 c]).run Try.prog w = .ok v w := by
  subst hv
  obtain ⟨i, hi, hs, hy, hz⟩ := info_u64
  cases p <;> cases q <;> simp [Builtin.append_, run_underlying Try.underlying31, run_underlying Try.underlying24, sizeOf, typeInfo, hi, Builtin.lenOf, Builtin.firstCells, loadCells, loadCellsFrom, storeCells, hc]
/-- Words behind a row of one's own. -/
theorem app_w (B : Nat) (w0 w : World) (ty : TypeId) (v x : Value) (l m : List Nat) (O : OwU B w v l) (hx : SUB 0 w x m) (hl : l.length + m.length ≤ 100000) (b : Below B w0 w) (hB : B ≤ w.heap.size) :
    ∃ v' w', (Builtin.append_ #[31, 31] ty #[v, x]).run Try.prog w = .ok v' w' ∧ OwU B w' v' (l ++ m) ∧ Below B w0 w' ∧ w.grownBy w' v.ownBlock := by
  obtain ⟨p, c, rfl, hc, h0 | ⟨g, o, rfl, _, hu⟩⟩ := hx
  · subst h0
    rw [List.append_nil]
    refine ⟨v, w, ?_, O, b, ⟨rfl, rfl, rfl, Nat.le_refl _, fun _ _ _ => rfl⟩⟩
    rcases O.row with ⟨rfl, h⟩ | ⟨g, cap, rfl, _, hn, _⟩
    · exact append_w0 w ty _ p 0 0 c none rfl (Nat.le_refl _)
    · exact append_w0 w ty _ p l.length cap c _ rfl hn
  · obtain ⟨v', w', h1, h2, h3, h4⟩ := append_ua B w ty v l m O g o c hu (by omega) hB
    exact ⟨v', w', h1, h2, below_grown' b h3 (fun k hk => (O.lt k hk).1) hB, h3⟩
theorem OwU.shape3 {B : Nat} {w : World} {v : Value} {l : List Nat} (h : OwU B w v l) : ∃ p n c, v = .slice p n c := by
  obtain ⟨p, c, e⟩ := h.shape
  exact ⟨p, _, c, e⟩
theorem run_bs0_w (w : World) : (Instr.buildSlice 31 0 #[]).run Try.prog w = .ok (.slice (some ⟨w.heap.size, 0, none⟩) 0 0) (w.alloc (.cells #[] 24)) := by
  obtain ⟨i, hi, hs, _, _⟩ := info_u64
  simp [Instr.buildSlice, run_underlying Try.underlying31, sizeOf, typeInfo, hi, newRow, Instr.fill]
  exact congrArg (fun c => w.alloc (.cells c 24)) (Array.ext (by simp) (fun i h => by simp at h))
theorem owu_none (B : Nat) (w : World) (hB : B ≤ w.heap.size) : OwU B (w.alloc (.cells #[] 24)) (.slice (some ⟨w.heap.size, 0, none⟩) 0 0) [] :=
  ⟨rfl, .inr ⟨w.heap.size, 0, #[], rfl, hB, heap_alloc_new w _, Nat.le_refl _, Nat.zero_le _, rfl, rfl⟩⟩
theorem one_w (w : World) (n : Nat) : SUB 0 (w.alloc (.cells #[.int .u64 (n : Int)] 24)) (.slice (some ⟨w.heap.size, 0, none⟩) 1 1) [n] :=
  ⟨_, 1, rfl, Nat.le_refl _, Or.inr ⟨w.heap.size, 0, rfl, Nat.zero_le _, ⟨fun i hi => by
    have hi0 : i = 0 := by simp at hi; exact hi
    subst hi0
    exact Blk.cell (Blk.new w 24 #[.int .u64 (n : Int)]) 0, (Blk.new w 24 #[.int .u64 (n : Int)]).lt⟩⟩⟩
/-- All but a row of one's own stays: a slice of another block too. -/
theorem SUB.off {w w' : World} {g c n : Nat} {l : List Nat} {r : Option Nat} (h : SUB 0 w (.slice (some ⟨g, 0, none⟩) n c) l) (k : w.grownBy w' r) (hr : r ≠ some g) : SUB 0 w' (.slice (some ⟨g, 0, none⟩) n c) l := by
  obtain ⟨p, d, e, hc, h1⟩ := h
  refine ⟨p, d, e, hc, ?_⟩
  rcases h1 with h1 | ⟨g', o, e', hB, h1⟩
  · exact Or.inl h1
  · simp only [Value.slice.injEq] at e
    obtain ⟨rfl, _, _⟩ := e
    simp only [Option.some.injEq, Addr.mk.injEq, and_true] at e'
    obtain ⟨rfl, rfl⟩ := e'
    exact Or.inr ⟨g, 0, rfl, hB, h1.of_block (k.block g h1.blk (fun e => hr e.symm))⟩
theorem SUB.take {B : Nat} {w : World} {p : Option Addr} {n c : Nat} {l : List Nat} (h : SUB B w (.slice p n c) l) (k : Nat) (hk : k ≤ n) : SUB B w (.slice p k c) (l.take k) := by
  obtain ⟨q, d, e, hc, h1⟩ := h
  simp only [Value.slice.injEq] at e
  obtain ⟨rfl, rfl, rfl⟩ := e
  have hl : (l.take k).length = k := by rw [List.length_take]; omega
  refine ⟨p, c, by rw [hl], by omega, ?_⟩
  rcases h1 with h1 | ⟨g, o, e, hB, hb⟩
  · exact Or.inl (by rw [h1]; simp)
  · exact Or.inr ⟨g, o, e, hB, ⟨fun i hi => by
      have hl' : i < l.length := by omega
      rw [hb.cell i hl', List.getElem_take], hb.blk⟩⟩
def tlP (p : Option Addr) (c k : Nat) : Option Addr := p.map fun a => if c = k then a else a.add k
theorem SUB.drop {B : Nat} {w : World} {p : Option Addr} {n c : Nat} {l : List Nat} (h : SUB B w (.slice p n c) l) (k : Nat) (hk : k ≤ n) : SUB B w (.slice (tlP p c k) (n - k) (c - k)) (l.drop k) := by
  obtain ⟨q, d, e, hc, h1⟩ := h
  simp only [Value.slice.injEq] at e
  obtain ⟨rfl, rfl, rfl⟩ := e
  have hl : (l.drop k).length = l.length - k := by rw [List.length_drop]
  refine ⟨_, c - k, by rw [hl], by omega, ?_⟩
  rcases h1 with h1 | ⟨g, o, rfl, hB, hb⟩
  · exact Or.inl (by rw [h1]; simp)
  · by_cases hck : c = k
    · exact Or.inl (List.eq_nil_of_length_eq_zero (by omega))
    · exact Or.inr ⟨g, o + k, by simp [tlP, hck, Addr.add_lit], hB, ⟨fun i hi => by
        have hl' : k + i < l.length := by omega
        rw [Nat.add_assoc, hb.cell (k + i) hl', List.getElem_drop], hb.blk⟩⟩
theorem yieldsIf_tlw {ops : Array Oper} {S : World → Prop} {o : Oper} {a : Act} (hgd : Region.wanted o (yielded ops a.tmps) = true) (x y : Operand) (ho : o.op = .slice 31 x (some y) none none) (p : Option Addr) (n c k : Nat) (hx : a.eval x = .slice p n c) (hlo : a.eval y = .int .i64 (k : Int)) (hk : k ≤ n) (hc : n ≤ c) :
    YieldsIf Try.prog ops S o (.slice (tlP p c k) (n - k) (c - k)) a := by
  refine Or.inl ⟨hgd, fun w hw => ?_⟩
  have q1 : (0 : Int) ≤ (k : Int) := by omega
  have q2 : (k : Int) ≤ (n : Int) := by omega
  have q3 : (n : Int) ≤ (c : Int) := by omega
  simp only [execOp, ho, hx, Option.map_some, hlo]
  cases p with
  | none =>
    go_simp
    rfl
  | some b =>
    go_simp
    by_cases h : c = k <;> simp [tlP, h]
theorem yieldsIf_hdw {ops : Array Oper} {S : World → Prop} {o : Oper} {a : Act} (hgd : Region.wanted o (yielded ops a.tmps) = true) (x y : Operand) (ho : o.op = .slice 31 x none (some y) none) (p : Option Addr) (n c k : Nat) (hx : a.eval x = .slice p n c) (hlo : a.eval y = .int .i64 (k : Int)) (hk : k ≤ c) :
    YieldsIf Try.prog ops S o (.slice p k c) a := by
  refine Or.inl ⟨hgd, fun w hw => ?_⟩
  have q1 : (0 : Int) ≤ (k : Int) := by omega
  have q2 : (k : Int) ≤ (c : Int) := by omega
  simp only [execOp, ho, hx, Option.map_some, hlo]
  cases p with
  | none => go_simp
  | some b => go_simp
set_option maxHeartbeats 8000000 in
set_option maxRecDepth 100000 in
theorem rput_c (h n fl B : Nat) (v : Value) (L : List Nat) (l : List (Nat × Nat)) (hR : Rl l L) (hSn : Sn l fl) (hL : L.length ≤ 500) (W : World) (K : Blk W h 33 #[v, .int .u64 (fl : Int)]) (S : SUB B W v L) (_hB : h < B) (hBW : B ≤ W.heap.size) :
    Calls Try.prog 11 #[.pointer (some ⟨h, 0, none⟩), .int .u64 (n : Int)] W fun e w' => e = .returned (.bool (okS l fl n)) ∧ ∃ v' L', Blk w' h 33 #[v', .int .u64 ((putS l fl n).2 : Int)] ∧ SUB B w' v' L' ∧ Rl (putS l fl n).1 L' ∧ L'.length ≤ L.length + 1 ∧ W.grownBy w' (some h) := by
  have hlt := K.lt
  have CH := rhas_c h n fl B v L (by omega) W K S
  rw [← hR.has hSn.wf fl n] at CH
  by_cases hm : n ≤ 4611686018427387903
  · have m1 : ¬ (n : Int) > 4611686018427387903 := by omega
    by_cases hh : hasS l fl n = true
    · rw [hh] at CH
      have ho : okS l fl n = false := by unfold okS; rw [hh]; simp
      have hp : putS l fl n = (l, fl) := by unfold putS; rw [ho]; rfl
      rw [ho, hp]
      clear ho hp
      have R := Lib.hid hR
      clear hR
      go_enter Try.func11, Try.ntmps11
      go_wp2_with fail
      refine CH.mono ?_
      rintro e w1 ⟨rfl, hB1⟩
      clear CH
      go_wp2
      go_ret
      exact ⟨rfl, v, L, K.below hB1 hlt, S.below hB1, R.out, Nat.le_succ _, gb_of hB1 (Nat.le_refl _) h⟩
    · rw [Bool.not_eq_true] at hh
      rw [hh] at CH
      have ho : okS l fl n = true := by unfold okS; rw [hh]; simp [hm]
      have HP := Lib.hid (fun i hi h1 h2 => Rl.put hR hSn ho i hi h1 h2)
      have hpp : putS l fl n = putT l fl n := by unfold putS; rw [if_pos ho]
      rw [ho, hpp]
      have HO := Lib.hid ho
      have HR := Lib.hid hR
      clear hpp ho hR hh
      go_enter Try.func11, Try.ntmps11
      go_wp2_with fail
      refine CH.mono ?_
      rintro e w0 ⟨rfl, hB1⟩
      clear CH
      obtain ⟨p, c, rfl, hc⟩ := S.shape
      have c0 : W.cell? ⟨h, 0, none⟩ = some (.slice p L.length c) := by
        rw [K.cell]
        rfl
      go_upto_region 4 with fail
      rename_i KT aT
      have TAIL : ∀ (i : Nat) (wr : World), i ≤ L.length → (∀ j, j < i → L.getD j 0 < n) → (i < L.length → n ≤ L.getD i 0) → Below W.heap.size W wr → ∀ {x2 x3 x6 x7 x8 x9 x10 x11 x12 x13 x14 x15 x16 x17 x18 x19 x20 x21 x22 x23 x24 x25 x26 x27 x28 x29 x30 x31 x32 x33 x34 x35 x36 x37 x38 x39 x40 x41 x42 x43 x44 x45 x46 x47 x48 x49 x50 x51 x52 x53 x54 x55 x56 x57 x58 x59 x60 x61 x62 x63 x64 x65 x66 x67 x68 x69 x70 x71 x72 x73 x74 x75 x76 x77 x78 x79 x80 x81 x82 x83 x84 x85 x86 x87 x88 x89 x90 x91 x92 x93 : Value}, KT { tmps := #[.pointer (some ⟨h, 0, none⟩), .int .u64 (n : Int), x2, x3, .bool false, .int .i64 (i : Int), x6, x7, x8, x9, x10, x11, x12, x13, x14, x15, x16, x17, x18, x19, x20, x21, x22, x23, x24, x25, x26, x27, x28, x29, x30, x31, x32, x33, x34, x35, x36, x37, x38, x39, x40, x41, x42, x43, x44, x45, x46, x47, x48, x49, x50, x51, x52, x53, x54, x55, x56, x57, x58, x59, x60, x61, x62, x63, x64, x65, x66, x67, x68, x69, x70, x71, x72, x73, x74, x75, x76, x77, x78, x79, x80, x81, x82, x83, x84, x85, x86, x87, x88, x89, x90, x91, x92, x93], defers := [] } wr := by
        intro i wr hi h1 h2 hBd
        intros
        refine aT _ _ ?_
        clear aT
        have hT := HP.out i hi h1 h2
        have HT := Lib.hid hT
        clear hT h1 h2 HP
        go_upto_region 6 with fail
        rename_i K6 a6
        have FIN : ∀ (v5 : Value) (w5 : World), OwU W.heap.size w5 v5 (insL L i n) → Below W.heap.size W w5 → ∀ {x2 x3 x6 x7 x8 x9 x10 x11 x12 x13 x14 x15 x16 x17 x18 x19 x20 x21 x22 x23 x24 x25 x26 x27 x28 x29 x30 x31 x32 x33 x34 x35 x36 x37 x38 x39 x40 x41 x42 x43 x44 x45 x46 x47 x48 x49 x50 x51 x52 x53 x54 x55 x56 x57 x58 x59 x60 x61 x62 x63 x64 x65 x66 x67 x68 x69 x70 x71 x72 x73 x74 x75 x76 x77 x78 x79 x80 x81 x82 x83 x84 x85 x86 x87 x88 x89 x90 x91 x92 x93 : Value}, K6 { tmps := #[.pointer (some ⟨h, 0, none⟩), .int .u64 (n : Int), x2, x3, .bool false, .int .i64 (i : Int), x6, x7, x8, x9, x10, x11, x12, x13, x14, x15, x16, x17, x18, x19, x20, x21, x22, x23, x24, x25, x26, x27, x28, x29, x30, x31, x32, x33, x34, x35, x36, x37, x38, x39, x40, x41, x42, x43, x44, x45, x46, x47, x48, x49, x50, x51, x52, x53, x54, x55, x56, x57, x58, x59, x60, x61, x62, x63, x64, x65, x66, x67, x68, x69, x70, x71, x72, x73, x74, x75, x76, x77, x78, x79, x80, x81, x82, x83, x84, x85, x86, x87, x88, x89, x90, x91, x92, x93], defers := [] } (w5.setCell ⟨h, 0, none⟩ v5) := by
          intro v5 w5 O5 b5
          intros
          refine a6 _ _ ?_
          clear a6
          have K5 := (K.below b5 hlt).set 0 v5
          have e5 : (#[.slice p L.length c, .int .u64 (fl : Int)] : Array Value).setIfInBounds 0 v5 = #[v5, .int .u64 (fl : Int)] := rfl
          rw [e5] at K5
          have G5 := gb_cell (gb_of b5 (Nat.le_refl _) h) 0 v5
          have S5 : SUB W.heap.size (w5.setCell ⟨h, 0, none⟩ v5) v5 (insL L i n) := O5.sub.keep fun g hg _ => heap_setCell_other w5 ⟨h, 0, none⟩ g v5 (fun e => by have e' : g = h := e; omega)
          generalize w5.setCell ⟨h, 0, none⟩ v5 = w6 at *
          clear O5 e5 b5
          have hlen : (insL L i n).length = L.length + 1 := by
            unfold insL
            rw [List.length_append, List.length_cons, List.length_take, List.length_drop]
            omega
          have htop : ∀ x ∈ insL L i n, x ≤ 4611686018427387903 := fun x hx => by
            unfold insL at hx
            rcases List.mem_append.1 hx with h1 | h1
            · exact memS_le hSn.top ((HR.out.mem x).1 (List.mem_of_mem_take h1))
            · rcases List.mem_cons.1 h1 with rfl | h1
              · exact hm
              · exact memS_le hSn.top ((HR.out.mem x).1 (List.mem_of_mem_drop h1))
          have CS := rspans_c h fl W.heap.size v5 (insL L i n) (by omega) htop w6 K5 S5
          rw [HT.out.1] at CS
          have CSh := Lib.hid CS
          have HL := Lib.hid hlen
          clear CS hlen htop
          go_wp2_with fail
          refine CSh.out.mono ?_
          rintro e w7 ⟨u, rfl, OS, b7⟩
          obtain ⟨p2, c2, rfl⟩ := OS.shape
          have hlt6 : h < w6.heap.size := K5.lt
          have K7 := K5.below b7 hlt6
          have S7 := S5.below b7
          have G7 := World.grownBy.trans G5 (gb_of b7 (Nat.le_refl _) h)
          clear CSh K5 S5 G5
          by_cases h33 : 32 < (insS l n).length
          · have y1 : (32 : Int) < ((insS l n).length : Int) := by omega
            obtain ⟨gs, cs, cur, e, _, _, _, _, hPA⟩ : ∃ g cap cur, Value.slice p2 (insS l n).length c2 = .slice (some ⟨g, 0, none⟩) (insS l n).length cap ∧ w6.heap.size ≤ g ∧ (insS l n).length ≤ cap ∧ Blk w7 g 26 cur ∧ (insS l n).length * 2 ≤ cur.size ∧ PA w7 g 0 (insS l n) := by
              rcases OS.row with ⟨_, h0⟩ | h0
              · rw [h0] at h33; simp at h33
              · exact h0
            simp only [Value.slice.injEq] at e
            obtain ⟨rfl, _, rfl⟩ := e
            have c9 := hPA.lo 31 (by omega)
            obtain ⟨hf, hk⟩ := HT.out.2.2 h33
            rw [← hf] at c9
            have y2 : (31 : Int) < ((insS l n).length : Int) := by omega
            have c10 := K7.cell 1
            have f10 := K7.frozen 1
            have e10 : (#[v5, Value.int .u64 (fl : Int)] : Array Value)[1]? = some (.int .u64 (fl : Int)) := rfl
            rw [e10] at c10
            have K8 := K7.set 1 (.int .u64 ((putT l fl n).2 : Int))
            have e11 : (#[v5, Value.int .u64 (fl : Int)] : Array Value).setIfInBounds 1 (.int .u64 ((putT l fl n).2 : Int)) = #[v5, .int .u64 ((putT l fl n).2 : Int)] := rfl
            rw [e11] at K8
            have G8 := gb_cell G7 1 (.int .u64 ((putT l fl n).2 : Int))
            have S8 : SUB W.heap.size (w7.setCell ⟨h, 1, none⟩ (.int .u64 ((putT l fl n).2 : Int))) v5 (insL L i n) := S7.keep fun g hg _ => heap_setCell_other w7 ⟨h, 1, none⟩ g _ (fun e => by have e' : g = h := e; omega)
            have HK := Lib.hid hk
            have R8 := Lib.hid (And.intro K8 (And.intro G8 S8))
            clear K8 G8 S8 hk hf e10 e11 K7 G7 S7 hPA OS
            generalize hf2 : (putT l fl n).2 = f2 at *
            generalize hl2 : (putT l fl n).1 = l2 at *
            have HF2 := Lib.hid hf2
            have HL2 := Lib.hid hl2
            clear hf2 hl2
            have HPOS := Lib.hid h33
            clear h33
            generalize hm1 : (insS l n).length = m1' at *
            clear hm1
            go_upto_region 9 with fail
            go_upto_region 10 with fail
            generalize w7.setCell ⟨h, 1, none⟩ (.int .u64 (f2 : Int)) = w8 at *
            go_loopw [] (fun wr => ∃ (k : Nat) (vk : Value), k ≤ (insL L i n).length ∧ (∀ j, j < k → (insL L i n).getD j 0 < f2) ∧ Blk wr h 33 #[vk, .int .u64 (f2 : Int)] ∧ SUB W.heap.size wr vk ((insL L i n).drop k) ∧ W.grownBy wr (some h)) (fun w => match w.cell? ⟨h, 0, none⟩ with | some (.slice _ m _) => m | _ => 0)
            case atStart => exact ⟨0, v5, Nat.zero_le _, fun j hj => absurd hj (Nat.not_lt_zero _), R8.out.1, R8.out.2.2, R8.out.2.1⟩
            case round =>
              obtain ⟨k, vk, hk, hlow, Kk, Sk, Gk⟩ := hrel
              obtain ⟨pk, ck, rfl, hck⟩ := Sk.shape
              have hnk : ((insL L i n).drop k).length = (insL L i n).length - k := List.length_drop ..
              have c20 := Kk.drew.cell 0
              have e20 : (#[.slice pk ((insL L i n).drop k).length ck, Value.int .u64 (f2 : Int)] : Array Value)[0]? = some (.slice pk ((insL L i n).drop k).length ck) := rfl
              rw [e20] at c20
              clear e20
              have c21 := Kk.drew.cell 1
              have e21 : (#[.slice pk ((insL L i n).drop k).length ck, Value.int .u64 (f2 : Int)] : Array Value)[1]? = some (.int .u64 (f2 : Int)) := rfl
              rw [e21] at c21
              clear e21
              have HLOW := Lib.hid hlow
              clear hlow
              by_cases hkM : k = (insL L i n).length
              · have hQ := Lib.hid (HK.out k hk HLOW.out (fun h1 => absurd h1 (by omega)))
                have R9 := Lib.hid (And.intro Kk.drew (And.intro (Sk.below (below_drew (Below.refl _ _))) (gb_drew Gk)))
                have hnl : ((insL L i n).drop k).length = 0 := by omega
                rw [hnl] at c20 Kk
                clear hnk hnl hck Sk Gk Kk
                have hS10 : (fun w' : World => w'.cell? ⟨h, 0, none⟩ = some (.slice pk 0 ck)) wr.drew := c20
                go_upto_region 10 with fail
                rename_i aK
                refine wp_region_S (S := fun w' => w'.cell? ⟨h, 0, none⟩ = some (.slice pk 0 ck)) (by kernel_rfl) ?_
                refine wpAnyS_takeL 0 (v := .pointer (some ⟨h, 0, none⟩)) rfl (by kernel_rfl) (by kernel_rfl) (by kernel_rfl) (fun _ _ _ H => H) (yieldsIf_move rfl _ rfl (.pointer (some ⟨h, 0, none⟩)) rfl) hS10 ?_
                simp only [AP]
                refine wpAnyS_takeL 1 (v := .pointer (some ⟨h, 0, none⟩)) rfl (by kernel_rfl) (by kernel_rfl) (by kernel_rfl) (fun _ _ _ H => H) (Or.inl ⟨by rfl, fun w' hw' => by go_simp⟩) hS10 ?_
                simp only [AP]
                refine wpAnyS_takeL 2 (v := .pointer (some ⟨h, 0, none⟩)) rfl (by kernel_rfl) (by kernel_rfl) (by kernel_rfl) (fun _ _ _ H => H) (Or.inl ⟨by rfl, fun w' hw' => by go_simp⟩) hS10 ?_
                simp only [AP]
                refine wpAnyS_takeL 3 (v := .slice pk 0 ck) rfl (by kernel_rfl) (by kernel_rfl) (by kernel_rfl) (fun _ _ _ H => H) (Or.inl ⟨by rfl, fun w' hw' => by (go_simp)⟩) hS10 ?_
                simp only [AP]
                refine wpAnyS_takeL 4 (v := .int .i64 0) rfl (by kernel_rfl) (by kernel_rfl) (by kernel_rfl) (fun _ _ _ H => H) (Or.inl ⟨by rfl, fun w' hw' => by go_simp⟩) hS10 ?_
                simp only [AP]
                refine wpAnyS_takeL 5 (v := .bool false) rfl (by kernel_rfl) (by kernel_rfl) (by kernel_rfl) (fun _ _ _ H => H) (Or.inl ⟨by rfl, fun w' hw' => by (go_simp)⟩) hS10 ?_
                simp only [AP]
                refine wpAnyS_takeL 6 (v := .bool false) rfl (by kernel_rfl) (by kernel_rfl) (by kernel_rfl) (fun _ _ _ H => H) (yieldsIf_move rfl _ rfl (.bool false) rfl) hS10 ?_
                simp only [AP]
                refine wpAnyS_takeL 7 (v := undef) rfl (by kernel_rfl) (by kernel_rfl) (by kernel_rfl) (fun _ _ _ H => H) (yieldsIf_off rfl) hS10 ?_
                simp only [AP]
                refine wpAnyS_takeL 8 (v := undef) rfl (by kernel_rfl) (by kernel_rfl) (by kernel_rfl) (fun _ _ _ H => H) (yieldsIf_off rfl) hS10 ?_
                simp only [AP]
                refine wpAnyS_takeL 9 (v := undef) rfl (by kernel_rfl) (by kernel_rfl) (by kernel_rfl) (fun _ _ _ H => H) (yieldsIf_off rfl) hS10 ?_
                simp only [AP]
                refine wpAnyS_takeL 10 (v := undef) rfl (by kernel_rfl) (by kernel_rfl) (by kernel_rfl) (fun _ _ _ H => H) (yieldsIf_off rfl) hS10 ?_
                simp only [AP]
                refine wpAnyS_takeL 11 (v := undef) rfl (by kernel_rfl) (by kernel_rfl) (by kernel_rfl) (fun _ _ _ H => H) (yieldsIf_off rfl) hS10 ?_
                simp only [AP]
                refine wpAnyS_takeL 12 (v := undef) rfl (by kernel_rfl) (by kernel_rfl) (by kernel_rfl) (fun _ _ _ H => H) (yieldsIf_off rfl) hS10 ?_
                simp only [AP]
                refine wpAnyS_takeL 13 (v := undef) rfl (by kernel_rfl) (by kernel_rfl) (by kernel_rfl) (fun _ _ _ H => H) (yieldsIf_off rfl) hS10 ?_
                simp only [AP]
                refine wpAnyS_takeL 14 (v := undef) rfl (by kernel_rfl) (by kernel_rfl) (by kernel_rfl) (fun _ _ _ H => H) (yieldsIf_off rfl) hS10 ?_
                simp only [AP]
                refine wpAnyS_takeL 15 (v := undef) rfl (by kernel_rfl) (by kernel_rfl) (by kernel_rfl) (fun _ _ _ H => H) (yieldsIf_off rfl) hS10 ?_
                simp only [AP]
                refine wpAnyS_takeL 16 (v := undef) rfl (by kernel_rfl) (by kernel_rfl) (by kernel_rfl) (fun _ _ _ H => H) (yieldsIf_off rfl) hS10 ?_
                simp only [AP]
                refine wpAnyS_takeL 17 (v := undef) rfl (by kernel_rfl) (by kernel_rfl) (by kernel_rfl) (fun _ _ _ H => H) (yieldsIf_off rfl) hS10 ?_
                simp only [AP]
                refine wpAnyS_takeL 18 (v := .bool false) rfl (by kernel_rfl) (by kernel_rfl) (by kernel_rfl) (fun _ _ _ H => H) (yieldsIf_pick rfl _ _ _ rfl false rfl (.bool false) rfl) hS10 ?_
                simp only [AP]
                refine wpAnyS_done (by kernel_rfl) ?_ _
                refine aK _ _ ?_
                clear aK hS10
                go_wp2
                go_ret
                rw [HF2.out, HL2.out]
                refine ⟨rfl, _, _, R9.out.1, R9.out.2.1.mono hBW, hQ.out, ?_, R9.out.2.2⟩
                have := HL.out
                rw [List.length_drop]
                omega
              · have hkl : k < (insL L i n).length := by omega
                obtain ⟨gb, ob, rfl, _, hu⟩ := Sk.at_ (by omega)
                have c22 := hu.get 0 (by omega)
                have e22 : ((insL L i n).drop k).getD 0 0 = (insL L i n).getD k 0 := by
                  rw [getD_lt' _ _ _ (by omega), getD_lt' _ _ _ hkl, List.getElem_drop]
                  rfl
                rw [e22, Nat.add_zero] at c22
                have R9 := Lib.hid (And.intro Kk (And.intro Sk Gk))
                have hlow2 : (insL L i n).getD k 0 < f2 → ∀ j, j < k + 1 → (insL L i n).getD j 0 < f2 := fun h1 j hj => by
                  rcases Nat.lt_or_ge j k with h2 | h2
                  · exact HLOW.out j h2
                  · have : j = k := by omega
                    rw [this]; exact h1
                have HLOW2 := Lib.hid hlow2
                have hstop : f2 ≤ (insL L i n).getD k 0 → _ := fun h1 => HK.out k hk HLOW.out (fun _ => h1)
                have HST := Lib.hid hstop
                have hdd : ((insL L i n).drop k).drop 1 = (insL L i n).drop (k + 1) := by rw [List.drop_drop]
                have HDD := Lib.hid hdd
                clear hlow2 hstop e22 hdd hu
                have hnp : 0 < ((insL L i n).drop k).length := by omega
                have HNK := Lib.hid hnk
                clear hnk
                generalize (insL L i n).getD k 0 = z at *
                generalize ((insL L i n).drop k).length = nk at *
                have z1 : (0 : Int) < (nk : Int) := by omega
                have z2 : ¬ (nk : Int) ≤ 0 := by omega
                have hS10 : (fun w' => w'.cell? ⟨h, 0, none⟩ = some (.slice (some ⟨gb, ob, none⟩) nk ck) ∧ w'.cell? ⟨h, 1, none⟩ = some (.int .u64 (f2 : Int)) ∧ w'.cell? ⟨gb, ob, none⟩ = some (.int .u64 (z : Int))) wr.drew := ⟨c20, c21, c22⟩
                by_cases hz : z < f2
                · have x1 : (z : Int) < (f2 : Int) := by omega
                  have HZ := Lib.hid hz
                  clear hz
                  go_upto_region 10 with fail
                  rename_i aK
                  refine wp_region_S (S := fun w' => w'.cell? ⟨h, 0, none⟩ = some (.slice (some ⟨gb, ob, none⟩) nk ck) ∧ w'.cell? ⟨h, 1, none⟩ = some (.int .u64 (f2 : Int)) ∧ w'.cell? ⟨gb, ob, none⟩ = some (.int .u64 (z : Int))) (by kernel_rfl) ?_
                  refine wpAnyS_takeL 0 (v := .pointer (some ⟨h, 0, none⟩)) rfl (by kernel_rfl) (by kernel_rfl) (by kernel_rfl) (fun _ _ _ H => H) (yieldsIf_move rfl _ rfl (.pointer (some ⟨h, 0, none⟩)) rfl) hS10 ?_
                  simp only [AP]
                  refine wpAnyS_takeL 1 (v := .pointer (some ⟨h, 0, none⟩)) rfl (by kernel_rfl) (by kernel_rfl) (by kernel_rfl) (fun _ _ _ H => H) (Or.inl ⟨by rfl, fun w' hw' => by go_simp⟩) hS10 ?_
                  simp only [AP]
                  refine wpAnyS_takeL 2 (v := .pointer (some ⟨h, 0, none⟩)) rfl (by kernel_rfl) (by kernel_rfl) (by kernel_rfl) (fun _ _ _ H => H) (Or.inl ⟨by rfl, fun w' hw' => by go_simp⟩) hS10 ?_
                  simp only [AP]
                  refine wpAnyS_takeL 3 (v := .slice (some ⟨gb, ob, none⟩) nk ck) rfl (by kernel_rfl) (by kernel_rfl) (by kernel_rfl) (fun _ _ _ H => H) (Or.inl ⟨by rfl, fun w' hw' => by (go_simp)⟩) hS10 ?_
                  simp only [AP]
                  refine wpAnyS_takeL 4 (v := .int .i64 (nk : Int)) rfl (by kernel_rfl) (by kernel_rfl) (by kernel_rfl) (fun _ _ _ H => H) (Or.inl ⟨by rfl, fun w' hw' => by go_simp⟩) hS10 ?_
                  simp only [AP]
                  refine wpAnyS_takeL 5 (v := .bool true) rfl (by kernel_rfl) (by kernel_rfl) (by kernel_rfl) (fun _ _ _ H => H) (Or.inl ⟨by rfl, fun w' hw' => by (go_simp)⟩) hS10 ?_
                  simp only [AP]
                  refine wpAnyS_takeL 6 (v := .bool true) rfl (by kernel_rfl) (by kernel_rfl) (by kernel_rfl) (fun _ _ _ H => H) (yieldsIf_move rfl _ rfl (.bool true) rfl) hS10 ?_
                  simp only [AP]
                  refine wpAnyS_takeL 7 (v := .pointer (some ⟨h, 0, none⟩)) rfl (by kernel_rfl) (by kernel_rfl) (by kernel_rfl) (fun _ _ _ H => H) (yieldsIf_move rfl _ rfl (.pointer (some ⟨h, 0, none⟩)) rfl) hS10 ?_
                  simp only [AP]
                  refine wpAnyS_takeL 8 (v := .pointer (some ⟨h, 0, none⟩)) rfl (by kernel_rfl) (by kernel_rfl) (by kernel_rfl) (fun _ _ _ H => H) (Or.inl ⟨by rfl, fun w' hw' => by go_simp⟩) hS10 ?_
                  simp only [AP]
                  refine wpAnyS_takeL 9 (v := .pointer (some ⟨h, 0, none⟩)) rfl (by kernel_rfl) (by kernel_rfl) (by kernel_rfl) (fun _ _ _ H => H) (Or.inl ⟨by rfl, fun w' hw' => by go_simp⟩) hS10 ?_
                  simp only [AP]
                  refine wpAnyS_takeL 10 (v := .slice (some ⟨gb, ob, none⟩) nk ck) rfl (by kernel_rfl) (by kernel_rfl) (by kernel_rfl) (fun _ _ _ H => H) (Or.inl ⟨by rfl, fun w' hw' => by (go_simp)⟩) hS10 ?_
                  simp only [AP]
                  refine wpAnyS_takeL 11 (v := .pointer (some ⟨gb, ob, none⟩)) rfl (by kernel_rfl) (by kernel_rfl) (by kernel_rfl) (fun _ _ _ H => H) (Or.inl ⟨by rfl, fun w' hw' => by (go_simp)⟩) hS10 ?_
                  simp only [AP]
                  refine wpAnyS_takeL 12 (v := .int .u64 (z : Int)) rfl (by kernel_rfl) (by kernel_rfl) (by kernel_rfl) (fun _ _ _ H => H) (Or.inl ⟨by rfl, fun w' hw' => by (go_simp)⟩) hS10 ?_
                  simp only [AP]
                  refine wpAnyS_takeL 13 (v := .pointer (some ⟨h, 0, none⟩)) rfl (by kernel_rfl) (by kernel_rfl) (by kernel_rfl) (fun _ _ _ H => H) (yieldsIf_move rfl _ rfl (.pointer (some ⟨h, 0, none⟩)) rfl) hS10 ?_
                  simp only [AP]
                  refine wpAnyS_takeL 14 (v := .pointer (some ⟨h, 0, none⟩)) rfl (by kernel_rfl) (by kernel_rfl) (by kernel_rfl) (fun _ _ _ H => H) (Or.inl ⟨by rfl, fun w' hw' => by go_simp⟩) hS10 ?_
                  simp only [AP]
                  refine wpAnyS_takeL 15 (v := .pointer (some ⟨h, 1, none⟩)) rfl (by kernel_rfl) (by kernel_rfl) (by kernel_rfl) (fun _ _ _ H => H) (Or.inl ⟨by rfl, fun w' hw' => by go_simp⟩) hS10 ?_
                  simp only [AP]
                  refine wpAnyS_takeL 16 (v := .int .u64 (f2 : Int)) rfl (by kernel_rfl) (by kernel_rfl) (by kernel_rfl) (fun _ _ _ H => H) (Or.inl ⟨by rfl, fun w' hw' => by (go_simp)⟩) hS10 ?_
                  simp only [AP]
                  refine wpAnyS_takeL 17 (v := .bool true) rfl (by kernel_rfl) (by kernel_rfl) (by kernel_rfl) (fun _ _ _ H => H) (Or.inl ⟨by rfl, fun w' hw' => by (go_simp)⟩) hS10 ?_
                  simp only [AP]
                  refine wpAnyS_takeL 18 (v := .bool true) rfl (by kernel_rfl) (by kernel_rfl) (by kernel_rfl) (fun _ _ _ H => H) (yieldsIf_pick rfl _ _ _ rfl true rfl (.bool true) rfl) hS10 ?_
                  simp only [AP]
                  refine wpAnyS_done (by kernel_rfl) ?_ _
                  refine aK _ _ ?_
                  clear aK hS10
                  have K11 := R9.out.1.drew
                  have c30 : wr.drew.cell? ⟨h, 0, none⟩ = some (.slice (some ⟨gb, ob, none⟩) nk ck) := c20
                  have f30 := K11.frozen 0
                  have K12 := K11.set 0 (.slice (tlP (some ⟨gb, ob, none⟩) ck 1) (nk - 1) (ck - 1))
                  have e12 : (#[.slice (some ⟨gb, ob, none⟩) nk ck, Value.int .u64 (f2 : Int)] : Array Value).setIfInBounds 0 (.slice (tlP (some ⟨gb, ob, none⟩) ck 1) (nk - 1) (ck - 1)) = #[.slice (tlP (some ⟨gb, ob, none⟩) ck 1) (nk - 1) (ck - 1), .int .u64 (f2 : Int)] := rfl
                  rw [e12] at K12
                  have S12 := ((R9.out.2.1).below (below_drew (Below.refl _ _))).drop 1 (by omega)
                  rw [HDD.out] at S12
                  have G12 := gb_cell (gb_drew R9.out.2.2) 0 (.slice (tlP (some ⟨gb, ob, none⟩) ck 1) (nk - 1) (ck - 1))
                  have S13 := S12.keep (w' := wr.drew.setCell ⟨h, 0, none⟩ (.slice (tlP (some ⟨gb, ob, none⟩) ck 1) (nk - 1) (ck - 1))) fun g hg _ => heap_setCell_other wr.drew ⟨h, 0, none⟩ g _ (fun e => by have e' : g = h := e; omega)
                  have R13 := Lib.hid (And.intro K12 (And.intro S13 G12))
                  have CW := Lib.hid (show wr.cell? ⟨h, 0, none⟩ = some (.slice (some ⟨gb, ob, none⟩) nk ck) from c20)
                  clear K12 S12 S13 G12 K11 e12 c20 c21 c22 R9
                  generalize wr.drew = wq at *
                  go_upto_region 11 with fail
                  refine wp_region_seq ?_
                  refine wpSeq_yield (S := fun _ => True) (yieldsIf_move rfl _ rfl (.pointer (some ⟨h, 0, none⟩)) rfl) trivial ?_
                  simp only [AP]
                  refine wpSeq_yield (S := fun _ => True) (yieldsIf_move rfl _ rfl (.pointer (some ⟨h, 0, none⟩)) rfl) trivial ?_
                  simp only [AP]
                  refine wpSeq_yield (S := fun _ => True) (v := .pointer (some ⟨h, 0, none⟩)) (Or.inl ⟨by rfl, fun w' hw' => by go_simp⟩) trivial ?_
                  simp only [AP]
                  refine wpSeq_yield (S := fun _ => True) (v := .pointer (some ⟨h, 0, none⟩)) (Or.inl ⟨by rfl, fun w' hw' => by go_simp⟩) trivial ?_
                  simp only [AP]
                  refine wpSeq_yield (S := fun w' => w' = wq) (v := .slice (some ⟨gb, ob, none⟩) nk ck) (Or.inl ⟨by rfl, fun w' hw' => by (rw [hw']; go_simp)⟩) rfl ?_
                  simp only [AP]
                  refine wpSeq_yield (S := fun _ => True) (yieldsIf_tlw rfl _ _ rfl (some ⟨gb, ob, none⟩) nk ck 1 rfl rfl hnp hck) trivial ?_
                  simp only [AP]
                  refine wpSeq_yield (S := fun _ => True) (v := .pointer (some ⟨h, 0, none⟩)) (Or.inl ⟨by rfl, fun w' hw' => by go_simp⟩) trivial ?_
                  simp only [AP]
                  refine wpSeq_yield (S := fun _ => True) (v := .pointer (some ⟨h, 0, none⟩)) (Or.inl ⟨by rfl, fun w' hw' => by go_simp⟩) trivial ?_
                  simp only [AP]
                  refine wpSeq_wp rfl ?_
                  unfold Oper.wp execOp
                  go_simp
                  refine wpSeq_nil ?_
                  go_wp2
                  refine ⟨⟨k + 1, _, hkl, HLOW2.out HZ.out, R13.out⟩, ?_⟩
                  rw [CW.out, R13.out.1.cell]
                  show nk - 1 < nk
                  omega
                · have x1 : ¬ (z : Int) < (f2 : Int) := by omega
                  have HZ := Lib.hid hz
                  clear hz
                  go_upto_region 10 with fail
                  rename_i aK
                  refine wp_region_S (S := fun w' => w'.cell? ⟨h, 0, none⟩ = some (.slice (some ⟨gb, ob, none⟩) nk ck) ∧ w'.cell? ⟨h, 1, none⟩ = some (.int .u64 (f2 : Int)) ∧ w'.cell? ⟨gb, ob, none⟩ = some (.int .u64 (z : Int))) (by kernel_rfl) ?_
                  refine wpAnyS_takeL 0 (v := .pointer (some ⟨h, 0, none⟩)) rfl (by kernel_rfl) (by kernel_rfl) (by kernel_rfl) (fun _ _ _ H => H) (yieldsIf_move rfl _ rfl (.pointer (some ⟨h, 0, none⟩)) rfl) hS10 ?_
                  simp only [AP]
                  refine wpAnyS_takeL 1 (v := .pointer (some ⟨h, 0, none⟩)) rfl (by kernel_rfl) (by kernel_rfl) (by kernel_rfl) (fun _ _ _ H => H) (Or.inl ⟨by rfl, fun w' hw' => by go_simp⟩) hS10 ?_
                  simp only [AP]
                  refine wpAnyS_takeL 2 (v := .pointer (some ⟨h, 0, none⟩)) rfl (by kernel_rfl) (by kernel_rfl) (by kernel_rfl) (fun _ _ _ H => H) (Or.inl ⟨by rfl, fun w' hw' => by go_simp⟩) hS10 ?_
                  simp only [AP]
                  refine wpAnyS_takeL 3 (v := .slice (some ⟨gb, ob, none⟩) nk ck) rfl (by kernel_rfl) (by kernel_rfl) (by kernel_rfl) (fun _ _ _ H => H) (Or.inl ⟨by rfl, fun w' hw' => by (go_simp)⟩) hS10 ?_
                  simp only [AP]
                  refine wpAnyS_takeL 4 (v := .int .i64 (nk : Int)) rfl (by kernel_rfl) (by kernel_rfl) (by kernel_rfl) (fun _ _ _ H => H) (Or.inl ⟨by rfl, fun w' hw' => by go_simp⟩) hS10 ?_
                  simp only [AP]
                  refine wpAnyS_takeL 5 (v := .bool true) rfl (by kernel_rfl) (by kernel_rfl) (by kernel_rfl) (fun _ _ _ H => H) (Or.inl ⟨by rfl, fun w' hw' => by (go_simp)⟩) hS10 ?_
                  simp only [AP]
                  refine wpAnyS_takeL 6 (v := .bool true) rfl (by kernel_rfl) (by kernel_rfl) (by kernel_rfl) (fun _ _ _ H => H) (yieldsIf_move rfl _ rfl (.bool true) rfl) hS10 ?_
                  simp only [AP]
                  refine wpAnyS_takeL 7 (v := .pointer (some ⟨h, 0, none⟩)) rfl (by kernel_rfl) (by kernel_rfl) (by kernel_rfl) (fun _ _ _ H => H) (yieldsIf_move rfl _ rfl (.pointer (some ⟨h, 0, none⟩)) rfl) hS10 ?_
                  simp only [AP]
                  refine wpAnyS_takeL 8 (v := .pointer (some ⟨h, 0, none⟩)) rfl (by kernel_rfl) (by kernel_rfl) (by kernel_rfl) (fun _ _ _ H => H) (Or.inl ⟨by rfl, fun w' hw' => by go_simp⟩) hS10 ?_
                  simp only [AP]
                  refine wpAnyS_takeL 9 (v := .pointer (some ⟨h, 0, none⟩)) rfl (by kernel_rfl) (by kernel_rfl) (by kernel_rfl) (fun _ _ _ H => H) (Or.inl ⟨by rfl, fun w' hw' => by go_simp⟩) hS10 ?_
                  simp only [AP]
                  refine wpAnyS_takeL 10 (v := .slice (some ⟨gb, ob, none⟩) nk ck) rfl (by kernel_rfl) (by kernel_rfl) (by kernel_rfl) (fun _ _ _ H => H) (Or.inl ⟨by rfl, fun w' hw' => by (go_simp)⟩) hS10 ?_
                  simp only [AP]
                  refine wpAnyS_takeL 11 (v := .pointer (some ⟨gb, ob, none⟩)) rfl (by kernel_rfl) (by kernel_rfl) (by kernel_rfl) (fun _ _ _ H => H) (Or.inl ⟨by rfl, fun w' hw' => by (go_simp)⟩) hS10 ?_
                  simp only [AP]
                  refine wpAnyS_takeL 12 (v := .int .u64 (z : Int)) rfl (by kernel_rfl) (by kernel_rfl) (by kernel_rfl) (fun _ _ _ H => H) (Or.inl ⟨by rfl, fun w' hw' => by (go_simp)⟩) hS10 ?_
                  simp only [AP]
                  refine wpAnyS_takeL 13 (v := .pointer (some ⟨h, 0, none⟩)) rfl (by kernel_rfl) (by kernel_rfl) (by kernel_rfl) (fun _ _ _ H => H) (yieldsIf_move rfl _ rfl (.pointer (some ⟨h, 0, none⟩)) rfl) hS10 ?_
                  simp only [AP]
                  refine wpAnyS_takeL 14 (v := .pointer (some ⟨h, 0, none⟩)) rfl (by kernel_rfl) (by kernel_rfl) (by kernel_rfl) (fun _ _ _ H => H) (Or.inl ⟨by rfl, fun w' hw' => by go_simp⟩) hS10 ?_
                  simp only [AP]
                  refine wpAnyS_takeL 15 (v := .pointer (some ⟨h, 1, none⟩)) rfl (by kernel_rfl) (by kernel_rfl) (by kernel_rfl) (fun _ _ _ H => H) (Or.inl ⟨by rfl, fun w' hw' => by go_simp⟩) hS10 ?_
                  simp only [AP]
                  refine wpAnyS_takeL 16 (v := .int .u64 (f2 : Int)) rfl (by kernel_rfl) (by kernel_rfl) (by kernel_rfl) (fun _ _ _ H => H) (Or.inl ⟨by rfl, fun w' hw' => by (go_simp)⟩) hS10 ?_
                  simp only [AP]
                  refine wpAnyS_takeL 17 (v := .bool false) rfl (by kernel_rfl) (by kernel_rfl) (by kernel_rfl) (fun _ _ _ H => H) (Or.inl ⟨by rfl, fun w' hw' => by (go_simp)⟩) hS10 ?_
                  simp only [AP]
                  refine wpAnyS_takeL 18 (v := .bool false) rfl (by kernel_rfl) (by kernel_rfl) (by kernel_rfl) (fun _ _ _ H => H) (yieldsIf_pick rfl _ _ _ rfl true rfl (.bool false) rfl) hS10 ?_
                  simp only [AP]
                  refine wpAnyS_done (by kernel_rfl) ?_ _
                  refine aK _ _ ?_
                  clear aK hS10
                  go_wp2
                  go_ret
                  rw [HF2.out, HL2.out]
                  refine ⟨rfl, _, R9.out.1.drew, _, ((R9.out.2.1).below (below_drew (Below.refl _ _))).mono hBW, HST.out (Nat.le_of_not_lt HZ.out), ?_, gb_drew R9.out.2.2⟩
                  have := HL.out
                  rw [List.length_drop]
                  omega
          · have y1 : ¬ (32 : Int) < ((insS l n).length : Int) := by omega
            obtain ⟨hr1, hr2⟩ := HT.out.2.1 h33
            have HR1 := Lib.hid hr1
            have HR2 := Lib.hid hr2
            have K8 := Lib.hid K7
            have S8 := Lib.hid S7
            clear hr1 hr2 h33 K7 S7 OS
            generalize hm1 : (insS l n).length = m1' at *
            clear hm1
            go_wp2
            go_ret
            refine ⟨rfl, v5, insL L i n, ?_, S8.out.mono hBW, HR1.out, Nat.le_of_eq HL.out, G7⟩
            rw [HR2.out]
            exact K8.out
        clear a6
        have bd := below_drew hBd
        have hS : (fun w' => w'.cell? ⟨h, 0, none⟩ = some (.slice p L.length c)) wr.drew := (bd.cell (p := ⟨h, 0, none⟩) hlt).trans c0
        have X0 := S.mono (Nat.zero_le B)
        have X1 := X0.take i hi
        have X2 := X0.drop i hi
        clear X0
        refine wp_region_Z (S := fun w' => w'.cell? ⟨h, 0, none⟩ = some (.slice p L.length c)) 21 (by kernel_rfl) ?_
        refine wpAnyZ_takeL 0 (v := .pointer (some ⟨h, 0, none⟩)) rfl (by kernel_rfl) (by kernel_rfl) (by kernel_rfl) (by kernel_rfl) (by kernel_rfl) (fun _ _ _ H => H) (yieldsIf_move rfl _ rfl (.pointer (some ⟨h, 0, none⟩)) rfl) hS ?_
        simp only [AP]
        refine wpAnyZ_takeL 2 (v := .pointer (some ⟨h, 0, none⟩)) rfl (by kernel_rfl) (by kernel_rfl) (by kernel_rfl) (by kernel_rfl) (by kernel_rfl) (fun _ _ _ H => H) (yieldsIf_move rfl _ rfl (.pointer (some ⟨h, 0, none⟩)) rfl) hS ?_
        simp only [AP]
        refine wpAnyZ_takeL 3 (v := .pointer (some ⟨h, 0, none⟩)) rfl (by kernel_rfl) (by kernel_rfl) (by kernel_rfl) (by kernel_rfl) (by kernel_rfl) (fun _ _ _ H => H) (Or.inl ⟨by rfl, fun w' hw' => by go_simp⟩) hS ?_
        simp only [AP]
        refine wpAnyZ_takeL 4 (v := .pointer (some ⟨h, 0, none⟩)) rfl (by kernel_rfl) (by kernel_rfl) (by kernel_rfl) (by kernel_rfl) (by kernel_rfl) (fun _ _ _ H => H) (Or.inl ⟨by rfl, fun w' hw' => by go_simp⟩) hS ?_
        simp only [AP]
        refine wpAnyZ_takeL 5 (v := .slice p L.length c) rfl (by kernel_rfl) (by kernel_rfl) (by kernel_rfl) (by kernel_rfl) (by kernel_rfl) (fun _ _ _ H => H) (Or.inl ⟨by rfl, fun w' hw' => by (go_simp)⟩) hS ?_
        simp only [AP]
        refine wpAnyZ_takeL 6 (v := .int .i64 (i : Int)) rfl (by kernel_rfl) (by kernel_rfl) (by kernel_rfl) (by kernel_rfl) (by kernel_rfl) (fun _ _ _ H => H) (yieldsIf_move rfl _ rfl (.int .i64 (i : Int)) rfl) hS ?_
        simp only [AP]
        refine wpAnyZ_takeL 7 (v := .slice p i c) rfl (by kernel_rfl) (by kernel_rfl) (by kernel_rfl) (by kernel_rfl) (by kernel_rfl) (fun _ _ _ H => H) (yieldsIf_hdw rfl _ _ rfl p L.length c i rfl rfl (by omega)) hS ?_
        simp only [AP]
        refine wpAnyZ_takeL 9 (v := .int .u64 (n : Int)) rfl (by kernel_rfl) (by kernel_rfl) (by kernel_rfl) (by kernel_rfl) (by kernel_rfl) (fun _ _ _ H => H) (yieldsIf_move rfl _ rfl (.int .u64 (n : Int)) rfl) hS ?_
        simp only [AP]
        refine wpAnyZ_takeL 12 (v := .pointer (some ⟨h, 0, none⟩)) rfl (by kernel_rfl) (by kernel_rfl) (by kernel_rfl) (by kernel_rfl) (by kernel_rfl) (fun _ _ _ H => H) (yieldsIf_move rfl _ rfl (.pointer (some ⟨h, 0, none⟩)) rfl) hS ?_
        simp only [AP]
        refine wpAnyZ_takeL 13 (v := .pointer (some ⟨h, 0, none⟩)) rfl (by kernel_rfl) (by kernel_rfl) (by kernel_rfl) (by kernel_rfl) (by kernel_rfl) (fun _ _ _ H => H) (Or.inl ⟨by rfl, fun w' hw' => by go_simp⟩) hS ?_
        simp only [AP]
        refine wpAnyZ_takeL 14 (v := .pointer (some ⟨h, 0, none⟩)) rfl (by kernel_rfl) (by kernel_rfl) (by kernel_rfl) (by kernel_rfl) (by kernel_rfl) (fun _ _ _ H => H) (Or.inl ⟨by rfl, fun w' hw' => by go_simp⟩) hS ?_
        simp only [AP]
        refine wpAnyZ_takeL 15 (v := .slice p L.length c) rfl (by kernel_rfl) (by kernel_rfl) (by kernel_rfl) (by kernel_rfl) (by kernel_rfl) (fun _ _ _ H => H) (Or.inl ⟨by rfl, fun w' hw' => by (go_simp)⟩) hS ?_
        simp only [AP]
        refine wpAnyZ_takeL 16 (v := .int .i64 (i : Int)) rfl (by kernel_rfl) (by kernel_rfl) (by kernel_rfl) (by kernel_rfl) (by kernel_rfl) (fun _ _ _ H => H) (yieldsIf_move rfl _ rfl (.int .i64 (i : Int)) rfl) hS ?_
        simp only [AP]
        refine wpAnyZ_takeL 17 (v := .slice (tlP p c i) (L.length - i) (c - i)) rfl (by kernel_rfl) (by kernel_rfl) (by kernel_rfl) (by kernel_rfl) (by kernel_rfl) (fun _ _ _ H => H) (yieldsIf_tlw rfl _ _ rfl p L.length c i rfl rfl hi hc) hS ?_
        simp only [AP]
        clear hS
        generalize wr.drew = wd at *
        refine hzsteps 1 10 rfl rfl (by kernel_rfl) rfl rfl ?_ ?_
        · refine wp_build_run 31 rfl _ _ (run_bs0_w _) ?_
          have b1 := bd.alloc (show W.heap.size ≤ (wd).heap.size from bd.size) (.cells #[] 24)
          refine ⟨fun _ => (b1.cell (p := ⟨h, 0, none⟩) hlt).trans c0, ?_⟩
          simp only [AP]
          have O1 := owu_none W.heap.size (wd) bd.size
          refine hzsteps 8 10 rfl rfl (by kernel_rfl) rfl rfl ?_ ?_
          · obtain ⟨v2, w2, r2, O2, b2, G2⟩ := app_w W.heap.size W ((wd).alloc (.cells #[] 24)) 31 _ _ ([]) (L.take i) O1 (X1.below b1) (by rw [List.length_nil, List.length_take]; omega) b1 b1.size
            refine wp_append_run _ _ _ _ rfl _ _ rfl rfl v2 w2 r2 ?_
            refine ⟨fun _ => (b2.cell (p := ⟨h, 0, none⟩) hlt).trans c0, ?_⟩
            simp only [AP]
            refine hzstep 10 rfl (by kernel_rfl) rfl ?_
            refine wp_build_word _ rfl n rfl ?_
            have b3 := b2.alloc (show W.heap.size ≤ (w2).heap.size from b2.size) (.cells #[.int .u64 (n : Int)] 24)
            refine ⟨fun _ => (b3.cell (p := ⟨h, 0, none⟩) hlt).trans c0, ?_⟩
            simp only [AP]
            have N3 := one_w (w2) n
            refine hzstep 11 rfl (by kernel_rfl) rfl ?_
            obtain ⟨v4, w4, r4, O4, b4, G4⟩ := app_w W.heap.size W ((w2).alloc (.cells #[.int .u64 (n : Int)] 24)) 31 _ _ ([] ++ L.take i) ([n]) (O2.below ((Below.refl (w2).heap.size (w2)).alloc (Nat.le_refl _) (.cells #[.int .u64 (n : Int)] 24))) N3 (by rw [List.length_append, List.length_nil, List.length_take, List.length_singleton]; omega) b3 b3.size
            refine wp_append_run _ _ _ _ rfl _ _ rfl rfl v4 w4 r4 ?_
            refine ⟨fun _ => (b4.cell (p := ⟨h, 0, none⟩) hlt).trans c0, ?_⟩
            simp only [AP]
            refine hzstep 18 rfl (by kernel_rfl) rfl ?_
            obtain ⟨v5, w5, r5, O5, b5, G5⟩ := app_w W.heap.size W w4 31 _ _ ([] ++ L.take i ++ [n]) (L.drop i) O4 (X2.below b4) (by rw [List.length_append, List.length_append, List.length_nil, List.length_take, List.length_singleton, List.length_drop]; omega) b4 b4.size
            refine wp_append_run _ _ _ _ rfl _ _ rfl rfl v5 w5 r5 ?_
            refine ⟨fun _ => (b5.cell (p := ⟨h, 0, none⟩) hlt).trans c0, ?_⟩
            simp only [AP]
            have cH := (b5.cell (p := ⟨h, 0, none⟩) hlt).trans c0
            have fH := (K.below b5 hlt).frozen 0
            obtain ⟨p5, n5, c5, rfl⟩ := O5.shape3
            refine hzstep 19 rfl (by kernel_rfl) rfl ?_
            unfold Oper.wp execOp
            go_simp
            refine hzstep 20 rfl (by kernel_rfl) rfl ?_
            unfold Oper.wp execOp
            go_simp
            refine hzstep 21 rfl (by kernel_rfl) rfl ?_
            unfold Oper.wp execOp
            go_simp
            refine wpAnyZ_done (by kernel_rfl) ?_ _
            exact FIN _ _ (by have := O5; rw [List.nil_append, List.append_assoc] at this; exact this) b5
          · refine wp_build_word _ rfl n rfl ?_
            have b2 := b1.alloc (show W.heap.size ≤ (((wd).alloc (.cells #[] 24))).heap.size from b1.size) (.cells #[.int .u64 (n : Int)] 24)
            refine ⟨fun _ => (b2.cell (p := ⟨h, 0, none⟩) hlt).trans c0, ?_⟩
            simp only [AP]
            have N2 := one_w (((wd).alloc (.cells #[] 24))) n
            refine hzstep 8 rfl (by kernel_rfl) rfl ?_
            obtain ⟨v3, w3, r3, O3, b3, G3⟩ := app_w W.heap.size W ((((wd).alloc (.cells #[] 24))).alloc (.cells #[.int .u64 (n : Int)] 24)) 31 _ _ ([]) (L.take i) (O1.below ((Below.refl (((wd).alloc (.cells #[] 24))).heap.size (((wd).alloc (.cells #[] 24)))).alloc (Nat.le_refl _) (.cells #[.int .u64 (n : Int)] 24))) (X1.below b2) (by rw [List.length_nil, List.length_take]; omega) b2 b2.size
            refine wp_append_run _ _ _ _ rfl _ _ rfl rfl v3 w3 r3 ?_
            refine ⟨fun _ => (b3.cell (p := ⟨h, 0, none⟩) hlt).trans c0, ?_⟩
            simp only [AP]
            refine hzstep 11 rfl (by kernel_rfl) rfl ?_
            obtain ⟨v4, w4, r4, O4, b4, G4⟩ := app_w W.heap.size W w3 31 _ _ ([] ++ L.take i) ([n]) O3 (N2.off G3 (by simp only [Value.ownBlock, ne_eq, Option.some.injEq, size_alloc]; omega)) (by rw [List.length_append, List.length_nil, List.length_take, List.length_singleton]; omega) b3 b3.size
            refine wp_append_run _ _ _ _ rfl _ _ rfl rfl v4 w4 r4 ?_
            refine ⟨fun _ => (b4.cell (p := ⟨h, 0, none⟩) hlt).trans c0, ?_⟩
            simp only [AP]
            refine hzstep 18 rfl (by kernel_rfl) rfl ?_
            obtain ⟨v5, w5, r5, O5, b5, G5⟩ := app_w W.heap.size W w4 31 _ _ ([] ++ L.take i ++ [n]) (L.drop i) O4 (X2.below b4) (by rw [List.length_append, List.length_append, List.length_nil, List.length_take, List.length_singleton, List.length_drop]; omega) b4 b4.size
            refine wp_append_run _ _ _ _ rfl _ _ rfl rfl v5 w5 r5 ?_
            refine ⟨fun _ => (b5.cell (p := ⟨h, 0, none⟩) hlt).trans c0, ?_⟩
            simp only [AP]
            have cH := (b5.cell (p := ⟨h, 0, none⟩) hlt).trans c0
            have fH := (K.below b5 hlt).frozen 0
            obtain ⟨p5, n5, c5, rfl⟩ := O5.shape3
            refine hzstep 19 rfl (by kernel_rfl) rfl ?_
            unfold Oper.wp execOp
            go_simp
            refine hzstep 20 rfl (by kernel_rfl) rfl ?_
            unfold Oper.wp execOp
            go_simp
            refine hzstep 21 rfl (by kernel_rfl) rfl ?_
            unfold Oper.wp execOp
            go_simp
            refine wpAnyZ_done (by kernel_rfl) ?_ _
            exact FIN _ _ (by have := O5; rw [List.nil_append, List.append_assoc] at this; exact this) b5
        · refine wp_build_word _ rfl n rfl ?_
          have b1 := bd.alloc (show W.heap.size ≤ (wd).heap.size from bd.size) (.cells #[.int .u64 (n : Int)] 24)
          refine ⟨fun _ => (b1.cell (p := ⟨h, 0, none⟩) hlt).trans c0, ?_⟩
          simp only [AP]
          have N1 := one_w (wd) n
          refine hzstep 1 rfl (by kernel_rfl) rfl ?_
          refine wp_build_run 31 rfl _ _ (run_bs0_w _) ?_
          have b2 := b1.alloc (show W.heap.size ≤ (((wd).alloc (.cells #[.int .u64 (n : Int)] 24))).heap.size from b1.size) (.cells #[] 24)
          refine ⟨fun _ => (b2.cell (p := ⟨h, 0, none⟩) hlt).trans c0, ?_⟩
          simp only [AP]
          have O2 := owu_none W.heap.size (((wd).alloc (.cells #[.int .u64 (n : Int)] 24))) b1.size
          refine hzstep 8 rfl (by kernel_rfl) rfl ?_
          obtain ⟨v3, w3, r3, O3, b3, G3⟩ := app_w W.heap.size W ((((wd).alloc (.cells #[.int .u64 (n : Int)] 24))).alloc (.cells #[] 24)) 31 _ _ ([]) (L.take i) O2 (X1.below b2) (by rw [List.length_nil, List.length_take]; omega) b2 b2.size
          refine wp_append_run _ _ _ _ rfl _ _ rfl rfl v3 w3 r3 ?_
          refine ⟨fun _ => (b3.cell (p := ⟨h, 0, none⟩) hlt).trans c0, ?_⟩
          simp only [AP]
          refine hzstep 11 rfl (by kernel_rfl) rfl ?_
          obtain ⟨v4, w4, r4, O4, b4, G4⟩ := app_w W.heap.size W w3 31 _ _ ([] ++ L.take i) ([n]) O3 ((N1.below ((Below.refl (((wd).alloc (.cells #[.int .u64 (n : Int)] 24))).heap.size (((wd).alloc (.cells #[.int .u64 (n : Int)] 24)))).alloc (Nat.le_refl _) (.cells #[] 24))).off G3 (by simp only [Value.ownBlock, ne_eq, Option.some.injEq, size_alloc]; omega)) (by rw [List.length_append, List.length_nil, List.length_take, List.length_singleton]; omega) b3 b3.size
          refine wp_append_run _ _ _ _ rfl _ _ rfl rfl v4 w4 r4 ?_
          refine ⟨fun _ => (b4.cell (p := ⟨h, 0, none⟩) hlt).trans c0, ?_⟩
          simp only [AP]
          refine hzstep 18 rfl (by kernel_rfl) rfl ?_
          obtain ⟨v5, w5, r5, O5, b5, G5⟩ := app_w W.heap.size W w4 31 _ _ ([] ++ L.take i ++ [n]) (L.drop i) O4 (X2.below b4) (by rw [List.length_append, List.length_append, List.length_nil, List.length_take, List.length_singleton, List.length_drop]; omega) b4 b4.size
          refine wp_append_run _ _ _ _ rfl _ _ rfl rfl v5 w5 r5 ?_
          refine ⟨fun _ => (b5.cell (p := ⟨h, 0, none⟩) hlt).trans c0, ?_⟩
          simp only [AP]
          have cH := (b5.cell (p := ⟨h, 0, none⟩) hlt).trans c0
          have fH := (K.below b5 hlt).frozen 0
          obtain ⟨p5, n5, c5, rfl⟩ := O5.shape3
          refine hzstep 19 rfl (by kernel_rfl) rfl ?_
          unfold Oper.wp execOp
          go_simp
          refine hzstep 20 rfl (by kernel_rfl) rfl ?_
          unfold Oper.wp execOp
          go_simp
          refine hzstep 21 rfl (by kernel_rfl) rfl ?_
          unfold Oper.wp execOp
          go_simp
          refine wpAnyZ_done (by kernel_rfl) ?_ _
          exact FIN _ _ (by have := O5; rw [List.nil_append, List.append_assoc] at this; exact this) b5
      clear aT
      have TAILh := Lib.hid TAIL
      clear TAIL HP
      go_loopw [5] (fun t wr => ∃ i : Nat, i ≤ L.length ∧ (∀ j, j < i → L.getD j 0 < n) ∧ t = .int .i64 (i : Int) ∧ Below W.heap.size W wr) (fun t _ => (L.length - intOf t).toNat)
      case atStart => exact ⟨0, Nat.zero_le _, fun j hj => absurd hj (Nat.not_lt_zero _), rfl, hB1⟩
      case round =>
        obtain ⟨i, hi, hlow, rfl, hB2⟩ := hrel
        have d0 := (hB2.cell (p := ⟨h, 0, none⟩) hlt).trans c0
        have HLOWh := Lib.hid hlow
        by_cases hin : i = L.length
        · have HC := Lib.hid (show i < L.length → n ≤ L.getD i 0 from fun h1 => absurd h1 (by omega))
          have x1 : ¬ (i : Int) < (L.length : Int) := by omega
          clear hlow hin
          go_wp2
          exact TAILh.out i wr hi HLOWh.out HC.out hB2
        · have il : i < L.length := by omega
          have x1 : (i : Int) < (L.length : Int) := by omega
          have x0 : (0 : Int) ≤ (i : Int) := by omega
          have ME := Lib.hid (show ((L.length : Int) - ((i + 1 : Nat) : Int)).toNat < ((L.length : Int) - (i : Int)).toNat by omega)
          obtain ⟨gb, o, rfl, _, hu⟩ := S.at_ (by omega)
          have d1 := (hB2.cell (p := ⟨gb, o + i, none⟩) hu.blk).trans (hu.get i il)
          by_cases hz : L.getD i 0 < n
          · have x2 : ((L.getD i 0 : Nat) : Int) < (n : Int) := by omega
            have HL2 := Lib.hid (show ∀ j, j < i + 1 → L.getD j 0 < n from fun j hj => by
              rcases Nat.lt_or_ge j i with h2 | h2
              · exact hlow j h2
              · have : j = i := by omega
                rw [this]; exact hz)
            clear TAILh hlow hz hu
            generalize L.getD i 0 = z at *
            go_wp2
            exact ⟨⟨i + 1, il, HL2.out, rfl, hB2⟩, ME.out⟩
          · have x2 : ¬ ((L.getD i 0 : Nat) : Int) < (n : Int) := by omega
            have HC := Lib.hid (show i < L.length → n ≤ L.getD i 0 from fun _ => by omega)
            clear hlow hz hu
            generalize L.getD i 0 = z at d1 x2
            go_wp2
            exact TAILh.out i wr hi HLOWh.out HC.out hB2
  · have m1 : (n : Int) > 4611686018427387903 := by omega
    have ho : okS l fl n = false := by unfold okS; simp [hm]
    have hp : putS l fl n = (l, fl) := by unfold putS; rw [ho]; rfl
    rw [ho, hp]
    clear ho hp CH
    have R := Lib.hid hR
    clear hR
    go_enter Try.func11, Try.ntmps11
    go_wp2
    go_ret
    exact ⟨rfl, v, L, K, S, R.out, Nat.le_succ _, ⟨rfl, rfl, rfl, Nat.le_refl _, fun _ _ _ => rfl⟩⟩
end Go.Proofs.Ytnahjmladhbmpaa
