/- What memory holds, as a list of facts that stand over what the program does elsewhere; contracts by value. The contract of scalar.MulAdd. -/
import Derived.Test.YtegbnadnodlalaaDoorGSd0GSc
import Derived.Test.YtegbnadnodlalaaDoorLf0Lj
import Derived.Test.YtegbnadnodlalaaDoorGFm
import Derived.ProofKit
import Derived.OpenShut
import Derived.DataShut
import Derived.ChangeSame
import Derived.JoinedOf
import Derived.JoinedAt
import Derived.RowKit3
namespace Go.Proofs.YtegbnadnodlalaaDoor.Sc
open Go.RowKit
inductive Fact where
  | blk (g : Nat) (t : TypeId) (cs : Array Value)
def Fact.at : Fact → World → Prop
  | .blk g t cs, w => Blk w g t cs
def Facts (L : List Fact) (w : World) : Prop := ∀ f ∈ L, f.at w
theorem Fact.at.below {f : Fact} {w w1 : World} (h : f.at w) (hb : Below w.heap.size w w1) : f.at w1 := by
  cases f with
  | blk g t cs => exact Blk.below' h hb
theorem Facts.below {L : List Fact} {w w1 : World} (h : Facts L w) (hb : Below w.heap.size w w1) : Facts L w1 := fun f hf => (h f hf).below hb
theorem Facts.drew {L : List Fact} {w : World} (h : Facts L w) : Facts L w.drew := h.below (below_drew (Below.refl _ _))
theorem Facts.nil {w : World} : Facts [] w := fun _ h => by cases h
theorem Facts.cons {f : Fact} {L : List Fact} {w : World} (h : f.at w) (hl : Facts L w) : Facts (f :: L) w := fun x hx => by
  rcases List.mem_cons.1 hx with rfl | hx
  · exact h
  · exact hl x hx
theorem Facts.blkAt {L : List Fact} {w : World} (h : Facts L w) (g : Nat) (t : TypeId) (cs : Array Value) (hm : Fact.blk g t cs ∈ L) : Blk w g t cs := h _ hm
/-- A whole row loaded, named by its value. -/
theorem yieldsIf_load {P : Program} {ops : Array Oper} {L : List Fact} {o : Oper} {a : Act} (hgd : Region.wanted o (yielded ops a.tmps) = true) (ty : TypeId) (x : Operand) (ho : o.op = .load ty x) (g : Nat) (hx : a.eval x = .pointer (some ⟨g, 0, none⟩))
    (t : TypeId) (cs : Array Value) (d : TypeDesc) (hm : Fact.blk g t cs ∈ L) (hu : P.underlying ty = some d) (hd : (match d with | .struct _ | .array _ _ => true | _ => false) = true) (hi : (P.info? ty).map (·.size) = some cs.size) :
    YieldsIf P ops (Facts L) o (.agg cs) a := yieldsIf_row_wanted hgd ty x ho g hx t cs d (fun _ h => h.blkAt g t cs hm) hu hd hi
theorem job_frame {P : Program} {ops : Array Oper} {Q : Exit → Act → World → Prop} {S : World → Prop} {J : List Job} {j : Job} {val : Nat → Value} {a : Act} {R : Value → World → Prop} (J' : List Job) (hp : predsOf ops J j = J') (h : JobAt P ops Q S (putAll val J' a) j R) :
    JobAt P ops Q S (putAll val (predsOf ops J j) a) j R := hp ▸ h
theorem words_v (l : List Int) (f : Nat → Nat) (hl : Bytes32 l f) (X : Nat) (hX : X = leTo f 32) (w : World) : Calls Tryd.prog 63 #[Key l] w fun e w' => e = .returned (Nm X) ∧ Below w.heap.size w w' := hX ▸ swords_any l f hl w
theorem product_v (A B C P : Nat) (hA : A < pw 4) (hB : B < pw 4) (hC : C < pw 4) (hP : P = A * B + C) (w : World) : Calls Tryd.prog 62 #[Nm A, Nm B, Nm C] w fun e w' => e = .returned (.agg (W8 (wordAt P))) ∧ Below w.heap.size w w' := hP ▸ product_any A B C w hA hB hC
theorem bytes32_lt {l : List Int} {f : Nat → Nat} (hl : Bytes32 l f) : leTo f 32 < pw 4 := leTo_lt f hl.lt 32
theorem blk_ne {w : World} {g k : Nat} {t u : TypeId} {cs ds : Array Value} (h : Blk w g t cs) (h' : Blk w k u ds) (hn : t ≠ u) : g ≠ k := fun e => by
  subst e
  have := h.symm.trans h'
  simp only [Option.some.injEq, Obj.cells.injEq] at this
  exact hn this.2.1
end Go.Proofs.YtegbnadnodlalaaDoor.Sc
namespace Go.Proofs.YtegbnadnodlalaaDoor.Sc
open Go.RowKit
/-- Two steps of 32 bits are one of 64. -/
theorem two_steps (x word L : Nat) : ((x % L * 4294967296 + word / 4294967296) % L * 4294967296 + word % 4294967296) % L = (x * 18446744073709551616 + word) % L := by
  have h1 : (x % L * 4294967296 + word / 4294967296) % L = (x * 4294967296 + word / 4294967296) % L := by
    rw [Nat.add_mod, Nat.mod_mul_mod, ← Nat.add_mod]
  have h2 : (x * 4294967296 + word / 4294967296) * 4294967296 + word % 4294967296 = x * 18446744073709551616 + word := by omega
  rw [h1, Nat.add_mod, Nat.mod_mul_mod, ← Nat.add_mod, h2]
theorem word_down (P k : Nat) (hk : k < 8) : P / pw (8 - (k + 1)) = P / pw (8 - k) * 18446744073709551616 + wordAt P (7 - k) := by
  rw [show 8 - k = (7 - k) + 1 by omega, show 8 - (k + 1) = 7 - k by omega, pw_succ, ← Nat.div_div_eq_div_mul, wordAt_pw]
  omega
/-- The memory of MulAdd: the eight words in block g. -/
structure MaW (P g : Nat) (w wr : World) (n : Nat) : Prop where
  res : Blk wr (w.heap.size + 1 + 1 + 1) 34 (Iv .u8 (List.replicate 32 0))
  num : Blk wr (w.heap.size + 1 + 1 + 1 + 1) 102 (Nm_cells n)
  sum : Blk wr g 103 (W8 (wordAt P))
  k : Below w.heap.size w wr
theorem MaW.below {P g : Nat} {w wr w1 : World} {n : Nat} (h : MaW P g w wr n) (hb : Below wr.heap.size wr w1) : MaW P g w w1 n := ⟨h.res.below' hb, h.num.below' hb, h.sum.below' hb, h.k.trans (hb.mono h.k.size)⟩
theorem MaW.row {P g : Nat} {w wr : World} {n : Nat} (h : MaW P g w wr n) (m : Nat) : MaW P g w (wr.setRow (w.heap.size + 1 + 1 + 1 + 1) (Nm_cells m)) m :=
  ⟨h.res.rowFar (by omega) _, h.num.row _, h.sum.rowFar (blk_ne h.sum h.num (by decide)) _, below_setRow h.k (by omega) _⟩
set_option maxHeartbeats 4000000 in
set_option maxRecDepth 100000 in
theorem muladd_any (l0 l1 l2 : List Int) (f0 f1 f2 : Nat → Nat) (hl0 : Bytes32 l0 f0) (hl1 : Bytes32 l1 f1) (hl2 : Bytes32 l2 f2) (w : World) :
    Calls Tryd.prog 44 #[Key l0, Key l1, Key l2] w fun e w' => e = .returned (Key (keyOf ((leTo f0 32 * leTo f1 32 + leTo f2 32) % LL))) ∧ Below w.heap.size w w' := by
  obtain ⟨N0, hN0⟩ : ∃ n, n = leTo f0 32 := ⟨_, rfl⟩
  have lN0 : N0 < pw 4 := hN0 ▸ bytes32_lt hl0
  obtain ⟨N1, hN1⟩ : ∃ n, n = leTo f1 32 := ⟨_, rfl⟩
  have lN1 : N1 < pw 4 := hN1 ▸ bytes32_lt hl1
  obtain ⟨N2, hN2⟩ : ∃ n, n = leTo f2 32 := ⟨_, rfl⟩
  have lN2 : N2 < pw 4 := hN2 ▸ bytes32_lt hl2
  obtain ⟨P, hP⟩ : ∃ n, n = N0 * N1 + N2 := ⟨_, rfl⟩
  rw [← hN0, ← hN1, ← hN2, ← hP]
  have HN0 := Lib.hid hN0; have HN1 := Lib.hid hN1; have HN2 := Lib.hid hN2; have HP := Lib.hid hP
  have lP : P < pw 8 := by
    have h1 : N0 * N1 ≤ (pw 4 - 1) * (pw 4 - 1) := Nat.mul_le_mul (by omega) (by omega)
    rw [hP, show (8 : Nat) = 4 + 4 from rfl, pw_add]
    have : (pw 4 - 1) * (pw 4 - 1) + pw 4 - 1 < pw 4 * pw 4 := by rw [pw_four]; decide
    omega
  clear hN0 hN1 hN2 hP
  obtain ⟨R, hR⟩ : ∃ n, n = P % LL := ⟨_, rfl⟩
  rw [← hR]
  have HR := Lib.hid hR
  clear hR
  unfold Key
  go_enter Tryd.func44, Tryd.ntmps44
  go_upto_region 2 with fail
  generalize hW : World.alloc (World.alloc (World.alloc (World.alloc (World.alloc w _) _) _) _) _ = w1
  have hS : Facts [.blk (w.heap.size) 34 (Iv .u8 l0), .blk (w.heap.size + 1) 34 (Iv .u8 l1), .blk (w.heap.size + 1 + 1) 34 (Iv .u8 l2), .blk (w.heap.size + 1 + 1 + 1) 34 (Iv .u8 (List.replicate 32 0)), .blk (w.heap.size + 1 + 1 + 1 + 1) 102 (Nm_cells 0)] w1 := by
    subst hW
    refine Facts.cons ?_ (Facts.cons ?_ (Facts.cons ?_ (Facts.cons ?_ (Facts.cons ?_ Facts.nil))))
    · exact ((((Blk.new _ _ _).alloc _).alloc _).alloc _).alloc _
    · exact (((Blk.new' (by simp) _ _).alloc _).alloc _).alloc _
    · exact ((Blk.new' (by simp) _ _).alloc _).alloc _
    · exact (Blk.new' (by simp) _ _).alloc _
    · show Blk _ _ _ (Nm_cells 0)
      rw [Nm_zero]
      exact Blk.new' (by simp) _ _
  have hB : Below w.heap.size w w1 := by
    subst hW
    exact (((((Below.refl _ _).alloc (Nat.le_refl _) _).alloc (by simp) _).alloc (by simp; omega) _).alloc (by simp; omega) _).alloc (by simp; omega) _
  clear hW
  replace hS := hS.drew
  replace hB := below_drew hB
  refine wp_region_Z (S := Facts [.blk (w.heap.size) 34 (Iv .u8 l0), .blk (w.heap.size + 1) 34 (Iv .u8 l1), .blk (w.heap.size + 1 + 1) 34 (Iv .u8 l2), .blk (w.heap.size + 1 + 1 + 1) 34 (Iv .u8 (List.replicate 32 0)), .blk (w.heap.size + 1 + 1 + 1 + 1) 102 (Nm_cells 0)]) 8 (by kernel_rfl) ?_
  refine wpAnyZ_takeL 0 rfl (by kernel_rfl) (by kernel_rfl) (by kernel_rfl) (by kernel_rfl) (by kernel_rfl) (fun _ _ _ h => h) (show YieldsIf _ _ _ _ (Key l0) _ from yieldsIf_load rfl 34 _ rfl (w.heap.size) rfl 34 _ _ (.head _) Tryd.underlying34 rfl (info_key _ hl0.len)) hS ?_
  simp only [Act.put, List.setIfInBounds_toArray, List.set_cons_zero, List.set_cons_succ]
  refine wpAnyZ_takeL 2 rfl (by kernel_rfl) (by kernel_rfl) (by kernel_rfl) (by kernel_rfl) (by kernel_rfl) (fun _ _ _ h => h) (show YieldsIf _ _ _ _ (Key l1) _ from yieldsIf_load rfl 34 _ rfl (w.heap.size + 1) rfl 34 _ _ (.tail _ (.head _)) Tryd.underlying34 rfl (info_key _ hl1.len)) hS ?_
  simp only [Act.put, List.setIfInBounds_toArray, List.set_cons_zero, List.set_cons_succ]
  refine wpAnyZ_takeL 4 rfl (by kernel_rfl) (by kernel_rfl) (by kernel_rfl) (by kernel_rfl) (by kernel_rfl) (fun _ _ _ h => h) (show YieldsIf _ _ _ _ (Key l2) _ from yieldsIf_load rfl 34 _ rfl (w.heap.size + 1 + 1) rfl 34 _ _ (.tail _ (.tail _ (.head _))) Tryd.underlying34 rfl (info_key _ hl2.len)) hS ?_
  simp only [Act.put, List.setIfInBounds_toArray, List.set_cons_zero, List.set_cons_succ]
  refine wpAnyZ_jobsL [(⟨1, 12⟩, .is (Nm N0)), (⟨3, 14⟩, .is (Nm N1)), (⟨5, 16⟩, .is (Nm N2)), (⟨6, 17⟩, .is (.agg (W8 (wordAt P)))), (⟨7, 8⟩, .rel (fun v w' => ∃ g, v = .pointer (some ⟨g, 0, none⟩) ∧ Blk w' g 103 (W8 fun _ => 0)))] [] 1 _ _ _ (by kernel_rfl) (fun _ _ _ _ _ h => h) ?_ (fun _ _ _ _ _ h => h) (fun _ _ h hb => h.below hb) hS ?_ ?_ ?_
  · exact fun _ _ h => by cases h
  · intro j hj
    simp only [List.map_cons, List.map_nil, List.mem_cons, List.not_mem_nil, or_false] at hj
    rcases hj with rfl | rfl | rfl | rfl | rfl
    · exact fun _ _ _ h _ => h
    · exact fun _ _ _ h _ => h
    · exact fun _ _ _ h _ => h
    · exact fun _ _ _ h _ => h
    · intro v w1 w2 h hb
      obtain ⟨g, e, H⟩ : ∃ g, v = .pointer (some ⟨g, 0, none⟩) ∧ Blk w1 g 103 (W8 fun _ => 0) := h
      exact ⟨g, e, H.below' hb⟩
  · intro j hj
    simp only [List.map_cons, List.map_nil, List.mem_cons, List.not_mem_nil, or_false] at hj
    rcases hj with rfl | rfl | rfl | rfl | rfl
    · refine job_frame [] (by kernel_rfl) ?_
      show JobAt _ _ _ _ _ _ _
      intro W K hS' hK
      unfold wpOp
      go_simp
      left
      refine (words_v l0 f0 hl0 N0 HN0.out _).mono ?_
      rintro e v ⟨rfl, b⟩
      exact hK _ _ rfl b (fun g hg => ((block_agg _) g hg).elim)
    · refine job_frame [] (by kernel_rfl) ?_
      show JobAt _ _ _ _ _ _ _
      intro W K hS' hK
      unfold wpOp
      go_simp
      left
      refine (words_v l1 f1 hl1 N1 HN1.out _).mono ?_
      rintro e v ⟨rfl, b⟩
      exact hK _ _ rfl b (fun g hg => ((block_agg _) g hg).elim)
    · refine job_frame [] (by kernel_rfl) ?_
      show JobAt _ _ _ _ _ _ _
      intro W K hS' hK
      unfold wpOp
      go_simp
      left
      refine (words_v l2 f2 hl2 N2 HN2.out _).mono ?_
      rintro e v ⟨rfl, b⟩
      exact hK _ _ rfl b (fun g hg => ((block_agg _) g hg).elim)
    · refine job_frame [⟨1, 12⟩, ⟨3, 14⟩, ⟨5, 16⟩] (by kernel_rfl) ?_
      show JobAt _ _ _ _ (Act.put (Act.put (Act.put _ (some 16) (Nm N2)) (some 14) (Nm N1)) (some 12) (Nm N0)) _ _
      simp only [Act.put, List.setIfInBounds_toArray, List.set_cons_zero, List.set_cons_succ]
      intro W K hS' hK
      unfold wpOp
      go_simp
      left
      refine (product_v N0 N1 N2 P lN0 lN1 lN2 HP.out _).mono ?_
      rintro e v ⟨rfl, b⟩
      exact hK _ _ rfl b (fun g hg => ((block_agg _) g hg).elim)
    · refine job_frame [] (by kernel_rfl) ?_
      show JobAt _ _ _ _ _ _ _
      exact job_alloc 103 (W8 fun _ => 0) _ _ rfl rfl rfl (fun W => by go_simp; rfl)
  · intro f W hS2 hB1 hR hF hA
    have e1 : f 1 = (Nm N0) := hR ⟨1, 12⟩ (by simp)
    have e3 : f 3 = (Nm N1) := hR ⟨3, 14⟩ (by simp)
    have e5 : f 5 = (Nm N2) := hR ⟨5, 16⟩ (by simp)
    have e6 : f 6 = (.agg (W8 (wordAt P))) := hR ⟨6, 17⟩ (by simp)
    obtain ⟨g7, e7, A7⟩ : ∃ g, f 7 = .pointer (some ⟨g, 0, none⟩) ∧ Blk W g 103 (W8 fun _ => 0) := hR ⟨7, 8⟩ (by simp)
    have n7 : _ ≤ g7 := (hF ⟨7, 8⟩ (by simp) g7 (by show blockOf (f 7) = _; rw [e7]; rfl)).1
    clear hA hF hR
    simp only [setAll, putAll, List.map_cons, List.map_nil, List.foldr_cons, List.foldr_nil, Act.put, List.setIfInBounds_toArray, List.set_cons_zero, List.set_cons_succ, e1, e3, e5, e6, e7]
    clear e1 e3 e5 e6 e7
    have hBs := hB1
    replace hB1 := below_setRow hB1 n7 (W8 (wordAt P))
    refine wpAnyZ_store_row 8 rfl (by kernel_rfl) rfl _ _ _ rfl g7 (W8 (wordAt P)) rfl rfl _ _ A7 (info_w8 _) (by rw [W8_size, W8_size]) (Iv_one _ _) (hS.below hB1) ?_
    try simp only [Act.put, List.setIfInBounds_toArray, List.set_cons_zero, List.set_cons_succ]
    replace A7 := A7.row (W8 (wordAt P))
    refine wpAnyZ_done (by kernel_rfl) ?_ _
    have F0 : MaW P g7 w (World.setRow W g7 (W8 (wordAt P))) (P / pw (8 - 0) % LL) := by
      have h3 := hS.below hB1
      rw [show P / pw (8 - 0) = 0 from Nat.div_eq_of_lt lP, Nat.zero_mod]
      exact ⟨h3.blkAt _ _ _ (.tail _ (.tail _ (.tail _ (.head _)))), h3.blkAt _ _ _ (.tail _ (.tail _ (.tail _ (.tail _ (.head _))))), A7, hB.trans (hB1.mono hB.size)⟩
    clear hS hS2 hB1 hBs A7 n7 hB
    generalize World.setRow W g7 (W8 (wordAt P)) = V at *
    clear W
    go_wp2_with fail
    go_loopw [18] (fun i wr => ∃ k : Nat, k ≤ 8 ∧ i = .int .i64 k ∧ MaW P g7 w wr (P / pw (8 - k) % LL)) (fun i _ => 8 - (intOf i).toNat)
    case atStart => exact ⟨0, by omega, rfl, F0⟩
    case round =>
      obtain ⟨k, hk, rfl, F⟩ := hrel
      clear F0
      by_cases hlt : k < 8
      · have hnext : P / pw (8 - (k + 1)) % LL = ((P / pw (8 - k) % LL * 4294967296 + wordAt P (7 - k) / 4294967296) % LL * 4294967296 + wordAt P (7 - k) % 4294967296) % LL := by
          rw [word_down P k hlt, two_steps]
        have c1 : wr.cell? ⟨g7, 7 - k, none⟩ = some (.int .u64 ((wordAt P (7 - k) : Nat) : Int)) := by rw [F.sum.cell, W8_at _ _ (by omega)]
        have lw := wordAt_lt P (7 - k)
        have ln : P / pw (8 - k) % LL < LL := Nat.mod_lt _ LL_pos
        obtain ⟨wd, hwd⟩ : ∃ x, x = wordAt P (7 - k) := ⟨_, rfl⟩
        obtain ⟨n, hn⟩ : ∃ x, x = P / pw (8 - k) % LL := ⟨_, rfl⟩
        obtain ⟨n1, hn1⟩ : ∃ x, x = (n * 4294967296 + wd / 4294967296) % LL := ⟨_, rfl⟩
        obtain ⟨n2, hn2⟩ : ∃ x, x = (n1 * 4294967296 + wd % 4294967296) % LL := ⟨_, rfl⟩
        rw [← hwd] at c1 lw hnext
        rw [← hn] at ln hnext F
        rw [← hn1, ← hn2] at hnext
        have ln1 : n1 < LL := hn1 ▸ Nat.mod_lt _ LL_pos
        have cF1 : ∀ W, Calls Tryd.prog 64 #[.agg (Nm_cells n), .int .u32 ((wd : Int) / 4294967296)] W fun e w' => e = .returned (.agg (Nm_cells n1)) ∧ Below W.heap.size W w' := fun W => by
          have := followed_any n (wd / 4294967296) W ln (by omega)
          rw [← hn1] at this
          exact this
        have cF2 : ∀ W, Calls Tryd.prog 64 #[.agg (Nm_cells n1), .int .u32 ((wd : Int) % 4294967296)] W fun e w' => e = .returned (.agg (Nm_cells n2)) ∧ Below W.heap.size W w' := fun W => by
          have := followed_any n1 (wd % 4294967296) W ln1 (by omega)
          rw [← hn2] at this
          exact this
        have CF1 := Lib.hid cF1; have CF2 := Lib.hid cF2; have HX := Lib.hid hnext
        clear cF1 cF2 hnext hn hn1 hn2 hwd ln ln1
        have i1 : IntKind.i64.wrap (7 - (k : Int)) = 7 - (k : Int) := by rw [IntKind.wrap_i64]; omega
        have i2 : (7 - (k : Int)).toNat = 7 - k := by omega
        have i3 : (0 : Int) ≤ 7 - (k : Int) := by omega
        have i4 : (7 : Int) - (k : Int) < 8 := by omega
        have i5 : IntKind.u32.wrap ((wd : Int) / 4294967296) = (wd : Int) / 4294967296 := by rw [IntKind.wrap_u32]; omega
        have i6 : IntKind.u32.wrap (wd : Int) = (wd : Int) % 4294967296 := by rw [IntKind.wrap_u32]
        have Bn := F.num
        go_upto_region 7 with fail
        clear i1 i2 i3 i4 c1
        go_wp2_with (refine wpList_load_row rfl 102 _ rfl (w.heap.size + 1 + 1 + 1 + 1) rfl 102 _ (0, 0) _ Bn Tryd.underlying102 rfl (info_nm _) ?_)
        refine (CF1.out _).mono ?_
        rintro e v1 ⟨rfl, b1⟩
        have F1 := F.below b1
        clear b1 F Bn
        go_wp2_with fail
        refine (CF2.out _).mono ?_
        rintro e v2 ⟨rfl, b2⟩
        have F2 := F1.below b2
        clear b2 F1
        have Bn := F2.num
        go_wp2_with (refine wpList_store_row rfl 102 _ _ rfl (w.heap.size + 1 + 1 + 1 + 1) (Nm_cells n2) rfl rfl 102 _ Bn (info_nm _) (by rw [Nm_size, Nm_size]) (Nm_one _) ?_)
        exact ⟨⟨k + 1, by omega, by go_num, HX.out ▸ F2.row n2⟩, by simp [intOf]; omega⟩
      · obtain rfl : k = 8 := by omega
        rw [Nat.sub_self, pw_zero, Nat.div_one] at F
        rw [← HR.out] at F
        have Bn := F.num
        have cB := fun W => sbytes_any R W
        unfold Nm Key at cB
        have CB := Lib.hid cB
        clear cB
        go_wp2_with (refine wpList_load_row rfl 102 _ rfl (w.heap.size + 1 + 1 + 1 + 1) rfl 102 _ (0, 0) _ Bn Tryd.underlying102 rfl (info_nm _) ?_)
        refine (CB.out _).mono ?_
        rintro e v1 ⟨rfl, b1⟩
        have F1 := F.below b1
        clear b1 F Bn
        have Br := F1.res
        go_wp2_with (refine wpList_store_row rfl 34 _ _ rfl (w.heap.size + 1 + 1 + 1) (Iv .u8 (keyOf R)) rfl rfl 34 _ Br (info_key _ (keyOf_length _)) (by rw [Iv_size, Iv_size, keyOf_length]; rfl) (Iv_one _ _) ?_)
        exact bodyPost_ret (results_cell_row rfl _ _ _ 34 _ (0, 0) _ rfl (Br.row _) Tryd.underlying34 rfl (info_key _ (keyOf_length _))) rfl ⟨rfl, below_setRow F1.k (by omega) _⟩
end Go.Proofs.YtegbnadnodlalaaDoor.Sc
