/- What the law SecretsPlays stands on (printed by gen15/fl.py). -/
import Derived.Test.YtdmhngkedgkndaaDoorF6b
namespace Go.Proofs.YtdmhngkedgkndaaDoor
open Go.RowKit

/-- A call of the statement's. -/
structure AcF where
  kd : Nat
  b : List Nat
  c : List Nat
def acL (f : AcF) (vb vc : Value) : List Value := [.int .u8 ((f.kd : Nat) : Int), vb, vc]
structure AcD (w : World) (f : AcF) (vb vc : Value) : Prop where
  b : SB w vb f.b
  c : SB w vc f.c
theorem AcD.below {w w1 : World} {f : AcF} {vb vc : Value} (h : AcD w f vb vc) (hb : Below w.heap.size w w1) : AcD w1 f vb vc := ⟨h.b.below hb, h.c.below hb⟩
structure AcA (w : World) (g o : Nat) (l : List AcF) : Prop where
  at_ : ∀ (i : Nat) (h : i < l.length), ∃ vb vc, AcD w l[i] vb vc ∧ w.rangeAt g (o + i * 3) (acL l[i] vb vc)
  lt : g < w.heap.size
def AcS (w : World) (v : Value) (l : List AcF) : Prop := ∃ p c, v = .slice p l.length c ∧ l.length ≤ c ∧ (l = [] ∨ ∃ g o, p = some ⟨g, o, none⟩ ∧ AcA w g o l)
theorem AcS.nil (w : World) (p : Option Addr) (c : Nat) : AcS w (.slice p 0 c) [] := ⟨p, c, rfl, Nat.zero_le _, Or.inl rfl⟩
structure AcF.Ok (f : AcF) : Prop where
  kd : f.kd < 256
  b : Bytes f.b
  c : Bytes f.c
theorem info_ac : (Tryd.prog.info? 33).map (·.size) = some 3 := by kernel_rfl
theorem info_acL (f : AcF) (vb vc : Value) : (Tryd.prog.info? 33).map (·.size) = some (acL f vb vc).length := info_ac
/-- The shadow. -/
structure SH (B : Nat) (w : World) (g : Nat) (v : Value) (m s : List Nat) : Prop where
  blk : Blk w g 31 (rowS v s)
  hg : B ≤ g
  row : OwL B w v m
  ne : v.ownBlock ≠ some g
  bm : Bytes m
  bs : Bytes s
  ls : s.length = 32
theorem SH.keep {B : Nat} {w w' : World} {g : Nat} {v : Value} {m s : List Nat} (h : SH B w g v m s) (e : w'.heap[g]? = w.heap[g]?) (hv : ∀ k, v.ownBlock = some k → w'.heap[k]? = w.heap[k]?) : SH B w' g v m s :=
  ⟨e.trans h.blk, h.hg, h.row.of_block hv, h.ne, h.bm, h.bs, h.ls⟩
theorem SH.range {B : Nat} {w : World} {g : Nat} {v : Value} {m s : List Nat} (h : SH B w g v m s) : w.rangeAt g 1 (cl s) := fun j x hx => by
  rw [Blk.cell h.blk, Nat.add_comm]
  unfold rowS
  rw [List.getElem?_toArray]
  exact hx
theorem SH.cell {B : Nat} {w : World} {g : Nat} {v : Value} {m s : List Nat} (h : SH B w g v m s) : w.cell? ⟨g, 0, none⟩ = some v := Blk.cell h.blk 0
theorem SH.there {B : Nat} {w : World} {g : Nat} {v : Value} {m s : List Nat} (h : SH B w g v m s) : w.there g 1 32 := fun j hj => by
  refine ⟨?_, Blk.frozen h.blk _⟩
  have := SH.range h j ((cl s)[j]'(by rw [cl_length, h.ls]; exact hj)) (List.getElem?_eq_getElem _)
  rw [this]
  rfl
/-- What stands while the calls are played: the schedule, the shadow. -/
structure PL (W w : World) (gs g : Nat) (v vm : Value) (m s m2 s2 : List Nat) : Prop where
  sch : SS W.heap.size w g v m s
  sha : SH W.heap.size w gs vm m2 s2
  d1 : gs ≠ g
  d2 : v.ownBlock ≠ some gs
  d3 : vm.ownBlock ≠ some g
  d4 : ∀ k, v.ownBlock = some k → vm.ownBlock ≠ some k
  bel : Below W.heap.size W w
theorem PL.below {W w w' : World} {gs g : Nat} {v vm : Value} {m s m2 s2 : List Nat} (h : PL W w gs g v vm m s m2 s2) (b : Below w.heap.size w w') : PL W w' gs g v vm m s m2 s2 :=
  ⟨h.sch.below b, h.sha.keep (b.block gs h.sha.blk.lt) (fun k e => b.block k (h.sha.row.lt k e).2), h.d1, h.d2, h.d3, h.d4, h.bel.trans (b.mono h.bel.size)⟩
theorem yieldsIf_shadow {ops : Array Oper} {S : World → Prop} {o : Oper} {a : Act} (hgd : Region.wanted o (yielded ops a.tmps) = true) (x : Operand) (ho : o.op = .load 28 x) (B g : Nat) (v : Value) (m s : List Nat) (hx : a.eval x = .pointer (some ⟨g, 1, none⟩)) (ls : s.length = 32) (h : ∀ w, S w → SH B w g v m s) : YieldsIf Tryd.prog ops S o (.agg (Iv .u8 (NI s))) a :=
  yieldsIf_load_mid (P := Tryd.prog) (ops := ops) (S := S) hgd 28 x ho g 1 hx (cl s) _ (fun w hw => (h w hw).range) Tryd.underlying28 rfl (info_mid32 s ls)
theorem PL.next {W w w' : World} {gs g : Nat} {v vm : Value} {m s s' m2 s2 : List Nat} (h : PL W w gs g v vm m s m2 s2) (X : SS W.heap.size w' g v m s') (M : Mine g none w w') : PL W w' gs g v vm m s' m2 s2 :=
  ⟨X, h.sha.keep (M.block gs h.sha.blk.lt h.d1 (fun e => by cases e)) (fun k e => M.block k (h.sha.row.lt k e).2 (fun e2 => h.d3 (by rw [e, e2])) (fun e => by cases e)), h.d1, h.d2, h.d3, h.d4, Mine.below h.bel M h.sch.hg (fun k e => by cases e) h.bel.size⟩
theorem PL.again {W w w' : World} {gs g g' : Nat} {v vm v' : Value} {m s m' s' m2 s2 : List Nat} (h : PL W w gs g v vm m s m2 s2) (X : SS w.heap.size w' g' v' m' s') (b : Below w.heap.size w w') : PL W w' gs g' v' vm m' s' m2 s2 :=
  have h' := h.below b
  have l1 := h.sha.blk.lt
  ⟨X.mono h.bel.size, h'.sha, by have := X.hg; omega, (fun e => by have := (X.row.lt gs e).1; omega), (fun e => by have := (h.sha.row.lt g' e).2; have := X.hg; omega), (fun k e e2 => by have := (h.sha.row.lt k e2).2; have := (X.row.lt k e).1; omega), h'.bel⟩
theorem PL.add {W w w' : World} {gs g : Nat} {v vm v' : Value} {m s m' m2 s2 : List Nat} (h : PL W w gs g v vm m s m2 s2) (X : SS W.heap.size w' g v' m' s) (M : Mine g v.ownBlock w w') (O : ∀ k, v'.ownBlock = some k → v.ownBlock = some k ∨ w.heap.size ≤ k) : PL W w' gs g v' vm m' s m2 s2 :=
  ⟨X, h.sha.keep (M.block gs h.sha.blk.lt h.d1 h.d2) (fun k e => M.block k (h.sha.row.lt k e).2 (fun e2 => h.d3 (by rw [e, e2])) (fun e2 => h.d4 k e2 e)), h.d1,
    (fun e => by
      rcases O gs e with h1 | h1
      · exact h.d2 h1
      · have := h.sha.blk.lt; omega), h.d3,
    (fun k e e2 => by
      rcases O k e with h1 | h1
      · exact h.d4 k h1 e2
      · have := (h.sha.row.lt k e2).2; omega), Mine.below h.bel M h.sch.hg (fun k e => (h.sch.row.lt k e).1) h.bel.size⟩
/-- A block of no concern has changed. -/
theorem PL.far {W w w' : World} {gs g k0 : Nat} {v vm : Value} {m s m2 s2 : List Nat} (h : PL W w gs g v vm m s m2 s2) (G : w.grownBy w' (some k0)) (h1 : k0 ≠ g) (h2 : k0 ≠ gs) (h3 : v.ownBlock ≠ some k0) (h4 : vm.ownBlock ≠ some k0) (h0 : W.heap.size ≤ k0) : PL W w' gs g v vm m s m2 s2 :=
  have bl : ∀ k, k < w.heap.size → k ≠ k0 → w'.heap[k]? = w.heap[k]? := fun k hk hn => G.block k hk (fun e => hn (Option.some.inj e))
  ⟨h.sch.keep (bl g h.sch.blk.lt (Ne.symm h1)) (fun k e => bl k (h.sch.row.lt k e).2 (fun e2 => h3 (by rw [e, e2]))), h.sha.keep (bl gs h.sha.blk.lt (Ne.symm h2)) (fun k e => bl k (h.sha.row.lt k e).2 (fun e2 => h4 (by rw [e, e2]))), h.d1, h.d2, h.d3, h.d4, below_grown' h.bel G (fun k e => by have := Option.some.inj e; omega) h.bel.size⟩
/-- The shadow's secret stored anew. -/
theorem PL.put {W w : World} {gs g : Nat} {v vm : Value} {m s m2 s2 s' : List Nat} (h : PL W w gs g v vm m s m2 s2) (bs : Bytes s') (ls : s'.length = 32) : PL W (w.setCells gs 1 (cl s')) gs g v vm m s m2 s' := by
  have G := setCells_gb (g := gs) (cl s') 1 w
  have K := blk_setA (cl s') _ 1 w h.sha.blk
  rw [rowS_put _ _ _ (by rw [h.sha.ls, ls])] at K
  have bl : ∀ k, k < w.heap.size → k ≠ gs → (w.setCells gs 1 (cl s')).heap[k]? = w.heap[k]? := fun k hk hn => G.block k hk (fun e => hn (Option.some.inj e))
  exact ⟨h.sch.keep (bl g h.sch.blk.lt (Ne.symm h.d1)) (fun k e => bl k (h.sch.row.lt k e).2 (fun e2 => h.d2 (by rw [e, e2]))), ⟨K, h.sha.hg, h.sha.row.of_block (fun k e => bl k (h.sha.row.lt k e).2 (fun e2 => h.sha.ne (by rw [e, e2]))), h.sha.ne, h.sha.bm, bs, ls⟩, h.d1, h.d2, h.d3, h.d4, below_grown' h.bel G (fun k e => by have := Option.some.inj e; have := h.sha.hg; omega) h.bel.size⟩
/-- Its messages. -/
theorem PL.msg {W w w0 : World} {gs g : Nat} {v vm vm' : Value} {m s m2 s2 m' : List Nat} (h : PL W w gs g v vm m s m2 s2) (h0 : PL W w0 gs g v vm m s m2 s2) (_b : Below w0.heap.size w0 w) (O : OwL w0.heap.size w vm' m') (bm : Bytes m') : PL W (w.setCell ⟨gs, 0, none⟩ vm') gs g v vm' m s m' s2 := by
  have G : w.grownBy (w.setCell ⟨gs, 0, none⟩ vm') (some gs) := ⟨rfl, rfl, rfl, by simp, fun k _ hk => Below.heap_setCell w _ _ k (fun e => hk (by rw [e]))⟩
  have K := Blk.set h.sha.blk 0 vm'
  rw [rowS_set] at K
  have bl : ∀ k, k < w.heap.size → k ≠ gs → (w.setCell ⟨gs, 0, none⟩ vm').heap[k]? = w.heap[k]? := fun k hk hn => G.block k hk (fun e => hn (Option.some.inj e))
  have lo := fun k (e : vm'.ownBlock = some k) => O.lt k e
  have l1 := h0.sha.blk.lt
  have l2 := h0.sch.blk.lt
  have hne : vm'.ownBlock ≠ some gs := fun e => by have := (lo gs e).1; omega
  exact ⟨h.sch.keep (bl g h.sch.blk.lt (Ne.symm h.d1)) (fun k e => bl k (h.sch.row.lt k e).2 (fun e2 => h.d2 (by rw [e, e2]))), ⟨K, h.sha.hg, (O.of_block (fun k e => bl k (lo k e).2 (fun e2 => hne (by rw [e, e2])))).mono h0.bel.size, hne, bm, h.sha.bs, h.sha.ls⟩, h.d1, h.d2, (fun e => by have := (lo g e).1; omega), (fun k e e2 => by have := (lo k e2).1; have := (h0.sch.row.lt k e).2; omega), below_grown' h.bel G (fun k e => by have := Option.some.inj e; have := h.sha.hg; omega) h.bel.size⟩
section
variable {P : Program} {md : Region.Mode} {ops : Array Oper} {Q : Exit → Act → World → Prop} {S : World → Prop}
theorem gzstep {z fuel : Nat} {listed : Array Bool} {a : Act} {w : World} (i : Nat) {oi : Oper} (hi : ops.toList[i]? = some oi) (hr : Region.ready md ops listed = [i]) (hwd : Region.wanted oi (yielded ops a.tmps) = true)
    (h : oi.wp P a w (fun a' w' => ((listed.setIfInBounds i true).getD z true = false → S w') ∧ wpAnyZ P md ops Q S z fuel (listed.setIfInBounds i true) a' w') Q) : wpAnyZ P md ops Q S z (fuel + 1) listed a w := by
  refine wpAnyZ_one hr ?_
  unfold wpOp
  rw [← Array.getElem?_toList, hi]
  simp only [hwd, if_true]
  left
  exact h
end
/-- Bytes that may be turned. -/
structure InR (w : World) (k n : Nat) : Prop where
  row : ∃ cur : Array Value, Blk w k 5 cur ∧ n ≤ cur.size ∧ ∀ j, j < n → ∃ x : Nat, x < 256 ∧ cur[j]? = some (.int .u8 (x : Int))
theorem InR.set {w : World} {k n : Nat} (h : InR w k n) (j y : Nat) (hy : y < 256) : InR (w.setCell ⟨k, j, none⟩ (.int .u8 (y : Int))) k n := by
  obtain ⟨cur, K, hn, hx⟩ := h.row
  refine ⟨_, Blk.set K j _, by rw [Array.size_setIfInBounds]; exact hn, fun i hi => ?_⟩
  by_cases e : j = i
  · subst e
    exact ⟨y, hy, by rw [Array.getElem?_setIfInBounds_self_of_lt (by omega)]⟩
  · rw [Array.getElem?_setIfInBounds_ne e]
    exact hx i hi
theorem InR.blk {w w' : World} {k n : Nat} (h : InR w k n) (e : w'.heap[k]? = w.heap[k]?) : InR w' k n := by
  obtain ⟨cur, K, hn, hx⟩ := h.row
  exact ⟨cur, e.trans K, hn, hx⟩
theorem inr_of {B : Nat} {w : World} {p : Option Addr} {n c : Nat} {l : List Nat} (h : OwL B w (.slice p n c) l) (bl : Bytes l) : n = 0 ∨ ∃ k, p = some ⟨k, 0, none⟩ ∧ B ≤ k ∧ k < w.heap.size ∧ InR w k n := by
  rcases h.row with ⟨e, rfl⟩ | ⟨g, cap, e, hB, hc, _, A, cur, K, hs⟩
  · simp only [Value.slice.injEq] at e
    exact Or.inl e.2.1
  · simp only [Value.slice.injEq] at e
    obtain ⟨rfl, rfl, rfl⟩ := e
    refine Or.inr ⟨g, rfl, hB, A.blk, cur, K, by omega, fun j hj => ⟨l[j], bl _ (List.getElem_mem hj), ?_⟩⟩
    have := A.cell j hj
    rw [Blk.cell K, Nat.zero_add] at this
    exact this
theorem info_act (a b c : Value) : (Tryd.prog.info? 33).map (·.size) = some (#[a, b, c] : Array Value).size := info_ac
theorem shad_zero : (Tryd.prog.info? 31).bind (·.zero) = some (.agg (rowS (.slice none 0 0) z32)) := by kernel_rfl
theorem shad_places : (match Tryd.prog.underlying 31 with | some (.struct fields) => fields.toList.mapM (fun f => (Tryd.prog.info? f.type).map fun i => (f.offset, i.size)) | _ => none) = some [(0, 1), (1, 32)] := by kernel_rfl
theorem shad_und : ∃ fields, Tryd.prog.underlying 31 = some (.struct fields) := ⟨_, Tryd.underlying31⟩
theorem run_shad (w : World) (S : List Nat) (lS : S.length = 32) : (Instr.build 31 #[(1, .agg (Iv .u8 (NI S)))]).run Tryd.prog w = .ok (.agg (rowS (.slice none 0 0) S)) w := by
  refine run_build w 31 _ _ ?_
  unfold Program.built
  have h1 := shad_zero
  have h2 := shad_places
  obtain ⟨fields, hu⟩ := shad_und
  rw [hu] at h2 ⊢
  simp only at h2
  cases hi : Tryd.prog.info? 31 with
  | none => rw [hi] at h1; cases h1
  | some it =>
    rw [hi] at h1
    simp only [Option.bind_some] at h1
    simp only [h1, h2]
    have e := fold_setA (cl S) (rowS (.slice none 0 0) z32) 1 0
    rw [rowS_put _ _ _ (by rw [lS]; exact z32_length)] at e
    have hsz : (Iv .u8 (NI S)).size = 32 := by rw [Iv_size, NI_length, lS]
    have hz : (rowS (.slice none 0 0) z32).size = 33 := by rw [rowS_size, z32_length]
    simp only [Instr.fill, Value.cells, List.getElem?_toArray, List.getElem?_cons_succ, List.getElem?_cons_zero, hsz, hz]
    rw [if_neg (by decide)]
    congr 1
    have ez : (Iv .u8 (NI S)).zipIdx = ((cl S).zipIdx 0).toArray := by rw [← cl_iv]; simp
    rw [ez, List.foldl_toArray]
    exact e
theorem yieldsIf_shad {ops : Array Oper} {S : World → Prop} {o : Oper} {a : Act} (hgd : Region.wanted o (yielded ops a.tmps) = true) (x : Operand) (ho : o.op = .build 31 #[(1, x)]) (s : List Nat) (hx : a.eval x = .agg (Iv .u8 (NI s))) (ls : s.length = 32) : YieldsIf Tryd.prog ops S o (.agg (rowS (.slice none 0 0) s)) a := by
  refine Or.inl ⟨hgd, fun w' hw' => ?_⟩
  simp only [execOp, ho, List.map_toArray, List.map_cons, List.map_nil, hx, Sem.run_bind, Sem.run_pure]
  rw [run_shad w' s ls]
  rfl
theorem info_shad (s : List Nat) (v : Value) (h : s.length = 32) : (Tryd.prog.info? 31).map (·.size) = some (rowS v s).size := by
  rw [rowS_size, h]
  kernel_rfl
theorem rowS_one (p : Option Addr) (n c : Nat) (s : List Nat) : (rowS (.slice p n c) s).all (·.oneCell') = true := by
  refine all_oneCell_toArray fun v hv => ?_
  rcases List.mem_cons.1 hv with rfl | hv
  · rfl
  · obtain ⟨x, _, rfl⟩ := List.mem_map.1 hv
    rfl
end Go.Proofs.YtdmhngkedgkndaaDoor
