/- The law SecretsCuts (printed by gen15/fk.py). -/
import Derived.Test.YtdmhngkedgkndaaDoorF6b
namespace Go.Proofs.YtdmhngkedgkndaaDoor
open Go.RowKit
def m2 (a b : Int) : Int := if b < a then b else a
theorem run_min2 {P : Program} {w : World} (ts : Array TypeId) (t : TypeId) (k : IntKind) (x y : Int) : (Builtin.min_ ts t #[.int k x, .int k y]).run P w = .ok (.int k (m2 x y)) w := by
  simp [Builtin.min_, Builtin.min2, m2]
theorem yieldsIf_min2 {P : Program} {ops : Array Oper} {S : World → Prop} {o : Oper} {a : Act} (hgd : Region.wanted o (yielded ops a.tmps) = true) (c : Call) (ho : o.op = .call c) (hc : c.callee = .builtin .min) (x0 x1 : Operand) (ha : c.args = #[x0, x1]) (x y M : Nat) (h0 : a.eval x0 = .int .i64 (x : Int)) (h1 : a.eval x1 = .int .i64 (y : Int)) (hM : min x y = M) : YieldsIf P ops S o (.int .i64 (M : Int)) a := by
  refine Or.inl ⟨hgd, fun w _ => ?_⟩
  obtain ⟨ca, cb, cc⟩ := c
  dsimp only at hc ha
  subst hc ha
  have e : m2 (x : Int) (y : Int) = (M : Int) := by unfold m2; split <;> omega
  simp only [execOp, ho, resolve, invoke, builtin, Sem.run_bind, Sem.run_pure, Result.andThen_ok, List.map_toArray, List.map_cons, List.map_nil, h0, h1, run_min2, e]
structure Apart (B : Nat) (g : Nat) (v : Value) : Prop where
  g : g < B
  v : ∀ k, v.ownBlock = some k → k < B
theorem SS.aside {B B1 : Nat} {w w' : World} {g : Nat} {v : Value} {m s : List Nat} (h : SS B w g v m s) (A : Apart B1 g v) (b : Below B1 w w') : SS B w' g v m s :=
  h.keep (b.block g A.g) (fun k e => b.block k (A.v k e))
theorem SS.mine {B : Nat} {w w' : World} {g g2 : Nat} {o : Option Nat} {v : Value} {m s : List Nat} (h : SS B w g v m s) (M : Mine g2 o w w') (h1 : g ≠ g2) (h2 : o ≠ some g) (h3 : ∀ k, v.ownBlock = some k → k ≠ g2 ∧ o ≠ some k) : SS B w' g v m s :=
  h.keep (M.block g h.blk.lt h1 h2) (fun k e => M.block k (h.row.lt k e).2 (h3 k e).1 (h3 k e).2)
theorem SS.apart {B : Nat} {w : World} {g : Nat} {v : Value} {m s : List Nat} (h : SS B w g v m s) : Apart w.heap.size g v := ⟨h.blk.lt, fun k e => (h.row.lt k e).2⟩
theorem SS.mineB {B : Nat} {w w' : World} {g : Nat} {v : Value} {m s : List Nat} (h : SS B w g v m s) (M : Mine g v.ownBlock w w') (hB : B ≤ w.heap.size) : Below B w w' := Mine.below (Below.refl _ _) M h.hg (fun k e => (h.row.lt k e).1) hB
theorem SS.mineN {B : Nat} {w w' : World} {g : Nat} {v : Value} {m s : List Nat} (h : SS B w g v m s) (M : Mine g none w w') (hB : B ≤ w.heap.size) : Below B w w' := Mine.below (Below.refl _ _) M h.hg (fun k e => by cases e) hB
theorem Blk.mine {w w' : World} {g g2 : Nat} {o : Option Nat} {t : TypeId} {cs : Array Value} (K : Blk w g t cs) (M : Mine g2 o w w') (h1 : g ≠ g2) (h2 : o ≠ some g) : Blk w' g t cs := (M.block g K.lt h1 h2).trans K
def apS : ByteArray := ⟨#[97, 112]⟩
set_option maxHeartbeats 8000000 in
set_option maxRecDepth 100000 in
theorem lcut_c (psk oth a k : List Nat) (cut : Nat) (pp : Option Addr) (np cp : Nat) (po : Option Addr) (no co : Nat) (pa : Option Addr) (na ca : Nat) (pk : Option Addr) (nk ck : Nat) (W : World) (hp : SB W (.slice pp np cp) psk) (bp : Bytes psk) (ho : SB W (.slice po no co) oth) (bo : Bytes oth) (ha : SB W (.slice pa na ca) a) (ba : Bytes a) (hk : SB W (.slice pk nk ck) k) (bk : Bytes k) (hc : cut < 256) (T : Tab W cuT) (Q : Sq W sqT) (RR : Ref W cuT sqT) :
    Calls Tryd.prog 5 #[.slice pp np cp, .slice po no co, .slice pa na ca, .slice pk nk ck, .int .u8 (cut : Int)] W fun e w' => e = .returned (.bool true) ∧ Below W.heap.size W w' := by
  have AC := Lib.hid (fun (w : World) (b : Below W.heap.size W w) => awake_c w (T.below b) (Q.below b) (RR.below b))
  have hn1 := hp.len.1
  have hn2 := ho.len.1
  have hn3 := ha.len
  have hn4 := hk.len.1
  have TQ := Lib.hid (fun (w : World) (b : Below W.heap.size W w) => And.intro (T.below b) (And.intro (Q.below b) (And.intro (hp.below b) (And.intro (ho.below b) (And.intro (ha.below b) (hk.below b))))))
  have BB := Lib.hid (And.intro bp (And.intro bo (And.intro ba bk)))
  have HN := Lib.hid (And.intro hn1 (And.intro hn2 (And.intro hn3 hn4)))
  have wc : IntKind.i64.wrap (cut : Int) = (cut : Int) := by rw [IntKind.wrap_i64]; omega
  clear T Q RR hp bp ho bo ha ba hk bk hn1 hn2 hn3 hn4
  go_enter Tryd.func5, Tryd.ntmps5
  go_upto_region 0 with fail
  rename_i aK
  refine wp_region_seq ?_
  refine wpSeq_yield (S := fun _ => True) (yieldsIf_assign rfl _ rfl (.bool false) rfl) trivial ?_
  simp only [AP]
  refine wpSeq_nil ?_
  refine (by assumption : ∀ (a : Act) (w : World), _ → _) _ _ ?_
  go_upto_region 1 with fail
  rename_i aK
  refine wp_region_seq ?_
  refine wpSeq_wp rfl ?_
  unfold Oper.wp execOp
  go_simp
  refine (AC.out W (Below.refl _ _)).mono ?_
  rintro _ w2 ⟨rfl, b⟩
  clear AC
  go_simp
  refine wpSeq_yield (S := fun _ => True) (v := .bool false) (Or.inl ⟨by rfl, fun w' hw' => by go_simp⟩) trivial ?_
  simp only [AP]
  refine wpSeq_nil ?_
  refine (by assumption : ∀ (a : Act) (w : World), _ → _) _ _ ?_
  by_cases q0 : 60 < np
  · have q0' : (60 : Int) < (np : Int) := by omega
    go_upto_region 3 with fail
    rename_i aK
    refine wp_region_seq ?_
    refine wpSeq_yield (S := fun _ => True) (yieldsIf_move rfl _ rfl (.slice pp np cp) rfl) trivial ?_
    simp only [AP]
    refine wpSeq_yield (S := fun _ => True) (v := .int .i64 (np : Int)) (Or.inl ⟨by rfl, fun w' hw' => by go_simp⟩) trivial ?_
    simp only [AP]
    refine wpSeq_yield (S := fun _ => True) (v := .bool true) (Or.inl ⟨by rfl, fun w' hw' => by (go_simp; try omega)⟩) trivial ?_
    simp only [AP]
    refine wpSeq_yield (S := fun _ => True) (yieldsIf_move rfl _ rfl (.bool true) rfl) trivial ?_
    simp only [AP]
    refine wpSeq_yield (S := fun _ => True) (yieldsIf_off rfl) trivial ?_
    simp only [AP]
    refine wpSeq_yield (S := fun _ => True) (yieldsIf_off rfl) trivial ?_
    simp only [AP]
    refine wpSeq_yield (S := fun _ => True) (yieldsIf_off rfl) trivial ?_
    simp only [AP]
    refine wpSeq_yield (S := fun _ => True) (yieldsIf_pick rfl _ _ _ rfl true rfl (.bool true) rfl) trivial ?_
    simp only [AP]
    refine wpSeq_yield (S := fun _ => True) (yieldsIf_move rfl _ rfl (.bool true) rfl) trivial ?_
    simp only [AP]
    refine wpSeq_yield (S := fun _ => True) (yieldsIf_off rfl) trivial ?_
    simp only [AP]
    refine wpSeq_yield (S := fun _ => True) (yieldsIf_off rfl) trivial ?_
    simp only [AP]
    refine wpSeq_yield (S := fun _ => True) (yieldsIf_off rfl) trivial ?_
    simp only [AP]
    refine wpSeq_yield (S := fun _ => True) (yieldsIf_pick rfl _ _ _ rfl true rfl (.bool true) rfl) trivial ?_
    simp only [AP]
    refine wpSeq_yield (S := fun _ => True) (yieldsIf_move rfl _ rfl (.bool true) rfl) trivial ?_
    simp only [AP]
    refine wpSeq_yield (S := fun _ => True) (yieldsIf_off rfl) trivial ?_
    simp only [AP]
    refine wpSeq_yield (S := fun _ => True) (yieldsIf_off rfl) trivial ?_
    simp only [AP]
    refine wpSeq_yield (S := fun _ => True) (yieldsIf_off rfl) trivial ?_
    simp only [AP]
    refine wpSeq_yield (S := fun _ => True) (yieldsIf_pick rfl _ _ _ rfl true rfl (.bool true) rfl) trivial ?_
    simp only [AP]
    refine wpSeq_nil ?_
    refine (by assumption : ∀ (a : Act) (w : World), _ → _) _ _ ?_
    go_upto_region 4 with fail
    rename_i aK
    refine wp_region_seq ?_
    refine wpSeq_yield (S := fun _ => True) (yieldsIf_assign rfl _ rfl (.bool true) rfl) trivial ?_
    simp only [AP]
    refine wpSeq_nil ?_
    refine (by assumption : ∀ (a : Act) (w : World), _ → _) _ _ ?_
    go_wp2
    go_ret
    exact ⟨rfl, b⟩
  have q0' : ¬ (60 : Int) < (np : Int) := by omega
  by_cases q1 : 60 < no
  · have q1' : (60 : Int) < (no : Int) := by omega
    go_upto_region 3 with fail
    rename_i aK
    refine wp_region_seq ?_
    refine wpSeq_yield (S := fun _ => True) (yieldsIf_move rfl _ rfl (.slice pp np cp) rfl) trivial ?_
    simp only [AP]
    refine wpSeq_yield (S := fun _ => True) (v := .int .i64 (np : Int)) (Or.inl ⟨by rfl, fun w' hw' => by go_simp⟩) trivial ?_
    simp only [AP]
    refine wpSeq_yield (S := fun _ => True) (v := .bool false) (Or.inl ⟨by rfl, fun w' hw' => by (go_simp; try omega)⟩) trivial ?_
    simp only [AP]
    refine wpSeq_yield (S := fun _ => True) (yieldsIf_move rfl _ rfl (.bool false) rfl) trivial ?_
    simp only [AP]
    refine wpSeq_yield (S := fun _ => True) (yieldsIf_move rfl _ rfl (.slice po no co) rfl) trivial ?_
    simp only [AP]
    refine wpSeq_yield (S := fun _ => True) (v := .int .i64 (no : Int)) (Or.inl ⟨by rfl, fun w' hw' => by go_simp⟩) trivial ?_
    simp only [AP]
    refine wpSeq_yield (S := fun _ => True) (v := .bool true) (Or.inl ⟨by rfl, fun w' hw' => by (go_simp; try omega)⟩) trivial ?_
    simp only [AP]
    refine wpSeq_yield (S := fun _ => True) (yieldsIf_pick rfl _ _ _ rfl false rfl (.bool true) rfl) trivial ?_
    simp only [AP]
    refine wpSeq_yield (S := fun _ => True) (yieldsIf_move rfl _ rfl (.bool true) rfl) trivial ?_
    simp only [AP]
    refine wpSeq_yield (S := fun _ => True) (yieldsIf_off rfl) trivial ?_
    simp only [AP]
    refine wpSeq_yield (S := fun _ => True) (yieldsIf_off rfl) trivial ?_
    simp only [AP]
    refine wpSeq_yield (S := fun _ => True) (yieldsIf_off rfl) trivial ?_
    simp only [AP]
    refine wpSeq_yield (S := fun _ => True) (yieldsIf_pick rfl _ _ _ rfl true rfl (.bool true) rfl) trivial ?_
    simp only [AP]
    refine wpSeq_yield (S := fun _ => True) (yieldsIf_move rfl _ rfl (.bool true) rfl) trivial ?_
    simp only [AP]
    refine wpSeq_yield (S := fun _ => True) (yieldsIf_off rfl) trivial ?_
    simp only [AP]
    refine wpSeq_yield (S := fun _ => True) (yieldsIf_off rfl) trivial ?_
    simp only [AP]
    refine wpSeq_yield (S := fun _ => True) (yieldsIf_off rfl) trivial ?_
    simp only [AP]
    refine wpSeq_yield (S := fun _ => True) (yieldsIf_pick rfl _ _ _ rfl true rfl (.bool true) rfl) trivial ?_
    simp only [AP]
    refine wpSeq_nil ?_
    refine (by assumption : ∀ (a : Act) (w : World), _ → _) _ _ ?_
    go_upto_region 4 with fail
    rename_i aK
    refine wp_region_seq ?_
    refine wpSeq_yield (S := fun _ => True) (yieldsIf_assign rfl _ rfl (.bool true) rfl) trivial ?_
    simp only [AP]
    refine wpSeq_nil ?_
    refine (by assumption : ∀ (a : Act) (w : World), _ → _) _ _ ?_
    go_wp2
    go_ret
    exact ⟨rfl, b⟩
  have q1' : ¬ (60 : Int) < (no : Int) := by omega
  by_cases q2 : 200 < na
  · have q2' : (200 : Int) < (na : Int) := by omega
    go_upto_region 3 with fail
    rename_i aK
    refine wp_region_seq ?_
    refine wpSeq_yield (S := fun _ => True) (yieldsIf_move rfl _ rfl (.slice pp np cp) rfl) trivial ?_
    simp only [AP]
    refine wpSeq_yield (S := fun _ => True) (v := .int .i64 (np : Int)) (Or.inl ⟨by rfl, fun w' hw' => by go_simp⟩) trivial ?_
    simp only [AP]
    refine wpSeq_yield (S := fun _ => True) (v := .bool false) (Or.inl ⟨by rfl, fun w' hw' => by (go_simp; try omega)⟩) trivial ?_
    simp only [AP]
    refine wpSeq_yield (S := fun _ => True) (yieldsIf_move rfl _ rfl (.bool false) rfl) trivial ?_
    simp only [AP]
    refine wpSeq_yield (S := fun _ => True) (yieldsIf_move rfl _ rfl (.slice po no co) rfl) trivial ?_
    simp only [AP]
    refine wpSeq_yield (S := fun _ => True) (v := .int .i64 (no : Int)) (Or.inl ⟨by rfl, fun w' hw' => by go_simp⟩) trivial ?_
    simp only [AP]
    refine wpSeq_yield (S := fun _ => True) (v := .bool false) (Or.inl ⟨by rfl, fun w' hw' => by (go_simp; try omega)⟩) trivial ?_
    simp only [AP]
    refine wpSeq_yield (S := fun _ => True) (yieldsIf_pick rfl _ _ _ rfl false rfl (.bool false) rfl) trivial ?_
    simp only [AP]
    refine wpSeq_yield (S := fun _ => True) (yieldsIf_move rfl _ rfl (.bool false) rfl) trivial ?_
    simp only [AP]
    refine wpSeq_yield (S := fun _ => True) (yieldsIf_move rfl _ rfl (.slice pa na ca) rfl) trivial ?_
    simp only [AP]
    refine wpSeq_yield (S := fun _ => True) (v := .int .i64 (na : Int)) (Or.inl ⟨by rfl, fun w' hw' => by go_simp⟩) trivial ?_
    simp only [AP]
    refine wpSeq_yield (S := fun _ => True) (v := .bool true) (Or.inl ⟨by rfl, fun w' hw' => by (go_simp; try omega)⟩) trivial ?_
    simp only [AP]
    refine wpSeq_yield (S := fun _ => True) (yieldsIf_pick rfl _ _ _ rfl false rfl (.bool true) rfl) trivial ?_
    simp only [AP]
    refine wpSeq_yield (S := fun _ => True) (yieldsIf_move rfl _ rfl (.bool true) rfl) trivial ?_
    simp only [AP]
    refine wpSeq_yield (S := fun _ => True) (yieldsIf_off rfl) trivial ?_
    simp only [AP]
    refine wpSeq_yield (S := fun _ => True) (yieldsIf_off rfl) trivial ?_
    simp only [AP]
    refine wpSeq_yield (S := fun _ => True) (yieldsIf_off rfl) trivial ?_
    simp only [AP]
    refine wpSeq_yield (S := fun _ => True) (yieldsIf_pick rfl _ _ _ rfl true rfl (.bool true) rfl) trivial ?_
    simp only [AP]
    refine wpSeq_nil ?_
    refine (by assumption : ∀ (a : Act) (w : World), _ → _) _ _ ?_
    go_upto_region 4 with fail
    rename_i aK
    refine wp_region_seq ?_
    refine wpSeq_yield (S := fun _ => True) (yieldsIf_assign rfl _ rfl (.bool true) rfl) trivial ?_
    simp only [AP]
    refine wpSeq_nil ?_
    refine (by assumption : ∀ (a : Act) (w : World), _ → _) _ _ ?_
    go_wp2
    go_ret
    exact ⟨rfl, b⟩
  have q2' : ¬ (200 : Int) < (na : Int) := by omega
  by_cases q3 : 200 < nk
  · have q3' : (200 : Int) < (nk : Int) := by omega
    go_upto_region 3 with fail
    rename_i aK
    refine wp_region_seq ?_
    refine wpSeq_yield (S := fun _ => True) (yieldsIf_move rfl _ rfl (.slice pp np cp) rfl) trivial ?_
    simp only [AP]
    refine wpSeq_yield (S := fun _ => True) (v := .int .i64 (np : Int)) (Or.inl ⟨by rfl, fun w' hw' => by go_simp⟩) trivial ?_
    simp only [AP]
    refine wpSeq_yield (S := fun _ => True) (v := .bool false) (Or.inl ⟨by rfl, fun w' hw' => by (go_simp; try omega)⟩) trivial ?_
    simp only [AP]
    refine wpSeq_yield (S := fun _ => True) (yieldsIf_move rfl _ rfl (.bool false) rfl) trivial ?_
    simp only [AP]
    refine wpSeq_yield (S := fun _ => True) (yieldsIf_move rfl _ rfl (.slice po no co) rfl) trivial ?_
    simp only [AP]
    refine wpSeq_yield (S := fun _ => True) (v := .int .i64 (no : Int)) (Or.inl ⟨by rfl, fun w' hw' => by go_simp⟩) trivial ?_
    simp only [AP]
    refine wpSeq_yield (S := fun _ => True) (v := .bool false) (Or.inl ⟨by rfl, fun w' hw' => by (go_simp; try omega)⟩) trivial ?_
    simp only [AP]
    refine wpSeq_yield (S := fun _ => True) (yieldsIf_pick rfl _ _ _ rfl false rfl (.bool false) rfl) trivial ?_
    simp only [AP]
    refine wpSeq_yield (S := fun _ => True) (yieldsIf_move rfl _ rfl (.bool false) rfl) trivial ?_
    simp only [AP]
    refine wpSeq_yield (S := fun _ => True) (yieldsIf_move rfl _ rfl (.slice pa na ca) rfl) trivial ?_
    simp only [AP]
    refine wpSeq_yield (S := fun _ => True) (v := .int .i64 (na : Int)) (Or.inl ⟨by rfl, fun w' hw' => by go_simp⟩) trivial ?_
    simp only [AP]
    refine wpSeq_yield (S := fun _ => True) (v := .bool false) (Or.inl ⟨by rfl, fun w' hw' => by (go_simp; try omega)⟩) trivial ?_
    simp only [AP]
    refine wpSeq_yield (S := fun _ => True) (yieldsIf_pick rfl _ _ _ rfl false rfl (.bool false) rfl) trivial ?_
    simp only [AP]
    refine wpSeq_yield (S := fun _ => True) (yieldsIf_move rfl _ rfl (.bool false) rfl) trivial ?_
    simp only [AP]
    refine wpSeq_yield (S := fun _ => True) (yieldsIf_move rfl _ rfl (.slice pk nk ck) rfl) trivial ?_
    simp only [AP]
    refine wpSeq_yield (S := fun _ => True) (v := .int .i64 (nk : Int)) (Or.inl ⟨by rfl, fun w' hw' => by go_simp⟩) trivial ?_
    simp only [AP]
    refine wpSeq_yield (S := fun _ => True) (v := .bool true) (Or.inl ⟨by rfl, fun w' hw' => by (go_simp; try omega)⟩) trivial ?_
    simp only [AP]
    refine wpSeq_yield (S := fun _ => True) (yieldsIf_pick rfl _ _ _ rfl false rfl (.bool true) rfl) trivial ?_
    simp only [AP]
    refine wpSeq_nil ?_
    refine (by assumption : ∀ (a : Act) (w : World), _ → _) _ _ ?_
    go_upto_region 4 with fail
    rename_i aK
    refine wp_region_seq ?_
    refine wpSeq_yield (S := fun _ => True) (yieldsIf_assign rfl _ rfl (.bool true) rfl) trivial ?_
    simp only [AP]
    refine wpSeq_nil ?_
    refine (by assumption : ∀ (a : Act) (w : World), _ → _) _ _ ?_
    go_wp2
    go_ret
    exact ⟨rfl, b⟩
  have q3' : ¬ (200 : Int) < (nk : Int) := by omega
  go_upto_region 3 with fail
  rename_i aK
  refine wp_region_seq ?_
  refine wpSeq_yield (S := fun _ => True) (yieldsIf_move rfl _ rfl (.slice pp np cp) rfl) trivial ?_
  simp only [AP]
  refine wpSeq_yield (S := fun _ => True) (v := .int .i64 (np : Int)) (Or.inl ⟨by rfl, fun w' hw' => by go_simp⟩) trivial ?_
  simp only [AP]
  refine wpSeq_yield (S := fun _ => True) (v := .bool false) (Or.inl ⟨by rfl, fun w' hw' => by (go_simp; try omega)⟩) trivial ?_
  simp only [AP]
  refine wpSeq_yield (S := fun _ => True) (yieldsIf_move rfl _ rfl (.bool false) rfl) trivial ?_
  simp only [AP]
  refine wpSeq_yield (S := fun _ => True) (yieldsIf_move rfl _ rfl (.slice po no co) rfl) trivial ?_
  simp only [AP]
  refine wpSeq_yield (S := fun _ => True) (v := .int .i64 (no : Int)) (Or.inl ⟨by rfl, fun w' hw' => by go_simp⟩) trivial ?_
  simp only [AP]
  refine wpSeq_yield (S := fun _ => True) (v := .bool false) (Or.inl ⟨by rfl, fun w' hw' => by (go_simp; try omega)⟩) trivial ?_
  simp only [AP]
  refine wpSeq_yield (S := fun _ => True) (yieldsIf_pick rfl _ _ _ rfl false rfl (.bool false) rfl) trivial ?_
  simp only [AP]
  refine wpSeq_yield (S := fun _ => True) (yieldsIf_move rfl _ rfl (.bool false) rfl) trivial ?_
  simp only [AP]
  refine wpSeq_yield (S := fun _ => True) (yieldsIf_move rfl _ rfl (.slice pa na ca) rfl) trivial ?_
  simp only [AP]
  refine wpSeq_yield (S := fun _ => True) (v := .int .i64 (na : Int)) (Or.inl ⟨by rfl, fun w' hw' => by go_simp⟩) trivial ?_
  simp only [AP]
  refine wpSeq_yield (S := fun _ => True) (v := .bool false) (Or.inl ⟨by rfl, fun w' hw' => by (go_simp; try omega)⟩) trivial ?_
  simp only [AP]
  refine wpSeq_yield (S := fun _ => True) (yieldsIf_pick rfl _ _ _ rfl false rfl (.bool false) rfl) trivial ?_
  simp only [AP]
  refine wpSeq_yield (S := fun _ => True) (yieldsIf_move rfl _ rfl (.bool false) rfl) trivial ?_
  simp only [AP]
  refine wpSeq_yield (S := fun _ => True) (yieldsIf_move rfl _ rfl (.slice pk nk ck) rfl) trivial ?_
  simp only [AP]
  refine wpSeq_yield (S := fun _ => True) (v := .int .i64 (nk : Int)) (Or.inl ⟨by rfl, fun w' hw' => by go_simp⟩) trivial ?_
  simp only [AP]
  refine wpSeq_yield (S := fun _ => True) (v := .bool false) (Or.inl ⟨by rfl, fun w' hw' => by (go_simp; try omega)⟩) trivial ?_
  simp only [AP]
  refine wpSeq_yield (S := fun _ => True) (yieldsIf_pick rfl _ _ _ rfl false rfl (.bool false) rfl) trivial ?_
  simp only [AP]
  refine wpSeq_nil ?_
  refine (by assumption : ∀ (a : Act) (w : World), _ → _) _ _ ?_
  obtain ⟨N, hN⟩ : ∃ N, min cut na = N := ⟨_, rfl⟩
  have hNa : N ≤ na := by omega
  have LM : np ≤ 60 ∧ no ≤ 60 ∧ na ≤ 200 ∧ nk ≤ 200 := by omega
  replace LM := Lib.hid LM
  clear q0 q1 q2 q3 q0' q1' q2' q3'
  have F2 := TQ.out w2 b
  have NC1 := Lib.hid (new_c psk pp np cp w2 F2.1 F2.2.1 F2.2.2.1 BB.out.1 (by have := HN.out.1; have := LM.out; omega))
  clear F2
  go_upto_region 5 with fail
  rename_i aK
  refine wp_region_seq ?_
  refine wpSeq_yield (S := fun _ => True) (yieldsIf_move rfl _ rfl (.slice pp np cp) rfl) trivial ?_
  simp only [AP]
  refine wpSeq_wp rfl ?_
  unfold Oper.wp execOp
  go_simp
  refine (NC1.out).mono ?_
  rintro _ w3 ⟨gx, rfl, X, b3⟩
  replace X := X.mono b.size
  replace b := b.trans (b3.mono b.size)
  clear b3 NC1
  have F3 := TQ.out w3 b
  have NC2 := Lib.hid (new_c oth po no co w3 F3.1 F3.2.1 F3.2.2.2.1 BB.out.2.1 (by have := HN.out.2.1; have := LM.out; omega))
  clear F3
  go_simp
  refine wpSeq_yield (S := fun _ => True) (yieldsIf_move rfl _ rfl (.slice po no co) rfl) trivial ?_
  simp only [AP]
  refine wpSeq_wp rfl ?_
  unfold Oper.wp execOp
  go_simp
  refine (NC2.out).mono ?_
  rintro _ w4 ⟨gy, rfl, Y, b4⟩
  have gxy : gx < gy := Nat.lt_of_lt_of_le X.blk.lt Y.hg
  replace Y := Y.mono b.size
  replace X := X.below b4
  replace b := b.trans (b4.mono b.size)
  clear b4 NC2
  go_simp
  refine wpSeq_yield (S := fun _ => True) (yieldsIf_assign rfl _ rfl (.pointer (some ⟨gx, 0, none⟩)) rfl) trivial ?_
  simp only [AP]
  refine wpSeq_yield (S := fun _ => True) (yieldsIf_assign rfl _ rfl (.pointer (some ⟨gy, 0, none⟩)) rfl) trivial ?_
  simp only [AP]
  refine wpSeq_nil ?_
  refine (by assumption : ∀ (a : Act) (w : World), _ → _) _ _ ?_
  go_upto_region 6 with fail
  rename_i aK
  refine wp_region_seq ?_
  refine wpSeq_yield (S := fun _ => True) (yieldsIf_move rfl _ rfl (.int .u8 (cut : Int)) rfl) trivial ?_
  simp only [AP]
  refine wpSeq_yield (S := fun _ => True) (v := .int .i64 (cut : Int)) (Or.inl ⟨by rfl, fun w' hw' => by go_simp⟩) trivial ?_
  simp only [AP]
  refine wpSeq_yield (S := fun _ => True) (yieldsIf_move rfl _ rfl (.slice pa na ca) rfl) trivial ?_
  simp only [AP]
  refine wpSeq_yield (S := fun _ => True) (v := .int .i64 (na : Int)) (Or.inl ⟨by rfl, fun w' hw' => by go_simp⟩) trivial ?_
  simp only [AP]
  refine wpSeq_yield (S := fun _ => True) (yieldsIf_min2 rfl _ rfl rfl _ _ rfl cut na N rfl rfl hN) trivial ?_
  simp only [AP]
  refine wpSeq_yield (S := fun _ => True) (yieldsIf_assign rfl _ rfl (.int .i64 (N : Int)) rfl) trivial ?_
  simp only [AP]
  refine wpSeq_nil ?_
  refine (by assumption : ∀ (a : Act) (w : World), _ → _) _ _ ?_
  replace hN := Lib.hid hN
  go_upto_region 7 with fail
  rename_i aK
  refine wp_region_seq ?_
  refine wpSeq_yield (S := fun _ => True) (yieldsIf_move rfl _ rfl (.pointer (some ⟨gx, 0, none⟩)) rfl) trivial ?_
  simp only [AP]
  refine wpSeq_yield (S := fun _ => True) (yieldsIf_move rfl _ rfl (.slice pa na ca) rfl) trivial ?_
  simp only [AP]
  refine wpSeq_wp rfl ?_
  unfold Oper.wp execOp
  go_simp
  have PA := sp_one 22 ((TQ.out w4 b).2.2.2.2.1)
  have bx := (Below.refl w4.heap.size w4).alloc (Nat.le_refl _) (.cells #[.slice pa na ca] 22)
  replace X := X.below bx
  replace Y := Y.below bx
  replace b := b.trans (bx.mono b.size)
  clear bx
  generalize World.alloc w4 _ = w5 at *
  generalize w4.heap.size = g5 at PA ⊢
  have PC := add_c W.heap.size gx _ [] (beginL psk) [a] _ 1 1 w5 X b.size PA (fun l h => by rw [List.mem_singleton.1 h]; exact BB.out.2.2.1) (Nat.zero_le _) (by have := HN.out; have := LM.out; simp; omega) (by simp)
  rw [show [] ++ [a].flatten = a by simp] at PC
  replace PC := Lib.hid PC
  clear PA
  refine wpSeq_wp rfl ?_
  unfold Oper.wp execOp
  go_simp
  refine (PC.out).mono ?_
  rintro _ w6 ⟨⟨u, rfl⟩, vx, X6, M6, O6⟩
  have Y6 := Y.mine M6 (by omega) (fun e => by cases e) (fun k e => by cases e)
  have b6 := b.trans ((X.mineB M6 b.size).mono (Nat.le_refl _))
  have yl := Y.blk.lt
  replace O6 : ∀ k, vx.ownBlock = some k → gy < k := fun k e => by rcases O6 k e with h | h; cases h; omega
  clear X Y M6 PC b yl
  go_simp
  refine wpSeq_nil ?_
  refine (by assumption : ∀ (a : Act) (w : World), _ → _) _ _ ?_
  go_upto_region 8 with fail
  rename_i aK
  refine wp_region_seq ?_
  refine wpSeq_yield (S := fun _ => True) (yieldsIf_move rfl _ rfl (.pointer (some ⟨gy, 0, none⟩)) rfl) trivial ?_
  simp only [AP]
  refine wpSeq_yield (S := fun _ => True) (yieldsIf_move rfl _ rfl (.slice pa na ca) rfl) trivial ?_
  simp only [AP]
  refine wpSeq_yield (S := fun _ => True) (yieldsIf_move rfl _ rfl (.int .i64 (N : Int)) rfl) trivial ?_
  simp only [AP]
  refine wpSeq_yield (S := fun _ => True) (yieldsIf_head rfl _ _ rfl pa na ca N rfl rfl (Nat.le_trans hNa (by have := HN.out; omega))) trivial ?_
  simp only [AP]
  replace b6 := b6
  refine wpSeq_wp rfl ?_
  unfold Oper.wp execOp
  go_simp
  have PA := sp_one 22 ((TQ.out w6 b6).2.2.2.2.1.head N hNa)
  have bx := (Below.refl w6.heap.size w6).alloc (Nat.le_refl _) (.cells #[.slice pa N ca] 22)
  replace X6 := X6.below bx
  replace Y6 := Y6.below bx
  replace b6 := b6.trans (bx.mono b6.size)
  clear bx
  generalize World.alloc w6 _ = w7 at *
  generalize w6.heap.size = g7 at PA ⊢
  have PC := add_c W.heap.size gy _ [] (beginL oth) [a.take N] _ 1 1 w7 Y6 b6.size PA (fun l h => by rw [List.mem_singleton.1 h]; exact BB.out.2.2.1.take N) (Nat.zero_le _) (by have := HN.out; have := LM.out; simp; omega) (by simp)
  rw [show [] ++ [a.take N].flatten = a.take N by simp] at PC
  replace PC := Lib.hid PC
  clear PA
  refine wpSeq_wp rfl ?_
  unfold Oper.wp execOp
  go_simp
  refine (PC.out).mono ?_
  rintro _ w8 ⟨⟨u2, rfl⟩, vy, Y8, M8, _⟩
  have X8 := X6.mine M8 (by omega) (fun e => by cases e) (fun k e => ⟨by have := O6 k e; omega, fun e => by cases e⟩)
  have b8 := b6.trans ((Y6.mineB M8 b6.size).mono (Nat.le_refl _))
  clear X6 Y6 M8 PC b6 O6
  have F8 := TQ.out w8 b8
  have GC := Lib.hid (again_c W.heap.size gy _ (a.take N) (beginL oth) psk pp np cp w8 Y8 (by rw [List.length_take]; have := HN.out; have := LM.out; omega) F8.1 F8.2.1 F8.2.2.1 BB.out.1 (by have := HN.out; have := LM.out; omega))
  clear F8
  go_simp
  refine wpSeq_nil ?_
  refine (by assumption : ∀ (a : Act) (w : World), _ → _) _ _ ?_
  go_upto_region 9 with fail
  rename_i aK
  refine wp_region_seq ?_
  refine wpSeq_yield (S := fun _ => True) (yieldsIf_move rfl _ rfl (.pointer (some ⟨gy, 0, none⟩)) rfl) trivial ?_
  simp only [AP]
  refine wpSeq_yield (S := fun _ => True) (yieldsIf_move rfl _ rfl (.slice pp np cp) rfl) trivial ?_
  simp only [AP]
  refine wpSeq_wp rfl ?_
  unfold Oper.wp execOp
  go_simp
  refine (GC.out).mono ?_
  rintro _ w9 ⟨gz, rfl, vz, Z, b9⟩
  have AX := X8.apart
  have X := X8.below b9
  have b := b8.trans (b9.mono b8.size)
  have bz := b9
  have hzg := Z.hg
  have h8W := b8.size
  clear X8 Y8 b8 b9 GC
  go_simp
  refine wpSeq_yield (S := fun _ => True) (yieldsIf_assign rfl _ rfl (.pointer (some ⟨gz, 0, none⟩)) rfl) trivial ?_
  simp only [AP]
  refine wpSeq_nil ?_
  refine (by assumption : ∀ (a : Act) (w : World), _ → _) _ _ ?_
  go_upto_region 10 with fail
  rename_i aK
  refine wp_region_seq ?_
  refine wpSeq_yield (S := fun _ => True) (yieldsIf_move rfl _ rfl (.pointer (some ⟨gz, 0, none⟩)) rfl) trivial ?_
  simp only [AP]
  refine wpSeq_yield (S := fun _ => True) (yieldsIf_move rfl _ rfl (.slice pa na ca) rfl) trivial ?_
  simp only [AP]
  refine wpSeq_yield (S := fun _ => True) (yieldsIf_move rfl _ rfl (.int .i64 (N : Int)) rfl) trivial ?_
  simp only [AP]
  refine wpSeq_yield (S := fun _ => True) (yieldsIf_tail rfl _ _ rfl pa na ca N rfl rfl hNa (by have := HN.out; omega)) trivial ?_
  simp only [AP]
  refine wpSeq_wp rfl ?_
  unfold Oper.wp execOp
  go_simp
  have PA := sp_one 22 ((TQ.out w9 b).2.2.2.2.1.tail N hNa)
  have bx := (Below.refl w9.heap.size w9).alloc (Nat.le_refl _) (.cells #[.slice (tailP pa ca N) (na - N) (ca - N)] 22)
  replace X := X.below bx
  replace Z := Z.below bx
  replace b := b.trans (bx.mono b.size)
  replace bz := bz.trans (bx.mono bz.size)
  clear bx
  generalize World.alloc w9 _ = w10 at *
  generalize w9.heap.size = g9 at PA ⊢
  have PC := add_c w8.heap.size gz _ (a.take N) (beginL psk) [a.drop N] _ 1 1 w10 Z bz.size PA (fun l h => by rw [List.mem_singleton.1 h]; exact BB.out.2.2.1.drop N) (by rw [List.length_take]; have := HN.out; have := LM.out; omega) (by have := HN.out; have := LM.out; simp; omega) (by simp)
  rw [show a.take N ++ [a.drop N].flatten = a by simp] at PC
  replace PC := Lib.hid PC
  clear PA
  refine wpSeq_wp rfl ?_
  unfold Oper.wp execOp
  go_simp
  refine (PC.out).mono ?_
  rintro _ w11 ⟨⟨u3, rfl⟩, vz', Z11, M11, _⟩
  have c11 := Z.mineB M11 bz.size
  have X11 := X.aside AX c11
  have bz11 := bz.trans c11
  have b11 := b.trans ((c11).mono (by assumption : W.heap.size ≤ w8.heap.size) : Below W.heap.size w10 w11)
  clear X Z M11 PC b bz c11
  go_simp
  refine wpSeq_nil ?_
  refine (by assumption : ∀ (a : Act) (w : World), _ → _) _ _ ?_
  replace hzg := hzg
  have X := X11
  have Z := Z11
  have b := b11
  have bz := bz11
  have hgx := AX.g
  have LA : a.length ≤ 100000 := by have := HN.out; have := LM.out; omega
  have LK : k.length ≤ 100000 := by have := HN.out; have := LM.out; omega
  replace LA := Lib.hid LA
  replace LK := Lib.hid LK
  clear X11 Z11 b11 bz11
  obtain ⟨bl, hbl⟩ : ∃ l, beginL psk = l := ⟨_, rfl⟩
  rw [hbl] at X Z
  clear hbl
  obtain ⟨nl, hnl⟩ : ∃ l, nextL bl k = l := ⟨_, rfl⟩
  obtain ⟨C1, hC1⟩ : ∃ l, cliL a bl hsS = l := ⟨_, rfl⟩
  obtain ⟨S1, hS1⟩ : ∃ l, srvL a bl hsS = l := ⟨_, rfl⟩
  obtain ⟨C2, hC2⟩ : ∃ l, cliL a nl apS = l := ⟨_, rfl⟩
  obtain ⟨S2, hS2⟩ : ∃ l, srvL a nl apS = l := ⟨_, rfl⟩
  obtain ⟨XM, hXM⟩ : ∃ l, sha cuT sqT (a ++ ([] : List (List Nat)).flatten) = l := ⟨_, rfl⟩
  have lC1 := Lib.hid (show C1.length = 32 from hC1 ▸ labL_length _ _ _ _)
  have lS1 := Lib.hid (show S1.length = 32 from hS1 ▸ labL_length _ _ _ _)
  have lC2 := Lib.hid (show C2.length = 32 from hC2 ▸ labL_length _ _ _ _)
  have lS2 := Lib.hid (show S2.length = 32 from hS2 ▸ labL_length _ _ _ _)
  have lXM := Lib.hid (show XM.length = 32 from hXM ▸ sha_length _ _ _)
  have T1 := Lib.hid (fun (B g : Nat) (v : Value) (w : World) (h : SS B w g v a bl) (b : Below W.heap.size W w) => hC1 ▸ hS1 ▸ traf_c B g v a bl hsS w h (TQ.out w b).1 (TQ.out w b).2.1 LA.out (by decide))
  have T2 := Lib.hid (fun (B g : Nat) (v : Value) (w : World) (h : SS B w g v a nl) (b : Below W.heap.size W w) => hC2 ▸ hS2 ▸ traf_c B g v a nl apS w h (TQ.out w b).1 (TQ.out w b).2.1 LA.out (by decide))
  have NX := Lib.hid (fun (B g : Nat) (v : Value) (w : World) (h : SS B w g v a bl) (b : Below W.heap.size W w) => hnl ▸ next_c B g v a bl k pk nk ck w h (TQ.out w b).1 (TQ.out w b).2.1 (TQ.out w b).2.2.2.2.2 BB.out.2.2.2 LK.out)
  have SU := Lib.hid (fun (B g : Nat) (v : Value) (w : World) (h : SS B w g v a nl) (b : Below W.heap.size W w) => hXM ▸ sum_c B g v a nl [] none 0 0 w h (TQ.out w b).1 (TQ.out w b).2.1 (sp_nil w) (fun l h => by cases h) LA.out (by simp) (by simp))
  clear hnl hC1 hS1 hC2 hS2 hXM hNa wc
  go_upto_region 11 with fail
  rename_i aK
  refine wp_region_seq ?_
  refine wpSeq_yield (S := fun _ => True) (yieldsIf_move rfl _ rfl (.pointer (some ⟨gz, 0, none⟩)) rfl) trivial ?_
  simp only [AP]
  refine wpSeq_yield (S := fun _ => True) (yieldsIf_move rfl _ rfl (.slice pk nk ck) rfl) trivial ?_
  simp only [AP]
  refine wpSeq_wp rfl ?_
  unfold Oper.wp execOp
  go_simp
  have PA := sp_one 22 ((TQ.out w11 b).2.2.2.2.2)
  have bx := (Below.refl w11.heap.size w11).alloc (Nat.le_refl _) (.cells #[.slice pk nk ck] 22)
  replace X := X.below bx
  replace Z := Z.below bx
  replace b := b.trans (bx.mono b.size)
  replace bz := bz.trans (bx.mono bz.size)
  clear bx
  generalize World.alloc w11 _ = w12 at *
  generalize w11.heap.size = g11 at PA ⊢
  have PC := Lib.hid (sum_c w8.heap.size gz _ a bl [k] _ 1 1 w12 Z (TQ.out w12 b).1 (TQ.out w12 b).2.1 PA (fun l h => by rw [List.mem_singleton.1 h]; exact BB.out.2.2.2) LA.out (by have := LK.out; simp; omega) (by simp))
  clear PA
  refine wpSeq_wp rfl ?_
  unfold Oper.wp execOp
  go_simp
  refine (PC.out).mono ?_
  rintro _ w13 ⟨rfl, bq⟩
  replace X := X.below bq
  replace Z := Z.below bq
  replace b := b.trans (bq.mono b.size)
  replace bz := bz.trans (bq.mono bz.size)
  clear bq PC
  go_simp
  refine wpSeq_nil ?_
  refine (by assumption : ∀ (a : Act) (w : World), _ → _) _ _ ?_
  go_upto_region 12 with fail
  rename_i aK
  refine wp_region_seq ?_
  refine wpSeq_yield (S := fun _ => True) (yieldsIf_move rfl _ rfl (.pointer (some ⟨gz, 0, none⟩)) rfl) trivial ?_
  simp only [AP]
  refine wpSeq_yield (S := fun _ => True) (yieldsIf_move rfl _ rfl (.slice pk nk ck) rfl) trivial ?_
  simp only [AP]
  have PC := Lib.hid (bind_c w8.heap.size gz _ a bl k pk nk ck w13 Z (TQ.out w13 b).1 (TQ.out w13 b).2.1 (TQ.out w13 b).2.2.2.2.2 BB.out.2.2.2 LK.out)
  refine wpSeq_wp rfl ?_
  unfold Oper.wp execOp
  go_simp
  refine (PC.out).mono ?_
  rintro _ w14 ⟨rfl, bq⟩
  replace X := X.below bq
  replace Z := Z.below bq
  replace b := b.trans (bq.mono b.size)
  replace bz := bz.trans (bq.mono bz.size)
  clear bq PC
  go_simp
  refine wpSeq_nil ?_
  refine (by assumption : ∀ (a : Act) (w : World), _ → _) _ _ ?_
  go_upto_region 13 with fail
  rename_i aK
  refine wp_region_seq ?_
  refine wpSeq_yield (S := fun _ => True) (yieldsIf_move rfl _ rfl (.pointer (some ⟨gz, 0, none⟩)) rfl) trivial ?_
  simp only [AP]
  refine wpSeq_wp rfl ?_
  unfold Oper.wp execOp
  go_simp
  refine (T1.out _ gz _ w14 Z b).mono ?_
  rintro _ w15 ⟨rfl, bq⟩
  replace X := X.below bq
  replace Z := Z.below bq
  replace b := b.trans (bq.mono b.size)
  replace bz := bz.trans (bq.mono bz.size)
  clear bq
  go_simp
  refine wpSeq_nil ?_
  refine (by assumption : ∀ (a : Act) (w : World), _ → _) _ _ ?_
  go_upto_region 14 with fail
  rename_i aK
  refine wp_region_seq ?_
  refine wpSeq_yield (S := fun _ => True) (yieldsIf_move rfl _ rfl (.pointer (some ⟨gx, 0, none⟩)) rfl) trivial ?_
  simp only [AP]
  refine wpSeq_wp rfl ?_
  unfold Oper.wp execOp
  go_simp
  refine (T1.out _ gx _ w15 X b).mono ?_
  rintro _ w16 ⟨rfl, bq⟩
  replace X := X.below bq
  replace Z := Z.below bq
  replace b := b.trans (bq.mono b.size)
  replace bz := bz.trans (bq.mono bz.size)
  have Lg14 : gx < w16.heap.size ∧ gz < w16.heap.size := ⟨X.blk.lt, Z.blk.lt⟩
  clear bq
  go_simp
  refine wpSeq_yield (S := fun _ => True) (yieldsIf_move rfl _ rfl (.tuple #[.agg (Iv .u8 (NI C1)), .agg (Iv .u8 (NI S1))]) rfl) trivial ?_
  simp only [AP]
  refine wpSeq_yield (S := fun _ => True) (v := .agg (Iv .u8 (NI C1))) (Or.inl ⟨by rfl, fun w' hw' => by go_simp⟩) trivial ?_
  simp only [AP]
  refine wpSeq_yield (S := fun _ => True) (v := .agg (Iv .u8 (NI S1))) (Or.inl ⟨by rfl, fun w' hw' => by go_simp⟩) trivial ?_
  simp only [AP]
  refine wpSeq_wp rfl ?_
  unfold Oper.wp execOp
  go_simp
  refine wpSeq_wp rfl ?_
  unfold Oper.wp execOp
  go_simp
  generalize hW : World.alloc (World.alloc w16 _) _ = wA
  obtain ⟨Z1, Z2, hZ1, hZ2, J1a, J2a, bA⟩ : ∃ Z1 Z2 : Array Value, Z1.size = 32 ∧ Z2.size = 32 ∧ Blk wA w16.heap.size 28 Z1 ∧ Blk wA (w16.heap.size + 1) 28 Z2 ∧ Below w16.heap.size w16 wA := by
    rw [← hW]
    exact ⟨_, _, rfl, rfl, two_alloc w16 _ _ _ _⟩
  clear hW
  refine wpSeq_store_row rfl 28 _ _ rfl w16.heap.size (Iv .u8 (NI C1)) rfl rfl _ _ J1a (info_k32 C1 lC1.out) (by rw [Iv_size, NI_length, lC1.out]; exact hZ1) (u8s_one _) ?_
  simp only [Act.put]
  have J1b := J1a.row (Iv .u8 (NI C1))
  have J2b : Blk (wA.setRow w16.heap.size (Iv .u8 (NI C1))) (w16.heap.size + 1) 28 Z2 := J2a.rowFar (by omega) _
  have bB := below_setRow bA (Nat.le_refl _) (Iv .u8 (NI C1))
  generalize World.setRow wA _ _ = wB at *
  clear J1a J2a bA hZ1
  refine wpSeq_store_row rfl 28 _ _ rfl (w16.heap.size + 1) (Iv .u8 (NI S1)) rfl rfl _ _ J2b (info_k32 S1 lS1.out) (by rw [Iv_size, NI_length, lS1.out]; exact hZ2) (u8s_one _) ?_
  simp only [Act.put]
  have J1 : Blk (wB.setRow (w16.heap.size + 1) (Iv .u8 (NI S1))) w16.heap.size 28 (Iv .u8 (NI C1)) := J1b.rowFar (by omega) _
  have J2 := J2b.row (Iv .u8 (NI S1))
  have bC := below_setRow bB (Nat.le_succ _) (Iv .u8 (NI S1))
  generalize World.setRow wB _ _ = w17 at *
  clear J1b J2b bB hZ2
  replace X := X.below bC
  replace Z := Z.below bC
  replace b := b.trans (bC.mono b.size)
  replace bz := bz.trans (bC.mono bz.size)
  clear bC
  obtain ⟨g14, hg⟩ : ∃ k, w16.heap.size = k := ⟨_, rfl⟩
  rw [hg] at J1 J2 Lg14 ⊢
  clear hg
  refine wpSeq_nil ?_
  refine (by assumption : ∀ (a : Act) (w : World), _ → _) _ _ ?_
  go_upto_region 15 with fail
  rename_i aK
  refine wp_region_seq ?_
  refine wpSeq_yield (S := fun _ => True) (yieldsIf_move rfl _ rfl (.pointer (some ⟨gz, 0, none⟩)) rfl) trivial ?_
  simp only [AP]
  refine wpSeq_wp rfl ?_
  unfold Oper.wp execOp
  go_simp
  refine (T1.out _ gz _ w17 Z b).mono ?_
  rintro _ w18 ⟨rfl, bq⟩
  replace J1 := J1.below' bq
  replace J2 := J2.below' bq
  replace X := X.below bq
  replace Z := Z.below bq
  replace b := b.trans (bq.mono b.size)
  replace bz := bz.trans (bq.mono bz.size)
  have Lg16 : gx < w18.heap.size ∧ gz < w18.heap.size := ⟨X.blk.lt, Z.blk.lt⟩
  clear bq T1
  go_simp
  refine wpSeq_yield (S := fun _ => True) (yieldsIf_move rfl _ rfl (.tuple #[.agg (Iv .u8 (NI C1)), .agg (Iv .u8 (NI S1))]) rfl) trivial ?_
  simp only [AP]
  refine wpSeq_yield (S := fun _ => True) (v := .agg (Iv .u8 (NI C1))) (Or.inl ⟨by rfl, fun w' hw' => by go_simp⟩) trivial ?_
  simp only [AP]
  refine wpSeq_yield (S := fun _ => True) (v := .agg (Iv .u8 (NI S1))) (Or.inl ⟨by rfl, fun w' hw' => by go_simp⟩) trivial ?_
  simp only [AP]
  refine wpSeq_wp rfl ?_
  unfold Oper.wp execOp
  go_simp
  refine wpSeq_wp rfl ?_
  unfold Oper.wp execOp
  go_simp
  generalize hW : World.alloc (World.alloc w18 _) _ = wA
  obtain ⟨Z1, Z2, hZ1, hZ2, J1a, J2a, bA⟩ : ∃ Z1 Z2 : Array Value, Z1.size = 32 ∧ Z2.size = 32 ∧ Blk wA w18.heap.size 28 Z1 ∧ Blk wA (w18.heap.size + 1) 28 Z2 ∧ Below w18.heap.size w18 wA := by
    rw [← hW]
    exact ⟨_, _, rfl, rfl, two_alloc w18 _ _ _ _⟩
  clear hW
  refine wpSeq_store_row rfl 28 _ _ rfl w18.heap.size (Iv .u8 (NI C1)) rfl rfl _ _ J1a (info_k32 C1 lC1.out) (by rw [Iv_size, NI_length, lC1.out]; exact hZ1) (u8s_one _) ?_
  simp only [Act.put]
  have J1b := J1a.row (Iv .u8 (NI C1))
  have J2b : Blk (wA.setRow w18.heap.size (Iv .u8 (NI C1))) (w18.heap.size + 1) 28 Z2 := J2a.rowFar (by omega) _
  have bB := below_setRow bA (Nat.le_refl _) (Iv .u8 (NI C1))
  generalize World.setRow wA _ _ = wB at *
  clear J1a J2a bA hZ1
  refine wpSeq_store_row rfl 28 _ _ rfl (w18.heap.size + 1) (Iv .u8 (NI S1)) rfl rfl _ _ J2b (info_k32 S1 lS1.out) (by rw [Iv_size, NI_length, lS1.out]; exact hZ2) (u8s_one _) ?_
  simp only [Act.put]
  have J3 : Blk (wB.setRow (w18.heap.size + 1) (Iv .u8 (NI S1))) w18.heap.size 28 (Iv .u8 (NI C1)) := J1b.rowFar (by omega) _
  have J4 := J2b.row (Iv .u8 (NI S1))
  have bC := below_setRow bB (Nat.le_succ _) (Iv .u8 (NI S1))
  generalize World.setRow wB _ _ = w19 at *
  clear J1b J2b bB hZ2
  replace J1 := J1.below' bC
  replace J2 := J2.below' bC
  replace X := X.below bC
  replace Z := Z.below bC
  replace b := b.trans (bC.mono b.size)
  replace bz := bz.trans (bC.mono bz.size)
  clear bC
  obtain ⟨g16, hg⟩ : ∃ k, w18.heap.size = k := ⟨_, rfl⟩
  rw [hg] at J3 J4 Lg16 ⊢
  clear hg
  refine wpSeq_nil ?_
  refine (by assumption : ∀ (a : Act) (w : World), _ → _) _ _ ?_
  go_upto_region 16 with fail
  rename_i aK
  refine wp_region_seq ?_
  refine wpSeq_yield (S := fun _ => True) (yieldsIf_move rfl _ rfl (.pointer (some ⟨gx, 0, none⟩)) rfl) trivial ?_
  simp only [AP]
  refine wpSeq_yield (S := fun _ => True) (yieldsIf_move rfl _ rfl (.slice pk nk ck) rfl) trivial ?_
  simp only [AP]
  refine wpSeq_wp rfl ?_
  unfold Oper.wp execOp
  go_simp
  refine (NX.out _ gx _ w19 X b).mono ?_
  rintro _ w20 ⟨⟨u4, rfl⟩, X20, M⟩
  have Z20 := Z.mine M (by have := Z.hg; omega) (fun e => by cases e) (fun k e => ⟨by have := (Z.row.lt k e).1; omega, fun e => by cases e⟩)
  replace J1 := J1.mine M (by omega) (fun e => by cases e)
  replace J2 := J2.mine M (by omega) (fun e => by cases e)
  replace J3 := J3.mine M (by omega) (fun e => by cases e)
  replace J4 := J4.mine M (by omega) (fun e => by cases e)
  replace b := b.trans (X.mineN M b.size)
  clear X Z M bz
  go_simp
  refine wpSeq_nil ?_
  refine (by assumption : ∀ (a : Act) (w : World), _ → _) _ _ ?_
  go_upto_region 17 with fail
  rename_i aK
  refine wp_region_seq ?_
  refine wpSeq_yield (S := fun _ => True) (yieldsIf_move rfl _ rfl (.pointer (some ⟨gz, 0, none⟩)) rfl) trivial ?_
  simp only [AP]
  refine wpSeq_yield (S := fun _ => True) (yieldsIf_move rfl _ rfl (.slice pk nk ck) rfl) trivial ?_
  simp only [AP]
  refine wpSeq_wp rfl ?_
  unfold Oper.wp execOp
  go_simp
  refine (NX.out _ gz _ w20 Z20 b).mono ?_
  rintro _ w21 ⟨⟨u5, rfl⟩, Z, M⟩
  have X := X20.mine M (by have := Z20.hg; omega) (fun e => by cases e) (fun k e => ⟨by have := AX.v k e; have := Z20.hg; omega, fun e => by cases e⟩)
  replace J1 := J1.mine M (by omega) (fun e => by cases e)
  replace J2 := J2.mine M (by omega) (fun e => by cases e)
  replace J3 := J3.mine M (by omega) (fun e => by cases e)
  replace J4 := J4.mine M (by omega) (fun e => by cases e)
  replace b := Mine.below b M (Nat.le_trans h8W Z20.hg) (fun k e => by cases e) b.size
  have bz := Below.refl w21.heap.size w21
  clear X20 Z20 M NX
  go_simp
  refine wpSeq_nil ?_
  refine (by assumption : ∀ (a : Act) (w : World), _ → _) _ _ ?_
  go_upto_region 18 with fail
  rename_i aK
  refine wp_region_seq ?_
  refine wpSeq_yield (S := fun _ => True) (yieldsIf_move rfl _ rfl (.pointer (some ⟨gx, 0, none⟩)) rfl) trivial ?_
  simp only [AP]
  refine wpSeq_wp rfl ?_
  unfold Oper.wp execOp
  go_simp
  refine (T2.out _ gx _ w21 X b).mono ?_
  rintro _ w22 ⟨rfl, bq⟩
  replace J1 := J1.below' bq
  replace J2 := J2.below' bq
  replace J3 := J3.below' bq
  replace J4 := J4.below' bq
  replace X := X.below bq
  replace Z := Z.below bq
  replace b := b.trans (bq.mono b.size)
  replace bz := bz.trans (bq.mono bz.size)
  have Lg18 : gx < w22.heap.size ∧ gz < w22.heap.size := ⟨X.blk.lt, Z.blk.lt⟩
  clear bq
  go_simp
  refine wpSeq_yield (S := fun _ => True) (yieldsIf_move rfl _ rfl (.tuple #[.agg (Iv .u8 (NI C2)), .agg (Iv .u8 (NI S2))]) rfl) trivial ?_
  simp only [AP]
  refine wpSeq_yield (S := fun _ => True) (v := .agg (Iv .u8 (NI C2))) (Or.inl ⟨by rfl, fun w' hw' => by go_simp⟩) trivial ?_
  simp only [AP]
  refine wpSeq_yield (S := fun _ => True) (v := .agg (Iv .u8 (NI S2))) (Or.inl ⟨by rfl, fun w' hw' => by go_simp⟩) trivial ?_
  simp only [AP]
  refine wpSeq_wp rfl ?_
  unfold Oper.wp execOp
  go_simp
  refine wpSeq_wp rfl ?_
  unfold Oper.wp execOp
  go_simp
  generalize hW : World.alloc (World.alloc w22 _) _ = wA
  obtain ⟨Z1, Z2, hZ1, hZ2, J1a, J2a, bA⟩ : ∃ Z1 Z2 : Array Value, Z1.size = 32 ∧ Z2.size = 32 ∧ Blk wA w22.heap.size 28 Z1 ∧ Blk wA (w22.heap.size + 1) 28 Z2 ∧ Below w22.heap.size w22 wA := by
    rw [← hW]
    exact ⟨_, _, rfl, rfl, two_alloc w22 _ _ _ _⟩
  clear hW
  refine wpSeq_store_row rfl 28 _ _ rfl w22.heap.size (Iv .u8 (NI C2)) rfl rfl _ _ J1a (info_k32 C2 lC2.out) (by rw [Iv_size, NI_length, lC2.out]; exact hZ1) (u8s_one _) ?_
  simp only [Act.put]
  have J1b := J1a.row (Iv .u8 (NI C2))
  have J2b : Blk (wA.setRow w22.heap.size (Iv .u8 (NI C2))) (w22.heap.size + 1) 28 Z2 := J2a.rowFar (by omega) _
  have bB := below_setRow bA (Nat.le_refl _) (Iv .u8 (NI C2))
  generalize World.setRow wA _ _ = wB at *
  clear J1a J2a bA hZ1
  refine wpSeq_store_row rfl 28 _ _ rfl (w22.heap.size + 1) (Iv .u8 (NI S2)) rfl rfl _ _ J2b (info_k32 S2 lS2.out) (by rw [Iv_size, NI_length, lS2.out]; exact hZ2) (u8s_one _) ?_
  simp only [Act.put]
  have J5 : Blk (wB.setRow (w22.heap.size + 1) (Iv .u8 (NI S2))) w22.heap.size 28 (Iv .u8 (NI C2)) := J1b.rowFar (by omega) _
  have J6 := J2b.row (Iv .u8 (NI S2))
  have bC := below_setRow bB (Nat.le_succ _) (Iv .u8 (NI S2))
  generalize World.setRow wB _ _ = w23 at *
  clear J1b J2b bB hZ2
  replace J1 := J1.below' bC
  replace J2 := J2.below' bC
  replace J3 := J3.below' bC
  replace J4 := J4.below' bC
  replace X := X.below bC
  replace Z := Z.below bC
  replace b := b.trans (bC.mono b.size)
  replace bz := bz.trans (bC.mono bz.size)
  clear bC
  obtain ⟨g18, hg⟩ : ∃ k, w22.heap.size = k := ⟨_, rfl⟩
  rw [hg] at J5 J6 Lg18 ⊢
  clear hg
  refine wpSeq_nil ?_
  refine (by assumption : ∀ (a : Act) (w : World), _ → _) _ _ ?_
  go_upto_region 19 with fail
  rename_i aK
  refine wp_region_seq ?_
  refine wpSeq_yield (S := fun _ => True) (yieldsIf_move rfl _ rfl (.pointer (some ⟨gz, 0, none⟩)) rfl) trivial ?_
  simp only [AP]
  refine wpSeq_wp rfl ?_
  unfold Oper.wp execOp
  go_simp
  refine (T2.out _ gz _ w23 Z b).mono ?_
  rintro _ w24 ⟨rfl, bq⟩
  replace J1 := J1.below' bq
  replace J2 := J2.below' bq
  replace J3 := J3.below' bq
  replace J4 := J4.below' bq
  replace J5 := J5.below' bq
  replace J6 := J6.below' bq
  replace X := X.below bq
  replace Z := Z.below bq
  replace b := b.trans (bq.mono b.size)
  replace bz := bz.trans (bq.mono bz.size)
  have Lg20 : gx < w24.heap.size ∧ gz < w24.heap.size := ⟨X.blk.lt, Z.blk.lt⟩
  clear bq T2
  go_simp
  refine wpSeq_yield (S := fun _ => True) (yieldsIf_move rfl _ rfl (.tuple #[.agg (Iv .u8 (NI C2)), .agg (Iv .u8 (NI S2))]) rfl) trivial ?_
  simp only [AP]
  refine wpSeq_yield (S := fun _ => True) (v := .agg (Iv .u8 (NI C2))) (Or.inl ⟨by rfl, fun w' hw' => by go_simp⟩) trivial ?_
  simp only [AP]
  refine wpSeq_yield (S := fun _ => True) (v := .agg (Iv .u8 (NI S2))) (Or.inl ⟨by rfl, fun w' hw' => by go_simp⟩) trivial ?_
  simp only [AP]
  refine wpSeq_wp rfl ?_
  unfold Oper.wp execOp
  go_simp
  refine wpSeq_wp rfl ?_
  unfold Oper.wp execOp
  go_simp
  generalize hW : World.alloc (World.alloc w24 _) _ = wA
  obtain ⟨Z1, Z2, hZ1, hZ2, J1a, J2a, bA⟩ : ∃ Z1 Z2 : Array Value, Z1.size = 32 ∧ Z2.size = 32 ∧ Blk wA w24.heap.size 28 Z1 ∧ Blk wA (w24.heap.size + 1) 28 Z2 ∧ Below w24.heap.size w24 wA := by
    rw [← hW]
    exact ⟨_, _, rfl, rfl, two_alloc w24 _ _ _ _⟩
  clear hW
  refine wpSeq_store_row rfl 28 _ _ rfl w24.heap.size (Iv .u8 (NI C2)) rfl rfl _ _ J1a (info_k32 C2 lC2.out) (by rw [Iv_size, NI_length, lC2.out]; exact hZ1) (u8s_one _) ?_
  simp only [Act.put]
  have J1b := J1a.row (Iv .u8 (NI C2))
  have J2b : Blk (wA.setRow w24.heap.size (Iv .u8 (NI C2))) (w24.heap.size + 1) 28 Z2 := J2a.rowFar (by omega) _
  have bB := below_setRow bA (Nat.le_refl _) (Iv .u8 (NI C2))
  generalize World.setRow wA _ _ = wB at *
  clear J1a J2a bA hZ1
  refine wpSeq_store_row rfl 28 _ _ rfl (w24.heap.size + 1) (Iv .u8 (NI S2)) rfl rfl _ _ J2b (info_k32 S2 lS2.out) (by rw [Iv_size, NI_length, lS2.out]; exact hZ2) (u8s_one _) ?_
  simp only [Act.put]
  have J7 : Blk (wB.setRow (w24.heap.size + 1) (Iv .u8 (NI S2))) w24.heap.size 28 (Iv .u8 (NI C2)) := J1b.rowFar (by omega) _
  have J8 := J2b.row (Iv .u8 (NI S2))
  have bC := below_setRow bB (Nat.le_succ _) (Iv .u8 (NI S2))
  generalize World.setRow wB _ _ = w25 at *
  clear J1b J2b bB hZ2
  replace J1 := J1.below' bC
  replace J2 := J2.below' bC
  replace J3 := J3.below' bC
  replace J4 := J4.below' bC
  replace J5 := J5.below' bC
  replace J6 := J6.below' bC
  replace X := X.below bC
  replace Z := Z.below bC
  replace b := b.trans (bC.mono b.size)
  replace bz := bz.trans (bC.mono bz.size)
  clear bC
  obtain ⟨g20, hg⟩ : ∃ k, w24.heap.size = k := ⟨_, rfl⟩
  rw [hg] at J7 J8 Lg20 ⊢
  clear hg
  refine wpSeq_nil ?_
  refine (by assumption : ∀ (a : Act) (w : World), _ → _) _ _ ?_
  go_upto_region 20 with fail
  rename_i aK
  refine wp_region_seq ?_
  refine wpSeq_yield (S := fun w' => w' = w25) (show YieldsIf _ _ _ _ (.agg (Iv .u8 (NI C1))) _ from yieldsIf_row_wanted (S := fun w' => w' = w25) rfl 28 _ rfl (g14) rfl 28 _ _ (fun _ h => h ▸ J1) Tryd.underlying28 rfl (info_k32 C1 lC1.out)) rfl ?_
  simp only [AP]
  refine wpSeq_yield (S := fun w' => w' = w25) (show YieldsIf _ _ _ _ (.agg (Iv .u8 (NI C1))) _ from yieldsIf_row_wanted (S := fun w' => w' = w25) rfl 28 _ rfl (g16) rfl 28 _ _ (fun _ h => h ▸ J3) Tryd.underlying28 rfl (info_k32 C1 lC1.out)) rfl ?_
  simp only [AP]
  refine wpSeq_yield (S := fun _ => True) (yieldsIf_eqs rfl _ _ rfl C1 lC1.out rfl rfl) trivial ?_
  simp only [AP]
  refine wpSeq_yield (S := fun _ => True) (yieldsIf_move rfl _ rfl (.bool true) rfl) trivial ?_
  simp only [AP]
  refine wpSeq_yield (S := fun w' => w' = w25) (show YieldsIf _ _ _ _ (.agg (Iv .u8 (NI S1))) _ from yieldsIf_row_wanted (S := fun w' => w' = w25) rfl 28 _ rfl (g14 + 1) rfl 28 _ _ (fun _ h => h ▸ J2) Tryd.underlying28 rfl (info_k32 S1 lS1.out)) rfl ?_
  simp only [AP]
  refine wpSeq_yield (S := fun w' => w' = w25) (show YieldsIf _ _ _ _ (.agg (Iv .u8 (NI S1))) _ from yieldsIf_row_wanted (S := fun w' => w' = w25) rfl 28 _ rfl (g16 + 1) rfl 28 _ _ (fun _ h => h ▸ J4) Tryd.underlying28 rfl (info_k32 S1 lS1.out)) rfl ?_
  simp only [AP]
  refine wpSeq_yield (S := fun _ => True) (yieldsIf_eqs rfl _ _ rfl S1 lS1.out rfl rfl) trivial ?_
  simp only [AP]
  refine wpSeq_yield (S := fun _ => True) (yieldsIf_pick rfl _ _ _ rfl true rfl (.bool true) rfl) trivial ?_
  simp only [AP]
  refine wpSeq_yield (S := fun _ => True) (yieldsIf_move rfl _ rfl (.bool true) rfl) trivial ?_
  simp only [AP]
  refine wpSeq_yield (S := fun w' => w' = w25) (show YieldsIf _ _ _ _ (.agg (Iv .u8 (NI C2))) _ from yieldsIf_row_wanted (S := fun w' => w' = w25) rfl 28 _ rfl (g18) rfl 28 _ _ (fun _ h => h ▸ J5) Tryd.underlying28 rfl (info_k32 C2 lC2.out)) rfl ?_
  simp only [AP]
  refine wpSeq_yield (S := fun w' => w' = w25) (show YieldsIf _ _ _ _ (.agg (Iv .u8 (NI C2))) _ from yieldsIf_row_wanted (S := fun w' => w' = w25) rfl 28 _ rfl (g20) rfl 28 _ _ (fun _ h => h ▸ J7) Tryd.underlying28 rfl (info_k32 C2 lC2.out)) rfl ?_
  simp only [AP]
  refine wpSeq_yield (S := fun _ => True) (yieldsIf_eqs rfl _ _ rfl C2 lC2.out rfl rfl) trivial ?_
  simp only [AP]
  refine wpSeq_yield (S := fun _ => True) (yieldsIf_pick rfl _ _ _ rfl true rfl (.bool true) rfl) trivial ?_
  simp only [AP]
  refine wpSeq_yield (S := fun _ => True) (yieldsIf_move rfl _ rfl (.bool true) rfl) trivial ?_
  simp only [AP]
  refine wpSeq_yield (S := fun w' => w' = w25) (show YieldsIf _ _ _ _ (.agg (Iv .u8 (NI S2))) _ from yieldsIf_row_wanted (S := fun w' => w' = w25) rfl 28 _ rfl (g18 + 1) rfl 28 _ _ (fun _ h => h ▸ J6) Tryd.underlying28 rfl (info_k32 S2 lS2.out)) rfl ?_
  simp only [AP]
  refine wpSeq_yield (S := fun w' => w' = w25) (show YieldsIf _ _ _ _ (.agg (Iv .u8 (NI S2))) _ from yieldsIf_row_wanted (S := fun w' => w' = w25) rfl 28 _ rfl (g20 + 1) rfl 28 _ _ (fun _ h => h ▸ J8) Tryd.underlying28 rfl (info_k32 S2 lS2.out)) rfl ?_
  simp only [AP]
  refine wpSeq_yield (S := fun _ => True) (yieldsIf_eqs rfl _ _ rfl S2 lS2.out rfl rfl) trivial ?_
  simp only [AP]
  refine wpSeq_yield (S := fun _ => True) (yieldsIf_pick rfl _ _ _ rfl true rfl (.bool true) rfl) trivial ?_
  simp only [AP]
  refine wpSeq_yield (S := fun _ => True) (yieldsIf_move rfl _ rfl (.bool true) rfl) trivial ?_
  simp only [AP]
  refine wpSeq_yield (S := fun _ => True) (yieldsIf_move rfl _ rfl (.pointer (some ⟨gx, 0, none⟩)) rfl) trivial ?_
  simp only [AP]
  clear J1 J2 J3 J4 J5 J6 J7 J8
  refine wpSeq_wp rfl ?_
  unfold Oper.wp execOp
  go_simp
  refine (SU.out _ gx _ w25 X b).mono ?_
  rintro _ w26 ⟨rfl, bq⟩
  replace Z := Z.below bq
  replace b := b.trans (bq.mono b.size)
  clear bq X
  go_simp
  refine wpSeq_yield (S := fun _ => True) (yieldsIf_move rfl _ rfl (.pointer (some ⟨gz, 0, none⟩)) rfl) trivial ?_
  simp only [AP]
  refine wpSeq_wp rfl ?_
  unfold Oper.wp execOp
  go_simp
  refine (SU.out _ gz _ w26 Z b).mono ?_
  rintro _ w27 ⟨rfl, bq⟩
  replace b := b.trans (bq.mono b.size)
  clear bq Z SU
  go_simp
  refine wpSeq_yield (S := fun _ => True) (yieldsIf_eqs rfl _ _ rfl XM lXM.out rfl rfl) trivial ?_
  simp only [AP]
  refine wpSeq_yield (S := fun _ => True) (yieldsIf_pick rfl _ _ _ rfl true rfl (.bool true) rfl) trivial ?_
  simp only [AP]
  refine wpSeq_yield (S := fun _ => True) (yieldsIf_assign rfl _ rfl (.bool true) rfl) trivial ?_
  simp only [AP]
  refine wpSeq_nil ?_
  refine (by assumption : ∀ (a : Act) (w : World), _ → _) _ _ ?_
  go_wp2
  go_ret
  exact ⟨rfl, b⟩
end Go.Proofs.YtdmhngkedgkndaaDoor
