/- What the laws of aes take: sixteen bytes held against each other; Encrypt's contract as it will be asked of the program. -/
import Derived.Test.YteaddadmdjjfaaaBm
import Derived.Test.YteaddadmdjjfaaaLq
import Derived.Laws.StructEq
namespace Go.Proofs.Yteaddadmdjjfaaa
open Go.RowKit

theorem info_n (l : List Nat) (h : l.length = 16) : (Try.prog.info? 22).map (·.size) = some (Iv .u8 (NI l)).size := by
  rw [Iv_size, NI_length, h]
  kernel_rfl
theorem info_b (l : List Nat) (h : l.length = 16) : (Try.prog.info? 35).map (·.size) = some (Iv .u8 (NI l)).size := by
  rw [Iv_size, NI_length, h]
  kernel_rfl
theorem eq16n (l1 l2 : List Int) (h1 : l1.length = 16) (h2 : l2.length = 16) (w : World) :
    (Op.equalIn 10000 22 (.agg (Iv .u8 l1)) (.agg (Iv .u8 l2))).run Try.prog w = .ok (decide (l1 = l2)) w := by
  obtain ⟨i, hi⟩ : ∃ i, Try.prog.info? 5 = some i := info_of_underlying Try.underlying5
  exact run_eq_ints w 9998 (n := 16) (e := 5) Try.underlying22 hi Try.underlying5 (by kernel_rfl) (by kernel_rfl) l1 l2 h1 h2
theorem eq16b (l1 l2 : List Int) (h1 : l1.length = 16) (h2 : l2.length = 16) (w : World) :
    (Op.equalIn 10000 35 (.agg (Iv .u8 l1)) (.agg (Iv .u8 l2))).run Try.prog w = .ok (decide (l1 = l2)) w := by
  obtain ⟨i, hi⟩ : ∃ i, Try.prog.info? 5 = some i := info_of_underlying Try.underlying5
  exact run_eq_ints w 9998 (n := 16) (e := 5) Try.underlying35 hi Try.underlying5 (by kernel_rfl) (by kernel_rfl) l1 l2 h1 h2
theorem eql16n (l1 l2 : List Int) (h1 : l1.length = 16) (h2 : l2.length = 16) (w : World) :
    (binOp .eql 22 (.agg (Iv .u8 l1)) (.agg (Iv .u8 l2))).run Try.prog w = .ok (.bool (decide (l1 = l2))) w := by
  rw [run_eql_struct, eq16n l1 l2 h1 h2]
  rfl
theorem eql16b (l1 l2 : List Int) (h1 : l1.length = 16) (h2 : l2.length = 16) (w : World) :
    (binOp .eql 35 (.agg (Iv .u8 l1)) (.agg (Iv .u8 l2))).run Try.prog w = .ok (.bool (decide (l1 = l2))) w := by
  rw [run_eql_struct, eq16b l1 l2 h1 h2]
  rfl
theorem eqg_16n : Try.prog.eqGuardType Try.prog.depth 22 = false := by kernel_rfl
theorem eqg_16b : Try.prog.eqGuardType Try.prog.depth 35 = false := by kernel_rfl
theorem dec_NI (a b : List Nat) : decide (NI a = NI b) = decide (a = b) := decide_eq_decide.2 ⟨NI_inj, fun h => by rw [h]⟩
theorem yieldsIf_eq16n {ops : Array Oper} {S : World → Prop} {o : Oper} {a : Act} (hgd : Region.wanted o (yielded ops a.tmps) = true) (x y : Operand) (ho : o.op = .binOp .eql 22 x y 22) (p q : List Nat) (hx : a.eval x = .agg (Iv .u8 (NI p))) (hy : a.eval y = .agg (Iv .u8 (NI q)))
    (hp : p.length = 16) (hq : q.length = 16) (c : Bool) (hc : decide (p = q) = c) : YieldsIf Try.prog ops S o (.bool c) a := by
  refine Or.inl ⟨hgd, fun w _ => ?_⟩
  simp only [execOp, ho, hx, hy, Sem.run_bind, Sem.run_pure, Result.andThen_ok, run_eqGuard_agg (hm := eqg_16n), eql16n _ _ (by rw [NI_length, hp]) (by rw [NI_length, hq]), dec_NI, hc]
theorem yieldsIf_eq16b {ops : Array Oper} {S : World → Prop} {o : Oper} {a : Act} (hgd : Region.wanted o (yielded ops a.tmps) = true) (x y : Operand) (ho : o.op = .binOp .eql 35 x y 35) (p q : List Nat) (hx : a.eval x = .agg (Iv .u8 (NI p))) (hy : a.eval y = .agg (Iv .u8 (NI q)))
    (hp : p.length = 16) (hq : q.length = 16) (c : Bool) (hc : decide (p = q) = c) : YieldsIf Try.prog ops S o (.bool c) a := by
  refine Or.inl ⟨hgd, fun w _ => ?_⟩
  simp only [execOp, ho, hx, hy, Sem.run_bind, Sem.run_pure, Result.andThen_ok, run_eqGuard_agg (hm := eqg_16b), eql16b _ _ (by rw [NI_length, hp]) (by rw [NI_length, hq]), dec_NI, hc]
theorem yieldsIf_eqlb {ops : Array Oper} {S : World → Prop} {o : Oper} {a : Act} (hgd : Region.wanted o (yielded ops a.tmps) = true) (x y : Operand) (ho : o.op = .binOp .eql 4 x y 4) (n m : Bool) (hx : a.eval x = .bool n) (hy : a.eval y = .bool m) (c : Bool) (hc : (n == m) = c) : YieldsIf Try.prog ops S o (.bool c) a := by
  refine Or.inl ⟨hgd, fun w _ => ?_⟩
  subst hc
  simp only [execOp, ho, hx, hy]
  go_simp
theorem rencrypt_v (bv : Value) (k b E : List Nat) (lk : k.length = 16) (lb : b.length = 16) (bk : ∀ x ∈ k, x < 256) (bb : ∀ x ∈ b, x < 256) (hE : E = encL boxL k b) (W : World) (hb : SB W bv boxL) :
    Calls Try.prog 17 #[bv, .agg (Iv .u8 (NI k)), .agg (Iv .u8 (NI b))] W fun e w' => e = .returned (.agg (Iv .u8 (NI E))) ∧ Below W.heap.size W w' := hE ▸ rencrypt_any W bv hb k b lk lb bk bb
theorem encL_length (k b : List Nat) : (encL boxL k b).length = 16 := blockF_length _ _ _ _
theorem encL_bytes {k b : List Nat} (bk : ∀ x ∈ k, x < 256) (bb : ∀ x ∈ b, x < 256) : ∀ x ∈ encL boxL k b, x < 256 := blockF_bytes (keysF_bytes boxL_bytes bk 40) bb 10
theorem enc_eq {k a b : List Nat} (_lk : k.length = 16) (la : a.length = 16) (lb : b.length = 16) (bk : ∀ x ∈ k, x < 256) (ba : ∀ x ∈ a, x < 256) (bb : ∀ x ∈ b, x < 256) : decide (encL boxL k a = encL boxL k b) = decide (a = b) :=
  decide_eq_decide.2 ⟨fun h => enc_inj bk ba bb la lb h, fun h => by rw [h]⟩
end Go.Proofs.Yteaddadmdjjfaaa
