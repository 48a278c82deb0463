/- How the program takes a head, as plain arithmetic: it is what is asked. -/
import Derived.Test.YtfhiflakglhneaaPe
namespace Go.Proofs.Ytfhiflakglhneaa
open Go.RowKit

def outF (tot sp : Nat) (to fr : List Nat) (zz : Nat) (rest : List Nat) (code : Nat) : Hd := if code = 0 then ⟨sp, to, fr, tot - rest.length, tot - rest.length + zz, 0⟩ else noHd code
theorem outF_no (tot sp : Nat) (to fr : List Nat) (zz : Nat) (rest : List Nat) {code : Nat} (h : code ≠ 0) : outF tot sp to fr zz rest code = noHd code := if_neg h
theorem tk_nil (n : Nat) (h : 0 < n) : tkS n [] 0 = ([], [], 3) := by
  unfold tkS
  rw [if_neg (by decide), if_pos (by simpa using h)]
theorem tk_one (b0 : Nat) (l : List Nat) : tkS 1 (b0 :: l) 0 = ([b0], l, 0) := tkS_app [b0] l rfl
theorem tk_le (n : Nat) (l : List Nat) (c : Nat) : (tkS n l c).2.1.length ≤ l.length := by
  unfold tkS
  split
  · exact Nat.le_refl _
  · split
    · exact Nat.le_refl _
    · simp
theorem name_le (l : List Nat) (c : Nat) : (nameS l c).2.1.length ≤ l.length := by
  unfold nameS
  exact Nat.le_trans (tk_le _ _ _) (tk_le _ _ _)
theorem takeV_le (l : List Nat) (n : Nat) (r : List Nat) (h : takeV l = some (n, r)) : r.length ≤ l.length := by
  cases l with
  | nil => cases h
  | cons x m =>
    have h : (if m.length + 1 < 2 ^ (x / 64) then none else some (beN (x % 64) (m.take (2 ^ (x / 64) - 1)), m.drop (2 ^ (x / 64) - 1))) = some (n, r) := h
    split at h
    · cases h
    · rw [← (Prod.mk.inj (Option.some.inj h)).2, List.length_drop, List.length_cons]
      omega
theorem num_le (l : List Nat) (c : Nat) : (numS l c).2.1.length ≤ l.length := by
  unfold numS
  split
  · exact Nat.le_refl _
  · split
    · exact Nat.le_refl _
    · rename_i n r e
      exact takeV_le l n r e
/-- A short head. -/
theorem take_short (b x1 l1 x8 l8 : List Nat) (c1 c2 c8 : Nat) (h1 : tkS 1 b 0 = (x1, l1, c1)) (hy : x1.getD 0 0 < 128) (hc : c2 = if x1.getD 0 0 / 64 % 2 = 0 then failT c1 5 else c1) (h8 : tkS 8 l1 c2 = (x8, l8, c8)) :
    takeF b = outF b.length 2 x8 [] l8.length l8 c8 ∧ l8.length ≤ b.length := by
  cases b with
  | nil =>
    rw [tk_nil 1 (by decide)] at h1
    obtain ⟨rfl, rfl, rfl⟩ := (Prod.mk.inj h1).imp_right Prod.mk.inj
    have e2 : c2 = 3 := hc
    subst e2
    rw [tkS_fault 8 [] (by decide)] at h8
    obtain ⟨rfl, rfl, rfl⟩ := (Prod.mk.inj h8).imp_right Prod.mk.inj
    exact ⟨rfl, Nat.le_refl _⟩
  | cons b0 l =>
    rw [tk_one] at h1
    obtain ⟨rfl, rfl, rfl⟩ := (Prod.mk.inj h1).imp_right Prod.mk.inj
    have hy : b0 < 128 := hy
    have hc : c2 = if b0 / 64 % 2 = 0 then 5 else 0 := hc
    rw [show takeF (b0 :: l) = (if b0 < 128 then if b0 < 64 then noHd 5 else if l.length < 8 then noHd 3 else ⟨2, l.take 8, [], 9, l.length + 1, 0⟩ else if b0 / 64 % 2 = 0 ∨ b0 / 16 % 2 = 1 then noHd 5 else longF b0 (l.length + 1) l) from rfl]
    rw [if_pos hy]
    by_cases q : b0 < 64
    · rw [if_pos (by omega)] at hc
      subst hc
      rw [tkS_fault 8 _ (by decide)] at h8
      obtain ⟨rfl, rfl, rfl⟩ := (Prod.mk.inj h8).imp_right Prod.mk.inj
      rw [if_pos q]
      exact ⟨rfl, by simp⟩
    · rw [if_neg (by omega)] at hc
      subst hc
      rw [if_neg q]
      unfold tkS at h8
      rw [if_neg (by decide)] at h8
      by_cases s : l.length < 8
      · rw [if_pos s] at h8
        obtain ⟨rfl, rfl, rfl⟩ := (Prod.mk.inj h8).imp_right Prod.mk.inj
        rw [if_pos s]
        exact ⟨rfl, by simp⟩
      · rw [if_neg s] at h8
        obtain ⟨rfl, rfl, rfl⟩ := (Prod.mk.inj h8).imp_right Prod.mk.inj
        rw [if_neg s]
        refine ⟨?_, by simp; omega⟩
        show _ = Hd.mk 2 _ [] ((b0 :: l).length - (l.drop 8).length) ((b0 :: l).length - (l.drop 8).length + (l.drop 8).length) 0
        rw [List.length_drop, List.length_cons, show l.length + 1 - (l.length - 8) = 9 by omega, show 9 + (l.length - 8) = l.length + 1 by omega]
/-- Whether the first byte is at fault. -/
def faultF (y : Nat) : Prop := y / 64 % 2 = 0 ∨ (128 ≤ y ∧ y / 16 % 2 = 1)
instance (y : Nat) : Decidable (faultF y) := by unfold faultF; infer_instance
theorem long6_out (sp tot : Nat) (to fr l : List Nat) (c : Nat) : long6 sp tot to fr l c = outF tot sp to fr (sizeN (numS l c)) (numS l c).2.1 (lackN (numS l c)) := by
  unfold long6 outF
  by_cases h : lackN (numS l c) = 0
  · rw [if_neg (fun e => e h), if_pos h]
    have e : sizeN (numS l c) = (numS l c).1 := by
      unfold sizeN
      rw [if_neg]
      intro g
      unfold lackN at h
      by_cases z : (numS l c).2.2 = 0
      · rw [if_pos ⟨z, g⟩] at h
        cases h
      · rw [if_neg (fun x => z x.1)] at h
        exact z h
    rw [e]
  · rw [if_pos h, if_neg h]
/-- A head of the first two spaces. -/
theorem take_long (b x1 l1 xv lv to l4 fr l5 l6 : List Nat) (sp c1 c2 cv c3 c4 c5 c7 : Nat) (h1 : tkS 1 b 0 = (x1, l1, c1)) (hy : 128 ≤ x1.getD 0 0) (hsp : x1.getD 0 0 / 32 % 2 = sp) (hc : c2 = if faultF (x1.getD 0 0) then failT c1 5 else c1)
    (hv : tkS 4 l1 c2 = (xv, lv, cv)) (hc3 : c3 = if xv ≠ [0, 0, 0, 1] then failT cv 6 else cv) (hn1 : nameS lv c3 = (to, l4, c4)) (hn2 : nameS l4 c4 = (fr, l5, c5))
    (hz : (sp = 0 ∧ l6 = (tkS 1 l5 c5).2.1 ∧ c7 = if (tkS 1 l5 c5).1.getD 0 0 ≠ 0 then failT (tkS 1 l5 c5).2.2 5 else (tkS 1 l5 c5).2.2) ∨ (sp = 1 ∧ l6 = l5 ∧ c7 = c5)) :
    takeF b = outF b.length sp to fr (sizeN (numS l6 c7)) (numS l6 c7).2.1 (lackN (numS l6 c7)) ∧ (numS l6 c7).2.1.length ≤ b.length := by
  have L : ∀ tot, long1 sp tot lv c3 = outF tot sp to fr (sizeN (numS l6 c7)) (numS l6 c7).2.1 (lackN (numS l6 c7)) := fun tot => by
    have e1 : long1 sp tot lv c3 = long3 sp tot (nameS lv c3).1 (nameS lv c3).2.1 (nameS lv c3).2.2 := rfl
    rw [e1, hn1]
    have e2 : long3 sp tot to l4 c4 = long5 sp tot to (nameS l4 c4).1 (nameS l4 c4).2.1 (nameS l4 c4).2.2 := rfl
    rw [show long3 sp tot (to, l4, c4).1 (to, l4, c4).2.1 (to, l4, c4).2.2 = long3 sp tot to l4 c4 from rfl, e2, hn2, ← long6_out]
    unfold long5
    rcases hz with ⟨rfl, rfl, rfl⟩ | ⟨rfl, rfl, rfl⟩
    · rw [if_pos rfl]
    · rw [if_neg (by decide)]
  have l6l : l6.length ≤ l1.length := by
    have a1 := tk_le 4 l1 c2
    have a2 := name_le lv c3
    have a3 := name_le l4 c4
    have a4 := tk_le 1 l5 c5
    rw [hv] at a1
    rw [hn1] at a2
    rw [hn2] at a3
    dsimp only at a1 a2 a3
    rcases hz with ⟨_, rfl, _⟩ | ⟨_, rfl, _⟩ <;> omega
  have nl := num_le l6 c7
  cases b with
  | nil =>
    rw [tk_nil 1 (by decide)] at h1
    obtain ⟨rfl, rfl, rfl⟩ := (Prod.mk.inj h1).imp_right Prod.mk.inj
    have hy : 128 ≤ 0 := hy
    omega
  | cons b0 l =>
    rw [tk_one] at h1
    obtain ⟨rfl, rfl, rfl⟩ := (Prod.mk.inj h1).imp_right Prod.mk.inj
    have hy : 128 ≤ b0 := hy
    have hsp : b0 / 32 % 2 = sp := hsp
    have hc : c2 = if faultF b0 then 5 else 0 := hc
    refine ⟨?_, by rw [List.length_cons]; omega⟩
    rw [← L]
    rw [show takeF (b0 :: l) = (if b0 < 128 then if b0 < 64 then noHd 5 else if l.length < 8 then noHd 3 else ⟨2, l.take 8, [], 9, l.length + 1, 0⟩ else if b0 / 64 % 2 = 0 ∨ b0 / 16 % 2 = 1 then noHd 5 else longF b0 (l.length + 1) l) from rfl]
    rw [if_neg (by omega)]
    by_cases F : faultF b0
    · rw [if_pos F] at hc
      subst hc
      rw [tkS_fault 4 _ (by decide)] at hv
      obtain ⟨rfl, rfl, rfl⟩ := (Prod.mk.inj hv).imp_right Prod.mk.inj
      have e3 : c3 = 5 := by
        rw [hc3, if_pos (by decide)]
        rfl
      rw [if_pos (by unfold faultF at F; omega), e3]
      exact (long1_f _ _ _ (by decide)).symm
    · rw [if_neg F] at hc
      subst hc
      rw [if_neg (by unfold faultF at F; omega)]
      unfold longF
      rw [hv, hsp, List.length_cons]
      dsimp only
      congr 1
      rw [hc3]
      by_cases z : cv = 0
      · by_cases x : xv = [0, 0, 0, 1]
        · rw [if_neg (fun e => e.2 x), if_neg (fun e => e x)]
        · rw [if_pos ⟨z, x⟩, if_pos x, z]
          rfl
      · rw [if_neg (fun e => z e.1)]
        by_cases x : xv = [0, 0, 0, 1]
        · rw [if_neg (fun e => e x)]
        · rw [if_pos x]
          exact (failT_ne z 6).symm
theorem and_bits (y : Nat) (hy : y < 256) : bits BinOp.and IntKind.u8 (y : Int) 64 = ((y / 64 % 2 * 64 : Nat) : Int) ∧ bits BinOp.and IntKind.u8 (y : Int) 128 = ((y / 128 % 2 * 128 : Nat) : Int) ∧ bits BinOp.and IntKind.u8 (y : Int) 16 = ((y / 16 % 2 * 16 : Nat) : Int) ∧ bits BinOp.and IntKind.u8 (y : Int) 32 = ((y / 32 % 2 * 32 : Nat) : Int) := by
  have h := (by decide +kernel : ∀ y : Fin 256, bits BinOp.and IntKind.u8 ((y.val : Nat) : Int) 64 = ((y.val / 64 % 2 * 64 : Nat) : Int) ∧ bits BinOp.and IntKind.u8 ((y.val : Nat) : Int) 128 = ((y.val / 128 % 2 * 128 : Nat) : Int) ∧ bits BinOp.and IntKind.u8 ((y.val : Nat) : Int) 16 = ((y.val / 16 % 2 * 16 : Nat) : Int) ∧ bits BinOp.and IntKind.u8 ((y.val : Nat) : Int) 32 = ((y.val / 32 % 2 * 32 : Nat) : Int))
  exact h ⟨y, hy⟩
/-! Bytes as strings that differ. -/
theorem nums_back : ∀ l : List Nat, Bytes l → ((NI l).map fun n => UInt8.ofNat n.toNat).map UInt8.toNat = l
  | [], _ => rfl
  | x :: l, h => by
    show (UInt8.ofNat ((x : Nat) : Int).toNat).toNat :: ((NI l).map fun n => UInt8.ofNat n.toNat).map UInt8.toNat = x :: l
    rw [nums_back l (fun y hy => h y (List.mem_cons_of_mem _ hy)), Int.toNat_natCast, UInt8.toNat_ofNat', Nat.mod_eq_of_lt (h x (by simp))]
theorem strB_ne {l m : List Nat} (hl : Bytes l) (hm : Bytes m) (h : l ≠ m) : strB l ≠ strB m := fun e => h (by
  have e2 : (strB l).data.toList = (strB m).data.toList := by rw [e]
  unfold strB at e2
  rw [strOfNums_data, strOfNums_data] at e2
  have e3 := congrArg (List.map UInt8.toNat) e2
  rw [nums_back l hl, nums_back m hm] at e3
  exact e3)
theorem strN_ne {ops : Array Oper} {S : World → Prop} {o : Oper} {a : Act} (hgd : Region.wanted o (yielded ops a.tmps) = true) (x y : Operand) (ho : o.op = .binOp .neq 9 x y 9) (s t : ByteArray) (hx : a.eval x = .string s) (hy : a.eval y = .string t) (h : s ≠ t) : YieldsIf Try.prog ops S o (.bool true) a := by
  refine Or.inl ⟨hgd, fun w _ => ?_⟩
  have h2 : ¬ s.toList = t.toList := fun e => h (ByteArray.ext (Array.toList_inj.1 (by rw [← ByteArray.toList_eq, ← ByteArray.toList_eq]; exact e)))
  simp only [execOp, ho, hx, hy]
  go_simp
theorem strN_eq {ops : Array Oper} {S : World → Prop} {o : Oper} {a : Act} (hgd : Region.wanted o (yielded ops a.tmps) = true) (x y : Operand) (ho : o.op = .binOp .neq 9 x y 9) (s t : ByteArray) (hx : a.eval x = .string s) (hy : a.eval y = .string t) (h : s = t) : YieldsIf Try.prog ops S o (.bool false) a := by
  refine Or.inl ⟨hgd, fun w _ => ?_⟩
  subst h
  simp only [execOp, ho, hx, hy]
  go_simp
theorem vers_is : strB [0, 0, 0, 1] = { data := #[0, 0, 0, 1] } := rfl
theorem vers_bytes : Bytes [0, 0, 0, 1] := fun x hx => by
  simp only [List.mem_cons, List.not_mem_nil, or_false] at hx
  omega
theorem tk_bytes (n : Nat) (l : List Nat) (c : Nat) (h : Bytes l) : Bytes (tkS n l c).1 := by
  unfold tkS
  split
  · exact Bytes.nil
  · split
    · exact Bytes.nil
    · exact fun x hx => h x (List.mem_of_mem_take hx)
theorem size_le (q : Nat × List Nat × Nat) : sizeN q ≤ q.2.1.length := by
  unfold sizeN
  split
  · exact Nat.zero_le _
  · omega
/-! Results of which the first is a variable of its own. -/
theorem results_cell1 {P : Program} {fn : Func} {p u : Tmp} {ty : TypeId} (h : fn.results = #[.cell p ty, .tmp u]) (tmps : Array Value) (w : World) (g : Nat) (t : TypeId) (cs : Array Value) (d : TypeDesc)
    (hp : tmps.getD p undef = .pointer (some ⟨g, 0, none⟩)) (hg : Blk w g t cs) (hu : P.underlying ty = some d) (hd : (match d with | .struct _ | .array _ _ => true | _ => false) = true) (hi : (P.info? ty).map (·.size) = some cs.size) :
    (results fn tmps).run P w = .ok (.tuple #[.agg cs, tmps.getD u undef]) w := by
  have hp' : tmps[p]?.getD undef = .pointer (some ⟨g, 0, none⟩) := by simpa using hp
  simp [results, h, hp', asAddr, run_loadVar_row w g t ty cs (0, 0) d hg hu hd hi]
theorem results_cell3 {P : Program} {fn : Func} {p u v x : Tmp} {ty : TypeId} (h : fn.results = #[.cell p ty, .tmp u, .tmp v, .tmp x]) (tmps : Array Value) (w : World) (g : Nat) (t : TypeId) (cs : Array Value) (d : TypeDesc)
    (hp : tmps.getD p undef = .pointer (some ⟨g, 0, none⟩)) (hg : Blk w g t cs) (hu : P.underlying ty = some d) (hd : (match d with | .struct _ | .array _ _ => true | _ => false) = true) (hi : (P.info? ty).map (·.size) = some cs.size) :
    (results fn tmps).run P w = .ok (.tuple #[.agg cs, tmps.getD u undef, tmps.getD v undef, tmps.getD x undef]) w := by
  have hp' : tmps[p]?.getD undef = .pointer (some ⟨g, 0, none⟩) := by simpa using hp
  simp [results, h, hp', asAddr, run_loadVar_row w g t ty cs (0, 0) d hg hu hd hi]
theorem cell_one (q : Int) (p1 p2 : Option Addr) (n1 n2 c1 c2 : Nat) : (#[Value.int .i64 q, .slice p1 n1 c1, .slice p2 n2 c2] : Array Value).all (·.oneCell') = true := by simp [Value.oneCell']
theorem info_rd : (Try.prog.info? 51).map (·.size) = some [Value.pointer none].length := by kernel_rfl
end Go.Proofs.Ytfhiflakglhneaa
