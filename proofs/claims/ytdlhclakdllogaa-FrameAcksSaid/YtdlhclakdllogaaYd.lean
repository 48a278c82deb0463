/- The reference's PutAll: its contract. -/
import Derived.Test.YtdlhclakdllogaaYc
namespace Go.Proofs.Ytdlhclakdllogaa
open Go.RowKit

/-- Numbers behind bytes, if none is too great. -/
def putO (b l : List Nat) : Option (List Nat) := if l.all (fun n => decide (n < 4611686018427387904)) then some (b ++ vputs l) else none
theorem putO_some {b l : List Nat} (h : ∀ n ∈ l, n < 4611686018427387904) : putO b l = some (b ++ vputs l) := if_pos (List.all_eq_true.2 fun n hn => decide_eq_true (h n hn))
theorem putO_none {b l : List Nat} (i : Nat) (hi : i < l.length) (h : ¬ l[i] < 4611686018427387904) : putO b l = none := if_neg fun e => h (by
  have := List.all_eq_true.1 e l[i] (List.getElem_mem hi)
  exact of_decide_eq_true this)
set_option maxHeartbeats 4000000 in
set_option maxRecDepth 100000 in
theorem rputall_any (b l : List Nat) (hb : b.length ≤ 2000) (hl : l.length ≤ 1000) (bv : Value) (pl : Option Addr) (nl cl : Nat) (w : World) (sb : SB w bv b) (su : SU w (.slice pl nl cl) l) :
    Calls Try.prog 23 #[bv, .slice pl nl cl] w fun e w' => ∃ v, e = .returned (.tuple #[v, .bool (putO b l).isSome]) ∧ (∀ r, putO b l = some r → SB w' v r) ∧ Below w.heap.size w w' := by
  have el := su.len.1
  have EL := Lib.hid el
  rw [← el] at hl
  have SU0 := Lib.hid su
  clear el su
  have CP := Lib.hid (fun c n hn hl bv W h => rput_any c n hn hl bv W h)
  go_enter Try.func23, Try.ntmps23
  go_upto_region 2 with fail
  go_loopw [0, 6] (fun v t wr => ∃ i : Nat, i ≤ nl ∧ t = .int .i64 (i : Int) ∧ SB wr v (b ++ vputs (l.take i)) ∧ (∀ n ∈ l.take i, n < 4611686018427387904) ∧ Below w.heap.size w wr) (fun _ t _ => (nl - intOf t).toNat)
  case atStart => exact ⟨0, by omega, rfl, by rw [List.take_zero]; show SB w bv (b ++ []); rw [List.append_nil]; exact sb, (fun n h => by cases h), Below.refl _ _⟩
  case round =>
    clear sb
    obtain ⟨i, hi, rfl, hs, hm, hB⟩ := hrel
    by_cases hin : i = nl
    · have e : l.take i = l := List.take_of_length_le (by rw [hin, EL.out]; exact Nat.le_refl _)
      rw [e] at hs hm
      have ep := Lib.hid (putO_some (b := b) hm)
      rw [hin]
      clear hm e SU0 CP hi hin
      go_wp2
      refine bodyPost_ret (results_tmp2 rfl _ _ _) rfl ?_
      exact ⟨_, by rw [ep.out]; rfl, (fun r hr => by rw [ep.out] at hr; rw [← Option.some.inj hr]; exact hs), hB⟩
    · have i1 : (i : Int) < (nl : Int) := by omega
      have i0 : (0 : Int) ≤ (i : Int) := by omega
      have il : i < l.length := by rw [← EL.out]; omega
      obtain ⟨g, o, rfl, hA⟩ : ∃ g o, pl = some ⟨g, o, none⟩ ∧ UA w g o l := by
        rcases SU0.out.at_ with h0 | h0
        · omega
        · exact h0
      have cx := (hA.below hB).cell i il
      by_cases hx : l[i] < 4611686018427387904
      · have hm' : ∀ n ∈ l.take (i + 1), n < 4611686018427387904 := fun n hn => by
          rw [List.take_add_one, List.getElem?_eq_getElem il] at hn
          rcases List.mem_append.1 hn with h | h
          · exact hm n h
          · simp at h
            rw [h]
            exact hx
        have ev : b ++ vputs (l.take i) ++ vput l[i] = b ++ vputs (l.take (i + 1)) := by
          rw [List.append_assoc]
          congr 1
          rw [List.take_add_one, List.getElem?_eq_getElem il, vputs_append]
          show _ = vputs (l.take i) ++ vputs [l[i]]
          rw [vputs_one]
        have lv : (b ++ vputs (l.take i)).length ≤ 100000 := by
          have hle : ∀ m : List Nat, (vputs m).length ≤ 8 * m.length := fun m => by
            induction m with
            | nil => exact Nat.le_refl _
            | cons x m ih =>
              rw [vputs_cons, List.length_append, List.length_cons, vput_length]
              have : 2 ^ vtop x ≤ 8 := by
                have := vtop_le x
                have h8 : 2 ^ vtop x ≤ 2 ^ 3 := Nat.pow_le_pow_right (by decide) this
                exact h8
              omega
          have := hle (l.take i)
          rw [List.length_append]
          rw [List.length_take] at this
          omega
        have EV := Lib.hid ev
        have HM := Lib.hid hm'
        have C := Lib.hid (CP.out _ l[i] hx lv _ _ hs)
        have g1 : ¬ (4611686018427387903 : Int) < ((l[i] : Nat) : Int) := by omega
        clear ev hm' hm CP lv hx hA
        generalize l[i] = x at *
        go_wp2_with fail
        refine C.out.mono ?_
        rintro _ w2 ⟨v2, rfl, O2, b2⟩
        have s2 := O2.sb
        rw [EV.out] at s2
        clear hs O2 C cx
        go_wp2
        exact ⟨⟨i + 1, by omega, rfl, s2, HM.out, hB.trans (b2.mono hB.size)⟩, by simp only [intOf]; omega⟩
      · have ep := Lib.hid (putO_none (b := b) i il hx)
        have g1 : (4611686018427387903 : Int) < ((l[i] : Nat) : Int) := by omega
        clear hm CP hx hA hs
        generalize l[i] = x at *
        go_wp2
        refine bodyPost_ret (results_tmp2 rfl _ _ _) rfl ?_
        exact ⟨.slice none 0 0, by rw [ep.out]; rfl, (fun r hr => by rw [ep.out] at hr; cases hr), hB⟩
end Go.Proofs.Ytdlhclakdllogaa
