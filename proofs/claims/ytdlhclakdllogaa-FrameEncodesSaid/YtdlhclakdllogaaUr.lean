/- The reference's Frame (printed by gen11/ur.py). -/
import Derived.Test.YtdlhclakdllogaaUb
import Derived.Test.YtdlhclakdllogaaUj
import Derived.Test.YtdlhclakdllogaaUk
import Derived.Test.YtdlhclakdllogaaUl
import Derived.Test.YtdlhclakdllogaaUm
import Derived.Test.YtdlhclakdllogaaUn
import Derived.Test.YtdlhclakdllogaaUo
import Derived.Test.YtdlhclakdllogaaUp
import Derived.Test.YtdlhclakdllogaaUq
namespace Go.Proofs.Ytdlhclakdllogaa
open Go.RowKit

theorem conv_ok (f : Fr) (he : encF f = finF (putO [] (nums f)) f.data) (L : List Nat) (hL : nums f = L) {e : Ending} {W w' : World}
    (h : ∃ v, e = .returned (.tuple #[v, .int .i64 (if (putO [] L).isSome then 0 else 2)]) ∧ OwL W.heap.size w' v (((putO [] L).map (· ++ f.data)).getD []) ∧ Below W.heap.size W w') : EncPost f W e w' := by
  unfold EncPost
  rw [hL] at he
  rw [he]
  generalize putO [] L = po at *
  cases po <;> exact h
theorem conv_err (f : Fr) (code : Nat) (he : encF f = (code, [])) {e : Ending} {W w' : World}
    (h : ∃ v, e = .returned (.tuple #[v, .int .i64 ((code : Nat) : Int)]) ∧ OwL W.heap.size w' v [] ∧ Below W.heap.size W w') : EncPost f W e w' := by
  unfold EncPost
  rw [he]
  exact h
set_option maxRecDepth 100000 in
theorem rframe_c (f : Fr) (hf : f.Ok) (hd3 : f.data.length ≤ 3000) (ha1 : f.acks.length ≤ 100) (vd va : Value) (W : World) (h : FD W f vd va) :
    Calls Try.prog 11 #[frV f vd va] W (EncPost f W) := by
  obtain ⟨hd, hs⟩ := h
  obtain ⟨p1, c1, rfl⟩ := hd.shape
  obtain ⟨p2, c2, rfl⟩ := hs.shape
  obtain ⟨k, i, o, n, c, fn, d, a⟩ := f
  obtain ⟨k64, i64, o64, n64, c64, db, ab⟩ := hf
  dsimp only at *
  by_cases h1 : 2048 < d.length
  · exact (rfe1 k i o n c fn d p1 p2 d.length c1 a.length c2 W hd h1 (by omega)).mono fun e w' h => conv_err ⟨k, i, o, n, c, fn, d, a⟩ 8 (by
      unfold encF
      rw [if_pos h1]) h
  by_cases h2 : 0 < d.length ∧ k ≠ 6 ∧ k ≠ 8 ∧ k ≠ 28
  · exact (rfe2 k i o n c fn d p1 p2 d.length c1 a.length c2 W hd (by omega) h2.1 h2.2.1 h2.2.2.1 h2.2.2.2).mono fun e w' h => conv_err _ 5 (by
      unfold encF
      rw [if_neg h1, if_pos h2]) h
  by_cases h3 : knownK k = false
  · have hn := known_not h3
    have hd0 : d.length = 0 := by
      by_cases h0 : 0 < d.length
      · exact absurd ⟨h0, by omega, by omega, by omega⟩ h2
      · omega
    have hd' : SB W (.slice p1 0 c1) d := by rw [← hd0]; exact hd
    show Calls _ _ #[.agg #[.int .u64 (k : Int), .int .u64 (i : Int), .int .u64 (o : Int), .int .u64 (n : Int), .int .u64 (c : Int), .bool fn, .slice p1 d.length c1, .slice p2 a.length c2]] W _
    have := rfe3 k i o n c fn d p1 p2 d.length c1 a.length c2 W hd hd0 h3
    first
      | exact this.mono fun e w' h => conv_err _ 6 (by
          unfold encF
          rw [if_neg h1, if_neg h2, if_pos h3]) h
      | (rw [hd0]
         rw [hd0] at this
         exact this.mono fun e w' h => conv_err _ 6 (by
          unfold encF
          rw [if_neg h1, if_neg h2, if_pos h3]) h)
  rcases known_mem (by simpa using h3) with rfl | rfl | rfl | rfl | rfl | rfl | rfl | rfl | rfl | rfl | rfl | rfl
  · have hd0 : d = [] := by
      by_cases h0 : 0 < d.length
      · exact absurd ⟨h0, by decide, by decide, by decide⟩ h2
      · exact List.length_eq_zero_iff.1 (by omega)
    subst hd0
    exact (rf0 i o n c fn [] p1 p2 c1 a.length c2 W hd _ rfl).mono fun e w' h => conv_ok _ (enc_ok h1 h2 h3 (fun e => absurd (show 0 = 2 from e.1) (by decide)) (fun e => e.1.elim (fun h => absurd (show 0 = 6 from h) (by decide)) (fun h => absurd (show 0 = 8 from h) (by decide)))) [0] rfl h
  · have hd0 : d = [] := by
      by_cases h0 : 0 < d.length
      · exact absurd ⟨h0, by decide, by decide, by decide⟩ h2
      · exact List.length_eq_zero_iff.1 (by omega)
    subst hd0
    exact (rf1 i o n c fn [] p1 p2 c1 a.length c2 W hd _ rfl).mono fun e w' h => conv_ok _ (enc_ok h1 h2 h3 (fun e => absurd (show 1 = 2 from e.1) (by decide)) (fun e => e.1.elim (fun h => absurd (show 1 = 6 from h) (by decide)) (fun h => absurd (show 1 = 8 from h) (by decide)))) [1] rfl h
  · have hd0 : d = [] := by
      by_cases h0 : 0 < d.length
      · exact absurd ⟨h0, by decide, by decide, by decide⟩ h2
      · exact List.length_eq_zero_iff.1 (by omega)
    subst hd0
    by_cases hr : rightL a = false
    · exact (rf2e i o n c fn [] a ab p1 p2 c1 a.length c2 (by omega) W hd hs hr).mono fun e w' h => conv_err _ 5 (by
        unfold encF
        rw [if_neg h1, if_neg h2, if_neg h3, if_pos ⟨rfl, hr⟩]) h
    · exact (rf2 i o n c fn [] a ab p1 p2 c1 a.length c2 (by omega) W hd hs (by simpa using hr) _ rfl).mono fun e w' h => conv_ok _ (enc_ok h1 h2 h3 (fun e => hr e.2) (fun e => e.1.elim (fun h => absurd (show 2 = 6 from h) (by decide)) (fun h => absurd (show 2 = 8 from h) (by decide)))) (2 :: ackNums n a) rfl h
  · have hd0 : d = [] := by
      by_cases h0 : 0 < d.length
      · exact absurd ⟨h0, by decide, by decide, by decide⟩ h2
      · exact List.length_eq_zero_iff.1 (by omega)
    subst hd0
    exact (rf4 i o n c fn [] p1 p2 c1 a.length c2 W hd _ rfl).mono fun e w' h => conv_ok _ (enc_ok h1 h2 h3 (fun e => absurd (show 4 = 2 from e.1) (by decide)) (fun e => e.1.elim (fun h => absurd (show 4 = 6 from h) (by decide)) (fun h => absurd (show 4 = 8 from h) (by decide)))) [4, i, c, n] rfl h
  · have hd0 : d = [] := by
      by_cases h0 : 0 < d.length
      · exact absurd ⟨h0, by decide, by decide, by decide⟩ h2
      · exact List.length_eq_zero_iff.1 (by omega)
    subst hd0
    exact (rf5 i o n c fn [] p1 p2 c1 a.length c2 W hd _ rfl).mono fun e w' h => conv_ok _ (enc_ok h1 h2 h3 (fun e => absurd (show 5 = 2 from e.1) (by decide)) (fun e => e.1.elim (fun h => absurd (show 5 = 6 from h) (by decide)) (fun h => absurd (show 5 = 8 from h) (by decide)))) [5, i, c] rfl h
  · by_cases ho : 4611686018427387903 < o + d.length
    · exact (rf6e i o n c fn d p1 p2 d.length c1 a.length c2 W hd (by omega) ho o64).mono fun e w' h => conv_err _ 2 (by
        unfold encF
        rw [if_neg h1, if_neg h2, if_neg h3, if_neg (fun e => absurd (show 6 = 2 from e.1) (by decide)), if_pos ⟨Or.inl rfl, ho⟩]) h
    · exact (rf6 i o n c fn d p1 p2 d.length c1 a.length c2 W hd _ rfl (by omega) (by omega)).mono fun e w' h => conv_ok _ (enc_ok h1 h2 h3 (fun e => absurd (show 6 = 2 from e.1) (by decide)) (fun e => ho e.2)) [6, o, d.length] rfl h
  · by_cases ho : 4611686018427387903 < o + d.length
    · exact (rf8e i o n c fn d p1 p2 d.length c1 a.length c2 W hd (by omega) ho o64).mono fun e w' h => conv_err _ 2 (by
        unfold encF
        rw [if_neg h1, if_neg h2, if_neg h3, if_neg (fun e => absurd (show 8 = 2 from e.1) (by decide)), if_pos ⟨Or.inr rfl, ho⟩]) h
    · by_cases hp : 0 < o
      · cases fn with
        | true => exact (rf8a i o n c d p1 p2 d.length c1 a.length c2 W hd _ rfl (by omega) (by omega) hp).mono fun e w' h => conv_ok _ (enc_ok h1 h2 h3 (fun e => absurd (show 8 = 2 from e.1) (by decide)) (fun e => ho e.2)) [15, i, o, d.length] (nums8 hp) h
        | false => exact (rf8b i o n c d p1 p2 d.length c1 a.length c2 W hd _ rfl (by omega) (by omega) hp).mono fun e w' h => conv_ok _ (enc_ok h1 h2 h3 (fun e => absurd (show 8 = 2 from e.1) (by decide)) (fun e => ho e.2)) [14, i, o, d.length] (nums8 hp) h
      · obtain rfl : o = 0 := by omega
        cases fn with
        | true => exact (rf8c i n c d p1 p2 d.length c1 a.length c2 W hd _ rfl (by omega)).mono fun e w' h => conv_ok _ (enc_ok h1 h2 h3 (fun e => absurd (show 8 = 2 from e.1) (by decide)) (fun e => ho e.2)) [11, i, d.length] rfl h
        | false => exact (rf8d i n c d p1 p2 d.length c1 a.length c2 W hd _ rfl (by omega)).mono fun e w' h => conv_ok _ (enc_ok h1 h2 h3 (fun e => absurd (show 8 = 2 from e.1) (by decide)) (fun e => ho e.2)) [10, i, d.length] rfl h
  · have hd0 : d = [] := by
      by_cases h0 : 0 < d.length
      · exact absurd ⟨h0, by decide, by decide, by decide⟩ h2
      · exact List.length_eq_zero_iff.1 (by omega)
    subst hd0
    exact (rf16 i o n c fn [] p1 p2 c1 a.length c2 W hd _ rfl).mono fun e w' h => conv_ok _ (enc_ok h1 h2 h3 (fun e => absurd (show 16 = 2 from e.1) (by decide)) (fun e => e.1.elim (fun h => absurd (show 16 = 6 from h) (by decide)) (fun h => absurd (show 16 = 8 from h) (by decide)))) [16, n] rfl h
  · have hd0 : d = [] := by
      by_cases h0 : 0 < d.length
      · exact absurd ⟨h0, by decide, by decide, by decide⟩ h2
      · exact List.length_eq_zero_iff.1 (by omega)
    subst hd0
    exact (rf17 i o n c fn [] p1 p2 c1 a.length c2 W hd _ rfl).mono fun e w' h => conv_ok _ (enc_ok h1 h2 h3 (fun e => absurd (show 17 = 2 from e.1) (by decide)) (fun e => e.1.elim (fun h => absurd (show 17 = 6 from h) (by decide)) (fun h => absurd (show 17 = 8 from h) (by decide)))) [17, i, n] rfl h
  · have hd0 : d = [] := by
      by_cases h0 : 0 < d.length
      · exact absurd ⟨h0, by decide, by decide, by decide⟩ h2
      · exact List.length_eq_zero_iff.1 (by omega)
    subst hd0
    exact (rf18 i o n c fn [] p1 p2 c1 a.length c2 W hd _ rfl).mono fun e w' h => conv_ok _ (enc_ok h1 h2 h3 (fun e => absurd (show 18 = 2 from e.1) (by decide)) (fun e => e.1.elim (fun h => absurd (show 18 = 6 from h) (by decide)) (fun h => absurd (show 18 = 8 from h) (by decide)))) [18, n] rfl h
  · exact (rf28 i o n c fn d p1 p2 d.length c1 a.length c2 W hd _ rfl (by omega)).mono fun e w' h => conv_ok _ (enc_ok h1 h2 h3 (fun e => absurd (show 28 = 2 from e.1) (by decide)) (fun e => e.1.elim (fun h => absurd (show 28 = 6 from h) (by decide)) (fun h => absurd (show 28 = 8 from h) (by decide)))) [28, c, d.length] rfl h
  · have hd0 : d = [] := by
      by_cases h0 : 0 < d.length
      · exact absurd ⟨h0, by decide, by decide, by decide⟩ h2
      · exact List.length_eq_zero_iff.1 (by omega)
    subst hd0
    exact (rf30 i o n c fn [] p1 p2 c1 a.length c2 W hd _ rfl).mono fun e w' h => conv_ok _ (enc_ok h1 h2 h3 (fun e => absurd (show 30 = 2 from e.1) (by decide)) (fun e => e.1.elim (fun h => absurd (show 30 = 6 from h) (by decide)) (fun h => absurd (show 30 = 8 from h) (by decide)))) [30] rfl h
end Go.Proofs.Ytdlhclakdllogaa
