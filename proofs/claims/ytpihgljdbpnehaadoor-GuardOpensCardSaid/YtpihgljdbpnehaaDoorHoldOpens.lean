/- GuardOpens returns true at every case, every other secret, all bytes (nil ones too), all places, every bit and number, and leaves what it was given as it was. Conditions: the two tables of sha2's roots hold what the program's text lays in them (tied by the card). -/
import Derived.Test.YtpihgljdbpnehaaDoorRows
import Derived.Test.YtpihgljdbpnehaaDoorTie
import Derived.Test.YtpihgljdbpnehaaDoorCards
import Derived.Test.YtpihgljdbpnehaaDoorJe
import Derived.Test.YtpihgljdbpnehaaDoorQe
import Derived.Test.YtpihgljdbpnehaaDoorQg0Pz
import Derived.Test.YtpihgljdbpnehaaDoorOp
import Derived.Test.YtpihgljdbpnehaaDoorMMd0MSc
import Derived.SevenTiedAt
namespace Go.Proofs.YtpihgljdbpnehaaDoor
open Go.ChangeShapes Go.WideShapes Go.ChangeAt Go.RowKit
theorem own : ownKnob Tryd.prog.godebug = none := by kernel_rfl
theorem laid : laidOutB Tryd.prog = true := by kernel_rfl
theorem rows_bytes : Tryd.prog.readableRec 24 = true ∧ 24 < Tryd.prog.types.size := ⟨by kernel_rfl, of_decide_eq_true (by kernel_rfl)⟩
theorem rows_case : Tryd.prog.readableRec 40 = true ∧ 40 < Tryd.prog.types.size := ⟨by kernel_rfl, of_decide_eq_true (by kernel_rfl)⟩
theorem rows_int : Tryd.prog.readableRec 3 = true ∧ 3 < Tryd.prog.types.size := ⟨by kernel_rfl, of_decide_eq_true (by kernel_rfl)⟩
theorem rows_key : Tryd.prog.readableRec 23 = true ∧ 23 < Tryd.prog.types.size := ⟨by kernel_rfl, of_decide_eq_true (by kernel_rfl)⟩
theorem rows_u64 : Tryd.prog.readableRec 38 = true ∧ 38 < Tryd.prog.types.size := ⟨by kernel_rfl, of_decide_eq_true (by kernel_rfl)⟩
theorem rows_u8 : Tryd.prog.readableRec 5 = true ∧ 5 < Tryd.prog.types.size := ⟨by kernel_rfl, of_decide_eq_true (by kernel_rfl)⟩
theorem nat_of_u64 {n : Int} (h : (Lit.int .u64 n).wf = true) : ∃ k : Nat, n = ((k : Nat) : Int) ∧ k < 18446744073709551616 := by
 simp [Lit.wf, IntKind.min, IntKind.max, IntKind.signed, IntKind.bits] at h
 exact ⟨n.toNat, by omega, by omega⟩
theorem nat_of_u8 {n : Int} (h : (Lit.int .u8 n).wf = true) : ∃ k : Nat, n = ((k : Nat) : Int) ∧ k < 256 := by
 simp [Lit.wf, IntKind.min, IntKind.max, IntKind.signed, IntKind.bits] at h
 exact ⟨n.toNat, by omega, by omega⟩
/-- The door's own heap meets the condition. -/
theorem door_met (os : Os) (args : Array Value) : laidMetH Tryd.prog Rows.guardOpensRow.laid ((World.doorLaid Tryd.prog 29 os).forCall (fun _ _ => 0) ⟨#[], args, []⟩).memory :=
 laidMetH_of_parts3 (fuel := 8) (laidMet_of_run' 8 (by kernel_rfl) (by kernel_rfl)) (by kernel_rfl) (by kernel_rfl)
set_option maxHeartbeats 1000000 in
set_option maxRecDepth 100000 in
theorem opens_lifted (os : Os) (started : os.Started) (H : Type) (enc : TypeId × Value → H) :
  ReturnsInHanded {} Tryd.checked os 6 .any (fun w args => (Rows.guardOpensSpec.pre enc Tryd.prog Tryd.f6 [] false w args ∧ laidMetH Tryd.prog Rows.guardOpensRow.laid w) ∧ sizedMet enc Tryd.prog Tryd.f6 (OpenSpec.ofChange Rows.guardOpensSpec) false w args)
   (Rows.guardOpensSpec.post enc Tryd.prog Tryd.f6 false true false false) := by
 refine returnsInHanded_of_change_and (C := Tryd.checked) (X := fun w _ => laidMetH Tryd.prog Rows.guardOpensRow.laid w) (fun _ _ _ hh h => h.of_heap hh) own started (by kernel_rfl) Tryd.func6
  (ChangeSpec.witness_shaped (enc := enc) (C := Tryd.checked) (os := os) (X := fun w _ => laidMetH Tryd.prog Rows.guardOpensRow.laid w) false (World.doorLaid Tryd.prog 29 os) #[.agg #[.int .u8 0, .int .u8 0, .int .u8 0, .int .u8 0, .int .u8 0, .int .u8 0, .int .u8 0, .int .u8 0, .int .u8 0, .int .u8 0, .int .u8 0, .int .u8 0, .int .u8 0, .int .u8 0, .int .u8 0, .int .u8 0, .int .u8 0, .int .u8 0, .int .u8 0, .int .u8 0, .int .u8 0, .int .u8 0, .int .u8 0, .int .u8 0, .int .u8 0, .int .u8 0, .int .u8 0, .int .u8 0, .int .u8 0, .int .u8 0, .int .u8 0, .int .u8 0, .int .i64 0, .slice none 0 0, .slice none 0 0, .int .u64 0, .int .u64 0, .bool false, .slice none 0 0], .agg #[.int .u8 0, .int .u8 0, .int .u8 0, .int .u8 0, .int .u8 0, .int .u8 0, .int .u8 0, .int .u8 0, .int .u8 0, .int .u8 0, .int .u8 0, .int .u8 0, .int .u8 0, .int .u8 0, .int .u8 0, .int .u8 0, .int .u8 0, .int .u8 0, .int .u8 0, .int .u8 0, .int .u8 0, .int .u8 0, .int .u8 0, .int .u8 0, .int .u8 0, .int .u8 0, .int .u8 0, .int .u8 0, .int .u8 0, .int .u8 0, .int .u8 0, .int .u8 0], .slice none 0 0, .int .i64 0, .int .i64 0, .int .i64 0, .int .u64 0, .int .u8 0] 8 rfl (World.shaped_of_RefB (by kernel_rfl) (by kernel_rfl)) (by kernel_rfl) (by kernel_rfl) (by kernel_rfl) (door_met os _)) ?_
 intro W base args ds gs before hval0 hW _ _ hL _
 have hval : ∀ (j : Nat) t v, Tryd.f6.params[j]? = some t → args[j]? = some v → Value.okWide Tryd.prog W .any base t v := hval0
 have hW' := hW
 obtain ⟨p, q, hA0, hV, rfl, _, _⟩ := hW
 have hA : DataW.TrodAll enc Tryd.prog W 0 (fun _ => true) true Tryd.f6.params.toList args.toList ds p := hA0
 have hA1 := hA
 rw [Tryd.params6] at hA hval
 obtain ⟨v0, v1, v2, v3, v4, v5, v6, v7, d0, d1, d2, d3, d4, d5, d6, d7, p0, p1, p2, p3, p4, p5, p6, p7, rfl, rfl, rfl, h0, h1, h2, h3, h4, h5, h6, h7⟩ := trodAll_eight hA
 obtain ⟨rfl, rfl⟩ := trodVars_none hV
 obtain ⟨s0, sp0, vt0, vf0, vb0, to0, fr0, bb0, pn0, ac0, r0, rfl, ls0, bs0, ws0, hp0, ha0, St0, Sf0, Sb0, bt0, bf0, b30⟩ := open_case (hval 0 40 v0 rfl rfl) h0
 obtain ⟨s1, rfl, ls1, bs1⟩ := open_key32 (hval 1 23 v1 rfl rfl) h1
 obtain ⟨pt2, c2, l2, rfl, S2, hb2, _⟩ := open_bytes (hval 2 24 v2 rfl rfl) h2
 obtain ⟨n3, rfl, rfl, rfl, hm3⟩ := open_int Tryd.underlying3 (hval 3 3 v3 rfl rfl) h3
 have ok3 := int_ok hm3
 obtain ⟨n4, rfl, rfl, rfl, hm4⟩ := open_int Tryd.underlying3 (hval 4 3 v4 rfl rfl) h4
 have ok4 := int_ok hm4
 obtain ⟨n5, rfl, rfl, rfl, hm5⟩ := open_int Tryd.underlying3 (hval 5 3 v5 rfl rfl) h5
 have ok5 := int_ok hm5
 obtain ⟨m6, rfl, rfl, rfl, hm6⟩ := open_int Tryd.underlying38 (hval 6 38 v6 rfl rfl) h6
 obtain ⟨n6, rfl, hn6⟩ := nat_of_u64 hm6
 obtain ⟨m7, rfl, rfl, rfl, hm7⟩ := open_int Tryd.underlying5 (hval 7 5 v7 rfl rfl) h7
 obtain ⟨n7, rfl, hn7⟩ := nat_of_u8 hm7
 clear hA0 hval0
 rw [List.append_nil] at hW'
 rw [MakeChecks.laidMetH_plain _ _ _ (by kernel_rfl)] at hL
 obtain ⟨T, Q⟩ := tab_of_laid hL
 refine (gopens_c of_c first_c gseal_c gopen_c s0 to0 fr0 bb0 sp0 pn0 ac0 r0 vt0 vf0 vb0 W ls0 bs0 ws0 bt0 bf0 b30 hp0 ha0 St0 Sf0 Sb0 s1 l2 _ n3 n4 n5 n6 n7 ls1 bs1 hb2 ok3 ok4 ok5 hn6 hn7 S2 T Q).mono fun e W' ⟨he, hb⟩ => ?_
 subst he
 refine ⟨_, rfl, post_reads (gs := []) (pv := []) laid ?_ hW' hA1 (fun _ _ _ => trodAll_mk1 (shut_bool Tryd.underlying4 _)) rfl (fun _ => rfl) rfl hb (ok_one (by kernel_rfl) rfl (okWide_bool_mk Tryd.underlying4 _))⟩
 rw [Tryd.params6]
 intro t ht
 simp only [List.mem_cons, List.not_mem_nil, or_false] at ht
 rcases ht with rfl | rfl | rfl | rfl | rfl | rfl | rfl | rfl
 · exact rows_case
 · exact rows_key
 · exact rows_bytes
 · exact rows_int
 · exact rows_int
 · exact rows_int
 · exact rows_u64
 · exact rows_u8
theorem opens_row : Rows.GuardOpensSaid :=
 OpenClaim.holds_of_wide 6 Tryd.f6 rfl rfl rfl rfl rfl rfl rfl ⟨rfl, rfl, rfl, rfl, rfl⟩ rfl rfl rfl rfl rfl (by kernel_rfl) Tryd.func6 (by kernel_rfl)
  (of_decide_eq_true (by kernel_rfl)) (by unfold Func.isWrapper; first | (rw [if_pos (by decide +kernel)]; kernel_rfl) | (rw [if_neg (by decide +kernel)]; exact ⟨rfl, rfl⟩))
  (fun os started H enc _ => opens_lifted os started H enc)
theorem guardOpens_holds : Rows.GuardOpensCardSaid :=
 Claim7.holds_tied_plain_at .later [] [.data, .data] true Rows.guardOpensCard.stood.harness false
  opens_row (fun _ h => by cases h) (by kernel_rfl) (fun _ h => by cases h) guardOpens_row_tie rfl ⟨rfl, rfl⟩ (by kernel_rfl) rfl
  (fun f fn hf hfn => by
   obtain rfl : f = 6 := Option.some.inj ((show Tryd.prog.funcNamed "skiff/skifflaw13.GuardOpens" = some 6 by kernel_rfl).symm.trans hf) |>.symm
   obtain rfl : fn = Tryd.f6 := (Option.some.inj (Tryd.func6.symm.trans hfn)).symm
   exact ⟨by kernel_rfl, fun j t ht => by
    rw [Tryd.params6] at ht
    have hm : t ∈ [40, 23, 24, 3, 3, 3, 38, 5] := by simpa using Array.mem_of_getElem? ht
    have hall : ([40, 23, 24, 3, 3, 3, 38, 5].all fun u => !Tryd.prog.wantsStandIn u) = true := by kernel_rfl
    exact (show Tryd.prog.wantsStandIn t = false by simpa using List.all_eq_true.1 hall t hm)⟩)
  (by kernel_rfl)
#print axioms guardOpens_holds
end Go.Proofs.YtpihgljdbpnehaaDoor
