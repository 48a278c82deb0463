/- The program's lay, of every kind; Encode (printed by gen11/vh.py). -/
import Derived.Test.YtdlhclakdllogaaUb
import Derived.Test.YtdlhclakdllogaaVg
namespace Go.Proofs.Ytdlhclakdllogaa
open Go.RowKit

set_option maxHeartbeats 8000000 in
set_option maxRecDepth 100000 in
theorem lay8 (B x y N M : Nat) (q : Option (List Nat)) (i o n c nd c1 m c2 : Nat) (fn : Bool) (p1 p2 : Option Addr) (hnd : nd ≤ 2048) (WL : List Nat) (W : World) (h : PS B x y N q W) (_hB : B ≤ W.heap.size)
    (CS : ∀ w, Below W.heap.size W w → PS B x y N q w → Calls Try.prog 37 #[.agg #[.int .u64 8, .int .u64 (i : Int), .int .u64 (o : Int), .int .u64 (n : Int), .int .u64 (c : Int), .bool fn, .slice p1 nd c1, .slice p2 m c2], .func (.func 19) #[] #[.pointer (some ⟨y, 0, none⟩), .pointer (some ⟨x, 0, none⟩)]] w fun e w' => (∃ v, e = .returned v) ∧ PS B x y M (bindO q WL) w' ∧ Two x y w w') :
    Calls Try.prog 21 #[.agg #[.int .u64 8, .int .u64 (i : Int), .int .u64 (o : Int), .int .u64 (n : Int), .int .u64 (c : Int), .bool fn, .slice p1 nd c1, .slice p2 m c2], .func (.func 19) #[] #[.pointer (some ⟨y, 0, none⟩), .pointer (some ⟨x, 0, none⟩)]] W fun e w' => (∃ v, e = .returned v) ∧ PS B x y M (bindO q WL) w' ∧ Two x y W w' := by
  have wl : IntKind.u64.wrap (nd : Int) = (nd : Int) := by rw [IntKind.wrap_u64]; omega
  replace CS := Lib.hid CS
  replace h := Lib.hid h
  clear hnd
  go_enter Try.func21, Try.ntmps21
  go_upto_region 0 with fail
  rename_i aK
  refine wp_region_seq ?_
  refine wpSeq_wp rfl ?_
  unfold Oper.wp execOp
  go_simp
  refine wpSeq_nil ?_
  refine aK _ _ ?_
  clear aK
  have b0 := (Below.refl W.heap.size W).alloc (Nat.le_refl _) (.cells #[.int .u64 8, .int .u64 (i : Int), .int .u64 (o : Int), .int .u64 (n : Int), .int .u64 (c : Int), .bool fn, .slice p1 nd c1, .slice p2 m c2] 26)
  have K := Blk.new W 26 #[.int .u64 8, .int .u64 (i : Int), .int .u64 (o : Int), .int .u64 (n : Int), .int .u64 (c : Int), .bool fn, .slice p1 nd c1, .slice p2 m c2]
  generalize World.alloc W _ = W2 at *
  have x0 : W2.cell? ⟨W.heap.size, 0, none⟩ = some (.int .u64 8) := K.cell 0
  have x6 : W2.cell? ⟨W.heap.size, 6, none⟩ = some (.slice p1 nd c1) := K.cell 6
  have rg : W2.rangeAt W.heap.size 0 [.int .u64 8, .int .u64 (i : Int), .int .u64 (o : Int), .int .u64 (n : Int), .int .u64 (c : Int), .bool fn, .slice p1 nd c1, .slice p2 m c2] := blk_range K
  clear K
  go_upto_region 1 with fail
  rename_i aK
  refine wp_region_seq ?_
  refine wpSeq_yield (S := fun _ => True) (v := .pointer (some ⟨W.heap.size, 6, none⟩)) (Or.inl ⟨by rfl, fun w' hw' => by go_simp⟩) trivial ?_
  simp only [AP]
  refine wpSeq_yield (S := fun w' => w' = W2) (v := .slice p1 nd c1) (Or.inl ⟨by rfl, fun w' hw' => by (rw [hw']; go_simp)⟩) rfl ?_
  simp only [AP]
  refine wpSeq_yield (S := fun _ => True) (v := .int .i64 (nd : Int)) (Or.inl ⟨by rfl, fun w' hw' => by go_simp⟩) trivial ?_
  simp only [AP]
  refine wpSeq_yield (S := fun _ => True) (v := .int .u64 (nd : Int)) (Or.inl ⟨by rfl, fun w' hw' => by (go_simp; try rfl)⟩) trivial ?_
  simp only [AP]
  refine wpSeq_yield (S := fun _ => True) (yieldsIf_assign rfl _ rfl (.int .u64 (nd : Int)) rfl) trivial ?_
  simp only [AP]
  refine wpSeq_nil ?_
  refine aK _ _ ?_
  clear aK
  go_upto_region 2 with fail
  rename_i aK
  refine wp_region_seq ?_
  refine wpSeq_yield (S := fun _ => True) (v := .pointer (some ⟨W.heap.size, 0, none⟩)) (Or.inl ⟨by rfl, fun w' hw' => by go_simp⟩) trivial ?_
  simp only [AP]
  refine wpSeq_yield (S := fun w' => w' = W2) (v := .int .u64 8) (Or.inl ⟨by rfl, fun w' hw' => by (rw [hw']; go_simp)⟩) rfl ?_
  simp only [AP]
  refine wpSeq_nil ?_
  refine aK _ _ ?_
  clear aK x0 x6
  go_upto_region 13 with fail
  rename_i aK
  refine wp_region_seq ?_
  refine wpSeq_yield (S := fun w' => w' = W2) (show YieldsIf _ _ _ _ (.agg #[.int .u64 8, .int .u64 (i : Int), .int .u64 (o : Int), .int .u64 (n : Int), .int .u64 (c : Int), .bool fn, .slice p1 nd c1, .slice p2 m c2]) _ from yieldsIf_load_mid (S := fun w' => w' = W2) rfl 26 _ rfl W.heap.size 0 rfl [.int .u64 8, .int .u64 (i : Int), .int .u64 (o : Int), .int .u64 (n : Int), .int .u64 (c : Int), .bool fn, .slice p1 nd c1, .slice p2 m c2] _ (fun _ h => h ▸ rg) Try.underlying26 rfl info_fr) rfl ?_
  simp only [AP]
  refine wpSeq_yield (S := fun _ => True) (yieldsIf_move rfl _ rfl (.func (.func 19) #[] #[.pointer (some ⟨y, 0, none⟩), .pointer (some ⟨x, 0, none⟩)]) rfl) trivial ?_
  simp only [AP]
  refine wpSeq_wp rfl ?_
  unfold Oper.wp execOp
  go_simp
  refine (CS.out _ b0 (h.out.below b0)).mono ?_
  rintro _ w5 ⟨⟨v5, rfl⟩, P5, T5⟩
  go_simp
  refine wpSeq_nil ?_
  go_wp2
  refine bodyPost_end (results_none rfl _ _ _) rfl ?_
  exact ⟨⟨_, rfl⟩, P5, (Two.of b0).trans T5⟩
set_option maxHeartbeats 8000000 in
set_option maxRecDepth 100000 in
theorem lay2 (B x y N M : Nat) (q : Option (List Nat)) (i o n c nd c1 m c2 : Nat) (fn : Bool) (p1 p2 : Option Addr) (hnd : nd ≤ 2048) (WL : List Nat) (W : World) (h : PS B x y N q W) (_hB : B ≤ W.heap.size)
    (CS : ∀ w, Below W.heap.size W w → PS B x y N q w → Calls Try.prog 36 #[.agg #[.int .u64 2, .int .u64 (i : Int), .int .u64 (o : Int), .int .u64 (n : Int), .int .u64 (c : Int), .bool fn, .slice p1 nd c1, .slice p2 m c2], .func (.func 19) #[] #[.pointer (some ⟨y, 0, none⟩), .pointer (some ⟨x, 0, none⟩)]] w fun e w' => (∃ v, e = .returned v) ∧ PS B x y M (bindO q WL) w' ∧ Two x y w w') :
    Calls Try.prog 21 #[.agg #[.int .u64 2, .int .u64 (i : Int), .int .u64 (o : Int), .int .u64 (n : Int), .int .u64 (c : Int), .bool fn, .slice p1 nd c1, .slice p2 m c2], .func (.func 19) #[] #[.pointer (some ⟨y, 0, none⟩), .pointer (some ⟨x, 0, none⟩)]] W fun e w' => (∃ v, e = .returned v) ∧ PS B x y M (bindO q WL) w' ∧ Two x y W w' := by
  have wl : IntKind.u64.wrap (nd : Int) = (nd : Int) := by rw [IntKind.wrap_u64]; omega
  replace CS := Lib.hid CS
  replace h := Lib.hid h
  clear hnd
  go_enter Try.func21, Try.ntmps21
  go_upto_region 0 with fail
  rename_i aK
  refine wp_region_seq ?_
  refine wpSeq_wp rfl ?_
  unfold Oper.wp execOp
  go_simp
  refine wpSeq_nil ?_
  refine aK _ _ ?_
  clear aK
  have b0 := (Below.refl W.heap.size W).alloc (Nat.le_refl _) (.cells #[.int .u64 2, .int .u64 (i : Int), .int .u64 (o : Int), .int .u64 (n : Int), .int .u64 (c : Int), .bool fn, .slice p1 nd c1, .slice p2 m c2] 26)
  have K := Blk.new W 26 #[.int .u64 2, .int .u64 (i : Int), .int .u64 (o : Int), .int .u64 (n : Int), .int .u64 (c : Int), .bool fn, .slice p1 nd c1, .slice p2 m c2]
  generalize World.alloc W _ = W2 at *
  have x0 : W2.cell? ⟨W.heap.size, 0, none⟩ = some (.int .u64 2) := K.cell 0
  have x6 : W2.cell? ⟨W.heap.size, 6, none⟩ = some (.slice p1 nd c1) := K.cell 6
  have rg : W2.rangeAt W.heap.size 0 [.int .u64 2, .int .u64 (i : Int), .int .u64 (o : Int), .int .u64 (n : Int), .int .u64 (c : Int), .bool fn, .slice p1 nd c1, .slice p2 m c2] := blk_range K
  clear K
  go_upto_region 1 with fail
  rename_i aK
  refine wp_region_seq ?_
  refine wpSeq_yield (S := fun _ => True) (v := .pointer (some ⟨W.heap.size, 6, none⟩)) (Or.inl ⟨by rfl, fun w' hw' => by go_simp⟩) trivial ?_
  simp only [AP]
  refine wpSeq_yield (S := fun w' => w' = W2) (v := .slice p1 nd c1) (Or.inl ⟨by rfl, fun w' hw' => by (rw [hw']; go_simp)⟩) rfl ?_
  simp only [AP]
  refine wpSeq_yield (S := fun _ => True) (v := .int .i64 (nd : Int)) (Or.inl ⟨by rfl, fun w' hw' => by go_simp⟩) trivial ?_
  simp only [AP]
  refine wpSeq_yield (S := fun _ => True) (v := .int .u64 (nd : Int)) (Or.inl ⟨by rfl, fun w' hw' => by (go_simp; try rfl)⟩) trivial ?_
  simp only [AP]
  refine wpSeq_yield (S := fun _ => True) (yieldsIf_assign rfl _ rfl (.int .u64 (nd : Int)) rfl) trivial ?_
  simp only [AP]
  refine wpSeq_nil ?_
  refine aK _ _ ?_
  clear aK
  go_upto_region 2 with fail
  rename_i aK
  refine wp_region_seq ?_
  refine wpSeq_yield (S := fun _ => True) (v := .pointer (some ⟨W.heap.size, 0, none⟩)) (Or.inl ⟨by rfl, fun w' hw' => by go_simp⟩) trivial ?_
  simp only [AP]
  refine wpSeq_yield (S := fun w' => w' = W2) (v := .int .u64 2) (Or.inl ⟨by rfl, fun w' hw' => by (rw [hw']; go_simp)⟩) rfl ?_
  simp only [AP]
  refine wpSeq_nil ?_
  refine aK _ _ ?_
  clear aK x0 x6
  go_upto_region 5 with fail
  rename_i aK
  refine wp_region_seq ?_
  refine wpSeq_yield (S := fun w' => w' = W2) (show YieldsIf _ _ _ _ (.agg #[.int .u64 2, .int .u64 (i : Int), .int .u64 (o : Int), .int .u64 (n : Int), .int .u64 (c : Int), .bool fn, .slice p1 nd c1, .slice p2 m c2]) _ from yieldsIf_load_mid (S := fun w' => w' = W2) rfl 26 _ rfl W.heap.size 0 rfl [.int .u64 2, .int .u64 (i : Int), .int .u64 (o : Int), .int .u64 (n : Int), .int .u64 (c : Int), .bool fn, .slice p1 nd c1, .slice p2 m c2] _ (fun _ h => h ▸ rg) Try.underlying26 rfl info_fr) rfl ?_
  simp only [AP]
  refine wpSeq_yield (S := fun _ => True) (yieldsIf_move rfl _ rfl (.func (.func 19) #[] #[.pointer (some ⟨y, 0, none⟩), .pointer (some ⟨x, 0, none⟩)]) rfl) trivial ?_
  simp only [AP]
  refine wpSeq_wp rfl ?_
  unfold Oper.wp execOp
  go_simp
  refine (CS.out _ b0 (h.out.below b0)).mono ?_
  rintro _ w5 ⟨⟨v5, rfl⟩, P5, T5⟩
  go_simp
  refine wpSeq_nil ?_
  go_wp2
  refine bodyPost_end (results_none rfl _ _ _) rfl ?_
  exact ⟨⟨_, rfl⟩, P5, (Two.of b0).trans T5⟩
theorem chk0 {nd : Nat} {hb kb : Bool} {k : Nat} {rb bb : Bool} (h : chk nd hb kb k rb bb = 0) : nd ≤ 2048 ∧ kb = true ∧ (k = 2 → rb = true) := by
  unfold chk at h
  repeat' split at h
  all_goals first | (exfalso; omega) | skip
  rename_i h1 h2 h3 h4 h5
  refine ⟨by omega, by simpa using h3, fun e => ?_⟩
  cases rb with
  | true => rfl
  | false => exact absurd ⟨e, rfl⟩ h4
theorem lay_c (f : Fr) (hf : f.Ok) (hc : checkN f = 0) (vd va : Value) (W0 W : World) (hd : FD W0 f vd va) (bw : Below W0.heap.size W0 W) (x y : Nat) (q : Option (List Nat)) (h : PS W0.heap.size x y 0 q W) :
    Calls Try.prog 21 #[frV f vd va, .func (.func 19) #[] #[.pointer (some ⟨y, 0, none⟩), .pointer (some ⟨x, 0, none⟩)]] W fun e w' => (∃ v, e = .returned v) ∧ PS W0.heap.size x y 100 (bindO q (nums f)) w' ∧ Two x y W w' := by
  obtain ⟨d2, kk, kr⟩ := chk0 hc
  obtain ⟨p1, c1, rfl⟩ := hd.data.shape
  obtain ⟨p2, c2, rfl⟩ := hd.acks.shape
  have ha := hd.acks
  clear hd hc
  obtain ⟨k, i, o, n, c, fn, d, a⟩ := f
  obtain ⟨_, hi, ho, hn, hcd, _, hac⟩ := hf
  dsimp only at *
  have hnd : d.length < 18446744073709551616 := by omega
  have fin : ∀ {N : Nat} {L : List Nat} {e : Ending} {w' : World}, N ≤ 100 → ((∃ v, e = .returned v) ∧ PS W0.heap.size x y N (bindO q L) w' ∧ Two x y W w') → ((∃ v, e = .returned v) ∧ PS W0.heap.size x y 100 (bindO q L) w' ∧ Two x y W w') := fun hN h => ⟨h.1, h.2.1.mono hN, h.2.2⟩
  rcases known_mem kk with rfl | rfl | rfl | rfl | rfl | rfl | rfl | rfl | rfl | rfl | rfl | rfl
  · exact (lay0 W0.heap.size x y 0 q i o n c d.length c1 a.length c2 fn p1 p2 d2 (by decide) (fun z hz => by simp only [List.mem_cons, List.not_mem_nil, or_false] at hz; omega) W h bw.size).mono fun e w' h => fin (by decide) h
  · exact (lay1 W0.heap.size x y 0 q i o n c d.length c1 a.length c2 fn p1 p2 d2 (by decide) (fun z hz => by simp only [List.mem_cons, List.not_mem_nil, or_false] at hz; omega) W h bw.size).mono fun e w' h => fin (by decide) h
  · refine lay2 W0.heap.size x y 0 100 q i o n c d.length c1 a.length c2 fn p1 p2 d2 (2 :: ackNums n a) W h bw.size fun w b hp => ?_
    exact (layack x y 0 q i o n c fn a hac (kr rfl) p1 p2 d.length c1 a.length c2 hn (by decide) W0 w ha (bw.trans (b.mono bw.size)) hp)
  · exact (lay4 W0.heap.size x y 0 q i o n c d.length c1 a.length c2 fn p1 p2 d2 (by decide) (fun z hz => by simp only [List.mem_cons, List.not_mem_nil, or_false] at hz; omega) W h bw.size).mono fun e w' h => fin (by decide) h
  · exact (lay5 W0.heap.size x y 0 q i o n c d.length c1 a.length c2 fn p1 p2 d2 (by decide) (fun z hz => by simp only [List.mem_cons, List.not_mem_nil, or_false] at hz; omega) W h bw.size).mono fun e w' h => fin (by decide) h
  · exact (lay6 W0.heap.size x y 0 q i o n c d.length c1 a.length c2 fn p1 p2 d2 (by decide) (fun z hz => by simp only [List.mem_cons, List.not_mem_nil, or_false] at hz; omega) W h bw.size).mono fun e w' h => fin (by decide) h
  · by_cases hp : 0 < o
    · cases fn with
      | true =>
        exact (lay8 W0.heap.size x y 0 4 q i o n c d.length c1 a.length c2 true p1 p2 d2 [15, i, o, d.length] W h bw.size fun w b hq => lays1 W0.heap.size x y 0 q i o n c d.length c1 a.length c2 p1 p2 d2 (by decide) (fun z hz => by simp only [List.mem_cons, List.not_mem_nil, or_false] at hz; omega) hp w hq (Nat.le_trans bw.size b.size)).mono fun e w' h => by
          rw [nums8 hp]
          exact fin (by decide) h
      | false =>
        exact (lay8 W0.heap.size x y 0 4 q i o n c d.length c1 a.length c2 false p1 p2 d2 [14, i, o, d.length] W h bw.size fun w b hq => lays2 W0.heap.size x y 0 q i o n c d.length c1 a.length c2 p1 p2 d2 (by decide) (fun z hz => by simp only [List.mem_cons, List.not_mem_nil, or_false] at hz; omega) hp w hq (Nat.le_trans bw.size b.size)).mono fun e w' h => by
          rw [nums8 hp]
          exact fin (by decide) h
    · obtain rfl : o = 0 := by omega
      cases fn with
      | true => exact (lay8 W0.heap.size x y 0 3 q i 0 n c d.length c1 a.length c2 true p1 p2 d2 [11, i, d.length] W h bw.size fun w b hq => lays3 W0.heap.size x y 0 q i n c d.length c1 a.length c2 p1 p2 d2 (by decide) (fun z hz => by simp only [List.mem_cons, List.not_mem_nil, or_false] at hz; omega) w hq (Nat.le_trans bw.size b.size)).mono fun e w' h => fin (by decide) h
      | false => exact (lay8 W0.heap.size x y 0 3 q i 0 n c d.length c1 a.length c2 false p1 p2 d2 [10, i, d.length] W h bw.size fun w b hq => lays4 W0.heap.size x y 0 q i n c d.length c1 a.length c2 p1 p2 d2 (by decide) (fun z hz => by simp only [List.mem_cons, List.not_mem_nil, or_false] at hz; omega) w hq (Nat.le_trans bw.size b.size)).mono fun e w' h => fin (by decide) h
  · exact (lay16 W0.heap.size x y 0 q i o n c d.length c1 a.length c2 fn p1 p2 d2 (by decide) (fun z hz => by simp only [List.mem_cons, List.not_mem_nil, or_false] at hz; omega) W h bw.size).mono fun e w' h => fin (by decide) h
  · exact (lay17 W0.heap.size x y 0 q i o n c d.length c1 a.length c2 fn p1 p2 d2 (by decide) (fun z hz => by simp only [List.mem_cons, List.not_mem_nil, or_false] at hz; omega) W h bw.size).mono fun e w' h => fin (by decide) h
  · exact (lay18 W0.heap.size x y 0 q i o n c d.length c1 a.length c2 fn p1 p2 d2 (by decide) (fun z hz => by simp only [List.mem_cons, List.not_mem_nil, or_false] at hz; omega) W h bw.size).mono fun e w' h => fin (by decide) h
  · exact (lay28 W0.heap.size x y 0 q i o n c d.length c1 a.length c2 fn p1 p2 d2 (by decide) (fun z hz => by simp only [List.mem_cons, List.not_mem_nil, or_false] at hz; omega) W h bw.size).mono fun e w' h => fin (by decide) h
  · exact (lay30 W0.heap.size x y 0 q i o n c d.length c1 a.length c2 fn p1 p2 d2 (by decide) (fun z hz => by simp only [List.mem_cons, List.not_mem_nil, or_false] at hz; omega) W h bw.size).mono fun e w' h => fin (by decide) h
set_option maxHeartbeats 8000000 in
set_option maxRecDepth 100000 in
theorem pencode_c : EncC := by
  intro f hf l1 l2 vd va W hd
  have CK := Lib.hid (fun w h => check_c f hf l2 vd va w h)
  have CL := Lib.hid (fun hc w b x y q h => lay_c f hf hc vd va W w hd b x y q h)
  obtain ⟨p1, c1, rfl⟩ := hd.data.shape
  obtain ⟨p2, c2, rfl⟩ := hd.acks.shape
  have FDX := Lib.hid hd
  have l1 := Lib.hid l1
  have EC := Lib.hid (encF_check f)
  clear hf l2 hd
  unfold EncPost
  obtain ⟨cn, hcn⟩ : ∃ cn, checkN f = cn := ⟨_, rfl⟩
  rw [hcn] at CK CL EC
  clear hcn
  obtain ⟨L, hL⟩ : ∃ L, nums f = L := ⟨_, rfl⟩
  rw [hL] at CL EC
  clear hL
  obtain ⟨E, hE⟩ : ∃ E, encF f = E := ⟨_, rfl⟩
  rw [hE] at EC ⊢
  clear hE
  obtain ⟨ep, hep⟩ : ∃ d, f.data = d := ⟨_, rfl⟩
  have hD := Lib.hid FDX.out.data
  rw [hep] at EC l1
  obtain ⟨k, i, o, n, c, fn, d, a⟩ := f
  unfold frV frL at *
  dsimp only at *
  subst ep
  obtain ⟨nd, hnd⟩ : ∃ nd, d.length = nd := ⟨_, rfl⟩
  obtain ⟨m, hm⟩ : ∃ m, a.length = m := ⟨_, rfl⟩
  rw [hnd] at CK CL hD FDX l1 ⊢
  rw [hm] at CK CL FDX ⊢
  clear hm
  have HND := Lib.hid hnd
  clear hnd
  show Calls Try.prog 10 #[.agg #[.int .u64 (k : Int), .int .u64 (i : Int), .int .u64 (o : Int), .int .u64 (n : Int), .int .u64 (c : Int), .bool fn, .slice p1 nd c1, .slice p2 m c2]] W fun e w' => ∃ v, e = .returned (.tuple #[v, .int .i64 ((E.1 : Nat) : Int)]) ∧ OwL W.heap.size w' v E.2 ∧ Below W.heap.size W w'
  go_enter Try.func10, Try.ntmps10
  go_upto_region 0 with fail
  rename_i aK
  refine wp_region_seq ?_
  refine wpSeq_wp rfl ?_
  unfold Oper.wp execOp
  go_simp
  refine wpSeq_yield (S := fun _ => True) (yieldsIf_assign rfl _ rfl (.slice none 0 0) rfl) trivial ?_
  simp only [AP]
  refine wpSeq_yield (S := fun _ => True) (yieldsIf_assign rfl _ rfl (.int .i64 0) rfl) trivial ?_
  simp only [AP]
  refine wpSeq_nil ?_
  refine aK _ _ ?_
  clear aK
  have b := (Below.refl W.heap.size W).alloc (Nat.le_refl _) (.cells #[.int .u64 (k : Int), .int .u64 (i : Int), .int .u64 (o : Int), .int .u64 (n : Int), .int .u64 (c : Int), .bool fn, .slice p1 nd c1, .slice p2 m c2] 26)
  have K := Lib.hid (Blk.new W 26 #[.int .u64 (k : Int), .int .u64 (i : Int), .int .u64 (o : Int), .int .u64 (n : Int), .int .u64 (c : Int), .bool fn, .slice p1 nd c1, .slice p2 m c2])
  generalize World.alloc W _ = W2 at *
  go_upto_region 1 with fail
  rename_i aK
  refine wp_region_seq ?_
  refine wpSeq_yield (S := fun w' => w' = W2) (show YieldsIf _ _ _ _ (.agg #[.int .u64 (k : Int), .int .u64 (i : Int), .int .u64 (o : Int), .int .u64 (n : Int), .int .u64 (c : Int), .bool fn, .slice p1 nd c1, .slice p2 m c2]) _ from yieldsIf_load_mid (S := fun w' => w' = W2) rfl 26 _ rfl W.heap.size 0 rfl [.int .u64 (k : Int), .int .u64 (i : Int), .int .u64 (o : Int), .int .u64 (n : Int), .int .u64 (c : Int), .bool fn, .slice p1 nd c1, .slice p2 m c2] _ (fun _ h => h ▸ blk_range K.out) Try.underlying26 rfl info_fr) rfl ?_
  simp only [AP]
  refine wpSeq_wp rfl ?_
  unfold Oper.wp execOp
  go_simp
  refine (CK.out _ (FDX.out.below b)).mono ?_
  rintro _ w1 ⟨rfl, b1⟩
  replace K := Lib.hid (K.out.below' b1)
  replace b := b.trans (b1.mono b.size)
  clear b1 CK
  go_simp
  refine wpSeq_yield (S := fun _ => True) (yieldsIf_assign rfl _ rfl (.int .i64 (cn : Int)) rfl) trivial ?_
  simp only [AP]
  refine wpSeq_nil ?_
  refine aK _ _ ?_
  clear aK
  by_cases h0 : cn = 0
  · subst h0
    replace EC := EC.out
    rw [if_pos rfl] at EC
    replace CL := CL.out rfl
    replace CL := Lib.hid CL
    have kx := K.out.lt
    go_upto_region 2 with fail
    rename_i aK
    refine wp_region_seq ?_
    refine wpSeq_yield (S := fun _ => True) (yieldsIf_move rfl _ rfl (.int .i64 ((0 : Nat) : Int)) rfl) trivial ?_
    simp only [AP]
    refine wpSeq_yield (S := fun _ => True) (v := .bool false) (Or.inl ⟨by rfl, fun w' hw' => by go_simp⟩) trivial ?_
    simp only [AP]
    refine wpSeq_nil ?_
    refine aK _ _ ?_
    clear aK
    go_upto_region 4 with fail
    rename_i aK
    refine wp_region_seq ?_
    refine wpSeq_alloc 23 #[.slice none 0 0] rfl (fun W => by go_simp) ?_
    simp only [AP]
    refine wpSeq_nil ?_
    refine aK _ _ ?_
    clear aK
    have b1 := (Below.refl w1.heap.size w1).alloc (Nat.le_refl _) (.cells #[.slice none 0 0] 23)
    have KX := Blk.new w1 23 #[.slice none 0 0]
    replace K := Lib.hid (K.out.below' b1)
    have hx := b.size
    replace b := b.trans (b1.mono b.size)
    clear b1
    generalize World.alloc w1 _ = w2 at *
    generalize w1.heap.size = x at *
    go_upto_region 5 with fail
    rename_i aK
    refine wp_region_seq ?_
    refine wpSeq_alloc 30 #[.int .i64 0] rfl (fun W => by go_simp) ?_
    simp only [AP]
    have b1 := (Below.refl w2.heap.size w2).alloc (Nat.le_refl _) (.cells #[.int .i64 0] 30)
    have KY := Blk.new w2 30 #[.int .i64 0]
    replace K := Lib.hid (K.out.below' b1)
    have hxy : x ≠ w2.heap.size := by have := KX.lt; omega
    have kw : W.heap.size < w2.heap.size := by have := KX.lt; omega
    replace KX := KX.below' b1
    have hy := b.size
    replace b := b.trans (b1.mono b.size)
    clear b1
    generalize World.alloc w2 _ = w3 at *
    generalize w2.heap.size = y at *
    have cy : w3.cell? ⟨y, 0, none⟩ = some (.int .i64 0) := KY.cell 0
    have f1 := KY.frozen 0
    refine wpSeq_wp rfl ?_
    unfold Oper.wp execOp
    go_simp
    have KY2 : Blk (w3.setCell ⟨y, 0, none⟩ (.int .i64 0)) y 30 #[.int .i64 0] := KY.set 0 _
    have KX2 := KX.far (p := ⟨y, 0, none⟩) hxy (.int .i64 0)
    have K2 := K.out.far (p := ⟨y, 0, none⟩) (by show W.heap.size ≠ y; omega) (.int .i64 0)
    replace K := Lib.hid K2
    replace b := b.setCell (p := ⟨y, 0, none⟩) hy (.int .i64 0)
    clear cy f1 KX KY K2
    generalize World.setCell _ _ _ = w4 at *
    refine wpSeq_nil ?_
    refine aK _ _ ?_
    clear aK
    have P : PS W.heap.size x y 0 (some []) w4 := ⟨⟨_, KX2, OwL.nil _ _, fun g hg => by cases hg⟩, KY2, hxy, hx, hy, Nat.zero_le _, fun z hz => by cases hz⟩
    have gx : W.heap.size ≠ x := by
      omega
    have gy : W.heap.size ≠ y := by omega
    replace P := Lib.hid P
    clear KX2 KY2 hxy kw kx
    go_upto_region 6 with fail
    rename_i aK
    refine wp_region_seq ?_
    refine wpSeq_wp rfl ?_
    unfold Oper.wp execOp
    go_simp
    refine wpSeq_yield (S := fun _ => True) (yieldsIf_assign rfl _ rfl (.func (.func 19) #[] #[.pointer (some ⟨y, 0, none⟩), .pointer (some ⟨x, 0, none⟩)]) rfl) trivial ?_
    simp only [AP]
    refine wpSeq_nil ?_
    refine aK _ _ ?_
    clear aK
    go_upto_region 7 with fail
    rename_i aK
    refine wp_region_seq ?_
    refine wpSeq_yield (S := fun w' => w' = w4) (show YieldsIf _ _ _ _ (.agg #[.int .u64 (k : Int), .int .u64 (i : Int), .int .u64 (o : Int), .int .u64 (n : Int), .int .u64 (c : Int), .bool fn, .slice p1 nd c1, .slice p2 m c2]) _ from yieldsIf_load_mid (S := fun w' => w' = w4) rfl 26 _ rfl W.heap.size 0 rfl [.int .u64 (k : Int), .int .u64 (i : Int), .int .u64 (o : Int), .int .u64 (n : Int), .int .u64 (c : Int), .bool fn, .slice p1 nd c1, .slice p2 m c2] _ (fun _ h => h ▸ blk_range K.out) Try.underlying26 rfl info_fr) rfl ?_
    simp only [AP]
    refine wpSeq_yield (S := fun _ => True) (yieldsIf_move rfl _ rfl (.func (.func 19) #[] #[.pointer (some ⟨y, 0, none⟩), .pointer (some ⟨x, 0, none⟩)]) rfl) trivial ?_
    simp only [AP]
    refine wpSeq_wp rfl ?_
    unfold Oper.wp execOp
    go_simp
    refine (CL.out _ b x y (some []) P.out).mono ?_
    rintro _ w5 ⟨⟨v5, rfl⟩, P5, T5⟩
    replace K := Lib.hid (T5.blk K.out gx gy)
    replace b := b.trans (T5.to hx hy b.size)
    clear P T5 CL
    go_simp
    refine wpSeq_nil ?_
    refine aK _ _ ?_
    clear aK
    obtain ⟨⟨vo, KX, O, FX⟩, KY, _, _, _, len, _⟩ := P5
    obtain ⟨po, hpo⟩ : ∃ po, bindO (some []) L = po := ⟨_, rfl⟩
    replace EC : E = finF po d := by rw [← hpo]; exact EC
    rw [hpo] at KY O len
    clear hpo FX gx gy hx hy
    replace EC := Lib.hid EC
    cases po with
    | none =>
      have cy : w5.cell? ⟨y, 0, none⟩ = some (.int .i64 2) := KY.cell 0
      clear KX O KY len
      go_upto_region 8 with fail
      rename_i aK
      refine wp_region_seq ?_
      refine wpSeq_yield (S := fun w' => w' = w5) (v := .int .i64 2) (Or.inl ⟨by rfl, fun w' hw' => by (rw [hw']; go_simp)⟩) rfl ?_
      simp only [AP]
      refine wpSeq_yield (S := fun _ => True) (v := .bool true) (Or.inl ⟨by rfl, fun w' hw' => by go_simp⟩) trivial ?_
      simp only [AP]
      refine wpSeq_nil ?_
      refine aK _ _ ?_
      clear aK
      go_upto_region 9 with fail
      rename_i aK
      refine wp_region_S (S := fun w' => w'.cell? ⟨y, 0, none⟩ = some (.int .i64 2)) (by kernel_rfl) ?_
      refine wpAnyS_takeL 0 (v := .int .i64 2) rfl (by kernel_rfl) (by kernel_rfl) (by kernel_rfl) (fun _ _ _ H => H) (Or.inl ⟨by rfl, fun w' hw' => by (have cc : w'.cell? ⟨y, 0, none⟩ = some (.int .i64 2) := hw'; go_simp)⟩) cy ?_
      simp only [AP]
      refine wpAnyS_takeL 1 (v := .slice none 0 0) rfl (by kernel_rfl) (by kernel_rfl) (by kernel_rfl) (fun _ _ _ H => H) (yieldsIf_assign rfl _ rfl (.slice none 0 0) rfl) cy ?_
      simp only [AP]
      refine wpAnyS_takeL 2 (v := .int .i64 2) rfl (by kernel_rfl) (by kernel_rfl) (by kernel_rfl) (fun _ _ _ H => H) (yieldsIf_assign rfl _ rfl (.int .i64 2) rfl) cy ?_
      simp only [AP]
      refine wpAnyS_done (by kernel_rfl) ?_ _
      refine aK _ _ ?_
      clear aK cy
      go_wp2
      refine bodyPost_ret (results_tmp2 rfl _ _ _) rfl ?_
      exact ⟨.slice none 0 0, by rw [EC.out]; rfl, by rw [EC.out]; exact OwL.nil _ _, below_drew b⟩
    | some r =>
      replace O : OwL W.heap.size w5 vo r := O
      replace len : r.length ≤ 8 * 100 := len
      have cy : w5.cell? ⟨y, 0, none⟩ = some (.int .i64 0) := KY.cell 0
      have c2 : w5.cell? ⟨x, 0, none⟩ = some vo := KX.cell 0
      have c3 : w5.cell? ⟨W.heap.size, 6, none⟩ = some (.slice p1 nd c1) := K.out.cell 6
      obtain ⟨v7, w7, h7, O7, B7⟩ := append_more W.heap.size W w5 23 vo (.slice p1 nd c1) r d O (hD.out.below b) (by have := l1.out; have := HND.out; omega) b b.size
      clear KX KY O len
      go_upto_region 8 with fail
      rename_i aK
      refine wp_region_seq ?_
      refine wpSeq_yield (S := fun w' => w' = w5) (v := .int .i64 0) (Or.inl ⟨by rfl, fun w' hw' => by (rw [hw']; go_simp)⟩) rfl ?_
      simp only [AP]
      refine wpSeq_yield (S := fun _ => True) (v := .bool false) (Or.inl ⟨by rfl, fun w' hw' => by go_simp⟩) trivial ?_
      simp only [AP]
      refine wpSeq_nil ?_
      refine aK _ _ ?_
      clear aK cy
      go_upto_region 10 with fail
      rename_i aK
      refine wp_region_seq ?_
      refine wpSeq_yield (S := fun w' => w' = w5) (v := vo) (Or.inl ⟨by rfl, fun w' hw' => by (rw [hw']; go_simp)⟩) rfl ?_
      simp only [AP]
      refine wpSeq_yield (S := fun _ => True) (v := .pointer (some ⟨W.heap.size, 6, none⟩)) (Or.inl ⟨by rfl, fun w' hw' => by go_simp⟩) trivial ?_
      simp only [AP]
      refine wpSeq_yield (S := fun w' => w' = w5) (v := .slice p1 nd c1) (Or.inl ⟨by rfl, fun w' hw' => by (rw [hw']; go_simp)⟩) rfl ?_
      simp only [AP]
      refine wpSeq_wp rfl (wp_append_run _ _ _ _ rfl _ _ rfl rfl v7 w7 h7 ?_)
      simp only [AP]
      refine wpSeq_yield (S := fun _ => True) (yieldsIf_assign rfl _ rfl (v7) rfl) trivial ?_
      simp only [AP]
      refine wpSeq_yield (S := fun _ => True) (yieldsIf_assign rfl _ rfl (.int .i64 0) rfl) trivial ?_
      simp only [AP]
      refine wpSeq_nil ?_
      refine aK _ _ ?_
      clear aK c2 c3 h7
      go_wp2
      refine bodyPost_ret (results_tmp2 rfl _ _ _) rfl ?_
      exact ⟨v7, by rw [EC.out]; rfl, by rw [EC.out]; exact O7, B7⟩
  · replace EC := Lib.hid (show E = (cn, []) by have := EC.out; rw [if_neg h0] at this; exact this)
    have g0 : ¬ (cn : Int) = 0 := by omega
    have q0 : ((cn : Int) != 0) = true := bne_iff_ne.2 g0
    go_upto_region 2 with fail
    rename_i aK
    refine wp_region_seq ?_
    refine wpSeq_yield (S := fun _ => True) (yieldsIf_move rfl _ rfl (.int .i64 (cn : Int)) rfl) trivial ?_
    simp only [AP]
    refine wpSeq_yield (S := fun _ => True) (v := .bool true) (Or.inl ⟨by rfl, fun w' hw' => by (go_simp; try omega)⟩) trivial ?_
    simp only [AP]
    refine wpSeq_nil ?_
    refine aK _ _ ?_
    clear aK
    go_wp2
    refine bodyPost_ret (results_tmp2 rfl _ _ _) rfl ?_
    exact ⟨.slice none 0 0, by rw [EC.out]; rfl, by rw [EC.out]; exact OwL.nil _ _, b⟩
end Go.Proofs.Ytdlhclakdllogaa
