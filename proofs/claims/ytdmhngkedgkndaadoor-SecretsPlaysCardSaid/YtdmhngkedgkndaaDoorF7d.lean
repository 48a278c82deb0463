/- The law SecretsPlays (printed by gen15/fm.py). -/
import Derived.Test.YtdmhngkedgkndaaDoorF7c
namespace Go.Proofs.YtdmhngkedgkndaaDoor
open Go.RowKit

set_option maxHeartbeats 8000000 in
set_option maxRecDepth 100000 in
theorem lplay_c (psk more : List Nat) (acts : List AcF) (t : ByteArray) (pp : Option Addr) (np cp : Nat) (pa : Option Addr) (na ca : Nat) (pk : Option Addr) (nk ck : Nat) (W : World) (hp : SB W (.slice pp np cp) psk) (bp : Bytes psk) (ha : AcS W (.slice pa na ca) acts) (ba : ∀ f ∈ acts, f.Ok) (hl : na ≤ 9223372036854775807) (hk : SB W (.slice pk nk ck) more) (bk : Bytes more) (T : Tab W cuT) (Q : Sq W sqT) (RR : Ref W cuT sqT) :
    Calls Tryd.prog 3 #[.slice pp np cp, .slice pa na ca, .string t, .slice pk nk ck] W fun e w' => e = .returned (.bool true) ∧ Below W.heap.size W w' := by
  have AC := Lib.hid (fun (w : World) (b : Below W.heap.size W w) => awake_c w (T.below b) (Q.below b) (RR.below b))
  have hn1 := hp.len.1
  have hn3 := hk.len.1
  have TQ := Lib.hid (fun (w : World) (b : Below W.heap.size W w) => And.intro (T.below b) (And.intro (Q.below b) (And.intro (RR.below b) (And.intro (hp.below b) (hk.below b)))))
  have BB := Lib.hid (And.intro bp bk)
  have HN := Lib.hid (And.intro hn1 hn3)
  have HA := Lib.hid ha
  have BA := Lib.hid ba
  have HLN := Lib.hid hl
  clear T Q RR hp bp ha ba hk bk hn1 hn3 hl
  go_enter Tryd.func3, Tryd.ntmps3
  go_upto_region 0 with fail
  rename_i aK
  refine wp_region_seq ?_
  refine wpSeq_yield (S := fun _ => True) (yieldsIf_assign rfl _ rfl (.bool false) rfl) trivial ?_
  simp only [AP]
  refine wpSeq_nil ?_
  refine (by assumption : ∀ (a : Act) (w : World), _ → _) _ _ ?_
  go_upto_region 1 with fail
  rename_i aK
  refine wp_region_seq ?_
  refine wpSeq_wp rfl ?_
  unfold Oper.wp execOp
  go_simp
  refine (AC.out W (Below.refl _ _)).mono ?_
  rintro _ w2 ⟨rfl, b⟩
  clear AC
  go_simp
  refine wpSeq_yield (S := fun _ => True) (v := .bool false) (Or.inl ⟨by rfl, fun w' hw' => by go_simp⟩) trivial ?_
  simp only [AP]
  refine wpSeq_nil ?_
  refine (by assumption : ∀ (a : Act) (w : World), _ → _) _ _ ?_
  by_cases q0 : 200 < np
  · have q0' : (200 : Int) < (np : Int) := by omega
    go_upto_region 3 with fail
    rename_i aK
    refine wp_region_seq ?_
    refine wpSeq_yield (S := fun _ => True) (yieldsIf_move rfl _ rfl (.slice pp np cp) rfl) trivial ?_
    simp only [AP]
    refine wpSeq_yield (S := fun _ => True) (v := .int .i64 (np : Int)) (Or.inl ⟨by rfl, fun w' hw' => by go_simp⟩) trivial ?_
    simp only [AP]
    refine wpSeq_yield (S := fun _ => True) (v := .bool true) (Or.inl ⟨by rfl, fun w' hw' => by (go_simp; try omega)⟩) trivial ?_
    simp only [AP]
    refine wpSeq_yield (S := fun _ => True) (yieldsIf_move rfl _ rfl (.bool true) rfl) trivial ?_
    simp only [AP]
    refine wpSeq_yield (S := fun _ => True) (yieldsIf_off rfl) trivial ?_
    simp only [AP]
    refine wpSeq_yield (S := fun _ => True) (yieldsIf_off rfl) trivial ?_
    simp only [AP]
    refine wpSeq_yield (S := fun _ => True) (yieldsIf_off rfl) trivial ?_
    simp only [AP]
    refine wpSeq_yield (S := fun _ => True) (yieldsIf_pick rfl _ _ _ rfl true rfl (.bool true) rfl) trivial ?_
    simp only [AP]
    refine wpSeq_yield (S := fun _ => True) (yieldsIf_move rfl _ rfl (.bool true) rfl) trivial ?_
    simp only [AP]
    refine wpSeq_yield (S := fun _ => True) (yieldsIf_off rfl) trivial ?_
    simp only [AP]
    refine wpSeq_yield (S := fun _ => True) (yieldsIf_off rfl) trivial ?_
    simp only [AP]
    refine wpSeq_yield (S := fun _ => True) (yieldsIf_off rfl) trivial ?_
    simp only [AP]
    refine wpSeq_yield (S := fun _ => True) (yieldsIf_pick rfl _ _ _ rfl true rfl (.bool true) rfl) trivial ?_
    simp only [AP]
    refine wpSeq_nil ?_
    refine (by assumption : ∀ (a : Act) (w : World), _ → _) _ _ ?_
    go_upto_region 4 with fail
    rename_i aK
    refine wp_region_seq ?_
    refine wpSeq_yield (S := fun _ => True) (yieldsIf_assign rfl _ rfl (.bool true) rfl) trivial ?_
    simp only [AP]
    refine wpSeq_nil ?_
    refine (by assumption : ∀ (a : Act) (w : World), _ → _) _ _ ?_
    go_wp2
    go_ret
    exact ⟨rfl, b⟩
  have q0' : ¬ (200 : Int) < (np : Int) := by omega
  by_cases q1 : 50 < t.size
  · have q1' : (50 : Int) < (t.size : Int) := by omega
    go_upto_region 3 with fail
    rename_i aK
    refine wp_region_seq ?_
    refine wpSeq_yield (S := fun _ => True) (yieldsIf_move rfl _ rfl (.slice pp np cp) rfl) trivial ?_
    simp only [AP]
    refine wpSeq_yield (S := fun _ => True) (v := .int .i64 (np : Int)) (Or.inl ⟨by rfl, fun w' hw' => by go_simp⟩) trivial ?_
    simp only [AP]
    refine wpSeq_yield (S := fun _ => True) (v := .bool false) (Or.inl ⟨by rfl, fun w' hw' => by (go_simp; try omega)⟩) trivial ?_
    simp only [AP]
    refine wpSeq_yield (S := fun _ => True) (yieldsIf_move rfl _ rfl (.bool false) rfl) trivial ?_
    simp only [AP]
    refine wpSeq_yield (S := fun _ => True) (yieldsIf_move rfl _ rfl (.string t) rfl) trivial ?_
    simp only [AP]
    refine wpSeq_yield (S := fun _ => True) (v := .int .i64 (t.size : Int)) (Or.inl ⟨by rfl, fun w' hw' => by (go_simp)⟩) trivial ?_
    simp only [AP]
    refine wpSeq_yield (S := fun _ => True) (v := .bool true) (Or.inl ⟨by rfl, fun w' hw' => by (go_simp; try omega)⟩) trivial ?_
    simp only [AP]
    refine wpSeq_yield (S := fun _ => True) (yieldsIf_pick rfl _ _ _ rfl false rfl (.bool true) rfl) trivial ?_
    simp only [AP]
    refine wpSeq_yield (S := fun _ => True) (yieldsIf_move rfl _ rfl (.bool true) rfl) trivial ?_
    simp only [AP]
    refine wpSeq_yield (S := fun _ => True) (yieldsIf_off rfl) trivial ?_
    simp only [AP]
    refine wpSeq_yield (S := fun _ => True) (yieldsIf_off rfl) trivial ?_
    simp only [AP]
    refine wpSeq_yield (S := fun _ => True) (yieldsIf_off rfl) trivial ?_
    simp only [AP]
    refine wpSeq_yield (S := fun _ => True) (yieldsIf_pick rfl _ _ _ rfl true rfl (.bool true) rfl) trivial ?_
    simp only [AP]
    refine wpSeq_nil ?_
    refine (by assumption : ∀ (a : Act) (w : World), _ → _) _ _ ?_
    go_upto_region 4 with fail
    rename_i aK
    refine wp_region_seq ?_
    refine wpSeq_yield (S := fun _ => True) (yieldsIf_assign rfl _ rfl (.bool true) rfl) trivial ?_
    simp only [AP]
    refine wpSeq_nil ?_
    refine (by assumption : ∀ (a : Act) (w : World), _ → _) _ _ ?_
    go_wp2
    go_ret
    exact ⟨rfl, b⟩
  have q1' : ¬ (50 : Int) < (t.size : Int) := by omega
  by_cases q2 : 200 < nk
  · have q2' : (200 : Int) < (nk : Int) := by omega
    go_upto_region 3 with fail
    rename_i aK
    refine wp_region_seq ?_
    refine wpSeq_yield (S := fun _ => True) (yieldsIf_move rfl _ rfl (.slice pp np cp) rfl) trivial ?_
    simp only [AP]
    refine wpSeq_yield (S := fun _ => True) (v := .int .i64 (np : Int)) (Or.inl ⟨by rfl, fun w' hw' => by go_simp⟩) trivial ?_
    simp only [AP]
    refine wpSeq_yield (S := fun _ => True) (v := .bool false) (Or.inl ⟨by rfl, fun w' hw' => by (go_simp; try omega)⟩) trivial ?_
    simp only [AP]
    refine wpSeq_yield (S := fun _ => True) (yieldsIf_move rfl _ rfl (.bool false) rfl) trivial ?_
    simp only [AP]
    refine wpSeq_yield (S := fun _ => True) (yieldsIf_move rfl _ rfl (.string t) rfl) trivial ?_
    simp only [AP]
    refine wpSeq_yield (S := fun _ => True) (v := .int .i64 (t.size : Int)) (Or.inl ⟨by rfl, fun w' hw' => by (go_simp)⟩) trivial ?_
    simp only [AP]
    refine wpSeq_yield (S := fun _ => True) (v := .bool false) (Or.inl ⟨by rfl, fun w' hw' => by (go_simp; try omega)⟩) trivial ?_
    simp only [AP]
    refine wpSeq_yield (S := fun _ => True) (yieldsIf_pick rfl _ _ _ rfl false rfl (.bool false) rfl) trivial ?_
    simp only [AP]
    refine wpSeq_yield (S := fun _ => True) (yieldsIf_move rfl _ rfl (.bool false) rfl) trivial ?_
    simp only [AP]
    refine wpSeq_yield (S := fun _ => True) (yieldsIf_move rfl _ rfl (.slice pk nk ck) rfl) trivial ?_
    simp only [AP]
    refine wpSeq_yield (S := fun _ => True) (v := .int .i64 (nk : Int)) (Or.inl ⟨by rfl, fun w' hw' => by go_simp⟩) trivial ?_
    simp only [AP]
    refine wpSeq_yield (S := fun _ => True) (v := .bool true) (Or.inl ⟨by rfl, fun w' hw' => by (go_simp; try omega)⟩) trivial ?_
    simp only [AP]
    refine wpSeq_yield (S := fun _ => True) (yieldsIf_pick rfl _ _ _ rfl false rfl (.bool true) rfl) trivial ?_
    simp only [AP]
    refine wpSeq_nil ?_
    refine (by assumption : ∀ (a : Act) (w : World), _ → _) _ _ ?_
    go_upto_region 4 with fail
    rename_i aK
    refine wp_region_seq ?_
    refine wpSeq_yield (S := fun _ => True) (yieldsIf_assign rfl _ rfl (.bool true) rfl) trivial ?_
    simp only [AP]
    refine wpSeq_nil ?_
    refine (by assumption : ∀ (a : Act) (w : World), _ → _) _ _ ?_
    go_wp2
    go_ret
    exact ⟨rfl, b⟩
  have q2' : ¬ (200 : Int) < (nk : Int) := by omega
  go_upto_region 3 with fail
  rename_i aK
  refine wp_region_seq ?_
  refine wpSeq_yield (S := fun _ => True) (yieldsIf_move rfl _ rfl (.slice pp np cp) rfl) trivial ?_
  simp only [AP]
  refine wpSeq_yield (S := fun _ => True) (v := .int .i64 (np : Int)) (Or.inl ⟨by rfl, fun w' hw' => by go_simp⟩) trivial ?_
  simp only [AP]
  refine wpSeq_yield (S := fun _ => True) (v := .bool false) (Or.inl ⟨by rfl, fun w' hw' => by (go_simp; try omega)⟩) trivial ?_
  simp only [AP]
  refine wpSeq_yield (S := fun _ => True) (yieldsIf_move rfl _ rfl (.bool false) rfl) trivial ?_
  simp only [AP]
  refine wpSeq_yield (S := fun _ => True) (yieldsIf_move rfl _ rfl (.string t) rfl) trivial ?_
  simp only [AP]
  refine wpSeq_yield (S := fun _ => True) (v := .int .i64 (t.size : Int)) (Or.inl ⟨by rfl, fun w' hw' => by (go_simp)⟩) trivial ?_
  simp only [AP]
  refine wpSeq_yield (S := fun _ => True) (v := .bool false) (Or.inl ⟨by rfl, fun w' hw' => by (go_simp; try omega)⟩) trivial ?_
  simp only [AP]
  refine wpSeq_yield (S := fun _ => True) (yieldsIf_pick rfl _ _ _ rfl false rfl (.bool false) rfl) trivial ?_
  simp only [AP]
  refine wpSeq_yield (S := fun _ => True) (yieldsIf_move rfl _ rfl (.bool false) rfl) trivial ?_
  simp only [AP]
  refine wpSeq_yield (S := fun _ => True) (yieldsIf_move rfl _ rfl (.slice pk nk ck) rfl) trivial ?_
  simp only [AP]
  refine wpSeq_yield (S := fun _ => True) (v := .int .i64 (nk : Int)) (Or.inl ⟨by rfl, fun w' hw' => by go_simp⟩) trivial ?_
  simp only [AP]
  refine wpSeq_yield (S := fun _ => True) (v := .bool false) (Or.inl ⟨by rfl, fun w' hw' => by (go_simp; try omega)⟩) trivial ?_
  simp only [AP]
  refine wpSeq_yield (S := fun _ => True) (yieldsIf_pick rfl _ _ _ rfl false rfl (.bool false) rfl) trivial ?_
  simp only [AP]
  refine wpSeq_nil ?_
  refine (by assumption : ∀ (a : Act) (w : World), _ → _) _ _ ?_
  have LM : np ≤ 200 ∧ t.size ≤ 50 ∧ nk ≤ 200 := by omega
  replace LM := Lib.hid LM
  clear q0 q1 q2 q0' q1' q2'
  have F2 := TQ.out w2 b
  have NC1 := Lib.hid (new_c psk pp np cp w2 F2.1 F2.2.1 F2.2.2.2.1 BB.out.1 (by have := HN.out.1; have := LM.out; omega))
  clear F2
  go_upto_region 5 with fail
  rename_i aK
  refine wp_region_seq ?_
  refine wpSeq_yield (S := fun _ => True) (yieldsIf_move rfl _ rfl (.slice pp np cp) rfl) trivial ?_
  simp only [AP]
  refine wpSeq_wp rfl ?_
  unfold Oper.wp execOp
  go_simp
  refine (NC1.out).mono ?_
  rintro _ w3 ⟨gx, rfl, X, b3⟩
  replace X := X.mono b.size
  replace b := b.trans (b3.mono b.size)
  clear b3 NC1
  have BC := Lib.hid (begin_c psk pp np cp w3 (TQ.out w3 b).2.2.1 (TQ.out w3 b).2.2.2.1 BB.out.1 (by have := HN.out.1; have := LM.out; omega))
  go_simp
  refine wpSeq_yield (S := fun _ => True) (yieldsIf_move rfl _ rfl (.slice pp np cp) rfl) trivial ?_
  simp only [AP]
  refine wpSeq_wp rfl ?_
  unfold Oper.wp execOp
  go_simp
  refine (BC.out).mono ?_
  rintro _ w4 ⟨rfl, b4⟩
  replace X := X.below b4
  replace b := b.trans (b4.mono b.size)
  clear b4 BC
  go_simp
  refine wpSeq_yield (S := fun _ => True) (yieldsIf_shad rfl _ rfl (beginL psk) rfl (beginL_length _)) trivial ?_
  simp only [AP]
  refine wpSeq_wp rfl ?_
  unfold Oper.wp execOp
  go_simp
  refine wpSeq_yield (S := fun _ => True) (yieldsIf_assign rfl _ rfl (.pointer (some ⟨gx, 0, none⟩)) rfl) trivial ?_
  simp only [AP]
  refine wpSeq_store_row rfl 31 _ _ rfl w4.heap.size (rowS (.slice none 0 0) (beginL psk)) rfl rfl _ _ (Blk.new w4 _ _) (info_shad _ _ (beginL_length _)) (by rw [rowS_size, beginL_length]; rfl) (rowS_one _ _ _ _) ?_
  simp only [Act.put]
  refine wpSeq_nil ?_
  refine (by assumption : ∀ (a : Act) (w : World), _ → _) _ _ ?_
  generalize hwx : World.setRow _ w4.heap.size _ = w5
  have FX : Blk w5 w4.heap.size 31 (rowS (.slice none 0 0) (beginL psk)) ∧ Below w4.heap.size w4 w5 := by
    rw [← hwx]
    exact one_row _ _ _ _
  clear hwx
  obtain ⟨KS, bx⟩ := FX
  have xl := X.blk.lt
  have PL0 : PL W w5 w4.heap.size gx (.slice none 0 0) (.slice none 0 0) [] (beginL psk) [] (beginL psk) := ⟨X.below bx, ⟨KS, b.size, OwL.nil _ _, (fun h => by cases h), Bytes.nil, beginL_bytes _, beginL_length _⟩, by omega, (fun h => by cases h), (fun h => by cases h), (fun k h => by cases h), b.trans (bx.mono b.size)⟩
  clear KS bx X b xl
  obtain ⟨gs, hgs⟩ : ∃ k, w4.heap.size = k := ⟨_, rfl⟩
  rw [hgs] at PL0 ⊢
  clear hgs
  go_upto_region 6 with fail
  rename_i aK
  refine wp_region_seq ?_
  refine wpSeq_yield (S := fun _ => True) (yieldsIf_move rfl _ rfl (.slice pa na ca) rfl) trivial ?_
  simp only [AP]
  refine wpSeq_yield (S := fun _ => True) (v := .int .i64 (na : Int)) (Or.inl ⟨by rfl, fun w' hw' => by go_simp⟩) trivial ?_
  simp only [AP]
  refine wpSeq_yield (S := fun _ => True) (yieldsIf_move rfl _ rfl (.int .i64 0) rfl) trivial ?_
  simp only [AP]
  refine wpSeq_nil ?_
  refine (by assumption : ∀ (a : Act) (w : World), _ → _) _ _ ?_
  go_upto_region 7 with fail
  rename_i KT aT KL
  have TAIL : ∀ {g : Nat} {sv vm : Value} {m s : List Nat} {w : World} {x4 x5 x6 x7 x8 x11 x12 x13 x14 x15 x16 x17 x18 x19 x20 x21 x22 x23 x24 x25 x26 x27 x28 x29 x30 x31 x32 x33 x34 x35 x36 x37 x38 x39 x40 x41 x42 x43 x44 x45 x46 x47 x48 x49 x50 x51 x52 x53 x54 x55 x56 x57 x58 x59 x60 x61 x62 x63 x64 x65 x66 x67 x68 x69 x70 x71 x72 x73 x74 x75 x76 x77 x78 x79 x80 x81 x82 x83 x84 x85 x86 x87 x88 x89 x90 x91 x92 x93 x94 x95 x96 x97 x98 x99 x100 x101 x102 x103 x104 x105 x106 x107 x108 x109 x110 x111 x112 x113 x114 x115 x116 x117 x118 x119 x120 x121 x122 x123 x124 x125 x126 x127 x128 x129 x130 x131 x132 x133 x134 x135 x136 x137 x138 x139 x140 x141 x142 x143 x144 x145 x146 x147 x148 x149 x150 x151 x152 x153 x154 x155 x156 x157 x158 x159 x160 x161 x162 x163 x164 x165 x166 x167 x168 x169 x170 x171 x172 x173 x174 x175 x176 x177 x178 x179 x180 x181 x182 x183 x184 x185 x186 x187 x188 x189 : Value}, PL W w gs g sv vm m s m s → m.length ≤ 3600 → KT { tmps := #[.slice pp np cp, .slice pa na ca, .string t, .slice pk nk ck, x4, x5, x6, x7, x8, .pointer (some ⟨g, 0, none⟩), .pointer (some ⟨gs, 0, none⟩), x11, x12, x13, x14, x15, x16, x17, x18, x19, x20, x21, x22, x23, x24, x25, x26, x27, x28, x29, x30, x31, x32, x33, x34, x35, x36, x37, x38, x39, x40, x41, x42, x43, x44, x45, x46, x47, x48, x49, x50, x51, x52, x53, x54, x55, x56, x57, x58, x59, x60, x61, x62, x63, x64, x65, x66, x67, x68, x69, x70, x71, x72, x73, x74, x75, x76, x77, x78, x79, x80, x81, x82, x83, x84, x85, x86, x87, x88, x89, x90, x91, x92, x93, x94, x95, x96, x97, x98, x99, x100, x101, x102, x103, x104, x105, x106, x107, x108, x109, x110, x111, x112, x113, x114, x115, x116, x117, x118, x119, x120, x121, x122, x123, x124, x125, x126, x127, x128, x129, x130, x131, x132, x133, x134, x135, x136, x137, x138, x139, x140, x141, x142, x143, x144, x145, x146, x147, x148, x149, x150, x151, x152, x153, x154, x155, x156, x157, x158, x159, x160, x161, x162, x163, x164, x165, x166, x167, x168, x169, x170, x171, x172, x173, x174, x175, x176, x177, x178, x179, x180, x181, x182, x183, x184, x185, x186, x187, x188, x189], defers := [] } w := by
    intro g sv vm m s w x4 x5 x6 x7 x8 x11 x12 x13 x14 x15 x16 x17 x18 x19 x20 x21 x22 x23 x24 x25 x26 x27 x28 x29 x30 x31 x32 x33 x34 x35 x36 x37 x38 x39 x40 x41 x42 x43 x44 x45 x46 x47 x48 x49 x50 x51 x52 x53 x54 x55 x56 x57 x58 x59 x60 x61 x62 x63 x64 x65 x66 x67 x68 x69 x70 x71 x72 x73 x74 x75 x76 x77 x78 x79 x80 x81 x82 x83 x84 x85 x86 x87 x88 x89 x90 x91 x92 x93 x94 x95 x96 x97 x98 x99 x100 x101 x102 x103 x104 x105 x106 x107 x108 x109 x110 x111 x112 x113 x114 x115 x116 x117 x118 x119 x120 x121 x122 x123 x124 x125 x126 x127 x128 x129 x130 x131 x132 x133 x134 x135 x136 x137 x138 x139 x140 x141 x142 x143 x144 x145 x146 x147 x148 x149 x150 x151 x152 x153 x154 x155 x156 x157 x158 x159 x160 x161 x162 x163 x164 x165 x166 x167 x168 x169 x170 x171 x172 x173 x174 x175 x176 x177 x178 x179 x180 x181 x182 x183 x184 x185 x186 x187 x188 x189 PLt lm
    refine aT _ _ ?_
    clear aT PL0
    obtain ⟨pm, cm, rfl⟩ := PLt.sha.row.shape
    obtain ⟨mm, hmm⟩ : ∃ k, m.length = k := ⟨_, rfl⟩
    rw [hmm] at PLt
    have LMM := Lib.hid lm
    replace hmm := Lib.hid hmm
    have bm := PLt.sch.bm
    have ls := PLt.sch.ls
    have bs := PLt.sch.bs
    have XC := Lib.hid (fun (w' : World) (h : Below W.heap.size W w') (hb : SB w' (.slice pm mm cm) m) => rsha_any w' cuT sqT m bm (.slice pm mm cm) hb (by have := LMM.out; omega) (TQ.out w' h).2.2.1)
    have NC := Lib.hid (fun (w' : World) (h : Below W.heap.size W w') => rsha_any w' cuT sqT [] Bytes.nil (.slice none 0 0) (SB.nil w' none 0) (by decide) (TQ.out w' h).2.2.1)
    have MC := Lib.hid (fun (w' : World) (h : Below W.heap.size W w') => rsha_any w' cuT sqT more BB.out.2 (.slice pk nk ck) (TQ.out w' h).2.2.2.2 (by have := HN.out; have := LM.out; omega) (TQ.out w' h).2.2.1)
    have TC := Lib.hid (fun (w' : World) (h : Below W.heap.size W w') (X : SS W.heap.size w' g sv m s) => traf_c W.heap.size g sv m s t w' X (TQ.out w' h).1 (TQ.out w' h).2.1 (by have := LMM.out; omega) (by have := LM.out; omega))
    have S1 := Lib.hid (fun (w' : World) (h : Below W.heap.size W w') (X : SS W.heap.size w' g sv m s) => sum_c W.heap.size g sv m s [] none 0 0 w' X (TQ.out w' h).1 (TQ.out w' h).2.1 (sp_nil w') (fun l h => by cases h) (by have := LMM.out; omega) (by simp) (by simp))
    have S2 := Lib.hid (fun (w' : World) (h : Below W.heap.size W w') (X : SS W.heap.size w' g sv m s) (p : Option Addr) (hp : SP w' (.slice p 1 1) [more]) => sum_c W.heap.size g sv m s [more] p 1 1 w' X (TQ.out w' h).1 (TQ.out w' h).2.1 hp (fun l h => by rw [List.mem_singleton.1 h]; exact BB.out.2) (by have := LMM.out; omega) (by have := HN.out; have := LM.out; simp; omega) (by simp))
    have YC := Lib.hid (fun (w' : World) (h : Below W.heap.size W w') (v : Value) (hb : SB w' v (m ++ more)) => rsha_any w' cuT sqT (m ++ more) (bm.append BB.out.2) v hb (by have := LMM.out; have := HN.out; have := LM.out; rw [List.length_append]; omega) (TQ.out w' h).2.2.1)
    have DC := Lib.hid (fun (w' : World) (h : Below W.heap.size W w') (wh : ByteArray) (hw : wh.size ≤ 1) (g7 : Nat) (hc : SB w' (.slice (some ⟨g7, 0, none⟩) 32 32) (sha cuT sqT m)) => derive_c s (sha cuT sqT m) (sideS wh t) (some ⟨g7, 0, none⟩) 32 32 w' (TQ.out w' h).2.2.1 ls bs hc (sha_bytes _ _ _) (by rw [sideS_size]; have := LM.out; omega) (by rw [sha_length]; decide))
    have BC2 := Lib.hid (fun (w' : World) (h : Below W.heap.size W w') (X : SS W.heap.size w' g sv m s) => bind_c W.heap.size g sv m s more pk nk ck w' X (TQ.out w' h).1 (TQ.out w' h).2.1 (TQ.out w' h).2.2.2.2 BB.out.2 (by have := HN.out; have := LM.out; omega))
    have AC2 := Lib.hid (fun (w' : World) (h : Below W.heap.size W w') (g7 : Nat) (hc : SB w' (.slice (some ⟨g7, 0, none⟩) 32 32) (sha cuT sqT [])) => derive_c s (sha cuT sqT []) bndS (some ⟨g7, 0, none⟩) 32 32 w' (TQ.out w' h).2.2.1 ls bs hc (sha_bytes _ _ _) (by decide) (by rw [sha_length]; decide))
    have FC2 := Lib.hid (fun (w' : World) (h : Below W.heap.size W w') => rfin_c (labL s bndS (sha cuT sqT []) 32) (sha cuT sqT more) (labL_length _ _ _ _) (labL_bytes _ _ _ _) (sha_length _ _ _) (sha_bytes _ _ _) w' (TQ.out w' h).2.2.1)
    rw [show m ++ ([] : List (List Nat)).flatten = m by simp] at S1
    rw [show m ++ [more].flatten = m ++ more by simp] at S2
    rw [show finL (labL s bndS (sha cuT sqT []) 32) (sha cuT sqT more) = bindL s more from rfl] at FC2
    have DC1 := Lib.hid (fun w' h => DC.out w' h cS (by decide))
    have DC2 := Lib.hid (fun w' h => DC.out w' h sS (by decide))
    rw [show labL s (sideS cS t) (sha cuT sqT m) 32 = cliL m s t from rfl] at DC1
    rw [show labL s (sideS sS t) (sha cuT sqT m) 32 = srvL m s t from rfl] at DC2
    clear DC
    have lX := Lib.hid (sha_length cuT sqT m)
    have lN := Lib.hid (sha_length cuT sqT [])
    have lM := Lib.hid (sha_length cuT sqT more)
    have lY := Lib.hid (sha_length cuT sqT (m ++ more))
    have lC := Lib.hid (show (cliL m s t).length = 32 from labL_length _ _ _ _)
    have lV := Lib.hid (show (srvL m s t).length = 32 from labL_length _ _ _ _)
    have lA := Lib.hid (labL_length s bndS (sha cuT sqT []) 32)
    have lB := Lib.hid (bindL_length s more)
    generalize labL s bndS (sha cuT sqT []) 32 = AP_ at *
    generalize bindL s more = BD at *
    generalize cliL m s t = CL at *
    generalize srvL m s t = SV at *
    generalize sha cuT sqT (m ++ more) = Y at *
    generalize sha cuT sqT m = X at *
    generalize sha cuT sqT [] = NN at *
    generalize sha cuT sqT more = MM at *
    have z1 : ¬ 9223372036854775807 < 2 + t.size := by have := LM.out; omega
    have z2 : ¬ 9223372036854775807 < cS.size + blS.size + t.size + 8 := by
      have := LM.out
      have h1 : cS.size = 1 := by decide
      have h2 : blS.size = 1 := by decide
      omega
    have z3 : ¬ 9223372036854775807 < sS.size + blS.size + t.size + 8 := z2
    have ls' := Lib.hid ls
    have bm' := Lib.hid bm
    clear bm ls bs lm
    have cm0 := PLt.sha.cell
    go_upto_region 27 with fail
    rename_i aK
    refine wp_region_seq ?_
    refine wpSeq_yield (S := fun _ => True) (v := .pointer (some ⟨gs, 0, none⟩)) (Or.inl ⟨by rfl, fun w' hw' => by go_simp⟩) trivial ?_
    simp only [AP]
    refine wpSeq_yield (S := fun w' => w' = w) (v := .slice pm mm cm) (Or.inl ⟨by rfl, fun w' hw' => by (rw [hw']; go_simp)⟩) rfl ?_
    simp only [AP]
    refine wpSeq_wp rfl ?_
    unfold Oper.wp execOp
    go_simp
    refine (XC.out w PLt.bel PLt.sha.row.sb).mono ?_
    rintro _ w2 ⟨rfl, b2⟩
    replace PLt := PLt.below b2
    clear b2 XC cm0
    go_simp
    refine wpSeq_wp rfl ?_
    unfold Oper.wp execOp
    go_simp
    refine wpSeq_store_row rfl 28 _ _ rfl w2.heap.size (Iv .u8 (NI X)) rfl rfl _ _ (Blk.new w2 _ _) (info_k32 X lX.out) (size_32 (rfl : (List.replicate 32 0).length = 32) lX.out) (u8s_one _) ?_
    simp only [Act.put]
    refine wpSeq_nil ?_
    refine (by assumption : ∀ (a : Act) (w : World), _ → _) _ _ ?_
    generalize hwx : World.setRow _ w2.heap.size _ = w3
    have FX : Blk w3 w2.heap.size 28 (Iv .u8 (NI X)) ∧ Below w2.heap.size w2 w3 := by
      rw [← hwx]
      exact one_row _ _ _ _
    clear hwx
    obtain ⟨J17, bx⟩ := FX
    replace PLt := PLt.below bx
    clear bx
    obtain ⟨g17, hgx⟩ : ∃ k, w2.heap.size = k := ⟨_, rfl⟩
    rw [hgx] at J17 ⊢
    clear hgx
    go_upto_region 28 with fail
    rename_i aK
    refine wp_region_seq ?_
    refine wpSeq_wp rfl ?_
    unfold Oper.wp execOp
    go_simp
    refine (NC.out w3 PLt.bel).mono ?_
    rintro _ w4 ⟨rfl, b4⟩
    replace PLt := PLt.below b4
    replace J17 := J17.below' b4
    clear b4 NC
    go_simp
    refine wpSeq_wp rfl ?_
    unfold Oper.wp execOp
    go_simp
    refine wpSeq_store_row rfl 28 _ _ rfl w4.heap.size (Iv .u8 (NI NN)) rfl rfl _ _ (Blk.new w4 _ _) (info_k32 NN lN.out) (size_32 (rfl : (List.replicate 32 0).length = 32) lN.out) (u8s_one _) ?_
    simp only [Act.put]
    refine wpSeq_nil ?_
    refine (by assumption : ∀ (a : Act) (w : World), _ → _) _ _ ?_
    generalize hwx : World.setRow _ w4.heap.size _ = w5
    have FX : Blk w5 w4.heap.size 28 (Iv .u8 (NI NN)) ∧ Below w4.heap.size w4 w5 := by
      rw [← hwx]
      exact one_row _ _ _ _
    clear hwx
    obtain ⟨J18, bx⟩ := FX
    replace PLt := PLt.below bx
    replace J17 := J17.below' bx
    clear bx
    obtain ⟨g18, hgx⟩ : ∃ k, w4.heap.size = k := ⟨_, rfl⟩
    rw [hgx] at J18 ⊢
    clear hgx
    go_upto_region 29 with fail
    rename_i aK
    refine wp_region_seq ?_
    refine wpSeq_yield (S := fun _ => True) (yieldsIf_move rfl _ rfl (.pointer (some ⟨g, 0, none⟩)) rfl) trivial ?_
    simp only [AP]
    refine wpSeq_yield (S := fun _ => True) (yieldsIf_move rfl _ rfl (.string t) rfl) trivial ?_
    simp only [AP]
    refine wpSeq_wp rfl ?_
    unfold Oper.wp execOp
    go_simp
    refine (TC.out w5 PLt.bel PLt.sch).mono ?_
    rintro _ w6 ⟨rfl, b6⟩
    replace PLt := PLt.below b6
    replace J17 := J17.below' b6
    replace J18 := J18.below' b6
    clear b6 TC
    go_simp
    refine wpSeq_yield (S := fun _ => True) (yieldsIf_move rfl _ rfl (.tuple #[.agg (Iv .u8 (NI CL)), .agg (Iv .u8 (NI SV))]) rfl) trivial ?_
    simp only [AP]
    refine wpSeq_yield (S := fun _ => True) (v := .agg (Iv .u8 (NI CL))) (Or.inl ⟨by rfl, fun w' hw' => by go_simp⟩) trivial ?_
    simp only [AP]
    refine wpSeq_yield (S := fun _ => True) (v := .agg (Iv .u8 (NI SV))) (Or.inl ⟨by rfl, fun w' hw' => by go_simp⟩) trivial ?_
    simp only [AP]
    refine wpSeq_wp rfl ?_
    unfold Oper.wp execOp
    go_simp
    refine wpSeq_wp rfl ?_
    unfold Oper.wp execOp
    go_simp
    generalize hW : World.alloc (World.alloc w6 _) _ = wA
    obtain ⟨Z1, Z2, hZ1, hZ2, J1a, J2a, bA⟩ : ∃ Z1 Z2 : Array Value, Z1.size = 32 ∧ Z2.size = 32 ∧ Blk wA w6.heap.size 28 Z1 ∧ Blk wA (w6.heap.size + 1) 28 Z2 ∧ Below w6.heap.size w6 wA := by
      rw [← hW]
      exact ⟨_, _, rfl, rfl, two_alloc w6 _ _ _ _⟩
    clear hW
    refine wpSeq_store_row rfl 28 _ _ rfl w6.heap.size (Iv .u8 (NI CL)) rfl rfl _ _ J1a (info_k32 CL lC.out) (by rw [Iv_size, NI_length, lC.out]; exact hZ1) (u8s_one _) ?_
    simp only [Act.put]
    have J1b := J1a.row (Iv .u8 (NI CL))
    have J2b : Blk (wA.setRow w6.heap.size (Iv .u8 (NI CL))) (w6.heap.size + 1) 28 Z2 := J2a.rowFar (by omega) _
    have bB := below_setRow bA (Nat.le_refl _) (Iv .u8 (NI CL))
    generalize World.setRow wA _ _ = wB at *
    clear J1a J2a bA hZ1
    refine wpSeq_store_row rfl 28 _ _ rfl (w6.heap.size + 1) (Iv .u8 (NI SV)) rfl rfl _ _ J2b (info_k32 SV lV.out) (by rw [Iv_size, NI_length, lV.out]; exact hZ2) (u8s_one _) ?_
    simp only [Act.put]
    have J19 : Blk (wB.setRow (w6.heap.size + 1) (Iv .u8 (NI SV))) w6.heap.size 28 (Iv .u8 (NI CL)) := J1b.rowFar (by omega) _
    have J20 := J2b.row (Iv .u8 (NI SV))
    have bC := below_setRow bB (Nat.le_succ _) (Iv .u8 (NI SV))
    generalize World.setRow wB _ _ = w7 at *
    clear J1b J2b bB hZ2
    replace J17 := J17.below' bC
    replace J18 := J18.below' bC
    replace PLt := PLt.below bC
    clear bC
    obtain ⟨g19, hg⟩ : ∃ k, w6.heap.size = k := ⟨_, rfl⟩
    rw [hg] at J19 J20  ⊢
    clear hg
    refine wpSeq_nil ?_
    refine (by assumption : ∀ (a : Act) (w : World), _ → _) _ _ ?_
    go_upto_region 30 with fail
    rename_i aK
    refine wp_region_seq ?_
    refine wpSeq_yield (S := fun _ => True) (yieldsIf_move rfl _ rfl (.slice pk nk ck) rfl) trivial ?_
    simp only [AP]
    refine wpSeq_wp rfl ?_
    unfold Oper.wp execOp
    go_simp
    refine (MC.out w7 PLt.bel).mono ?_
    rintro _ w8 ⟨rfl, b8⟩
    replace PLt := PLt.below b8
    replace J17 := J17.below' b8
    replace J18 := J18.below' b8
    replace J19 := J19.below' b8
    replace J20 := J20.below' b8
    clear b8 MC
    go_simp
    refine wpSeq_wp rfl ?_
    unfold Oper.wp execOp
    go_simp
    refine wpSeq_store_row rfl 28 _ _ rfl w8.heap.size (Iv .u8 (NI MM)) rfl rfl _ _ (Blk.new w8 _ _) (info_k32 MM lM.out) (size_32 (rfl : (List.replicate 32 0).length = 32) lM.out) (u8s_one _) ?_
    simp only [Act.put]
    refine wpSeq_nil ?_
    refine (by assumption : ∀ (a : Act) (w : World), _ → _) _ _ ?_
    generalize hwx : World.setRow _ w8.heap.size _ = w9
    have FX : Blk w9 w8.heap.size 28 (Iv .u8 (NI MM)) ∧ Below w8.heap.size w8 w9 := by
      rw [← hwx]
      exact one_row _ _ _ _
    clear hwx
    obtain ⟨J21, bx⟩ := FX
    replace PLt := PLt.below bx
    replace J17 := J17.below' bx
    replace J18 := J18.below' bx
    replace J19 := J19.below' bx
    replace J20 := J20.below' bx
    clear bx
    obtain ⟨g21, hgx⟩ : ∃ k, w8.heap.size = k := ⟨_, rfl⟩
    rw [hgx] at J21 ⊢
    clear hgx
    have bd := below_drew (Below.refl w9.heap.size w9)
    replace PLt := PLt.below bd
    replace J17 := J17.below' bd
    replace J18 := J18.below' bd
    replace J19 := J19.below' bd
    replace J20 := J20.below' bd
    replace J21 := J21.below' bd
    clear bd
    go_upto_region 31 with fail
    rename_i aK
    refine wp_region_Z (S := fun w' => Below w9.drew.heap.size w9.drew w') 52 (by kernel_rfl) ?_
    generalize w9.drew = w10 at *
    have hS := Below.refl w10.heap.size w10
    have RP := Lib.hid (fun (w' : World) (h : Below w10.heap.size w10 w') => PLt.below h)
    have RT := Lib.hid (fun (w' : World) (h : Below w10.heap.size w10 w') => PLt.bel.trans (h.mono PLt.bel.size))
    have CX := Lib.hid (fun (w' : World) (h : Below w10.heap.size w10 w') => sb_key (J17.below' h) lX.out)
    have CN := Lib.hid (fun (w' : World) (h : Below w10.heap.size w10 w') => sb_key (J18.below' h) lN.out)
    have cM := Lib.hid (fun (w' : World) (h : Below w10.heap.size w10 w') => (PLt.below h).sha.cell)
    have Rsb := Lib.hid (fun (w' : World) (h : Below w10.heap.size w10 w') => (PLt.below h).sha.row.sb)
    have hWs := PLt.bel.size
    have RJ17 := Lib.hid (fun (w' : World) (h : Below w10.heap.size w10 w') => J17.below' h)
    clear J17
    have RJ18 := Lib.hid (fun (w' : World) (h : Below w10.heap.size w10 w') => J18.below' h)
    clear J18
    have RJ19 := Lib.hid (fun (w' : World) (h : Below w10.heap.size w10 w') => J19.below' h)
    clear J19
    have RJ20 := Lib.hid (fun (w' : World) (h : Below w10.heap.size w10 w') => J20.below' h)
    clear J20
    have RJ21 := Lib.hid (fun (w' : World) (h : Below w10.heap.size w10 w') => J21.below' h)
    clear J21
    clear PLt
    refine wpAnyZ_takeL 0 (v := .pointer (some ⟨g, 0, none⟩)) rfl (by kernel_rfl) (by kernel_rfl) (by kernel_rfl) (by kernel_rfl) (by kernel_rfl) (fun _ _ _ H => H) (yieldsIf_move rfl _ rfl (.pointer (some ⟨g, 0, none⟩)) rfl) hS ?_
    simp only [AP]
    refine wpAnyZ_takeL 2 (v := .agg (Iv .u8 (NI X))) rfl (by kernel_rfl) (by kernel_rfl) (by kernel_rfl) (by kernel_rfl) (by kernel_rfl) (fun _ _ _ H => H) (show YieldsIf _ _ _ _ (.agg (Iv .u8 (NI X))) _ from yieldsIf_row_wanted (S := fun w' => Below w10.heap.size w10 w') rfl 28 _ rfl (g17) rfl 28 _ _ RJ17.out Tryd.underlying28 rfl (info_k32 X lX.out)) hS ?_
    simp only [AP]
    refine gzstep 1 rfl (by kernel_rfl) rfl ?_
    unfold Oper.wp execOp
    go_simp
    refine (S1.out w10 (RT.out w10 hS) (RP.out w10 hS).sch).mono ?_
    rintro _ w11 ⟨rfl, b11⟩
    have h11 := hS.trans (b11.mono hS.size)
    clear b11 S1 hS
    refine ⟨h11, ?_⟩
    refine wpAnyZ_takeL 3 (v := .bool true) rfl (by kernel_rfl) (by kernel_rfl) (by kernel_rfl) (by kernel_rfl) (by kernel_rfl) (fun _ _ _ H => H) (yieldsIf_eqs rfl _ _ rfl X lX.out rfl rfl) h11 ?_
    simp only [AP]
    refine wpAnyZ_takeL 4 (v := .bool true) rfl (by kernel_rfl) (by kernel_rfl) (by kernel_rfl) (by kernel_rfl) (by kernel_rfl) (fun _ _ _ H => H) (yieldsIf_move rfl _ rfl (.bool true) rfl) h11 ?_
    simp only [AP]
    refine wpAnyZ_takeL 5 (v := .pointer (some ⟨g, 0, none⟩)) rfl (by kernel_rfl) (by kernel_rfl) (by kernel_rfl) (by kernel_rfl) (by kernel_rfl) (fun _ _ _ H => H) (yieldsIf_move rfl _ rfl (.pointer (some ⟨g, 0, none⟩)) rfl) h11 ?_
    simp only [AP]
    refine wpAnyZ_takeL 6 (v := .slice pk nk ck) rfl (by kernel_rfl) (by kernel_rfl) (by kernel_rfl) (by kernel_rfl) (by kernel_rfl) (fun _ _ _ H => H) (yieldsIf_move rfl _ rfl (.slice pk nk ck) rfl) h11 ?_
    simp only [AP]
    refine wpAnyZ_takeL 10 (v := .pointer (some ⟨gs, 0, none⟩)) rfl (by kernel_rfl) (by kernel_rfl) (by kernel_rfl) (by kernel_rfl) (by kernel_rfl) (fun _ _ _ H => H) (Or.inl ⟨by rfl, fun w' hw' => by (go_simp)⟩) h11 ?_
    simp only [AP]
    refine wpAnyZ_takeL 11 (v := .slice pm mm cm) rfl (by kernel_rfl) (by kernel_rfl) (by kernel_rfl) (by kernel_rfl) (by kernel_rfl) (fun _ _ _ H => H) (Or.inl ⟨by rfl, fun w' hw' => by (have hc := cM.out w' hw'; go_simp)⟩) h11 ?_
    simp only [AP]
    refine wpAnyZ_takeL 13 (v := .slice pk nk ck) rfl (by kernel_rfl) (by kernel_rfl) (by kernel_rfl) (by kernel_rfl) (by kernel_rfl) (fun _ _ _ H => H) (yieldsIf_move rfl _ rfl (.slice pk nk ck) rfl) h11 ?_
    simp only [AP]
    refine wpAnyZ_jobsRL [(⟨7, 145⟩, .rel (fun v w' => ∃ p, v = .slice p 1 1 ∧ SP w' (.slice p 1 1) [more])), (⟨8, 146⟩, .is (.agg (Iv .u8 (NI Y)))), (⟨9, 147⟩, .rel (fun v w' => ∃ p, v = .slice p 0 0 ∧ OwL w10.heap.size w' (.slice p 0 0) []))] 40 _ _ _ (by kernel_rfl) (fun _ _ _ _ _ h => h) (fun _ _ h hb => h.trans (hb.mono h.size)) h11 ?_ ?_ ?_
    · intro j hj
      simp only [List.map_cons, List.map_nil, List.mem_cons, List.not_mem_nil, or_false] at hj
      rcases hj with rfl | rfl | rfl
      · rintro v w1 w2 ⟨p, e, H⟩ hb
        exact ⟨p, e, H.below hb⟩
      · exact fun _ _ _ h _ => h
      · rintro v w1 w2 ⟨p, e, H⟩ hb
        exact ⟨p, e, H.below hb⟩
    · intro j hj
      simp only [List.map_cons, List.map_nil, List.mem_cons, List.not_mem_nil, or_false] at hj
      rcases hj with rfl | rfl | rfl
      · refine jobR_frame [] (by kernel_rfl) ?_
        intro f W1 K1 hS' hp hK
        simp only [putAll, List.foldr_nil, Act.put]
        try simp only [putAll, List.foldr_nil, Act.put, List.setIfInBounds_toArray, List.set_cons_zero, List.set_cons_succ] at hK
        unfold wpOp
        go_simp
        left
        exact hK _ _ ⟨_, rfl, sp_one 22 (TQ.out W1 (RT.out W1 hS')).2.2.2.2⟩ ((Below.refl _ _).alloc (Nat.le_refl _) _)
      · refine jobR_frame [⟨7, 145⟩] (by kernel_rfl) ?_
        intro f W1 K1 hS' hp hK
        obtain ⟨p, e1, H⟩ : ∃ p, f 7 = .slice p 1 1 ∧ SP W1 (.slice p 1 1) [more] := hp ⟨7, 145⟩ (by simp)
        simp only [putAll, List.foldr_cons, List.foldr_nil, Act.put, List.setIfInBounds_toArray, List.set_cons_zero, List.set_cons_succ, e1]
        try simp only [putAll, List.foldr_cons, List.foldr_nil, Act.put, List.setIfInBounds_toArray, List.set_cons_zero, List.set_cons_succ, e1] at hK
        unfold wpOp
        go_simp
        left
        refine (S2.out W1 (RT.out W1 hS') (RP.out W1 hS').sch p H).mono ?_
        rintro e v ⟨rfl, b⟩
        exact hK _ _ rfl b
      · refine jobR_frame [] (by kernel_rfl) ?_
        intro f W1 K1 hS' hp hK
        simp only [putAll, List.foldr_nil, Act.put]
        try simp only [putAll, List.foldr_nil, Act.put, List.setIfInBounds_toArray, List.set_cons_zero, List.set_cons_succ] at hK
        unfold wpOp
        go_simp
        left
        exact hK _ _ ⟨_, rfl, ow_none _ _ hS'.size⟩ ((Below.refl _ _).alloc (Nat.le_refl _) _)
    · intro f W1 hS2 hB1 hR
      obtain ⟨p7, e7, _⟩ : ∃ p, f 7 = .slice p 1 1 ∧ SP W1 (.slice p 1 1) [more] := hR ⟨7, 145⟩ (by simp)
      have e8 : f 8 = .agg (Iv .u8 (NI Y)) := hR ⟨8, 146⟩ (by simp)
      obtain ⟨p9, e9, O9⟩ : ∃ p, f 9 = .slice p 0 0 ∧ OwL w10.heap.size W1 (.slice p 0 0) [] := hR ⟨9, 147⟩ (by simp)
      clear hR
      simp only [setAll, List.map_cons, List.map_nil, putAll, List.foldr_cons, List.foldr_nil, Act.put, List.setIfInBounds_toArray, List.set_cons_zero, List.set_cons_succ, e7, e8, e9]
      clear e7 e8 e9 hB1 h11
      obtain ⟨v1, w12, r12, O12, B12⟩ := append_more w10.heap.size w10 W1 22 _ _ [] m O9 (Rsb.out W1 hS2) (by have := LMM.out; simp; omega) hS2 hS2.size
      rw [List.nil_append] at O12
      obtain ⟨v2, w13, r13, O13, B13⟩ := append_more w10.heap.size w10 w12 22 v1 _ m more O12 (TQ.out w12 (RT.out w12 B12)).2.2.2.2 (by have := LMM.out; have := HN.out; have := LM.out; omega) B12 B12.size
      obtain ⟨q1, d1, rfl⟩ := O12.shape
      obtain ⟨q2, d2, rfl⟩ := O13.shape
      obtain ⟨l1, hl1⟩ : ∃ k, m.length = k := ⟨_, rfl⟩
      obtain ⟨l2, hl2⟩ : ∃ k, (m ++ more).length = k := ⟨_, rfl⟩
      rw [hl1] at r12 r13
      rw [hl2] at r13 O13
      have SB13 := O13.sb
      replace r12 := Lib.hid r12
      replace r13 := Lib.hid r13
      clear O9 O12 O13 hl1 hl2 hS2
      refine gzstep 12 rfl (by kernel_rfl) rfl (wp_append_run _ _ _ _ rfl _ _ rfl rfl _ w12 r12.out ⟨fun _ => B12, ?_⟩)
      simp only [AP]
      refine gzstep 14 rfl (by kernel_rfl) rfl (wp_append_run _ _ _ _ rfl _ _ rfl rfl _ w13 r13.out ⟨fun _ => B13, ?_⟩)
      simp only [AP]
      clear r12 r13 B12
      refine gzstep 15 rfl (by kernel_rfl) rfl ?_
      unfold Oper.wp execOp
      go_simp
      refine (YC.out w13 (RT.out w13 B13) _ SB13).mono ?_
      rintro _ w14 ⟨rfl, b14⟩
      have h14 := B13.trans (b14.mono B13.size)
      clear b14 YC SB13 B13
      refine ⟨h14, ?_⟩
      refine wpAnyZ_takeL 16 (v := .bool true) rfl (by kernel_rfl) (by kernel_rfl) (by kernel_rfl) (by kernel_rfl) (by kernel_rfl) (fun _ _ _ H => H) (yieldsIf_eqs rfl _ _ rfl Y lY.out rfl rfl) h14 ?_
      simp only [AP]
      refine wpAnyZ_takeL 17 (v := .bool true) rfl (by kernel_rfl) (by kernel_rfl) (by kernel_rfl) (by kernel_rfl) (by kernel_rfl) (fun _ _ _ H => H) (yieldsIf_pick rfl _ _ _ rfl true rfl (.bool true) rfl) h14 ?_
      simp only [AP]
      refine wpAnyZ_takeL 18 (v := .bool true) rfl (by kernel_rfl) (by kernel_rfl) (by kernel_rfl) (by kernel_rfl) (by kernel_rfl) (fun _ _ _ H => H) (yieldsIf_move rfl _ rfl (.bool true) rfl) h14 ?_
      simp only [AP]
      refine wpAnyZ_takeL 19 (v := .agg (Iv .u8 (NI CL))) rfl (by kernel_rfl) (by kernel_rfl) (by kernel_rfl) (by kernel_rfl) (by kernel_rfl) (fun _ _ _ H => H) (show YieldsIf _ _ _ _ (.agg (Iv .u8 (NI CL))) _ from yieldsIf_row_wanted (S := fun w' => Below w10.heap.size w10 w') rfl 28 _ rfl (g19) rfl 28 _ _ RJ19.out Tryd.underlying28 rfl (info_k32 CL lC.out)) h14 ?_
      simp only [AP]
      refine wpAnyZ_takeL 20 (v := .pointer (some ⟨gs, 1, none⟩)) rfl (by kernel_rfl) (by kernel_rfl) (by kernel_rfl) (by kernel_rfl) (by kernel_rfl) (fun _ _ _ H => H) (Or.inl ⟨by rfl, fun w' hw' => by (go_simp)⟩) h14 ?_
      simp only [AP]
      refine wpAnyZ_takeL 21 (v := .agg (Iv .u8 (NI s))) rfl (by kernel_rfl) (by kernel_rfl) (by kernel_rfl) (by kernel_rfl) (by kernel_rfl) (fun _ _ _ H => H) (show YieldsIf _ _ _ _ (.agg (Iv .u8 (NI s))) _ from yieldsIf_shadow (S := fun w' => Below w10.heap.size w10 w') rfl _ rfl W.heap.size gs (.slice pm mm cm) m s rfl ls'.out (fun w' h => (RP.out w' h).sha)) h14 ?_
      simp only [AP]
      refine wpAnyZ_takeL 22 (v := .string t) rfl (by kernel_rfl) (by kernel_rfl) (by kernel_rfl) (by kernel_rfl) (by kernel_rfl) (fun _ _ _ H => H) (yieldsIf_move rfl _ rfl (.string t) rfl) h14 ?_
      simp only [AP]
      refine wpAnyZ_takeL 23 (v := .string (cS ++ blS ++ t)) rfl (by kernel_rfl) (by kernel_rfl) (by kernel_rfl) (by kernel_rfl) (by kernel_rfl) (fun _ _ _ H => H) (Or.inl ⟨by rfl, fun w' hw' => by (go_simp; rfl)⟩) h14 ?_
      simp only [AP]
      refine wpAnyZ_takeL 24 (v := .string (sideS cS t)) rfl (by kernel_rfl) (by kernel_rfl) (by kernel_rfl) (by kernel_rfl) (by kernel_rfl) (fun _ _ _ H => H) (Or.inl ⟨by rfl, fun w' hw' => by (go_simp; rfl)⟩) h14 ?_
      simp only [AP]
      refine wpAnyZ_takeL 25 (v := .slice (some ⟨g17, 0, none⟩) 32 32) rfl (by kernel_rfl) (by kernel_rfl) (by kernel_rfl) (by kernel_rfl) (by kernel_rfl) (fun _ _ _ H => H) (Or.inl ⟨by rfl, fun w' hw' => by (go_simp)⟩) h14 ?_
      simp only [AP]
      refine gzstep 26 rfl (by kernel_rfl) rfl ?_
      unfold Oper.wp execOp
      go_simp
      refine (DC1.out w14 (RT.out w14 h14) g17 (CX.out w14 h14)).mono ?_
      rintro _ w15 ⟨rfl, b15⟩
      have h15 := h14.trans (b15.mono h14.size)
      clear b15 DC1 h14
      refine ⟨h15, ?_⟩
      refine wpAnyZ_takeL 27 (v := .bool true) rfl (by kernel_rfl) (by kernel_rfl) (by kernel_rfl) (by kernel_rfl) (by kernel_rfl) (fun _ _ _ H => H) (yieldsIf_eqs rfl _ _ rfl CL lC.out rfl rfl) h15 ?_
      simp only [AP]
      refine wpAnyZ_takeL 28 (v := .bool true) rfl (by kernel_rfl) (by kernel_rfl) (by kernel_rfl) (by kernel_rfl) (by kernel_rfl) (fun _ _ _ H => H) (yieldsIf_pick rfl _ _ _ rfl true rfl (.bool true) rfl) h15 ?_
      simp only [AP]
      refine wpAnyZ_takeL 29 (v := .bool true) rfl (by kernel_rfl) (by kernel_rfl) (by kernel_rfl) (by kernel_rfl) (by kernel_rfl) (fun _ _ _ H => H) (yieldsIf_move rfl _ rfl (.bool true) rfl) h15 ?_
      simp only [AP]
      refine wpAnyZ_takeL 30 (v := .agg (Iv .u8 (NI SV))) rfl (by kernel_rfl) (by kernel_rfl) (by kernel_rfl) (by kernel_rfl) (by kernel_rfl) (fun _ _ _ H => H) (show YieldsIf _ _ _ _ (.agg (Iv .u8 (NI SV))) _ from yieldsIf_row_wanted (S := fun w' => Below w10.heap.size w10 w') rfl 28 _ rfl (g19 + 1) rfl 28 _ _ RJ20.out Tryd.underlying28 rfl (info_k32 SV lV.out)) h15 ?_
      simp only [AP]
      refine wpAnyZ_takeL 31 (v := .pointer (some ⟨gs, 1, none⟩)) rfl (by kernel_rfl) (by kernel_rfl) (by kernel_rfl) (by kernel_rfl) (by kernel_rfl) (fun _ _ _ H => H) (Or.inl ⟨by rfl, fun w' hw' => by (go_simp)⟩) h15 ?_
      simp only [AP]
      refine wpAnyZ_takeL 32 (v := .agg (Iv .u8 (NI s))) rfl (by kernel_rfl) (by kernel_rfl) (by kernel_rfl) (by kernel_rfl) (by kernel_rfl) (fun _ _ _ H => H) (show YieldsIf _ _ _ _ (.agg (Iv .u8 (NI s))) _ from yieldsIf_shadow (S := fun w' => Below w10.heap.size w10 w') rfl _ rfl W.heap.size gs (.slice pm mm cm) m s rfl ls'.out (fun w' h => (RP.out w' h).sha)) h15 ?_
      simp only [AP]
      refine wpAnyZ_takeL 33 (v := .string t) rfl (by kernel_rfl) (by kernel_rfl) (by kernel_rfl) (by kernel_rfl) (by kernel_rfl) (fun _ _ _ H => H) (yieldsIf_move rfl _ rfl (.string t) rfl) h15 ?_
      simp only [AP]
      refine wpAnyZ_takeL 34 (v := .string (sS ++ blS ++ t)) rfl (by kernel_rfl) (by kernel_rfl) (by kernel_rfl) (by kernel_rfl) (by kernel_rfl) (fun _ _ _ H => H) (Or.inl ⟨by rfl, fun w' hw' => by (go_simp; rfl)⟩) h15 ?_
      simp only [AP]
      refine wpAnyZ_takeL 35 (v := .string (sideS sS t)) rfl (by kernel_rfl) (by kernel_rfl) (by kernel_rfl) (by kernel_rfl) (by kernel_rfl) (fun _ _ _ H => H) (Or.inl ⟨by rfl, fun w' hw' => by (go_simp; rfl)⟩) h15 ?_
      simp only [AP]
      refine wpAnyZ_takeL 36 (v := .slice (some ⟨g17, 0, none⟩) 32 32) rfl (by kernel_rfl) (by kernel_rfl) (by kernel_rfl) (by kernel_rfl) (by kernel_rfl) (fun _ _ _ H => H) (Or.inl ⟨by rfl, fun w' hw' => by (go_simp)⟩) h15 ?_
      simp only [AP]
      refine gzstep 37 rfl (by kernel_rfl) rfl ?_
      unfold Oper.wp execOp
      go_simp
      refine (DC2.out w15 (RT.out w15 h15) g17 (CX.out w15 h15)).mono ?_
      rintro _ w16 ⟨rfl, b16⟩
      have h16 := h15.trans (b16.mono h15.size)
      clear b16 DC2 h15
      refine ⟨h16, ?_⟩
      refine wpAnyZ_takeL 38 (v := .bool true) rfl (by kernel_rfl) (by kernel_rfl) (by kernel_rfl) (by kernel_rfl) (by kernel_rfl) (fun _ _ _ H => H) (yieldsIf_eqs rfl _ _ rfl SV lV.out rfl rfl) h16 ?_
      simp only [AP]
      refine wpAnyZ_takeL 39 (v := .bool true) rfl (by kernel_rfl) (by kernel_rfl) (by kernel_rfl) (by kernel_rfl) (by kernel_rfl) (fun _ _ _ H => H) (yieldsIf_pick rfl _ _ _ rfl true rfl (.bool true) rfl) h16 ?_
      simp only [AP]
      refine wpAnyZ_takeL 40 (v := .bool true) rfl (by kernel_rfl) (by kernel_rfl) (by kernel_rfl) (by kernel_rfl) (by kernel_rfl) (fun _ _ _ H => H) (yieldsIf_move rfl _ rfl (.bool true) rfl) h16 ?_
      simp only [AP]
      refine wpAnyZ_takeL 41 (v := .pointer (some ⟨g, 0, none⟩)) rfl (by kernel_rfl) (by kernel_rfl) (by kernel_rfl) (by kernel_rfl) (by kernel_rfl) (fun _ _ _ H => H) (yieldsIf_move rfl _ rfl (.pointer (some ⟨g, 0, none⟩)) rfl) h16 ?_
      simp only [AP]
      refine wpAnyZ_takeL 42 (v := .slice pk nk ck) rfl (by kernel_rfl) (by kernel_rfl) (by kernel_rfl) (by kernel_rfl) (by kernel_rfl) (fun _ _ _ H => H) (yieldsIf_move rfl _ rfl (.slice pk nk ck) rfl) h16 ?_
      simp only [AP]
      refine wpAnyZ_takeL 44 (v := .pointer (some ⟨gs, 1, none⟩)) rfl (by kernel_rfl) (by kernel_rfl) (by kernel_rfl) (by kernel_rfl) (by kernel_rfl) (fun _ _ _ H => H) (Or.inl ⟨by rfl, fun w' hw' => by (go_simp)⟩) h16 ?_
      simp only [AP]
      refine wpAnyZ_takeL 45 (v := .agg (Iv .u8 (NI s))) rfl (by kernel_rfl) (by kernel_rfl) (by kernel_rfl) (by kernel_rfl) (by kernel_rfl) (fun _ _ _ H => H) (show YieldsIf _ _ _ _ (.agg (Iv .u8 (NI s))) _ from yieldsIf_shadow (S := fun w' => Below w10.heap.size w10 w') rfl _ rfl W.heap.size gs (.slice pm mm cm) m s rfl ls'.out (fun w' h => (RP.out w' h).sha)) h16 ?_
      simp only [AP]
      refine wpAnyZ_takeL 46 (v := .slice (some ⟨g18, 0, none⟩) 32 32) rfl (by kernel_rfl) (by kernel_rfl) (by kernel_rfl) (by kernel_rfl) (by kernel_rfl) (fun _ _ _ H => H) (Or.inl ⟨by rfl, fun w' hw' => by (go_simp)⟩) h16 ?_
      simp only [AP]
      refine wpAnyZ_takeL 48 (v := .agg (Iv .u8 (NI MM))) rfl (by kernel_rfl) (by kernel_rfl) (by kernel_rfl) (by kernel_rfl) (by kernel_rfl) (fun _ _ _ H => H) (show YieldsIf _ _ _ _ (.agg (Iv .u8 (NI MM))) _ from yieldsIf_row_wanted (S := fun w' => Below w10.heap.size w10 w') rfl 28 _ rfl (g21) rfl 28 _ _ RJ21.out Tryd.underlying28 rfl (info_k32 MM lM.out)) h16 ?_
      simp only [AP]
      refine gzstep 43 rfl (by kernel_rfl) rfl ?_
      unfold Oper.wp execOp
      go_simp
      refine (BC2.out w16 (RT.out w16 h16) (RP.out w16 h16).sch).mono ?_
      rintro _ w17 ⟨rfl, b17⟩
      have h17 := h16.trans (b17.mono h16.size)
      clear b17 BC2 h16
      refine ⟨h17, ?_⟩
      refine gzstep 47 rfl (by kernel_rfl) rfl ?_
      unfold Oper.wp execOp
      go_simp
      refine (AC2.out w17 (RT.out w17 h17) g18 (CN.out w17 h17)).mono ?_
      rintro _ w18 ⟨rfl, b18⟩
      have h18 := h17.trans (b18.mono h17.size)
      clear b18 AC2 h17
      refine ⟨h18, ?_⟩
      refine gzstep 49 rfl (by kernel_rfl) rfl ?_
      unfold Oper.wp execOp
      go_simp
      refine (FC2.out w18 (RT.out w18 h18)).mono ?_
      rintro _ w19 ⟨rfl, b19⟩
      have h19 := h18.trans (b19.mono h18.size)
      clear b19 FC2 h18
      refine ⟨h19, ?_⟩
      refine wpAnyZ_takeL 50 (v := .bool true) rfl (by kernel_rfl) (by kernel_rfl) (by kernel_rfl) (by kernel_rfl) (by kernel_rfl) (fun _ _ _ H => H) (yieldsIf_eqs rfl _ _ rfl BD lB.out rfl rfl) h19 ?_
      simp only [AP]
      refine wpAnyZ_takeL 51 (v := .bool true) rfl (by kernel_rfl) (by kernel_rfl) (by kernel_rfl) (by kernel_rfl) (by kernel_rfl) (fun _ _ _ H => H) (yieldsIf_pick rfl _ _ _ rfl true rfl (.bool true) rfl) h19 ?_
      simp only [AP]
      refine gzstep 52 rfl (by kernel_rfl) rfl ?_
      unfold Oper.wp execOp
      go_simp
      refine wpAnyZ_done (by kernel_rfl) ?_ _
      refine (by assumption : ∀ (a : Act) (w : World), _ → _) _ _ ?_
      clear aK
      have b := RT.out w19 h19
      clear h19
      go_wp2
      go_ret
      exact ⟨rfl, b⟩
  clear aT
  go_loopw [9, 44] (fun vs v wr => ∃ i : Nat, i ≤ na ∧ i ≤ 9 ∧ v = .int .i64 (i : Int) ∧ ∃ g sv vm m s, vs = .pointer (some ⟨g, 0, none⟩) ∧ PL W wr gs g sv vm m s m s ∧ m.length ≤ 400 * i) (fun _ v _ => (na - intOf v).toNat)
  case atStart => exact ⟨0, Nat.zero_le _, Nat.zero_le _, rfl, gx, _, _, [], beginL psk, rfl, PL0, Nat.zero_le _⟩
  case round =>
    clear PL0
    obtain ⟨i, im, i9, rfl, g, sv, vm, m, s, rfl, PLi, lm⟩ := hrel
    by_cases ii : i = na
    · replace ii := ii.symm
      subst ii
      go_upto_region 7 with fail
      rename_i aK
      refine wp_region_seq ?_
      refine wpSeq_yield (S := fun _ => True) (v := .bool false) (Or.inl ⟨by rfl, fun w' hw' => by (go_simp; try omega)⟩) trivial ?_
      simp only [AP]
      refine wpSeq_nil ?_
      refine (by assumption : ∀ (a : Act) (w : World), _ → _) _ _ ?_
      go_wp2
      exact TAIL PLi (by omega)
    · have il : i < na := by omega
      obtain ⟨p', c', e, hc, h3⟩ := HA.out
      simp only [Value.slice.injEq] at e
      obtain ⟨e1, en, e2⟩ := e
      have hi : i < acts.length := by omega
      obtain ⟨g0, o, hp0, A⟩ : ∃ g o, p' = some ⟨g, o, none⟩ ∧ AcA W g o acts := by
        rcases h3 with h0 | h0
        · rw [h0] at hi
          exact absurd hi (Nat.not_lt_zero _)
        · exact h0
      rw [hp0] at e1
      subst e1
      subst e2
      obtain ⟨vb, vc, D, Rg⟩ := A.at_ i hi
      have OKf := BA.out _ (List.getElem_mem hi)
      obtain ⟨f, hf⟩ : ∃ f, acts[i] = f := ⟨_, rfl⟩
      rw [hf] at D Rg OKf
      clear hf
      obtain ⟨kd, fb, fc⟩ := f
      have DB := D.b
      have DC := D.c
      dsimp only at DB DC
      obtain ⟨p1, c1, rfl⟩ := DB.shape
      obtain ⟨p2, c2, rfl⟩ := DC.shape
      have bB : Bytes fb := OKf.b
      have bC : Bytes fc := OKf.c
      have hkd : kd < 256 := OKf.kd
      obtain ⟨n1, hn1⟩ : ∃ k, fb.length = k := ⟨_, rfl⟩
      obtain ⟨n2, hn2⟩ : ∃ k, fc.length = k := ⟨_, rfl⟩
      rw [hn1] at DB
      rw [hn2] at DC
      have Rg2 : wr.rangeAt g0 (o + i * 3) [.int .u8 (kd : Int), .slice p1 n1 c1, .slice p2 n2 c2] := by
        have := rangeAt_below Rg PLi.bel A.lt
        unfold acL at this
        dsimp only at this
        rw [hn1, hn2] at this
        exact this
      replace Rg2 := Lib.hid Rg2
      replace DB := Lib.hid DB
      replace DC := Lib.hid DC
      have FF := Lib.hid (And.intro bB (And.intro bC (And.intro hn1 hn2)))
      obtain ⟨r, hr⟩ : ∃ r, kd % 4 = r := ⟨_, rfl⟩
      have km : (kd : Int).tmod 4 = (r : Int) := by rw [Int.tmod_eq_emod_of_nonneg (by omega)]; omega
      have z0 : (0 : Int) ≤ (i : Int) := by omega
      have z1 : (i : Int) < (na : Int) := by omega
      have z2 : IntKind.i64.wrap ((i : Int) + 1) = ((i + 1 : Nat) : Int) := by have := HLN.out; rw [IntKind.wrap_i64]; omega
      have L12 := Lib.hid (And.intro PLi.sch.blk.lt (And.intro PLi.sha.blk.lt (And.intro (fun k (e : sv.ownBlock = some k) => (PLi.sch.row.lt k e).2) (fun k (e : vm.ownBlock = some k) => (PLi.sha.row.lt k e).2))))
      replace hkd := Lib.hid hkd
      clear D Rg OKf bB bC hn1 hn2 hi h3 A en hc ii
      go_upto_region 7 with fail
      rename_i aK
      refine wp_region_seq ?_
      refine wpSeq_yield (S := fun _ => True) (v := .bool true) (Or.inl ⟨by rfl, fun w' hw' => by (go_simp; try omega)⟩) trivial ?_
      simp only [AP]
      refine wpSeq_nil ?_
      refine (by assumption : ∀ (a : Act) (w : World), _ → _) _ _ ?_
      go_upto_region 8 with fail
      rename_i aK
      refine wp_region_seq ?_
      refine wpSeq_yield (S := fun _ => True) (yieldsIf_move rfl _ rfl (.int .i64 (i : Int)) rfl) trivial ?_
      simp only [AP]
      refine wpSeq_yield (S := fun _ => True) (v := .pointer (some ⟨g0, o + i * 3, none⟩)) (Or.inl ⟨by rfl, fun w' hw' => by (go_simp; try omega)⟩) trivial ?_
      simp only [AP]
      refine wpSeq_yield (S := fun w' => w' = wr) (show YieldsIf _ _ _ _ (.agg #[.int .u8 (kd : Int), .slice p1 n1 c1, .slice p2 n2 c2]) _ from yieldsIf_load_mid (S := fun w' => w' = wr) rfl 33 _ rfl g0 (o + i * 3) rfl [.int .u8 (kd : Int), .slice p1 n1 c1, .slice p2 n2 c2] _ (fun _ h => h ▸ Rg2.out) Tryd.underlying33 rfl info_ac) rfl ?_
      simp only [AP]
      refine wpSeq_wp rfl ?_
      unfold Oper.wp execOp
      go_simp
      refine wpSeq_yield (S := fun _ => True) (yieldsIf_assign rfl _ rfl (.int .i64 (i : Int)) rfl) trivial ?_
      simp only [AP]
      refine wpSeq_store_row rfl 33 _ _ rfl wr.heap.size #[.int .u8 (kd : Int), .slice p1 n1 c1, .slice p2 n2 c2] rfl rfl _ _ (Blk.new wr _ _) info_ac rfl (all_oneCell_toArray (cs := [.int .u8 (kd : Int), .slice p1 n1 c1, .slice p2 n2 c2]) (fun v hv => by simp only [List.mem_cons, List.not_mem_nil, or_false] at hv; rcases hv with rfl | rfl | rfl <;> rfl)) ?_
      simp only [Act.put]
      refine wpSeq_nil ?_
      refine (by assumption : ∀ (a : Act) (w : World), _ → _) _ _ ?_
      generalize hwx : World.setRow _ wr.heap.size _ = w2
      have FX : Blk w2 wr.heap.size 33 #[.int .u8 (kd : Int), .slice p1 n1 c1, .slice p2 n2 c2] ∧ Below wr.heap.size wr w2 := by
        rw [← hwx]
        exact one_row _ _ _ _
      clear hwx
      obtain ⟨K12, bx⟩ := FX
      have PL2 := PLi.below bx
      clear bx PLi Rg2
      obtain ⟨g12, hgx⟩ : ∃ k, wr.heap.size = k := ⟨_, rfl⟩
      rw [hgx] at K12 L12 ⊢
      clear hgx
      have k0 : w2.cell? ⟨g12, 0, none⟩ = some (.int .u8 (kd : Int)) := K12.cell 0
      have k1 : w2.cell? ⟨g12, 1, none⟩ = some (.slice p1 n1 c1) := K12.cell 1
      have k2 : w2.cell? ⟨g12, 2, none⟩ = some (.slice p2 n2 c2) := K12.cell 2
      by_cases q1 : i = 9
      · have q1' : (8 : Int) < (i : Int) := by omega
        go_upto_region 9 with fail
        rename_i aK
        refine wp_region_seq ?_
        refine wpSeq_yield (S := fun _ => True) (yieldsIf_move rfl _ rfl (.int .i64 (i : Int)) rfl) trivial ?_
        simp only [AP]
        refine wpSeq_yield (S := fun _ => True) (v := .bool true) (Or.inl ⟨by rfl, fun w' hw' => by (go_simp; try omega)⟩) trivial ?_
        simp only [AP]
        refine wpSeq_yield (S := fun _ => True) (yieldsIf_move rfl _ rfl (.bool true) rfl) trivial ?_
        simp only [AP]
        refine wpSeq_yield (S := fun _ => True) (yieldsIf_off rfl) trivial ?_
        simp only [AP]
        refine wpSeq_yield (S := fun _ => True) (yieldsIf_off rfl) trivial ?_
        simp only [AP]
        refine wpSeq_yield (S := fun _ => True) (yieldsIf_off rfl) trivial ?_
        simp only [AP]
        refine wpSeq_yield (S := fun _ => True) (yieldsIf_off rfl) trivial ?_
        simp only [AP]
        refine wpSeq_yield (S := fun _ => True) (yieldsIf_pick rfl _ _ _ rfl true rfl (.bool true) rfl) trivial ?_
        simp only [AP]
        refine wpSeq_yield (S := fun _ => True) (yieldsIf_move rfl _ rfl (.bool true) rfl) trivial ?_
        simp only [AP]
        refine wpSeq_yield (S := fun _ => True) (yieldsIf_off rfl) trivial ?_
        simp only [AP]
        refine wpSeq_yield (S := fun _ => True) (yieldsIf_off rfl) trivial ?_
        simp only [AP]
        refine wpSeq_yield (S := fun _ => True) (yieldsIf_off rfl) trivial ?_
        simp only [AP]
        refine wpSeq_yield (S := fun _ => True) (yieldsIf_off rfl) trivial ?_
        simp only [AP]
        refine wpSeq_yield (S := fun _ => True) (yieldsIf_pick rfl _ _ _ rfl true rfl (.bool true) rfl) trivial ?_
        simp only [AP]
        refine wpSeq_nil ?_
        refine (by assumption : ∀ (a : Act) (w : World), _ → _) _ _ ?_
        go_wp2
        exact TAIL PL2 (by omega)
      have q1' : ¬ (8 : Int) < (i : Int) := by omega
      by_cases q2 : 200 < n1
      · have q2' : (200 : Int) < (n1 : Int) := by omega
        go_upto_region 9 with fail
        rename_i aK
        refine wp_region_seq ?_
        refine wpSeq_yield (S := fun _ => True) (yieldsIf_move rfl _ rfl (.int .i64 (i : Int)) rfl) trivial ?_
        simp only [AP]
        refine wpSeq_yield (S := fun _ => True) (v := .bool false) (Or.inl ⟨by rfl, fun w' hw' => by (go_simp; try omega)⟩) trivial ?_
        simp only [AP]
        refine wpSeq_yield (S := fun _ => True) (yieldsIf_move rfl _ rfl (.bool false) rfl) trivial ?_
        simp only [AP]
        refine wpSeq_yield (S := fun _ => True) (v := .pointer (some ⟨g12, 1, none⟩)) (Or.inl ⟨by rfl, fun w' hw' => by go_simp⟩) trivial ?_
        simp only [AP]
        refine wpSeq_yield (S := fun w' => w' = w2) (v := .slice p1 n1 c1) (Or.inl ⟨by rfl, fun w' hw' => by (rw [hw']; go_simp)⟩) rfl ?_
        simp only [AP]
        refine wpSeq_yield (S := fun _ => True) (v := .int .i64 (n1 : Int)) (Or.inl ⟨by rfl, fun w' hw' => by go_simp⟩) trivial ?_
        simp only [AP]
        refine wpSeq_yield (S := fun _ => True) (v := .bool true) (Or.inl ⟨by rfl, fun w' hw' => by (go_simp; try omega)⟩) trivial ?_
        simp only [AP]
        refine wpSeq_yield (S := fun _ => True) (yieldsIf_pick rfl _ _ _ rfl false rfl (.bool true) rfl) trivial ?_
        simp only [AP]
        refine wpSeq_yield (S := fun _ => True) (yieldsIf_move rfl _ rfl (.bool true) rfl) trivial ?_
        simp only [AP]
        refine wpSeq_yield (S := fun _ => True) (yieldsIf_off rfl) trivial ?_
        simp only [AP]
        refine wpSeq_yield (S := fun _ => True) (yieldsIf_off rfl) trivial ?_
        simp only [AP]
        refine wpSeq_yield (S := fun _ => True) (yieldsIf_off rfl) trivial ?_
        simp only [AP]
        refine wpSeq_yield (S := fun _ => True) (yieldsIf_off rfl) trivial ?_
        simp only [AP]
        refine wpSeq_yield (S := fun _ => True) (yieldsIf_pick rfl _ _ _ rfl true rfl (.bool true) rfl) trivial ?_
        simp only [AP]
        refine wpSeq_nil ?_
        refine (by assumption : ∀ (a : Act) (w : World), _ → _) _ _ ?_
        go_wp2
        exact TAIL PL2 (by omega)
      have q2' : ¬ (200 : Int) < (n1 : Int) := by omega
      by_cases q3 : 200 < n2
      · have q3' : (200 : Int) < (n2 : Int) := by omega
        go_upto_region 9 with fail
        rename_i aK
        refine wp_region_seq ?_
        refine wpSeq_yield (S := fun _ => True) (yieldsIf_move rfl _ rfl (.int .i64 (i : Int)) rfl) trivial ?_
        simp only [AP]
        refine wpSeq_yield (S := fun _ => True) (v := .bool false) (Or.inl ⟨by rfl, fun w' hw' => by (go_simp; try omega)⟩) trivial ?_
        simp only [AP]
        refine wpSeq_yield (S := fun _ => True) (yieldsIf_move rfl _ rfl (.bool false) rfl) trivial ?_
        simp only [AP]
        refine wpSeq_yield (S := fun _ => True) (v := .pointer (some ⟨g12, 1, none⟩)) (Or.inl ⟨by rfl, fun w' hw' => by go_simp⟩) trivial ?_
        simp only [AP]
        refine wpSeq_yield (S := fun w' => w' = w2) (v := .slice p1 n1 c1) (Or.inl ⟨by rfl, fun w' hw' => by (rw [hw']; go_simp)⟩) rfl ?_
        simp only [AP]
        refine wpSeq_yield (S := fun _ => True) (v := .int .i64 (n1 : Int)) (Or.inl ⟨by rfl, fun w' hw' => by go_simp⟩) trivial ?_
        simp only [AP]
        refine wpSeq_yield (S := fun _ => True) (v := .bool false) (Or.inl ⟨by rfl, fun w' hw' => by (go_simp; try omega)⟩) trivial ?_
        simp only [AP]
        refine wpSeq_yield (S := fun _ => True) (yieldsIf_pick rfl _ _ _ rfl false rfl (.bool false) rfl) trivial ?_
        simp only [AP]
        refine wpSeq_yield (S := fun _ => True) (yieldsIf_move rfl _ rfl (.bool false) rfl) trivial ?_
        simp only [AP]
        refine wpSeq_yield (S := fun _ => True) (v := .pointer (some ⟨g12, 2, none⟩)) (Or.inl ⟨by rfl, fun w' hw' => by go_simp⟩) trivial ?_
        simp only [AP]
        refine wpSeq_yield (S := fun w' => w' = w2) (v := .slice p2 n2 c2) (Or.inl ⟨by rfl, fun w' hw' => by (rw [hw']; go_simp)⟩) rfl ?_
        simp only [AP]
        refine wpSeq_yield (S := fun _ => True) (v := .int .i64 (n2 : Int)) (Or.inl ⟨by rfl, fun w' hw' => by go_simp⟩) trivial ?_
        simp only [AP]
        refine wpSeq_yield (S := fun _ => True) (v := .bool true) (Or.inl ⟨by rfl, fun w' hw' => by (go_simp; try omega)⟩) trivial ?_
        simp only [AP]
        refine wpSeq_yield (S := fun _ => True) (yieldsIf_pick rfl _ _ _ rfl false rfl (.bool true) rfl) trivial ?_
        simp only [AP]
        refine wpSeq_nil ?_
        refine (by assumption : ∀ (a : Act) (w : World), _ → _) _ _ ?_
        go_wp2
        exact TAIL PL2 (by omega)
      have q3' : ¬ (200 : Int) < (n2 : Int) := by omega
      go_upto_region 9 with fail
      rename_i aK
      refine wp_region_seq ?_
      refine wpSeq_yield (S := fun _ => True) (yieldsIf_move rfl _ rfl (.int .i64 (i : Int)) rfl) trivial ?_
      simp only [AP]
      refine wpSeq_yield (S := fun _ => True) (v := .bool false) (Or.inl ⟨by rfl, fun w' hw' => by (go_simp; try omega)⟩) trivial ?_
      simp only [AP]
      refine wpSeq_yield (S := fun _ => True) (yieldsIf_move rfl _ rfl (.bool false) rfl) trivial ?_
      simp only [AP]
      refine wpSeq_yield (S := fun _ => True) (v := .pointer (some ⟨g12, 1, none⟩)) (Or.inl ⟨by rfl, fun w' hw' => by go_simp⟩) trivial ?_
      simp only [AP]
      refine wpSeq_yield (S := fun w' => w' = w2) (v := .slice p1 n1 c1) (Or.inl ⟨by rfl, fun w' hw' => by (rw [hw']; go_simp)⟩) rfl ?_
      simp only [AP]
      refine wpSeq_yield (S := fun _ => True) (v := .int .i64 (n1 : Int)) (Or.inl ⟨by rfl, fun w' hw' => by go_simp⟩) trivial ?_
      simp only [AP]
      refine wpSeq_yield (S := fun _ => True) (v := .bool false) (Or.inl ⟨by rfl, fun w' hw' => by (go_simp; try omega)⟩) trivial ?_
      simp only [AP]
      refine wpSeq_yield (S := fun _ => True) (yieldsIf_pick rfl _ _ _ rfl false rfl (.bool false) rfl) trivial ?_
      simp only [AP]
      refine wpSeq_yield (S := fun _ => True) (yieldsIf_move rfl _ rfl (.bool false) rfl) trivial ?_
      simp only [AP]
      refine wpSeq_yield (S := fun _ => True) (v := .pointer (some ⟨g12, 2, none⟩)) (Or.inl ⟨by rfl, fun w' hw' => by go_simp⟩) trivial ?_
      simp only [AP]
      refine wpSeq_yield (S := fun w' => w' = w2) (v := .slice p2 n2 c2) (Or.inl ⟨by rfl, fun w' hw' => by (rw [hw']; go_simp)⟩) rfl ?_
      simp only [AP]
      refine wpSeq_yield (S := fun _ => True) (v := .int .i64 (n2 : Int)) (Or.inl ⟨by rfl, fun w' hw' => by go_simp⟩) trivial ?_
      simp only [AP]
      refine wpSeq_yield (S := fun _ => True) (v := .bool false) (Or.inl ⟨by rfl, fun w' hw' => by (go_simp; try omega)⟩) trivial ?_
      simp only [AP]
      refine wpSeq_yield (S := fun _ => True) (yieldsIf_pick rfl _ _ _ rfl false rfl (.bool false) rfl) trivial ?_
      simp only [AP]
      refine wpSeq_nil ?_
      refine (by assumption : ∀ (a : Act) (w : World), _ → _) _ _ ?_
      have LQ := Lib.hid (show i < 9 ∧ n1 ≤ 200 ∧ n2 ≤ 200 ∧ i < na ∧ m.length ≤ 400 * i by omega)
      clear q1 q2 q3 q1' q2' q3' TAIL lm im i9 il
      go_upto_region 10 with fail
      rename_i aK
      refine wp_region_seq ?_
      refine wpSeq_yield (S := fun _ => True) (v := .pointer (some ⟨g12, 0, none⟩)) (Or.inl ⟨by rfl, fun w' hw' => by go_simp⟩) trivial ?_
      simp only [AP]
      refine wpSeq_yield (S := fun w' => w' = w2) (v := .int .u8 (kd : Int)) (Or.inl ⟨by rfl, fun w' hw' => by (rw [hw']; go_simp)⟩) rfl ?_
      simp only [AP]
      refine wpSeq_yield (S := fun _ => True) (v := .int .u8 (r : Int)) (Or.inl ⟨by rfl, fun w' hw' => by (go_simp; try omega)⟩) trivial ?_
      simp only [AP]
      refine wpSeq_nil ?_
      refine (by assumption : ∀ (a : Act) (w : World), _ → _) _ _ ?_
      clear k0 km hr
      by_cases r2 : r = 2
      · have r2' : (r : Int) = 2 := by omega
        go_upto_region 19 with fail
        rename_i aK
        refine wp_region_seq ?_
        refine wpSeq_yield (S := fun _ => True) (v := .bool true) (Or.inl ⟨by rfl, fun w' hw' => by (go_simp; try omega)⟩) trivial ?_
        simp only [AP]
        refine wpSeq_yield (S := fun _ => True) (yieldsIf_assign rfl _ rfl (.bool true) rfl) trivial ?_
        simp only [AP]
        refine wpSeq_nil ?_
        refine (by assumption : ∀ (a : Act) (w : World), _ → _) _ _ ?_
        clear r2' r2
        have NXC := Lib.hid (next_c W.heap.size g sv m s fb p1 n1 c1 w2 PL2.sch (TQ.out w2 PL2.bel).1 (TQ.out w2 PL2.bel).2.1 (DB.out.below PL2.bel) FF.out.1 (by have := FF.out; have := LQ.out; omega))
        go_upto_region 20 with fail
        rename_i aK
        refine wp_region_seq ?_
        refine wpSeq_yield (S := fun _ => True) (yieldsIf_move rfl _ rfl (.pointer (some ⟨g, 0, none⟩)) rfl) trivial ?_
        simp only [AP]
        refine wpSeq_yield (S := fun _ => True) (v := .pointer (some ⟨g12, 1, none⟩)) (Or.inl ⟨by rfl, fun w' hw' => by go_simp⟩) trivial ?_
        simp only [AP]
        refine wpSeq_yield (S := fun w' => w' = w2) (v := .slice p1 n1 c1) (Or.inl ⟨by rfl, fun w' hw' => by (rw [hw']; go_simp)⟩) rfl ?_
        simp only [AP]
        refine wpSeq_wp rfl ?_
        unfold Oper.wp execOp
        go_simp
        refine (NXC.out).mono ?_
        rintro _ w3 ⟨⟨u3, rfl⟩, X3, M3⟩
        have PL3 := PL2.next X3 M3
        have KA : Blk w3 g12 33 #[.int .u8 (kd : Int), .slice p1 n1 c1, .slice p2 n2 c2] := (M3.block g12 K12.lt (by have := L12.out.1; omega) (fun e => by cases e)).trans K12
        clear NXC X3 M3 PL2 K12 k1 k2
        go_simp
        refine wpSeq_nil ?_
        refine (by assumption : ∀ (a : Act) (w : World), _ → _) _ _ ?_
        have NC := Lib.hid (rsha_any w3 cuT sqT [] Bytes.nil (.slice none 0 0) (SB.nil w3 none 0) (by decide) (TQ.out w3 PL3.bel).2.2.1)
        have lN := Lib.hid (sha_length cuT sqT [])
        go_upto_region 21 with fail
        rename_i aK
        refine wp_region_seq ?_
        refine wpSeq_wp rfl ?_
        unfold Oper.wp execOp
        go_simp
        refine (NC.out).mono ?_
        rintro _ w4 ⟨rfl, b4⟩
        replace PL3 := PL3.below b4
        replace KA := KA.below' b4
        clear b4 NC
        go_simp
        refine wpSeq_wp rfl ?_
        unfold Oper.wp execOp
        go_simp
        refine wpSeq_store_row rfl 28 _ _ rfl w4.heap.size (Iv .u8 (NI (sha cuT sqT []))) rfl rfl _ _ (Blk.new w4 _ _) (info_k32 (sha cuT sqT []) lN.out) (size_32 (rfl : (List.replicate 32 0).length = 32) lN.out) (u8s_one _) ?_
        simp only [Act.put]
        refine wpSeq_nil ?_
        refine (by assumption : ∀ (a : Act) (w : World), _ → _) _ _ ?_
        generalize hwx : World.setRow _ w4.heap.size _ = w5
        have FX : Blk w5 w4.heap.size 28 (Iv .u8 (NI (sha cuT sqT []))) ∧ Below w4.heap.size w4 w5 := by
          rw [← hwx]
          exact one_row _ _ _ _
        clear hwx
        obtain ⟨J13, bx⟩ := FX
        replace PL3 := PL3.below bx
        replace KA := KA.below' bx
        clear bx
        obtain ⟨g13, hgx⟩ : ∃ k, w4.heap.size = k := ⟨_, rfl⟩
        rw [hgx] at J13 ⊢
        clear hgx
        have bd := below_drew (Below.refl w5.heap.size w5)
        replace PL3 := PL3.below bd
        replace KA := KA.below' bd
        replace J13 := J13.below' bd
        clear bd
        have ls := PL3.sha.ls
        have bs := PL3.sha.bs
        go_upto_region 22 with fail
        rename_i aK
        refine wp_region_Z (S := fun w' => Below w5.drew.heap.size w5.drew w') 5 (by kernel_rfl) ?_
        generalize w5.drew = w6 at *
        have hS := Below.refl w6.heap.size w6
        have RP := Lib.hid (fun (w' : World) (h : Below w6.heap.size w6 w') => PL3.below h)
        have RT := Lib.hid (fun (w' : World) (h : Below w6.heap.size w6 w') => PL3.bel.trans (h.mono PL3.bel.size))
        have CN := Lib.hid (fun (w' : World) (h : Below w6.heap.size w6 w') => sb_key (J13.below' h) lN.out)
        have DD := Lib.hid (fun (w' : World) (h : Below w6.heap.size w6 w') => derive_c s (sha cuT sqT []) derS (some ⟨g13, 0, none⟩) 32 32 w' (TQ.out w' (RT.out w' h)).2.2.1 ls bs (CN.out w' h) (sha_bytes _ _ _) (by decide) (by rw [sha_length]; decide))
        have lA := Lib.hid (labL_length s derS (sha cuT sqT []) 32)
        have bA := Lib.hid (labL_bytes s derS (sha cuT sqT []) 32)
        have eN := Lib.hid (show hmac cuT sqT (labL s derS (sha cuT sqT []) 32) fb = nextL s fb from rfl)
        obtain ⟨Ak, hAk⟩ : ∃ l, labL s derS (sha cuT sqT []) 32 = l := ⟨_, rfl⟩
        rw [hAk] at DD lA bA eN
        clear hAk J13
        have ls' := Lib.hid ls
        clear ls bs
        refine wpAnyZ_takeL 0 (v := .pointer (some ⟨gs, 1, none⟩)) rfl (by kernel_rfl) (by kernel_rfl) (by kernel_rfl) (by kernel_rfl) (by kernel_rfl) (fun _ _ _ H => H) (Or.inl ⟨by rfl, fun w' hw' => by (go_simp)⟩) hS ?_
        simp only [AP]
        refine wpAnyZ_takeL 1 (v := .agg (Iv .u8 (NI s))) rfl (by kernel_rfl) (by kernel_rfl) (by kernel_rfl) (by kernel_rfl) (by kernel_rfl) (fun _ _ _ H => H) (show YieldsIf _ _ _ _ (.agg (Iv .u8 (NI s))) _ from yieldsIf_shadow (S := fun w' => Below w6.heap.size w6 w') rfl _ rfl W.heap.size gs vm m s rfl ls'.out (fun w' h => (RP.out w' h).sha)) hS ?_
        simp only [AP]
        refine wpAnyZ_takeL 2 (v := .slice (some ⟨g13, 0, none⟩) 32 32) rfl (by kernel_rfl) (by kernel_rfl) (by kernel_rfl) (by kernel_rfl) (by kernel_rfl) (fun _ _ _ H => H) (Or.inl ⟨by rfl, fun w' hw' => by (go_simp)⟩) hS ?_
        simp only [AP]
        refine wpAnyZ_jobsRL [(⟨3, 109⟩, .is (.agg (Iv .u8 (NI Ak)))), (⟨4, 14⟩, .rel (fun v w' => ∃ g, v = .pointer (some ⟨g, 0, none⟩) ∧ Blk w' g 28 (Iv .u8 (NI z32)) ∧ w6.heap.size ≤ g))] 1 _ _ _ (by kernel_rfl) (fun _ _ _ _ _ h => h) (fun _ _ h hb => h.trans (hb.mono h.size)) hS ?_ ?_ ?_
        · intro j hj
          simp only [List.map_cons, List.map_nil, List.mem_cons, List.not_mem_nil, or_false] at hj
          rcases hj with rfl | rfl
          · exact fun _ _ _ h _ => h
          · rintro v w1 w2 ⟨p, e, H, hg⟩ hb
            exact ⟨p, e, Blk.below' H hb, hg⟩
        · intro j hj
          simp only [List.map_cons, List.map_nil, List.mem_cons, List.not_mem_nil, or_false] at hj
          rcases hj with rfl | rfl
          · refine jobR_frame [] (by kernel_rfl) ?_
            intro f W1 K1 hS' hp hK
            simp only [putAll, List.foldr_nil, Act.put]
            try simp only [putAll, List.foldr_nil, Act.put, List.setIfInBounds_toArray, List.set_cons_zero, List.set_cons_succ] at hK
            unfold wpOp
            go_simp
            left
            refine (DD.out W1 hS').mono ?_
            rintro e v ⟨rfl, b⟩
            exact hK _ _ rfl b
          · refine jobR_frame [] (by kernel_rfl) ?_
            intro f W1 K1 hS' hp hK
            have hsz := hS'.size
            simp only [putAll, List.foldr_nil, Act.put]
            try simp only [putAll, List.foldr_nil, Act.put, List.setIfInBounds_toArray, List.set_cons_zero, List.set_cons_succ] at hK
            exact job_alloc (S := fun _ => True) (j := ⟨4, 14⟩) 28 (Iv .u8 (NI z32)) _ _ rfl rfl rfl (fun W => by go_simp; rfl) W1 K1 trivial (fun v w' h b hb => by
              obtain ⟨g, e, H⟩ := h
              have := hb g (by rw [e]; rfl)
              exact hK _ _ ⟨g, e, H, by omega⟩ b)
        · intro f W1 hS2 hB1 hR
          have e3 : f 3 = .agg (Iv .u8 (NI Ak)) := hR ⟨3, 109⟩ (by simp)
          obtain ⟨g14, e4, J14, n14⟩ : ∃ g, f 4 = .pointer (some ⟨g, 0, none⟩) ∧ Blk W1 g 28 (Iv .u8 (NI z32)) ∧ w6.heap.size ≤ g := hR ⟨4, 14⟩ (by simp)
          clear hR
          simp only [setAll, List.map_cons, List.map_nil, putAll, List.foldr_cons, List.foldr_nil, Act.put, List.setIfInBounds_toArray, List.set_cons_zero, List.set_cons_succ, e3, e4]
          clear e3 e4 hB1 hS DD
          refine gzstep 5 rfl (by kernel_rfl) rfl ?_
          refine wp_store_row 28 _ _ rfl g14 (Iv .u8 (NI Ak)) rfl rfl 28 _ J14 (info_k32 Ak lA.out) (size_32 z32_length lA.out) (Iv_one _ _) ?_
          refine ⟨fun e => Bool.noConfusion ((e.symm.trans (show _ = true from rfl) : false = true)), ?_⟩
          simp only [Act.put]
          have KR := Blk.row J14 (Iv .u8 (NI Ak))
          have b9 := below_setRow hS2 n14 (Iv .u8 (NI Ak))
          generalize World.setRow W1 _ _ = w9 at *
          clear J14 hS2 n14
          refine wpAnyZ_done (by kernel_rfl) ?_ _
          refine (by assumption : ∀ (a : Act) (w : World), _ → _) _ _ ?_
          clear aK
          have PL9 := PL3.below b9
          have KB := KA.below' b9
          clear PL3 KA b9 RP RT CN
          have bd := below_drew (Below.refl w9.heap.size w9)
          replace PL9 := PL9.below bd
          replace KB := KB.below' bd
          replace KR := KR.below' bd
          clear bd
          go_upto_region 23 with fail
          rename_i aK
          refine wp_region_Z (S := fun w' => Below w9.drew.heap.size w9.drew w') 5 (by kernel_rfl) ?_
          generalize w9.drew = w10 at *
          have hS := Below.refl w10.heap.size w10
          have C1 := Lib.hid (fun (w' : World) (h : Below w10.heap.size w10 w') => show w'.cell? ⟨g12, 1, none⟩ = some (.slice p1 n1 c1) from (KB.below' h).cell 1)
          have MC := Lib.hid (rmac_any w10 cuT sqT Ak fb bA.out FF.out.1 _ (.slice p1 n1 c1) (sb_key KR lA.out) (DB.out.below PL9.bel) (by rw [lA.out]; decide) (by have := FF.out; have := LQ.out; omega) (TQ.out w10 PL9.bel).2.2.1)
          rw [eN.out] at MC
          have lX := Lib.hid (And.intro (nextL_bytes s fb) (nextL_length s fb))
          obtain ⟨Nk, hNk⟩ : ∃ l, nextL s fb = l := ⟨_, rfl⟩
          rw [hNk] at MC lX PL9
          clear hNk KR eN
          refine wpAnyZ_takeL 0 (v := .slice (some ⟨g14, 0, none⟩) 32 32) rfl (by kernel_rfl) (by kernel_rfl) (by kernel_rfl) (by kernel_rfl) (by kernel_rfl) (fun _ _ _ H => H) (Or.inl ⟨by rfl, fun w' hw' => by (go_simp)⟩) hS ?_
          simp only [AP]
          refine wpAnyZ_takeL 1 (v := .pointer (some ⟨g12, 1, none⟩)) rfl (by kernel_rfl) (by kernel_rfl) (by kernel_rfl) (by kernel_rfl) (by kernel_rfl) (fun _ _ _ H => H) (Or.inl ⟨by rfl, fun w' hw' => by go_simp⟩) hS ?_
          simp only [AP]
          refine wpAnyZ_takeL 2 (v := .slice p1 n1 c1) rfl (by kernel_rfl) (by kernel_rfl) (by kernel_rfl) (by kernel_rfl) (by kernel_rfl) (fun _ _ _ H => H) (Or.inl ⟨by rfl, fun w' hw' => by (have hc := C1.out w' hw'; go_simp)⟩) hS ?_
          simp only [AP]
          refine gzstep 3 rfl (by kernel_rfl) rfl ?_
          unfold Oper.wp execOp
          go_simp
          refine MC.out.mono ?_
          rintro _ w11 ⟨rfl, b11⟩
          have PL11 := PL9.below b11
          have hS2 := hS.trans (b11.mono hS.size)
          clear b11 MC PL9 hS
          refine ⟨hS2, ?_⟩
          refine gzstep 4 rfl (by kernel_rfl) rfl ?_
          unfold Oper.wp execOp
          go_simp
          refine gzstep 5 rfl (by kernel_rfl) rfl ?_
          refine wp_store_mid 28 _ _ rfl gs 1 (Iv .u8 (NI Nk)) rfl rfl (by rw [Iv_size, NI_length, lX.out.2]; exact PL11.sha.there) (info_k32 Nk lX.out.2) (Iv_one _ _) ?_
          rw [iv_cl]
          refine ⟨fun e => Bool.noConfusion ((e.symm.trans (show _ = true from rfl) : false = true)), ?_⟩
          simp only [Act.put]
          have PL12 := Lib.hid (PL11.put lX.out.1 lX.out.2)
          generalize World.setCells w11 _ _ _ = w12 at *
          clear PL11 hS2 C1 KB
          refine wpAnyZ_done (by kernel_rfl) ?_ _
          refine (by assumption : ∀ (a : Act) (w : World), _ → _) _ _ ?_
          clear aK
          go_upto_region 26 with fail
          rename_i aK
          refine wp_region_seq ?_
          refine wpSeq_yield (S := fun _ => True) (v := .int .i64 ((i + 1 : Nat) : Int)) (Or.inl ⟨by rfl, fun w' hw' => by go_simp⟩) trivial ?_
          simp only [AP]
          refine wpSeq_yield (S := fun _ => True) (yieldsIf_move rfl _ rfl (.int .i64 ((i + 1 : Nat) : Int)) rfl) trivial ?_
          simp only [AP]
          refine wpSeq_nil ?_
          go_wp2
          exact ⟨⟨i + 1, by have := LQ.out; omega, by have := LQ.out; omega, rfl, g, sv, vm, m, Nk, rfl, PL12.out, by have := LQ.out; omega⟩, by have := LQ.out; simp only [intOf]; omega⟩
      have r2' : ¬ (r : Int) = 2 := by omega
      go_upto_region 19 with fail
      rename_i aK
      refine wp_region_seq ?_
      refine wpSeq_yield (S := fun _ => True) (v := .bool false) (Or.inl ⟨by rfl, fun w' hw' => by (go_simp; try omega)⟩) trivial ?_
      simp only [AP]
      refine wpSeq_yield (S := fun _ => True) (yieldsIf_assign rfl _ rfl (.bool false) rfl) trivial ?_
      simp only [AP]
      refine wpSeq_nil ?_
      refine (by assumption : ∀ (a : Act) (w : World), _ → _) _ _ ?_
      clear r2 r2'
      by_cases r3 : r = 3
      · have r3' : (r : Int) = 3 := by omega
        go_upto_region 24 with fail
        rename_i aK
        refine wp_region_seq ?_
        refine wpSeq_yield (S := fun _ => True) (v := .bool true) (Or.inl ⟨by rfl, fun w' hw' => by (go_simp; try omega)⟩) trivial ?_
        simp only [AP]
        refine wpSeq_yield (S := fun _ => True) (yieldsIf_assign rfl _ rfl (.bool true) rfl) trivial ?_
        simp only [AP]
        refine wpSeq_nil ?_
        refine (by assumption : ∀ (a : Act) (w : World), _ → _) _ _ ?_
        clear r3 r3'
        have bd := below_drew (Below.refl w2.heap.size w2)
        replace PL2 := PL2.below bd
        replace K12 := K12.below' bd
        clear bd k1 k2
        go_upto_region 25 with fail
        rename_i aK
        refine wp_region_Z (S := fun w' => Below w2.drew.heap.size w2.drew w') 9 (by kernel_rfl) ?_
        generalize w2.drew = w3 at *
        have hS := Below.refl w3.heap.size w3
        have C1 := Lib.hid (fun (w' : World) (h : Below w3.heap.size w3 w') => show w'.cell? ⟨g12, 1, none⟩ = some (.slice p1 n1 c1) from (K12.below' h).cell 1)
        have AGC := Lib.hid (again_c W.heap.size g sv m s fb p1 n1 c1 w3 PL2.sch (by have := LQ.out; omega) (TQ.out w3 PL2.bel).1 (TQ.out w3 PL2.bel).2.1 (DB.out.below PL2.bel) FF.out.1 (by have := FF.out; have := LQ.out; omega))
        have BGC := Lib.hid (fun (w' : World) (h : Below W.heap.size W w') => begin_c fb p1 n1 c1 w' (TQ.out w' h).2.2.1 (DB.out.below h) FF.out.1 (by have := FF.out; have := LQ.out; omega))
        have lX := Lib.hid (And.intro (beginL_bytes fb) (beginL_length fb))
        obtain ⟨Bk, hBk⟩ : ∃ l, beginL fb = l := ⟨_, rfl⟩
        rw [hBk] at AGC BGC lX
        clear hBk K12
        refine wpAnyZ_takeL 0 (v := .pointer (some ⟨g, 0, none⟩)) rfl (by kernel_rfl) (by kernel_rfl) (by kernel_rfl) (by kernel_rfl) (by kernel_rfl) (fun _ _ _ H => H) (yieldsIf_move rfl _ rfl (.pointer (some ⟨g, 0, none⟩)) rfl) hS ?_
        simp only [AP]
        refine wpAnyZ_takeL 1 (v := .pointer (some ⟨g12, 1, none⟩)) rfl (by kernel_rfl) (by kernel_rfl) (by kernel_rfl) (by kernel_rfl) (by kernel_rfl) (fun _ _ _ H => H) (Or.inl ⟨by rfl, fun w' hw' => by go_simp⟩) hS ?_
        simp only [AP]
        refine wpAnyZ_takeL 2 (v := .slice p1 n1 c1) rfl (by kernel_rfl) (by kernel_rfl) (by kernel_rfl) (by kernel_rfl) (by kernel_rfl) (fun _ _ _ H => H) (Or.inl ⟨by rfl, fun w' hw' => by (have hc := C1.out w' hw'; go_simp)⟩) hS ?_
        simp only [AP]
        refine wpAnyZ_takeL 4 (v := .pointer (some ⟨g12, 1, none⟩)) rfl (by kernel_rfl) (by kernel_rfl) (by kernel_rfl) (by kernel_rfl) (by kernel_rfl) (fun _ _ _ H => H) (Or.inl ⟨by rfl, fun w' hw' => by go_simp⟩) hS ?_
        simp only [AP]
        refine wpAnyZ_takeL 5 (v := .slice p1 n1 c1) rfl (by kernel_rfl) (by kernel_rfl) (by kernel_rfl) (by kernel_rfl) (by kernel_rfl) (fun _ _ _ H => H) (Or.inl ⟨by rfl, fun w' hw' => by (have hc := C1.out w' hw'; go_simp)⟩) hS ?_
        simp only [AP]
        refine gzstep 3 rfl (by kernel_rfl) rfl ?_
        unfold Oper.wp execOp
        go_simp
        refine AGC.out.mono ?_
        rintro _ w4 ⟨g', rfl, v', X4, b4⟩
        have PL4 := PL2.again X4 b4
        have hS2 := hS.trans (b4.mono hS.size)
        clear b4 AGC PL2 hS X4
        refine ⟨hS2, ?_⟩
        refine gzstep 6 rfl (by kernel_rfl) rfl ?_
        unfold Oper.wp execOp
        go_simp
        refine (BGC.out w4 PL4.bel).mono ?_
        rintro _ w5 ⟨rfl, b5⟩
        have PL5 := PL4.below b5
        have hS := hS2.trans (b5.mono hS2.size)
        clear b5 BGC PL4 hS2
        refine ⟨hS, ?_⟩
        refine gzstep 7 rfl (by kernel_rfl) rfl ?_
        unfold Oper.wp execOp
        go_simp
        refine gzstep 8 rfl (by kernel_rfl) rfl ?_
        unfold Oper.wp execOp
        go_simp
        refine gzstep 9 rfl (by kernel_rfl) rfl ?_
        refine wp_store_mid 28 _ _ rfl gs 1 (Iv .u8 (NI Bk)) rfl rfl (by rw [Iv_size, NI_length, lX.out.2]; exact PL5.sha.there) (info_k32 Bk lX.out.2) (Iv_one _ _) ?_
        rw [iv_cl]
        refine ⟨fun e => Bool.noConfusion ((e.symm.trans (show _ = true from rfl) : false = true)), ?_⟩
        simp only [Act.put]
        have PL6 := Lib.hid (PL5.put lX.out.1 lX.out.2)
        generalize World.setCells w5 _ _ _ = w6 at *
        clear PL5 hS C1
        refine wpAnyZ_done (by kernel_rfl) ?_ _
        refine (by assumption : ∀ (a : Act) (w : World), _ → _) _ _ ?_
        clear aK
        go_upto_region 26 with fail
        rename_i aK
        refine wp_region_seq ?_
        refine wpSeq_yield (S := fun _ => True) (v := .int .i64 ((i + 1 : Nat) : Int)) (Or.inl ⟨by rfl, fun w' hw' => by go_simp⟩) trivial ?_
        simp only [AP]
        refine wpSeq_yield (S := fun _ => True) (yieldsIf_move rfl _ rfl (.int .i64 ((i + 1 : Nat) : Int)) rfl) trivial ?_
        simp only [AP]
        refine wpSeq_nil ?_
        go_wp2
        exact ⟨⟨i + 1, by have := LQ.out; omega, by have := LQ.out; omega, rfl, g', v', vm, m, Bk, rfl, PL6.out, by have := LQ.out; omega⟩, by have := LQ.out; simp only [intOf]; omega⟩
      have r3' : ¬ (r : Int) = 3 := by omega
      go_upto_region 24 with fail
      rename_i aK
      refine wp_region_seq ?_
      refine wpSeq_yield (S := fun _ => True) (v := .bool false) (Or.inl ⟨by rfl, fun w' hw' => by (go_simp; try omega)⟩) trivial ?_
      simp only [AP]
      refine wpSeq_yield (S := fun _ => True) (yieldsIf_assign rfl _ rfl (.bool false) rfl) trivial ?_
      simp only [AP]
      refine wpSeq_nil ?_
      refine (by assumption : ∀ (a : Act) (w : World), _ → _) _ _ ?_
      clear r3 r3'
      go_upto_region 11 with fail
      rename_i aK
      refine wp_region_seq ?_
      refine wpSeq_wp rfl (wp_build_run 22 rfl _ _ (run_buildSlice_none _) ?_)
      simp only [AP]
      have O3 := ow_none w2.heap.size w2 (Nat.le_refl _)
      have b3 := (Below.refl w2.heap.size w2).alloc (Nat.le_refl _) (.cells #[] 5)
      have k1' : (w2.alloc (.cells #[] 5)).cell? ⟨g12, 1, none⟩ = some (.slice p1 n1 c1) := (K12.below' b3).cell 1
      have l12 := K12.lt
      generalize World.alloc w2 _ = w3 at *
      clear k1 k2
      obtain ⟨v4, w4, r4, O4, B4⟩ := append_more w2.heap.size w2 w3 22 _ _ [] fb O3 (DB.out.below (PL2.bel.trans (b3.mono PL2.bel.size))) (by have := FF.out; have := LQ.out; simp; omega) b3 b3.size
      rw [List.nil_append] at O4
      obtain ⟨p4, c4, rfl⟩ := O4.shape
      rw [FF.out.2.2.1] at O4 r4
      have PL4 := PL2.below B4
      have K4 := K12.below' B4
      have IN := Lib.hid (inr_of O4 FF.out.1)
      have SB4 := Lib.hid O4.sb
      generalize w2.heap.size = G0 at *
      replace r4 := Lib.hid r4
      clear O3 O4 PL2 K12 B4 b3
      refine wpSeq_yield (S := fun _ => True) (v := .pointer (some ⟨g12, 1, none⟩)) (Or.inl ⟨by rfl, fun w' hw' => by go_simp⟩) trivial ?_
      simp only [AP]
      refine wpSeq_yield (S := fun w' => w' = w3) (v := .slice p1 n1 c1) (Or.inl ⟨by rfl, fun w' hw' => by (rw [hw']; go_simp)⟩) rfl ?_
      simp only [AP]
      refine wpSeq_wp rfl (wp_append_run _ _ _ _ rfl _ _ rfl rfl _ w4 r4.out ?_)
      simp only [AP]
      refine wpSeq_yield (S := fun _ => True) (yieldsIf_assign rfl _ rfl (.slice p4 n1 c4) rfl) trivial ?_
      simp only [AP]
      refine wpSeq_nil ?_
      refine (by assumption : ∀ (a : Act) (w : World), _ → _) _ _ ?_
      clear r4 k1'
      have k2 : w4.cell? ⟨g12, 2, none⟩ = some (.slice p2 n2 c2) := K4.cell 2
      go_upto_region 12 with fail
      rename_i aK
      refine wp_region_seq ?_
      refine wpSeq_yield (S := fun _ => True) (yieldsIf_move rfl _ rfl (.pointer (some ⟨g, 0, none⟩)) rfl) trivial ?_
      simp only [AP]
      refine wpSeq_yield (S := fun _ => True) (yieldsIf_move rfl _ rfl (.slice p4 n1 c4) rfl) trivial ?_
      simp only [AP]
      refine wpSeq_yield (S := fun _ => True) (v := .pointer (some ⟨g12, 2, none⟩)) (Or.inl ⟨by rfl, fun w' hw' => by go_simp⟩) trivial ?_
      simp only [AP]
      refine wpSeq_yield (S := fun w' => w' = w4) (v := .slice p2 n2 c2) (Or.inl ⟨by rfl, fun w' hw' => by (rw [hw']; go_simp)⟩) rfl ?_
      simp only [AP]
      refine wpSeq_wp rfl ?_
      unfold Oper.wp execOp
      go_simp
      have P5 := sp_two 22 SB4.out (DC.out.below PL4.bel)
      have bx := (Below.refl w4.heap.size w4).alloc (Nat.le_refl _) (.cells #[.slice p4 n1 c4, .slice p2 n2 c2] 22)
      have PL5 := PL4.below bx
      have K5 := K4.below' bx
      have IN5 := Lib.hid (show n1 = 0 ∨ ∃ k, p4 = some ⟨k, 0, none⟩ ∧ G0 ≤ k ∧ k < w4.heap.size ∧ InR (w4.alloc (.cells #[.slice p4 n1 c4, .slice p2 n2 c2] 22)) k n1 from IN.out.imp id (fun ⟨k, e, h1, h2, h3⟩ => ⟨k, e, h1, h2, h3.blk (bx.block k h2)⟩))
      have z45 := bx.size
      generalize World.alloc w4 _ = w5 at *
      clear bx IN SB4 PL4 K4 k2
      have AD := add_c W.heap.size g sv m s [fb, fc] _ 2 2 w5 PL5.sch PL5.bel.size P5 (fun l h => by simp only [List.mem_cons, List.not_mem_nil, or_false] at h; rcases h with rfl | rfl; exact FF.out.1; exact FF.out.2.1) (by have := LQ.out; omega) (by have := FF.out; have := LQ.out; simp; omega) (by simp)
      rw [show [fb, fc].flatten = fb ++ fc by simp] at AD
      replace AD := Lib.hid AD
      generalize w4.heap.size = G1 at *
      clear P5
      refine wpSeq_wp rfl ?_
      unfold Oper.wp execOp
      go_simp
      refine (AD.out).mono ?_
      rintro _ w6 ⟨⟨u6, rfl⟩, v6, X6, M6, O6⟩
      have PL6 := PL5.add X6 M6 O6
      have K6 : Blk w6 g12 33 #[.int .u8 (kd : Int), .slice p1 n1 c1, .slice p2 n2 c2] := (M6.block g12 K5.lt (by have := L12.out.1; omega) (fun e => by have := L12.out.2.2.1 g12 e; omega)).trans K5
      have IN6 := Lib.hid (show n1 = 0 ∨ ∃ k, p4 = some ⟨k, 0, none⟩ ∧ (k ≠ g ∧ k ≠ gs ∧ k ≠ g12 ∧ v6.ownBlock ≠ some k ∧ vm.ownBlock ≠ some k ∧ W.heap.size ≤ k) ∧ InR w6 k n1 from IN5.out.imp id (fun ⟨k, e, h1, h2, h3⟩ => ⟨k, e, ⟨by have := L12.out.1; omega, by have := L12.out.2.1; omega, by omega, (fun e2 => by rcases O6 k e2 with h | h; exact absurd (L12.out.2.2.1 k h) (by omega); omega), (fun e2 => by have := L12.out.2.2.2 k e2; omega), Nat.le_trans (Nat.le_trans PL5.sch.hg (Nat.le_of_lt L12.out.1)) (by omega)⟩, h3.blk (M6.block k (by omega) (by have := L12.out.1; omega) (fun e2 => by have := L12.out.2.2.1 k e2; omega))⟩))
      clear X6 M6 O6 PL5 K5 IN5 AD z45 l12
      go_simp
      refine wpSeq_nil ?_
      refine (by assumption : ∀ (a : Act) (w : World), _ → _) _ _ ?_
      go_upto_region 13 with fail
      rename_i aK
      refine wp_region_seq ?_
      refine wpSeq_yield (S := fun _ => True) (yieldsIf_move rfl _ rfl (.slice p4 n1 c4) rfl) trivial ?_
      simp only [AP]
      refine wpSeq_yield (S := fun _ => True) (v := .int .i64 (n1 : Int)) (Or.inl ⟨by rfl, fun w' hw' => by go_simp⟩) trivial ?_
      simp only [AP]
      refine wpSeq_yield (S := fun _ => True) (yieldsIf_move rfl _ rfl (.int .i64 0) rfl) trivial ?_
      simp only [AP]
      refine wpSeq_nil ?_
      refine (by assumption : ∀ (a : Act) (w : World), _ → _) _ _ ?_
      replace L12 := L12
      clear w3 w4 w5
      go_upto_region 14 with fail
      rename_i aI
      generalize wr = wo at *
      go_loopw [78] (fun v wr => ∃ j : Nat, j ≤ n1 ∧ v = .int .i64 (j : Int) ∧ PL W wr gs g v6 vm (m ++ (fb ++ fc)) s m s ∧ Blk wr g12 33 #[.int .u8 (kd : Int), .slice p1 n1 c1, .slice p2 n2 c2] ∧ (n1 = 0 ∨ ∃ k, p4 = some ⟨k, 0, none⟩ ∧ (k ≠ g ∧ k ≠ gs ∧ k ≠ g12 ∧ v6.ownBlock ≠ some k ∧ vm.ownBlock ≠ some k ∧ W.heap.size ≤ k) ∧ InR wr k n1)) (fun v _ => (n1 - intOf v).toNat)
      case atStart => exact ⟨0, Nat.zero_le _, rfl, PL6, K6, IN6.out⟩
      case round =>
        clear PL6 K6 IN6
        obtain ⟨j, jm, rfl, PL7, K7, IN7⟩ := hrel
        by_cases jj : j = n1
        · replace jj := jj.symm
          subst jj
          clear IN7 jm
          go_upto_region 14 with fail
          rename_i aK
          refine wp_region_seq ?_
          refine wpSeq_yield (S := fun _ => True) (v := .bool false) (Or.inl ⟨by rfl, fun w' hw' => by (go_simp; try omega)⟩) trivial ?_
          simp only [AP]
          refine wpSeq_nil ?_
          refine (by assumption : ∀ (a : Act) (w : World), _ → _) _ _ ?_
          have bd := below_drew (Below.refl wr.heap.size wr)
          replace PL7 := PL7.below bd
          replace K7 := K7.below' bd
          clear bd
          go_upto_region 18 with fail
          rename_i aK
          refine wp_region_Z (S := fun w' => Below wr.drew.heap.size wr.drew w') 11 (by kernel_rfl) ?_
          generalize wr.drew = w8 at *
          have hS := Below.refl w8.heap.size w8
          obtain ⟨pm, cm, rfl⟩ := PL7.sha.row.shape
          obtain ⟨mm, hmm⟩ : ∃ k, m.length = k := ⟨_, rfl⟩
          rw [hmm] at PL7 L12
          replace hmm := Lib.hid hmm
          have C1 := Lib.hid (fun (w' : World) (h : Below w8.heap.size w8 w') => show w'.cell? ⟨g12, 1, none⟩ = some (.slice p1 n1 c1) from (K7.below' h).cell 1)
          have C2 := Lib.hid (fun (w' : World) (h : Below w8.heap.size w8 w') => show w'.cell? ⟨g12, 2, none⟩ = some (.slice p2 n2 c2) from (K7.below' h).cell 2)
          have C0 := Lib.hid (fun (w' : World) (h : Below w8.heap.size w8 w') => (PL7.below h).sha.cell)
          have RT := Lib.hid (fun (w' : World) (h : Below w8.heap.size w8 w') => PL7.bel.trans (h.mono PL7.bel.size))
          have RP := Lib.hid (fun (w' : World) (h : Below w8.heap.size w8 w') => PL7.below h)
          have PL7 := Lib.hid PL7
          clear K7
          refine wpAnyZ_takeL 1 (v := .pointer (some ⟨gs, 0, none⟩)) rfl (by kernel_rfl) (by kernel_rfl) (by kernel_rfl) (by kernel_rfl) (by kernel_rfl) (fun _ _ _ H => H) (Or.inl ⟨by rfl, fun w' hw' => by (go_simp)⟩) hS ?_
          simp only [AP]
          refine wpAnyZ_takeL 2 (v := .slice pm mm cm) rfl (by kernel_rfl) (by kernel_rfl) (by kernel_rfl) (by kernel_rfl) (by kernel_rfl) (fun _ _ _ H => H) (Or.inl ⟨by rfl, fun w' hw' => by (have hc := C0.out w' hw'; go_simp)⟩) hS ?_
          simp only [AP]
          refine wpAnyZ_takeL 4 (v := .pointer (some ⟨g12, 1, none⟩)) rfl (by kernel_rfl) (by kernel_rfl) (by kernel_rfl) (by kernel_rfl) (by kernel_rfl) (fun _ _ _ H => H) (Or.inl ⟨by rfl, fun w' hw' => by go_simp⟩) hS ?_
          simp only [AP]
          refine wpAnyZ_takeL 5 (v := .slice p1 n1 c1) rfl (by kernel_rfl) (by kernel_rfl) (by kernel_rfl) (by kernel_rfl) (by kernel_rfl) (fun _ _ _ H => H) (Or.inl ⟨by rfl, fun w' hw' => by (have hc := C1.out w' hw'; go_simp)⟩) hS ?_
          simp only [AP]
          refine wpAnyZ_takeL 7 (v := .pointer (some ⟨g12, 2, none⟩)) rfl (by kernel_rfl) (by kernel_rfl) (by kernel_rfl) (by kernel_rfl) (by kernel_rfl) (fun _ _ _ H => H) (Or.inl ⟨by rfl, fun w' hw' => by go_simp⟩) hS ?_
          simp only [AP]
          refine wpAnyZ_takeL 8 (v := .slice p2 n2 c2) rfl (by kernel_rfl) (by kernel_rfl) (by kernel_rfl) (by kernel_rfl) (by kernel_rfl) (fun _ _ _ H => H) (Or.inl ⟨by rfl, fun w' hw' => by (have hc := C2.out w' hw'; go_simp)⟩) hS ?_
          simp only [AP]
          clear C0 C1 C2
          refine gzstep 0 rfl (by kernel_rfl) rfl (wp_build_run 22 rfl _ _ (run_buildSlice_none _) ?_)
          simp only [AP]
          have O9 := ow_none w8.heap.size w8 (Nat.le_refl _)
          have b9 := (Below.refl w8.heap.size w8).alloc (Nat.le_refl _) (.cells #[] 5)
          refine ⟨fun _ => b9, ?_⟩
          generalize World.alloc w8 _ = w9 at *
          obtain ⟨y1, w10, r10, O10, B10⟩ := append_more w8.heap.size w8 w9 22 _ _ [] m O9 (RP.out w9 b9).sha.row.sb (by have := LQ.out; simp; omega) b9 b9.size
          rw [List.nil_append] at O10
          obtain ⟨y2, w11, r11, O11, B11⟩ := append_more w8.heap.size w8 w10 22 y1 _ m fb O10 (DB.out.below (RT.out w10 B10)) (by have := FF.out; have := LQ.out; omega) B10 B10.size
          obtain ⟨y3, w12, r12, O12, B12⟩ := append_more w8.heap.size w8 w11 22 y2 _ (m ++ fb) fc O11 (DC.out.below (RT.out w11 B11)) (by have := FF.out; have := LQ.out; rw [List.length_append]; omega) B11 B11.size
          rw [List.append_assoc] at O12
          obtain ⟨q1, d1, rfl⟩ := O10.shape
          obtain ⟨q2, d2, rfl⟩ := O11.shape
          obtain ⟨q3, d3, rfl⟩ := O12.shape
          obtain ⟨l1, hl1⟩ : ∃ k, m.length = k := ⟨_, rfl⟩
          obtain ⟨l2, hl2⟩ : ∃ k, (m ++ fb).length = k := ⟨_, rfl⟩
          obtain ⟨l3, hl3⟩ : ∃ k, (m ++ (fb ++ fc)).length = k := ⟨_, rfl⟩
          rw [hl1] at r10 r11
          rw [hl2] at r11 r12
          rw [hl3] at r12 O12
          have hl3' := Lib.hid hl3
          have bm9 : Bytes (m ++ (fb ++ fc)) := PL7.out.sch.bm
          have PLx := RP.out w12 B12
          have PLm := Lib.hid (PLx.msg PL7.out B12 O12 bm9)
          have c12 : w12.cell? ⟨gs, 0, none⟩ = some (.slice pm mm cm) := PLx.sha.cell
          have f12 := Blk.frozen PLx.sha.blk 0
          have lm9 : (m ++ (fb ++ fc)).length ≤ 400 * (i + 1) := by rw [List.length_append, List.length_append]; have := FF.out; have := LQ.out; omega
          replace lm9 := Lib.hid lm9
          replace r10 := Lib.hid r10
          replace r11 := Lib.hid r11
          replace r12 := Lib.hid r12
          have B12h := Lib.hid B12
          clear O9 O10 O11 O12 hl1 hl2 hl3 b9 bm9 PLx hS PL7 RT RP
          refine gzstep 3 rfl (by kernel_rfl) rfl (wp_append_run _ _ _ _ rfl _ _ rfl rfl _ w10 r10.out ⟨fun _ => B10, ?_⟩)
          simp only [AP]
          refine gzstep 6 rfl (by kernel_rfl) rfl (wp_append_run _ _ _ _ rfl _ _ rfl rfl _ w11 r11.out ⟨fun _ => B11, ?_⟩)
          simp only [AP]
          refine gzstep 9 rfl (by kernel_rfl) rfl (wp_append_run _ _ _ _ rfl _ _ rfl rfl _ w12 r12.out ⟨fun _ => B12, ?_⟩)
          simp only [AP]
          clear r10 r11 r12 B10 B11
          refine gzstep 10 rfl (by kernel_rfl) rfl ?_
          unfold Oper.wp execOp
          go_simp
          refine gzstep 11 rfl (by kernel_rfl) rfl ?_
          unfold Oper.wp execOp
          go_simp
          clear B12 c12 f12
          generalize World.setCell w12 _ _ = w13 at *
          refine wpAnyZ_done (by kernel_rfl) ?_ _
          refine (by assumption : ∀ (a : Act) (w : World), _ → _) _ _ ?_
          clear aK
          go_upto_region 26 with fail
          rename_i aK
          refine wp_region_seq ?_
          refine wpSeq_yield (S := fun _ => True) (v := .int .i64 ((i + 1 : Nat) : Int)) (Or.inl ⟨by rfl, fun w' hw' => by go_simp⟩) trivial ?_
          simp only [AP]
          refine wpSeq_yield (S := fun _ => True) (yieldsIf_move rfl _ rfl (.int .i64 ((i + 1 : Nat) : Int)) rfl) trivial ?_
          simp only [AP]
          refine wpSeq_nil ?_
          go_wp2
          exact ⟨⟨i + 1, by have := LQ.out; omega, by have := LQ.out; omega, rfl, g, v6, _, m ++ (fb ++ fc), s, rfl, PLm.out, lm9.out⟩, by have := LQ.out; simp only [intOf]; omega⟩
        · have jl : j < n1 := by omega
          obtain ⟨kin, e4, KF, IR⟩ : ∃ k, p4 = some ⟨k, 0, none⟩ ∧ (k ≠ g ∧ k ≠ gs ∧ k ≠ g12 ∧ v6.ownBlock ≠ some k ∧ vm.ownBlock ≠ some k ∧ W.heap.size ≤ k) ∧ InR wr k n1 := by
            rcases IN7 with h | h
            · omega
            · exact h
          subst e4
          obtain ⟨cur, Kc, hcn, hcx⟩ := IR.row
          obtain ⟨x, hx8, hxc⟩ := hcx j jl
          have cx : wr.cell? ⟨kin, j, none⟩ = some (.int .u8 (x : Int)) := (Blk.cell Kc j).trans hxc
          have fx := Blk.frozen Kc j
          have yx : bits .xor .u8 (x : Int) 255 = ((x ^^^ 255 : Nat) : Int) := xor8 x 255 hx8 (by decide)
          have y8 : x ^^^ 255 < 256 := Nat.xor_lt_two_pow (n := 8) hx8 (by decide)
          obtain ⟨y, hy⟩ : ∃ y, x ^^^ 255 = y := ⟨_, rfl⟩
          rw [hy] at yx y8
          have G9 : wr.grownBy (wr.setCell ⟨kin, j, none⟩ (.int .u8 (y : Int))) (some kin) := ⟨rfl, rfl, rfl, by simp, fun k _ hk => Below.heap_setCell wr _ _ k (fun e => hk (by rw [e]))⟩
          have PL9 := Lib.hid (PL7.far G9 KF.1 KF.2.1 KF.2.2.2.1 KF.2.2.2.2.1 KF.2.2.2.2.2)
          have K9 := Lib.hid (show Blk (wr.setCell ⟨kin, j, none⟩ (.int .u8 (y : Int))) g12 33 #[.int .u8 (kd : Int), .slice p1 n1 c1, .slice p2 n2 c2] from (G9.block g12 K7.lt (fun e => KF.2.2.1 (Option.some.inj e).symm)).trans K7)
          have I9 := Lib.hid (IR.set j y y8)
          have z3 : (0 : Int) ≤ (j : Int) := by omega
          have z4 : (j : Int) < (n1 : Int) := by omega
          have z5 : IntKind.i64.wrap ((j : Int) + 1) = ((j + 1 : Nat) : Int) := by have := LQ.out; rw [IntKind.wrap_i64]; omega
          replace KF := Lib.hid KF
          replace jl := Lib.hid jl
          clear IN7 IR Kc hcn hcx hxc hx8 hy y8 G9 PL7 K7 jm jj
          go_upto_region 14 with fail
          rename_i aK
          refine wp_region_seq ?_
          refine wpSeq_yield (S := fun _ => True) (v := .bool true) (Or.inl ⟨by rfl, fun w' hw' => by (go_simp; try omega)⟩) trivial ?_
          simp only [AP]
          refine wpSeq_nil ?_
          refine (by assumption : ∀ (a : Act) (w : World), _ → _) _ _ ?_
          go_upto_region 15 with fail
          rename_i aK
          refine wp_region_seq ?_
          refine wpSeq_yield (S := fun _ => True) (yieldsIf_move rfl _ rfl (.int .i64 (j : Int)) rfl) trivial ?_
          simp only [AP]
          refine wpSeq_yield (S := fun _ => True) (yieldsIf_assign rfl _ rfl (.int .i64 (j : Int)) rfl) trivial ?_
          simp only [AP]
          refine wpSeq_nil ?_
          refine (by assumption : ∀ (a : Act) (w : World), _ → _) _ _ ?_
          go_upto_region 16 with fail
          rename_i aK
          refine wp_region_seq ?_
          refine wpSeq_yield (S := fun _ => True) (yieldsIf_move rfl _ rfl (.slice (some ⟨kin, 0, none⟩) n1 c4) rfl) trivial ?_
          simp only [AP]
          refine wpSeq_yield (S := fun _ => True) (yieldsIf_move rfl _ rfl (.int .i64 (j : Int)) rfl) trivial ?_
          simp only [AP]
          refine wpSeq_yield (S := fun _ => True) (v := .pointer (some ⟨kin, j, none⟩)) (Or.inl ⟨by rfl, fun w' hw' => by (go_simp; try omega)⟩) trivial ?_
          simp only [AP]
          refine wpSeq_yield (S := fun w' => w' = wr) (v := .int .u8 (x : Int)) (Or.inl ⟨by rfl, fun w' hw' => by (rw [hw']; go_simp)⟩) rfl ?_
          simp only [AP]
          refine wpSeq_yield (S := fun _ => True) (v := .int .u8 (y : Int)) (Or.inl ⟨by rfl, fun w' hw' => by (go_simp; try rw [yx])⟩) trivial ?_
          simp only [AP]
          refine wpSeq_yield (S := fun _ => True) (v := .pointer (some ⟨kin, j, none⟩)) (Or.inl ⟨by rfl, fun w' hw' => by (go_simp; try omega)⟩) trivial ?_
          simp only [AP]
          refine wpSeq_wp rfl ?_
          unfold Oper.wp execOp
          go_simp
          refine wpSeq_nil ?_
          refine (by assumption : ∀ (a : Act) (w : World), _ → _) _ _ ?_
          clear cx fx yx
          generalize World.setCell wr _ _ = w9 at *
          go_upto_region 17 with fail
          rename_i aK
          refine wp_region_seq ?_
          refine wpSeq_yield (S := fun _ => True) (v := .int .i64 ((j + 1 : Nat) : Int)) (Or.inl ⟨by rfl, fun w' hw' => by go_simp⟩) trivial ?_
          simp only [AP]
          refine wpSeq_yield (S := fun _ => True) (yieldsIf_move rfl _ rfl (.int .i64 ((j + 1 : Nat) : Int)) rfl) trivial ?_
          simp only [AP]
          refine wpSeq_nil ?_
          go_wp2
          exact ⟨⟨j + 1, by have := jl.out; omega, rfl, PL9.out, K9.out, Or.inr ⟨kin, rfl, KF.out, I9.out⟩⟩, by have := jl.out; simp only [intOf]; omega⟩
end Go.Proofs.YtdmhngkedgkndaaDoor
