/- sha2: what is done with each block: the function that Sum256 hands over. -/
import Derived.Test.YtjkocockbglenaaDoorHd
import Derived.Laws.AppendOwn
namespace Go.Proofs.YtjkocockbglenaaDoor
open Go.RowKit

theorem grown_of_below {w w' : World} {row : Option Nat} (h : Below w.heap.size w w') : w.grownBy w' row := ⟨h.os, h.tape, h.output, h.size, fun k hk _ => h.block k hk⟩
theorem grown_row {w : World} (g : Nat) (cs : Array Value) : w.grownBy (w.setRow g cs) (some g) := ⟨rfl, rfl, rfl, by simp, fun k _ hk => setRow_other w g k cs (fun e => hk (by rw [e]))⟩
theorem grown_trans {a b c : World} {row : Option Nat} (h : a.grownBy b row) (k : b.grownBy c row) : a.grownBy c row :=
  ⟨k.os.trans h.os, k.tape.trans h.tape, k.output.trans h.output, Nat.le_trans h.size k.size, fun i hi hne => (k.block i (Nat.lt_of_lt_of_le hi h.size) hne).trans (h.block i hi hne)⟩

set_option maxHeartbeats 2000000 in
set_option maxRecDepth 100000 in
theorem each_any (cu hh b : Nat → Nat) (gb o c gw : Nat) (w : World) (hb : By w gb o 64 b) (ht : Tab w cu) (hw : Blk w gw 50 (Iv .u32 (W8 hh))) (hl : ∀ i, i < 8 → hh i < 4294967296) :
    Calls Tryd.prog 24 #[.slice (some ⟨gb, o, none⟩) 64 c, .pointer (some ⟨gw, 0, none⟩)] w fun e w' => (∃ v, e = .returned v) ∧ w.grownBy w' (some gw) ∧ Blk w' gw 50 (Iv .u32 (W8 (comp cu hh b))) := by
  have cR : Hid (∀ W, By W gb o 64 b → Tab W cu → Calls Tryd.prog 25 #[.agg (Iv .u32 (W8 hh)), .slice (some ⟨gb, o, none⟩) 64 c] W fun e w' => e = .returned (V8 (comp cu hh b)) ∧ Below W.heap.size W w') := Lib.hid fun W h t => rounds256_any cu hh b gb o c W h t hl
  go_enter Tryd.func24, Tryd.ntmps24
  go_wp2_with (first | (refine wpList_load_row rfl 50 _ rfl gw rfl 50 _ (0, 0) _ hw Tryd.underlying50 rfl (info_W8 _) ?_))
  refine (cR.out _ hb ht).mono ?_
  rintro e w1 ⟨rfl, b1⟩
  have hw1 := hw.below' b1
  have g1 : w.grownBy w1 (some gw) := grown_of_below b1
  clear b1 cR
  unfold V8
  go_wp2_with (first | (refine wpList_store_row rfl 50 _ _ rfl gw (Iv .u32 (W8 (comp cu hh b))) rfl rfl 50 _ hw1 (info_W8 _) (by rw [Iv_size, Iv_size, W8_length, W8_length]) (Iv_one _ _) ?_))
  refine bodyPost_end (results_none rfl _ _ _) rfl ?_
  exact ⟨⟨_, rfl⟩, grown_trans g1 (grown_row gw _), hw1.row _⟩

end Go.Proofs.YtjkocockbglenaaDoor
