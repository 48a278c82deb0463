/- The law FieldRoots: a root of x over y, if there is one; of a square over another one always. -/
import Derived.Test.YtknmmjnkafmoaaaLawRootsA
import Derived.Test.YtknmmjnkafmoaaaLawRootsB
import Derived.Test.YtknmmjnkafmoaaaLawRootsC
import Derived.Test.YtknmmjnkafmoaaaLawRootsD
import Derived.Test.YtknmmjnkafmoaaaLawRootsE
namespace Go.Proofs.Ytknmmjnkafmoaaa
open Go.RowKit

theorem roots_any (l0 l1 : List Int) (f0 f1 : Nat → Nat) (hl0 : Bytes32 l0 f0) (hl1 : Bytes32 l1 f1) (w : World) :
    Calls Try.prog 9 #[Key l0, Key l1] w fun e w' => e = .returned (.bool true) ∧ Below w.heap.size w w' := by
  by_cases hx : leTo f0 32 % 57896044618658097711785492504343953926634992332820282019728792003956564819968 % pp = 0
  · by_cases hy : leTo f1 32 % 57896044618658097711785492504343953926634992332820282019728792003956564819968 % pp = 0
    · exact roots_A l0 l1 f0 f1 hl0 hl1 hx hy w
    · exact roots_B l0 l1 f0 f1 hl0 hl1 hx hy w
  · by_cases hy : leTo f1 32 % 57896044618658097711785492504343953926634992332820282019728792003956564819968 % pp = 0
    · exact roots_C l0 l1 f0 f1 hl0 hl1 hx hy w
    · cases hok : rOk (leTo f0 32 % 57896044618658097711785492504343953926634992332820282019728792003956564819968 % pp) (leTo f1 32 % 57896044618658097711785492504343953926634992332820282019728792003956564819968 % pp) with
      | true => exact roots_D l0 l1 f0 f1 hl0 hl1 hx hy hok w
      | false => exact roots_E l0 l1 f0 f1 hl0 hl1 hx hy hok w
end Go.Proofs.Ytknmmjnkafmoaaa
