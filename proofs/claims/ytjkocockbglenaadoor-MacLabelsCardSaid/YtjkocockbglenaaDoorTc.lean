/- The example of chapter 4, by the kernel. -/
import Derived.Test.YtjkocockbglenaaDoorTb
namespace Go.Proofs.YtjkocockbglenaaDoor
theorem awake_num : (hmac cuT sqT (List.range 13) (List.replicate 22 11)).take 4 = [7, 119, 9, 54] := by decide +kernel
end Go.Proofs.YtjkocockbglenaaDoor
