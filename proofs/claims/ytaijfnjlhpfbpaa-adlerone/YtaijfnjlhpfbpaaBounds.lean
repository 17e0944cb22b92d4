/-
  What it says of a number that it fits its type: a byte, a uint32, an int. No conditions.
-/
import Derived.Test.YtaijfnjlhpfbpaaAwake
namespace Go.Proofs.Ytaijfnjlhpfbpaa
open Go.RowKit

theorem byte_of {n : Int} (h : (Lit.int .u8 n).wf = true) : 0 ≤ n ∧ n ≤ 255 := by
  have := bounds_u8 h
  omega
theorem word_of {n : Int} (h : (Lit.int .u32 n).wf = true) : 0 ≤ n ∧ n < 4294967296 := by
  have := bounds_u32 h
  omega
theorem int_of {n : Int} (h : (Lit.int .i64 n).wf = true) : -9223372036854775808 ≤ n ∧ n ≤ 9223372036854775807 := by
  have := bounds_i64 h
  omega

end Go.Proofs.Ytaijfnjlhpfbpaa
