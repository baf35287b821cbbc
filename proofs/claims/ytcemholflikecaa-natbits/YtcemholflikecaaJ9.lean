/- Contracts of the program's functions, part 9: own work, joined in build order. -/
import Derived.Test.YtcemholflikecaaJ8
namespace Go.Proofs.Ytcemholflikecaa
open Go.RowKit
theorem natBits_true (a0 : Option Addr) (l0 k0 : Nat) (D0 : Nat → Nat) (z : Int) (w : World) (h0 : BSl w a0 l0 k0 D0) :
    Calls Try.prog 4 #[.slice a0 l0 k0, .int .i64 z] w fun e w' => e = .returned (.bool true) ∧ Below w.heap.size w w' := by
  rcases Int.lt_or_eq_of_le (Int.emod_nonneg z (show (512 : Int) ≠ 0 by decide)) with h | h
  · exact natBits_pos a0 l0 k0 D0 z w h0 h
  · exact natBits_zero a0 l0 k0 D0 z w h0 h.symm
end Go.Proofs.Ytcemholflikecaa
