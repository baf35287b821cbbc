/- The two lists that NamesNumbers holds against each other: errs and limits each make one new block, in which each number stands twice. -/
import Derived.Test.YtboamgnnfggleaaDoorRows
import Derived.WalkKit
import Derived.WalkSpells
import Derived.WalkLawsBesides
namespace Go.Proofs.YtboamgnnfggleaaDoor
open Go.RowKit
set_option maxRecDepth 100000
/-- Each number twice, as cells. -/
def twice : List Int → List Value
  | [] => []
  | n :: r => .int .i64 n :: .int .i64 n :: twice r
def errL : List Int := [0, 1, 2, 30, 50, 60, 61, 70, 80, 90, 91, 92, 93, 94, 95, 96, 97, 98, 99, 100, 101, 110, 170, 190, 200, 201, 202, 203]
def limL : List Int := [4611686018427387904, 256, 1073741824, 65536, 4096, 1073741824, 15, 1099511627776, 1099511627776, 1099511627776, 1048576, 65536, 400, 2048, 16777216, 100, 1048576, 1073741824, 32, 4096, 1, 2, 3, 4, 5, 6]
set_option maxHeartbeats 1000000 in
theorem errs_any (w : World) : Calls Tryd.prog 4 #[] w fun e w' => e = .returned (.slice (some ⟨w.heap.size, 0, none⟩) 28 28) ∧ w' = w.alloc (.cells (twice errL).toArray 25) := by
  go_enter Tryd.func4, Tryd.ntmps4
  go_wp2
  go_ret
  exact ⟨rfl, rfl⟩
set_option maxHeartbeats 1000000 in
theorem limits_any (w : World) : Calls Tryd.prog 5 #[] w fun e w' => e = .returned (.slice (some ⟨w.heap.size, 0, none⟩) 26 26) ∧ w' = w.alloc (.cells (twice limL).toArray 25) := by
  go_enter Tryd.func5, Tryd.ntmps5
  go_wp2
  go_ret
  exact ⟨rfl, rfl⟩
end Go.Proofs.YtboamgnnfggleaaDoor
