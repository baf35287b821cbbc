/- What (api.Errno).Error tells of 202 and of 0. -/
import Derived.Test.YtboamgnnfggleaaDoorRows
import Derived.WalkKit
import Derived.WalkSpells
import Derived.WalkLawsBesides
namespace Go.Proofs.YtboamgnnfggleaaDoor
open Go.RowKit
set_option maxRecDepth 100000
theorem ret_int {k : IntKind} {a b : Int} (h : a = b) : Ending.returned (.int k a) = .returned (.int k b) := by rw [h]
set_option maxHeartbeats 1000000 in
theorem error0 (w : World) : Calls Tryd.prog 6 #[.int .i64 0] w fun e w' => e = .returned (.string ⟨#[101, 114, 114, 111, 114, 32, 48]⟩) ∧ Below w.heap.size w w' := by
  go_enter Tryd.func6, Tryd.ntmps6
  go_wp2
  go_ret
  exact ⟨rfl, Below.refl _ _⟩
set_option maxHeartbeats 1000000 in
theorem len202 (w : World) : Calls Tryd.prog 19 #[.int .u64 202] w fun e w' => e = .returned (.int .i64 8) ∧ w' = w := by
  go_enter Tryd.func19, Tryd.ntmps19
  go_wp2
  go_ret
  exact ⟨ret_int (by decide +kernel), rfl⟩
set_option maxHeartbeats 1000000 in
theorem digits202 (w : World) (h : w.cell? ⟨1, 2, none⟩ = some (.int .u64 100)) : Calls Tryd.prog 15 #[.int .u64 202] w fun e w' => e = .returned (.int .i64 3) ∧ w' = w := by
  go_enter Tryd.func15, Tryd.ntmps15
  go_wp2_with (first | (go_at_call 19; refine (len202 _).mono ?_; rintro e w' ⟨rfl, rfl⟩) | go_in)
  go_ret
  exact ⟨rfl, rfl⟩
set_option maxHeartbeats 1000000 in
theorem base202 (b : Nat) (v1 v2 v3 : Value) (w : World) (h1 : w.cell? ⟨b, 1, none⟩ = some v1) (h2 : w.cell? ⟨b, 2, none⟩ = some v2) (h3 : w.cell? ⟨b, 3, none⟩ = some v3) (f1 : w.frozen? ⟨b, 1, none⟩ = false) (f2 : w.frozen? ⟨b, 2, none⟩ = false) (f3 : w.frozen? ⟨b, 3, none⟩ = false) :
    Calls Tryd.prog 16 #[.slice (some ⟨b, 1, none⟩) 3 23, .int .u64 202] w fun e w' => e = .returned (.tuple #[]) ∧ w' = (((w.setCell ⟨b, 3, none⟩ (.int .u8 50)).setCell ⟨b, 2, none⟩ (.int .u8 48)).setCell ⟨b, 1, none⟩ (.int .u8 50)).drew := by
  go_enter Tryd.func16, Tryd.ntmps16
  go_wp2
  refine wp_loop_rounds 1 ?_
  rw [rounds_succ]
  go_wp2
  go_region
  go_wp2
  go_end0
  exact ⟨rfl, rfl⟩
set_option maxHeartbeats 1000000 in
theorem format202 (w : World) (h : w.cell? ⟨1, 2, none⟩ = some (.int .u64 100)) (hs : 1 < w.heap.size) : Calls Tryd.prog 13 #[.int .i64 202, .int .i64 10] w fun e w' => e = .returned (.string ⟨#[50, 48, 50]⟩) ∧ Below w.heap.size w w' := by
  go_enter Tryd.func13, Tryd.ntmps13
  go_wp2_with fail
  refine (digits202 _ (by rw [World.cell?_alloc_past _ _ _ hs]; exact h)).mono ?_
  rintro e w' ⟨rfl, rfl⟩
  go_wp2_with fail
  refine (base202 w.heap.size (.int .u8 0) (.int .u8 0) (.int .u8 0) _ (by simp) (by simp) (by simp) (by simp) (by simp) (by simp)).mono ?_
  rintro e w' ⟨rfl, rfl⟩
  go_wp2_with fail
  rw [run_convert_bytes_arg _ 38 5 Tryd.underlying38 Tryd.underlying5 w.heap.size 1 3 23 [50, 48, 50] rfl (by
    intro i hi
    match i, hi with
    | 0, _ => simp
    | 1, _ => simp
    | 2, _ => simp) 9 Tryd.underlying9]
  go_wp2_with fail
  go_ret
  exact ⟨rfl, ((Below.refl _ _).alloc (Nat.le_refl _) _).drew⟩
set_option maxHeartbeats 1000000 in
theorem error202 (w : World) (h : w.cell? ⟨1, 2, none⟩ = some (.int .u64 100)) (hs : 1 < w.heap.size) : Calls Tryd.prog 6 #[.int .i64 202] w fun e w' => e = .returned (.string ⟨#[101, 114, 114, 111, 114, 32, 50, 48, 50]⟩) ∧ Below w.heap.size w w' := by
  go_enter Tryd.func6, Tryd.ntmps6
  go_wp2_with (first | (go_at_call 13; refine (format202 _ h hs).mono ?_; rintro e w' ⟨rfl, hb⟩) | go_in)
  go_ret
  exact ⟨rfl, hb⟩
end Go.Proofs.YtboamgnnfggleaaDoor
