/- Contracts of the program's functions, part 23: own work, joined in build order. -/
import Derived.Test.YtfjmnhmdipjenaaGreatDoorJ22
namespace Go.Proofs.YtfjmnhmdipjenaaGreatDoor
open Go.RowKit
set_option maxRecDepth 100000
set_option linter.unusedVariables false
theorem st_one : (⟨(Lib.join ((headT 1 100 50 10 2 0).map (·.data.toList)) [32]).toArray⟩ : ByteArray) = ⟨#[107, 105, 110, 100, 32, 119, 102, 113, 32, 114, 111, 111, 109, 32, 49, 48, 48, 32, 109, 111, 115, 116, 32, 53, 48, 32, 99, 97, 112, 32, 49, 48, 32, 102, 108, 111, 119, 115, 32, 50, 32, 97, 103, 101, 32, 48]⟩ := by decide +kernel
theorem st_ck : checkE 1 100 50 10 2 0 (fun _ _ => 0) 0 = 0 := by decide +kernel
theorem st_fl : flowE 1 100 50 10 2 0 (fun _ _ => 0) 0 1 0 0 0 100 4602678819172646912 3 0 = 0 := by decide +kernel
theorem st_ff : ffP 4602678819172646912 = 1 ∧ ffQ 4602678819172646912 = 2 := by decide +kernel
theorem st_txt : (⟨(Lib.join ((flowT 1 0 0 0 100 3 0 (fmtT 1 2 1 1)).map (·.data.toList)) [32]).toArray⟩ : ByteArray) = ⟨#[119, 101, 105, 103, 104, 116, 32, 49, 32, 113, 117, 97, 110, 116, 117, 109, 32, 48, 32, 99, 108, 97, 115, 115, 32, 48, 32, 115, 112, 97, 110, 32, 48, 32, 98, 117, 114, 115, 116, 32, 49, 48, 48, 32, 114, 97, 116, 101, 32, 49, 47, 50, 32, 112, 101, 114, 32, 51, 32, 110, 111, 100, 101, 32, 48]⟩ := by decide +kernel
theorem st_fmt : (fmtT 1 2 1 1).size ≤ 4000 := by decide +kernel
theorem st_line : setV (wordsL ⟨#[107, 105, 110, 100, 32, 32, 119, 102, 113, 32, 109, 111, 115, 116, 32, 53, 48, 32, 114, 111, 111, 109, 32, 49, 48, 48, 32, 102, 108, 111, 119, 115, 32, 50, 32, 99, 97, 112, 32, 49, 48, 32, 97, 103, 101, 32, 48, 32]⟩, false) 0 = 1 ∧ setV (wordsL ⟨#[107, 105, 110, 100, 32, 32, 119, 102, 113, 32, 109, 111, 115, 116, 32, 53, 48, 32, 114, 111, 111, 109, 32, 49, 48, 48, 32, 102, 108, 111, 119, 115, 32, 50, 32, 99, 97, 112, 32, 49, 48, 32, 97, 103, 101, 32, 48, 32]⟩, false) 1 = 100 ∧ setV (wordsL ⟨#[107, 105, 110, 100, 32, 32, 119, 102, 113, 32, 109, 111, 115, 116, 32, 53, 48, 32, 114, 111, 111, 109, 32, 49, 48, 48, 32, 102, 108, 111, 119, 115, 32, 50, 32, 99, 97, 112, 32, 49, 48, 32, 97, 103, 101, 32, 48, 32]⟩, false) 2 = 50 ∧ setV (wordsL ⟨#[107, 105, 110, 100, 32, 32, 119, 102, 113, 32, 109, 111, 115, 116, 32, 53, 48, 32, 114, 111, 111, 109, 32, 49, 48, 48, 32, 102, 108, 111, 119, 115, 32, 50, 32, 99, 97, 112, 32, 49, 48, 32, 97, 103, 101, 32, 48, 32]⟩, false) 3 = 10 ∧ setV (wordsL ⟨#[107, 105, 110, 100, 32, 32, 119, 102, 113, 32, 109, 111, 115, 116, 32, 53, 48, 32, 114, 111, 111, 109, 32, 49, 48, 48, 32, 102, 108, 111, 119, 115, 32, 50, 32, 99, 97, 112, 32, 49, 48, 32, 97, 103, 101, 32, 48, 32]⟩, false) 4 = 2 ∧ setV (wordsL ⟨#[107, 105, 110, 100, 32, 32, 119, 102, 113, 32, 109, 111, 115, 116, 32, 53, 48, 32, 114, 111, 111, 109, 32, 49, 48, 48, 32, 102, 108, 111, 119, 115, 32, 50, 32, 99, 97, 112, 32, 49, 48, 32, 97, 103, 101, 32, 48, 32]⟩, false) 5 = 0 ∧ setS (wordsL ⟨#[107, 105, 110, 100, 32, 32, 119, 102, 113, 32, 109, 111, 115, 116, 32, 53, 48, 32, 114, 111, 111, 109, 32, 49, 48, 48, 32, 102, 108, 111, 119, 115, 32, 50, 32, 99, 97, 112, 32, 49, 48, 32, 97, 103, 101, 32, 48, 32]⟩, false) = ([], false) := by decide +kernel
theorem st_flow : flV (wordsL ⟨#[119, 101, 105, 103, 104, 116, 32, 49, 32, 113, 117, 97, 110, 116, 117, 109, 32, 48, 32, 99, 108, 97, 115, 115, 32, 48, 32, 115, 112, 97, 110, 32, 48, 32, 98, 117, 114, 115, 116, 32, 49, 48, 48, 32, 114, 97, 116, 101, 32, 49, 47, 50, 32, 112, 101, 114, 32, 51, 32, 110, 111, 100, 101, 32, 48]⟩, false) 0 = 1 ∧ flV (wordsL ⟨#[119, 101, 105, 103, 104, 116, 32, 49, 32, 113, 117, 97, 110, 116, 117, 109, 32, 48, 32, 99, 108, 97, 115, 115, 32, 48, 32, 115, 112, 97, 110, 32, 48, 32, 98, 117, 114, 115, 116, 32, 49, 48, 48, 32, 114, 97, 116, 101, 32, 49, 47, 50, 32, 112, 101, 114, 32, 51, 32, 110, 111, 100, 101, 32, 48]⟩, false) 1 = 0 ∧ flV (wordsL ⟨#[119, 101, 105, 103, 104, 116, 32, 49, 32, 113, 117, 97, 110, 116, 117, 109, 32, 48, 32, 99, 108, 97, 115, 115, 32, 48, 32, 115, 112, 97, 110, 32, 48, 32, 98, 117, 114, 115, 116, 32, 49, 48, 48, 32, 114, 97, 116, 101, 32, 49, 47, 50, 32, 112, 101, 114, 32, 51, 32, 110, 111, 100, 101, 32, 48]⟩, false) 2 = 0 ∧ flV (wordsL ⟨#[119, 101, 105, 103, 104, 116, 32, 49, 32, 113, 117, 97, 110, 116, 117, 109, 32, 48, 32, 99, 108, 97, 115, 115, 32, 48, 32, 115, 112, 97, 110, 32, 48, 32, 98, 117, 114, 115, 116, 32, 49, 48, 48, 32, 114, 97, 116, 101, 32, 49, 47, 50, 32, 112, 101, 114, 32, 51, 32, 110, 111, 100, 101, 32, 48]⟩, false) 3 = 0 ∧ flV (wordsL ⟨#[119, 101, 105, 103, 104, 116, 32, 49, 32, 113, 117, 97, 110, 116, 117, 109, 32, 48, 32, 99, 108, 97, 115, 115, 32, 48, 32, 115, 112, 97, 110, 32, 48, 32, 98, 117, 114, 115, 116, 32, 49, 48, 48, 32, 114, 97, 116, 101, 32, 49, 47, 50, 32, 112, 101, 114, 32, 51, 32, 110, 111, 100, 101, 32, 48]⟩, false) 4 = 100 ∧ flV (wordsL ⟨#[119, 101, 105, 103, 104, 116, 32, 49, 32, 113, 117, 97, 110, 116, 117, 109, 32, 48, 32, 99, 108, 97, 115, 115, 32, 48, 32, 115, 112, 97, 110, 32, 48, 32, 98, 117, 114, 115, 116, 32, 49, 48, 48, 32, 114, 97, 116, 101, 32, 49, 47, 50, 32, 112, 101, 114, 32, 51, 32, 110, 111, 100, 101, 32, 48]⟩, false) 5 = 3 ∧ flV (wordsL ⟨#[119, 101, 105, 103, 104, 116, 32, 49, 32, 113, 117, 97, 110, 116, 117, 109, 32, 48, 32, 99, 108, 97, 115, 115, 32, 48, 32, 115, 112, 97, 110, 32, 48, 32, 98, 117, 114, 115, 116, 32, 49, 48, 48, 32, 114, 97, 116, 101, 32, 49, 47, 50, 32, 112, 101, 114, 32, 51, 32, 110, 111, 100, 101, 32, 48]⟩, false) 6 = 0 ∧ flR (wordsL ⟨#[119, 101, 105, 103, 104, 116, 32, 49, 32, 113, 117, 97, 110, 116, 117, 109, 32, 48, 32, 99, 108, 97, 115, 115, 32, 48, 32, 115, 112, 97, 110, 32, 48, 32, 98, 117, 114, 115, 116, 32, 49, 48, 48, 32, 114, 97, 116, 101, 32, 49, 47, 50, 32, 112, 101, 114, 32, 51, 32, 110, 111, 100, 101, 32, 48]⟩, false) = ⟨#[49, 47, 50]⟩ ∧ flS (wordsL ⟨#[119, 101, 105, 103, 104, 116, 32, 49, 32, 113, 117, 97, 110, 116, 117, 109, 32, 48, 32, 99, 108, 97, 115, 115, 32, 48, 32, 115, 112, 97, 110, 32, 48, 32, 98, 117, 114, 115, 116, 32, 49, 48, 48, 32, 114, 97, 116, 101, 32, 49, 47, 50, 32, 112, 101, 114, 32, 51, 32, 110, 111, 100, 101, 32, 48]⟩, false) = ([], false) := by decide +kernel
theorem st_np : npE ⟨#[49, 47, 50]⟩ = 0 ∧ npP ⟨#[49, 47, 50]⟩ = 1 ∧ npQ ⟨#[49, 47, 50]⟩ = 2 := by decide +kernel
theorem st_tf : tfV 1 2 = 4602678819172646912 ∧ tfOk 1 2 = true := by decide +kernel
/-- The tree's nodes. -/
def stG (i j : Nat) : Int := (([[6, 0, 0, 0], [4, 0, 5, 7], [6, 0, 9, 0], [2, 2, 1, 0]] : List (List Int)).getD i []).getD j 0
theorem st_tck : checkE 6 100 50 10 2 0 stG 4 = 0 := by decide +kernel
theorem st_tree : (⟨(Lib.join ((headT 6 100 50 10 2 0 ++ nodesT stG 3).map (·.data.toList)) [32]).toArray⟩ : ByteArray) = ⟨#[107, 105, 110, 100, 32, 116, 114, 101, 101, 32, 114, 111, 111, 109, 32, 49, 48, 48, 32, 109, 111, 115, 116, 32, 53, 48, 32, 99, 97, 112, 32, 49, 48, 32, 102, 108, 111, 119, 115, 32, 50, 32, 97, 103, 101, 32, 48, 32, 110, 111, 100, 101, 32, 97, 103, 101, 32, 48, 32, 53, 32, 55, 32, 110, 111, 100, 101, 32, 116, 114, 101, 101, 32, 48, 32, 57, 32, 48, 32, 110, 111, 100, 101, 32, 100, 114, 114, 32, 50, 32, 49, 32, 48]⟩ := by decide +kernel
theorem st_zero : checkE 0 0 0 0 0 0 (fun _ _ => 0) 0 = 90 := by decide +kernel
theorem st_none : flowE 1 100 50 10 2 0 (fun _ _ => 0) 0 0 0 0 0 0 0 0 0 = 93 := by decide +kernel
theorem num9_any (n : Int) (w : World) : Calls Tryz.prog 6 #[.int .i64 n] w fun e w' => e = .returned (.int .i64 n) ∧ w' = w := by
  go_enter Tryz.func6, Tryz.ntmps6
  go_wp2_with fail
  go_ret
  exact ⟨rfl, rfl⟩
set_option maxHeartbeats 1000000 in
theorem same_flat (w : World) : Calls Tryz.prog 14 #[.agg #[.int .i64 1, .int .i64 100, .int .i64 50, .int .i64 10, .int .i64 2, .int .i64 0, .slice none 0 0], .agg #[.int .i64 1, .int .i64 100, .int .i64 50, .int .i64 10, .int .i64 2, .int .i64 0, .slice none 0 0]] w fun e w' => e = .returned (.bool true) ∧ Below w.heap.size w w' := by
  go_enter Tryz.func14, Tryz.ntmps14
  go_wp2_with fail
  go_loopw [5] (fun t wr => t = .int .i64 0 ∧ wr = (w.alloc (.cells #[.int .i64 1, .int .i64 100, .int .i64 50, .int .i64 10, .int .i64 2, .int .i64 0, .slice none 0 0] 24)).alloc (.cells #[.int .i64 1, .int .i64 100, .int .i64 50, .int .i64 10, .int .i64 2, .int .i64 0, .slice none 0 0] 24)) (fun _ _ => 0)
  case atStart => exact ⟨rfl, rfl⟩
  case round =>
    obtain ⟨rfl, rfl⟩ := hrel
    go_wp2_with fail
    go_ret
    exact ⟨rfl, bc_al (bc_al (bel_refl w))⟩
end Go.Proofs.YtfjmnhmdipjenaaGreatDoor

namespace Go.Proofs.YtfjmnhmdipjenaaGreatDoor
open Go.RowKit
set_option maxRecDepth 100000
set_option linter.unusedVariables false
/-- What lies in the package's variables. -/
structure Vs9 (w : World) : Prop where
  kn : KN w
  ev : EV w
  tab : Tab w
  pow : Lib.TabIs Tryz.prog w "internal/strconv.uint64pow10" .u64 Lib.pow10Tab
theorem Vs9.go {w W : World} (h : Vs9 w) (hB : Below w.heap.size w W) : Vs9 W := ⟨h.kn.go hB, h.ev.go hB, Tab.go h.tab hB, Lib.tabBelow_of_tabIs h.pow W hB⟩
theorem st_print (w : World) (h : Vs9 w) : Calls Tryz.prog 10 #[.agg #[.int .i64 1, .int .i64 100, .int .i64 50, .int .i64 10, .int .i64 2, .int .i64 0, .slice none 0 0]] w fun e w' => e = .returned (.tuple #[.string ⟨#[107, 105, 110, 100, 32, 119, 102, 113, 32, 114, 111, 111, 109, 32, 49, 48, 48, 32, 109, 111, 115, 116, 32, 53, 48, 32, 99, 97, 112, 32, 49, 48, 32, 102, 108, 111, 119, 115, 32, 50, 32, 97, 103, 101, 32, 48]⟩, .int .i64 0]) ∧ Below w.heap.size w w' := by
  refine (print_flat 1 100 50 10 2 0 none 0 0 (fun _ _ => 0) w (nsl_nil w) h.kn h.pow (by decide)).mono ?_
  rintro e w' ⟨s, rfl, hb, hs⟩
  rw [hs st_ck, st_ck, st_one]
  exact ⟨rfl, hb⟩
theorem st_five (i : Nat) (h : i < 5) : -9223372036854775808 ≤ setI 1 0 0 0 100 i ∧ setI 1 0 0 0 100 i ≤ 9223372036854775807 := by
  match i, h with
  | 0, _ => decide
  | 1, _ => decide
  | 2, _ => decide
  | 3, _ => decide
  | 4, _ => decide
theorem st_two (i : Nat) (h : i < 2) : -9223372036854775808 ≤ pair2 3 0 i ∧ pair2 3 0 i ≤ 9223372036854775807 := by
  match i, h with
  | 0, _ => decide
  | 1, _ => decide
theorem st_printF (w : World) (h : Vs9 w) : Calls Tryz.prog 11 #[.agg #[.int .i64 1, .int .i64 100, .int .i64 50, .int .i64 10, .int .i64 2, .int .i64 0, .slice none 0 0], .agg #[.int .i64 1, .int .i64 0, .int .i64 0, .int .i64 0, .int .i64 100, .float .f64 4602678819172646912, .int .i64 3, .int .i64 0]] w fun e w' => e = .returned (.tuple #[.string ⟨#[119, 101, 105, 103, 104, 116, 32, 49, 32, 113, 117, 97, 110, 116, 117, 109, 32, 48, 32, 99, 108, 97, 115, 115, 32, 48, 32, 115, 112, 97, 110, 32, 48, 32, 98, 117, 114, 115, 116, 32, 49, 48, 48, 32, 114, 97, 116, 101, 32, 49, 47, 50, 32, 112, 101, 114, 32, 51, 32, 110, 111, 100, 101, 32, 48]⟩, .int .i64 0]) ∧ Below w.heap.size w w' := by
  refine (printFlow_good 1 100 50 10 2 0 none 0 0 (fun _ _ => 0) 1 0 0 0 100 4602678819172646912 3 0 1 2 1 1 w (nsl_nil w) st_fl h.tab h.pow (by decide) st_ff.1 st_ff.2 (rs_word (by omega)) (rs_word (by omega)) ⟨by decide, by decide, .inl rfl⟩ ⟨by decide, by decide, .inl rfl⟩ st_fmt st_five st_two).mono ?_
  rintro e w' ⟨rfl, hb⟩
  rw [st_txt]
  exact ⟨rfl, hb⟩
theorem st_parse (w : World) (h : Vs9 w) : Calls Tryz.prog 12 #[.string ⟨#[107, 105, 110, 100, 32, 32, 119, 102, 113, 32, 109, 111, 115, 116, 32, 53, 48, 32, 114, 111, 111, 109, 32, 49, 48, 48, 32, 102, 108, 111, 119, 115, 32, 50, 32, 99, 97, 112, 32, 49, 48, 32, 97, 103, 101, 32, 48, 32]⟩] w fun e w' => e = .returned (.tuple #[.agg #[.int .i64 1, .int .i64 100, .int .i64 50, .int .i64 10, .int .i64 2, .int .i64 0, .slice none 0 0], .int .i64 0]) ∧ Below w.heap.size w w' := by
  obtain ⟨k0, k1, k2, k3, k4, k5, k6⟩ := st_line
  exact parse_good ⟨#[107, 105, 110, 100, 32, 32, 119, 102, 113, 32, 109, 111, 115, 116, 32, 53, 48, 32, 114, 111, 111, 109, 32, 49, 48, 48, 32, 102, 108, 111, 119, 115, 32, 50, 32, 99, 97, 112, 32, 49, 48, 32, 97, 103, 101, 32, 48, 32]⟩ 1 100 50 10 2 0 w (by decide) h.ev h.kn (by decide) k0 k1 k2 k3 k4 k5 k6 st_ck
theorem st_parseF (w : World) (h : Vs9 w) : Calls Tryz.prog 13 #[.agg #[.int .i64 1, .int .i64 100, .int .i64 50, .int .i64 10, .int .i64 2, .int .i64 0, .slice none 0 0], .string ⟨#[119, 101, 105, 103, 104, 116, 32, 49, 32, 113, 117, 97, 110, 116, 117, 109, 32, 48, 32, 99, 108, 97, 115, 115, 32, 48, 32, 115, 112, 97, 110, 32, 48, 32, 98, 117, 114, 115, 116, 32, 49, 48, 48, 32, 114, 97, 116, 101, 32, 49, 47, 50, 32, 112, 101, 114, 32, 51, 32, 110, 111, 100, 101, 32, 48]⟩] w fun e w' => e = .returned (.tuple #[.agg #[.int .i64 1, .int .i64 0, .int .i64 0, .int .i64 0, .int .i64 100, .float .f64 4602678819172646912, .int .i64 3, .int .i64 0], .int .i64 0]) ∧ Below w.heap.size w w' := by
  obtain ⟨k0, k1, k2, k3, k4, k5, k6, k7, k8⟩ := st_flow
  exact parseFlow_good 1 100 50 10 2 0 none 0 0 (fun _ _ => 0) ⟨#[119, 101, 105, 103, 104, 116, 32, 49, 32, 113, 117, 97, 110, 116, 117, 109, 32, 48, 32, 99, 108, 97, 115, 115, 32, 48, 32, 115, 112, 97, 110, 32, 48, 32, 98, 117, 114, 115, 116, 32, 49, 48, 48, 32, 114, 97, 116, 101, 32, 49, 47, 50, 32, 112, 101, 114, 32, 51, 32, 110, 111, 100, 101, 32, 48]⟩ ⟨#[49, 47, 50]⟩ 1 0 0 0 100 3 0 1 2 4602678819172646912 w (nsl_nil w) (by decide) h.ev h.kn h.tab st_ck k0 k1 k2 k3 k4 k5 k6 k7 k8 (by decide) st_np.1 st_np.2.1 st_np.2.2 (rs_word (by omega)) (rs_word (by omega)) st_tf.1 st_tf.2 (by decide) st_ff.1 st_ff.2 st_fl
theorem st_printT (w : World) (b : Nat) (h : Vs9 w) (hn : NSl w (some ⟨b, 0, none⟩) 4 4 stG) : Calls Tryz.prog 10 #[.agg #[.int .i64 6, .int .i64 100, .int .i64 50, .int .i64 10, .int .i64 2, .int .i64 0, .slice (some ⟨b, 0, none⟩) 4 4]] w fun e w' => e = .returned (.tuple #[.string ⟨#[107, 105, 110, 100, 32, 116, 114, 101, 101, 32, 114, 111, 111, 109, 32, 49, 48, 48, 32, 109, 111, 115, 116, 32, 53, 48, 32, 99, 97, 112, 32, 49, 48, 32, 102, 108, 111, 119, 115, 32, 50, 32, 97, 103, 101, 32, 48, 32, 110, 111, 100, 101, 32, 97, 103, 101, 32, 48, 32, 53, 32, 55, 32, 110, 111, 100, 101, 32, 116, 114, 101, 101, 32, 48, 32, 57, 32, 48, 32, 110, 111, 100, 101, 32, 100, 114, 114, 32, 50, 32, 49, 32, 48]⟩, .int .i64 0]) ∧ Below w.heap.size w w' := by
  refine (print_tree 100 50 10 2 0 b 0 3 3 stG w hn h.kn h.pow).mono ?_
  rintro e w' ⟨s, rfl, hb, hs⟩
  rw [hs st_tck, st_tck, st_tree]
  exact ⟨rfl, hb⟩
theorem st_nsl (w : World) (gn : Nat) (hg : gn = w.heap.size) : NSl (w.alloc (.cells #[.int .i64 6, .int .i64 0, .int .i64 0, .int .i64 0, .int .i64 4, .int .i64 0, .int .i64 5, .int .i64 7, .int .i64 6, .int .i64 0, .int .i64 9, .int .i64 0, .int .i64 2, .int .i64 2, .int .i64 1, .int .i64 0] 33)) (some ⟨gn, 0, none⟩) 4 4 stG := by
  subst hg
  refine ⟨Nat.le_refl _, by omega, fun i j hi hj => ?_, .inr ⟨_, _, rfl, fun i j hi hj => ?_⟩⟩
  · match i, j, hi, hj with
    | 0, 0, _, _ => decide
    | 0, 1, _, _ => decide
    | 0, 2, _, _ => decide
    | 0, 3, _, _ => decide
    | 1, 0, _, _ => decide
    | 1, 1, _, _ => decide
    | 1, 2, _, _ => decide
    | 1, 3, _, _ => decide
    | 2, 0, _, _ => decide
    | 2, 1, _, _ => decide
    | 2, 2, _, _ => decide
    | 2, 3, _, _ => decide
    | 3, 0, _, _ => decide
    | 3, 1, _, _ => decide
    | 3, 2, _, _ => decide
    | 3, 3, _, _ => decide
  · match i, j, hi, hj with
    | 0, 0, _, _ => simp [stG]
    | 0, 1, _, _ => simp [stG]
    | 0, 2, _, _ => simp [stG]
    | 0, 3, _, _ => simp [stG]
    | 1, 0, _, _ => simp [stG]
    | 1, 1, _, _ => simp [stG]
    | 1, 2, _, _ => simp [stG]
    | 1, 3, _, _ => simp [stG]
    | 2, 0, _, _ => simp [stG]
    | 2, 1, _, _ => simp [stG]
    | 2, 2, _, _ => simp [stG]
    | 2, 3, _, _ => simp [stG]
    | 3, 0, _, _ => simp [stG]
    | 3, 1, _, _ => simp [stG]
    | 3, 2, _, _ => simp [stG]
    | 3, 3, _, _ => simp [stG]

set_option maxHeartbeats 2000000 in
theorem started9_any (w : World) (h : Vs9 w) : Calls Tryz.prog 5 #[] w fun e w' => e = .returned (.bool true) ∧ Below w.heap.size w w' := by
  have HV : Hid _ := h
  clear h
  have sf := fun (w : World) (a : Addr) (x : Nat) => run_store Tryz.prog w a (.float .f64 x) .plain rfl
  go_enter Tryz.func5, Tryz.ntmps5
  go_wp2_with fail
  have S0 : Hid _ := ((ce_start w).box7 (.int .i64 1) (.int .i64 100) (.int .i64 50) (.int .i64 10) (.int .i64 2) (.int .i64 0) (.slice none 0 0) 24 _ rfl).box8 (.int .i64 1) (.int .i64 0) (.int .i64 0) (.int .i64 0) (.int .i64 100) (.float .f64 4602678819172646912) (.int .i64 3) (.int .i64 0) 27 (w.heap.size + 1) (by rw [World.size_alloc])
  refine (st_print _ (HV.out.go S0.out.bel)).mono ?_
  rintro e w1 ⟨rfl, hb1⟩
  obtain ⟨gp, egp⟩ : ∃ g, g = w.heap.size + 1 := ⟨_, rfl⟩
  obtain ⟨gc, egc⟩ : ∃ g, g = w.heap.size := ⟨_, rfl⟩
  rw [← egp, ← egc] at S0
  rw [← egp, ← egc]
  have S1 : Hid _ := S0.out.go hb1
  clear hb1 S0 egp egc
  have x0 := S1.out.cel gc 0 (.int .i64 1)
  have x1 := S1.out.cel gc 1 (.int .i64 100)
  have x2 := S1.out.cel gc 2 (.int .i64 50)
  have x3 := S1.out.cel gc 3 (.int .i64 10)
  have x4 := S1.out.cel gc 4 (.int .i64 2)
  have x5 := S1.out.cel gc 5 (.int .i64 0)
  have x6 := S1.out.cel gc 6 (.slice none 0 0)
  have y0 := S1.out.cel gp 0 (.int .i64 1)
  have y1 := S1.out.cel gp 1 (.int .i64 0)
  have y2 := S1.out.cel gp 2 (.int .i64 0)
  have y3 := S1.out.cel gp 3 (.int .i64 0)
  have y4 := S1.out.cel gp 4 (.int .i64 100)
  have y5 := S1.out.cel gp 5 (.float .f64 4602678819172646912)
  have y6 := S1.out.cel gp 6 (.int .i64 3)
  have y7 := S1.out.cel gp 7 (.int .i64 0)
  go_wp2_with fail
  refine (st_printF _ (HV.out.go S1.out.bel)).mono ?_
  rintro e w2 ⟨rfl, hb2⟩
  have S2 : Hid _ := S1.out.go hb2
  replace x0 := bc_cell hb2 x0
  replace x1 := bc_cell hb2 x1
  replace x2 := bc_cell hb2 x2
  replace x3 := bc_cell hb2 x3
  replace x4 := bc_cell hb2 x4
  replace x5 := bc_cell hb2 x5
  replace x6 := bc_cell hb2 x6
  replace y0 := bc_cell hb2 y0
  replace y1 := bc_cell hb2 y1
  replace y2 := bc_cell hb2 y2
  replace y3 := bc_cell hb2 y3
  replace y4 := bc_cell hb2 y4
  replace y5 := bc_cell hb2 y5
  replace y6 := bc_cell hb2 y6
  replace y7 := bc_cell hb2 y7
  clear hb2 S1
  go_wp2_with fail
  refine (st_parse _ (HV.out.go S2.out.bel)).mono ?_
  rintro e w3 ⟨rfl, hb3⟩
  have S3 : Hid _ := (S2.out.go hb3).box7 (.int .i64 1) (.int .i64 100) (.int .i64 50) (.int .i64 10) (.int .i64 2) (.int .i64 0) (.slice none 0 0) 24 _ rfl
  replace x0 := bc_cell hb3 x0
  replace x1 := bc_cell hb3 x1
  replace x2 := bc_cell hb3 x2
  replace x3 := bc_cell hb3 x3
  replace x4 := bc_cell hb3 x4
  replace x5 := bc_cell hb3 x5
  replace x6 := bc_cell hb3 x6
  have lc := World.block_lt_of_cell? _ _ x0
  clear hb3 S2
  clear y0
  clear y1
  clear y2
  clear y3
  clear y4
  clear y5
  clear y6
  clear y7
  go_wp2_with fail
  refine (st_parseF _ (HV.out.go S3.out.bel)).mono ?_
  rintro e w4 ⟨rfl, hb4⟩
  have S4 : Hid _ := S3.out.go hb4
  obtain ⟨gd, egd⟩ : ∃ g, g = w3.heap.size := ⟨_, rfl⟩
  rw [← egd] at S4
  rw [← egd]
  clear x0
  clear x1
  clear x2
  clear x3
  clear x4
  clear x5
  clear x6
  clear hb4 S3 egd
  have x0 := S4.out.cel gc 0 (.int .i64 1)
  have x1 := S4.out.cel gc 1 (.int .i64 100)
  have x2 := S4.out.cel gc 2 (.int .i64 50)
  have x3 := S4.out.cel gc 3 (.int .i64 10)
  have x4 := S4.out.cel gc 4 (.int .i64 2)
  have x5 := S4.out.cel gc 5 (.int .i64 0)
  have x6 := S4.out.cel gc 6 (.slice none 0 0)
  have lc4 := World.block_lt_of_cell? _ _ x0
  clear lc
  go_wp2_with fail
  have S5 : Hid _ := ((S4.out.box8 (.int .i64 1) (.int .i64 0) (.int .i64 0) (.int .i64 0) (.int .i64 100) (.float .f64 4602678819172646912) (.int .i64 3) (.int .i64 0) 27 _ rfl).go (bc_al (o := .cells #[.int .i64 6, .int .i64 100, .int .i64 50, .int .i64 10, .int .i64 2, .int .i64 0, .slice (some ⟨w4.heap.size + 1 + 1, 0, none⟩) 4 4] 24) (bel_refl _))).go (bc_al (o := .cells #[.int .i64 6, .int .i64 0, .int .i64 0, .int .i64 0, .int .i64 4, .int .i64 0, .int .i64 5, .int .i64 7, .int .i64 6, .int .i64 0, .int .i64 9, .int .i64 0, .int .i64 2, .int .i64 2, .int .i64 1, .int .i64 0] 33) (bel_refl _))
  refine (st_printT _ (w4.heap.size + 1 + 1) (HV.out.go S5.out.bel) (st_nsl _ _ (by rw [World.size_alloc, World.size_alloc]))).mono ?_
  rintro e w6 ⟨rfl, hb6⟩
  have S6 : Hid _ := S5.out.go hb6
  obtain ⟨gq, egq⟩ : ∃ g, g = w4.heap.size := ⟨_, rfl⟩
  rw [← egq] at S6
  rw [← egq]
  clear x0
  clear x1
  clear x2
  clear x3
  clear x4
  clear x5
  clear x6
  clear hb6 S5 S4 egq lc4
  go_wp2_with fail
  refine (check_any 0 0 0 0 0 0 none 0 0 (fun _ _ => 0) _ (nsl_nil _)).mono ?_
  rintro e w7 ⟨rfl, hb7⟩
  rw [st_zero]
  have S7 : Hid _ := S6.out.go hb7
  clear hb7 S6
  go_wp2_with fail
  refine (num9_any 90 _).mono ?_
  rintro e w8 ⟨rfl, rfl⟩
  have x0 := S7.out.cel gc 0 (.int .i64 1)
  have x1 := S7.out.cel gc 1 (.int .i64 100)
  have x2 := S7.out.cel gc 2 (.int .i64 50)
  have x3 := S7.out.cel gc 3 (.int .i64 10)
  have x4 := S7.out.cel gc 4 (.int .i64 2)
  have x5 := S7.out.cel gc 5 (.int .i64 0)
  have x6 := S7.out.cel gc 6 (.slice none 0 0)
  go_wp2_with fail
  refine (checkFlow_any 1 100 50 10 2 0 none 0 0 (fun _ _ => 0) 0 0 0 0 0 0 0 0 _ (nsl_nil _)).mono ?_
  rintro e w9 ⟨rfl, hb9⟩
  rw [st_none]
  have S9 : Hid _ := S7.out.go hb9
  clear x0
  clear x1
  clear x2
  clear x3
  clear x4
  clear x5
  clear x6
  clear hb9 S7
  go_wp2_with fail
  refine (num9_any 93 _).mono ?_
  rintro e w10 ⟨rfl, rfl⟩
  go_wp2_with fail
  refine (num9_any 0 _).mono ?_
  rintro e w11 ⟨rfl, rfl⟩
  go_wp2_with fail
  refine (num9_any 0 _).mono ?_
  rintro e w12 ⟨rfl, rfl⟩
  go_wp2_with fail
  refine (num9_any 0 _).mono ?_
  rintro e w13 ⟨rfl, rfl⟩
  go_wp2_with fail
  refine (num9_any 0 _).mono ?_
  rintro e w14 ⟨rfl, rfl⟩
  go_wp2_with fail
  refine (num9_any 0 _).mono ?_
  rintro e w15 ⟨rfl, rfl⟩
  have x0 := S9.out.cel gc 0 (.int .i64 1)
  have x1 := S9.out.cel gc 1 (.int .i64 100)
  have x2 := S9.out.cel gc 2 (.int .i64 50)
  have x3 := S9.out.cel gc 3 (.int .i64 10)
  have x4 := S9.out.cel gc 4 (.int .i64 2)
  have x5 := S9.out.cel gc 5 (.int .i64 0)
  have x6 := S9.out.cel gc 6 (.slice none 0 0)
  have y0 := S9.out.cel gd 0 (.int .i64 1)
  have y1 := S9.out.cel gd 1 (.int .i64 100)
  have y2 := S9.out.cel gd 2 (.int .i64 50)
  have y3 := S9.out.cel gd 3 (.int .i64 10)
  have y4 := S9.out.cel gd 4 (.int .i64 2)
  have y5 := S9.out.cel gd 5 (.int .i64 0)
  have y6 := S9.out.cel gd 6 (.slice none 0 0)
  go_wp2_with fail
  refine (same_flat _).mono ?_
  rintro e w20 ⟨rfl, hb20⟩
  have S20 : Hid _ := S9.out.go hb20
  clear x0 y0
  clear x1 y1
  clear x2 y2
  clear x3 y3
  clear x4 y4
  clear x5 y5
  clear x6 y6
  clear hb20 S9
  have x0 := S20.out.cel gq 0 (.int .i64 1)
  have x1 := S20.out.cel gq 1 (.int .i64 0)
  have x2 := S20.out.cel gq 2 (.int .i64 0)
  have x3 := S20.out.cel gq 3 (.int .i64 0)
  have x4 := S20.out.cel gq 4 (.int .i64 100)
  have x5 := S20.out.cel gq 5 (.float .f64 4602678819172646912)
  have x6 := S20.out.cel gq 6 (.int .i64 3)
  have x7 := S20.out.cel gq 7 (.int .i64 0)
  have y0 := S20.out.cel gp 0 (.int .i64 1)
  have y1 := S20.out.cel gp 1 (.int .i64 0)
  have y2 := S20.out.cel gp 2 (.int .i64 0)
  have y3 := S20.out.cel gp 3 (.int .i64 0)
  have y4 := S20.out.cel gp 4 (.int .i64 100)
  have y5 := S20.out.cel gp 5 (.float .f64 4602678819172646912)
  have y6 := S20.out.cel gp 6 (.int .i64 3)
  have y7 := S20.out.cel gp 7 (.int .i64 0)
  have eqp : ∀ w, (binOp .eql 27 (.agg #[.int .i64 1, .int .i64 0, .int .i64 0, .int .i64 0, .int .i64 100, .float .f64 4602678819172646912, .int .i64 3, .int .i64 0]) (.agg #[.int .i64 1, .int .i64 0, .int .i64 0, .int .i64 0, .int .i64 100, .float .f64 4602678819172646912, .int .i64 3, .int .i64 0])).run Tryz.prog w = .ok (.bool true) w := fun _ => by kernel_rfl
  go_wp2_with fail
  go_ret
  exact ⟨rfl, S20.out.bel⟩
end Go.Proofs.YtfjmnhmdipjenaaGreatDoor

namespace Go.Proofs.YtfjmnhmdipjenaaGreatDoor
open Go.RowKit
set_option maxRecDepth 100000
set_option linter.unusedVariables false
theorem ord_swap (a b : Ieee.Datum) : a.order b = (b.order a).map Ordering.swap := by
  cases a with
  | nan s p => cases b <;> simp [Ieee.Datum.order]
  | infinity s =>
    cases b with
    | nan => simp [Ieee.Datum.order]
    | infinity t => simp [Ieee.Datum.order]; exact Std.OrientedCmp.eq_swap
    | number t n j => cases s <;> simp [Ieee.Datum.order]
  | number s m i =>
    cases b with
    | nan => simp [Ieee.Datum.order]
    | infinity t => cases t <;> simp [Ieee.Datum.order]
    | number t n j =>
      simp only [Ieee.Datum.order, Option.map_some, Int.min_comm i j]
      congr 1
      exact Std.OrientedCmp.eq_swap
theorem fle_geq {x : Nat} (h : fle 0 x = true) : FloatKind.f64.format.order x 0 = some .gt ∨ FloatKind.f64.format.order x 0 = some .eq := by
  have e : FloatKind.f64.format.order x 0 = (FloatKind.f64.format.order 0 x).map Ordering.swap := ord_swap _ _
  unfold fle at h
  rw [Bool.or_eq_true] at h
  rcases h with h | h
  · have q := beq_iff_eq.1 h
    rw [e, q]
    exact .inl rfl
  · have q := beq_iff_eq.1 h
    rw [e, q]
    exact .inr rfl
theorem flowE_zero {K R M C Fl A : Int} {G : Nat → Nat → Int} {n : Nat} {pw pq pc ps pb : Int} {pr : Nat} {pp pn : Int} (h : flowE K R M C Fl A G n pw pq pc ps pb pr pp pn = 0) : checkE K R M C Fl A G n = 0 ∧ okAt K G n pn = true ∧ (1 ≤ pw ∧ pw ≤ C) ∧ (fQ0 (kAt K G n pn) ≤ pq ∧ pq ≤ fQ1 (kAt K G n pn)) ∧ (0 ≤ pc ∧ pc ≤ fC1 (kAt K G n pn)) ∧ (0 ≤ ps ∧ ps ≤ fS1 (kAt K G n pn)) ∧ (1 ≤ pb ∧ pb ≤ 1099511627776) ∧ hldF 0 4697254411347427328 pr = true ∧ (1 ≤ pp ∧ pp ≤ 1073741824) := by
  unfold flowE at h
  split at h
  · exact absurd h (by assumption)
  rename_i hc
  have hc : checkE K R M C Fl A G n = 0 := by simpa using hc
  unfold flowE1 at h
  split at h
  · omega
  split at h
  · omega
  split at h
  · omega
  split at h
  · omega
  split at h
  · omega
  split at h
  · omega
  split at h
  · omega
  split at h
  · omega
  rename_i h1 h2 h3 h4 h5 h6 h7 h8
  exact ⟨hc, by simpa using h1, hld_yes (by simpa using h2), hld_yes (by simpa using h3), hld_yes (by simpa using h4), hld_yes (by simpa using h5), hld_yes (by simpa using h6), by simpa using h7, hld_yes (by simpa using h8)⟩
/-- The step of the classes that a flow has. -/
def ageI (K A : Int) (G : Nat → Nat → Int) (pn : Int) : Int := if K = 6 then G pn.toNat 3 else A
theorem age_in {K R M C Fl A : Int} {G : Nat → Nat → Int} {n : Nat} {pn : Int} (hc : checkE K R M C Fl A G n = 0) (ho : okAt K G n pn = true) : (0 ≤ ageI K A G pn ∧ ageI K A G pn ≤ 1099511627776) ∧ (K = 6 → 0 ≤ pn ∧ pn < (n : Int)) := by
  obtain ⟨b1, b2, b3, b4, b5, b6, b7, b8⟩ := checkE_zero hc
  have q := fA1_le K
  unfold ageI
  by_cases e : K = 6
  · rw [if_pos e]
    have b9 := b7 e
    unfold okAt at ho
    rw [if_pos e] at ho
    have ho2 : kO G n pn ≠ 0 ∧ kO G n pn ≠ 6 := by simpa using ho
    have hin := kO_in ho2.1
    refine ⟨?_, fun _ => hin⟩
    unfold nodesE at b9
    split at b9
    · omega
    split at b9
    · omega
    rename_i h1 h2
    have h2 : firstE G n = 0 := by simpa using h2
    have hn := firstE_none h2 pn.toNat (by omega)
    by_cases e0 : pn.toNat = 0
    · rw [e0] at hn ⊢
      have := nodeE_root hn
      omega
    · have h3 := nodeE_other e0 hn
      have h4 := fA1_le (G pn.toNat 0)
      omega
  · rw [if_neg e]
    exact ⟨⟨b6.1, by omega⟩, fun h => absurd h e⟩
set_option maxHeartbeats 1000000 in
theorem age_any (K R M C Fl A : Int) (a : Option Addr) (n cap : Nat) (G : Nat → Nat → Int) (pw pq pc ps pb : Int) (pr : Nat) (pp pn : Int) (w : World) (h : NSl w a n cap G) (hp : K = 6 → 0 ≤ pn ∧ pn < (n : Int)) :
    Calls Tryz.prog 9 #[.agg #[.int .i64 K, .int .i64 R, .int .i64 M, .int .i64 C, .int .i64 Fl, .int .i64 A, .slice a n cap], .agg #[.int .i64 pw, .int .i64 pq, .int .i64 pc, .int .i64 ps, .int .i64 pb, .float .f64 pr, .int .i64 pp, .int .i64 pn]] w fun e w' => e = .returned (.int .i64 (ageI K A G pn)) ∧ Below w.heap.size w w' := by
  have HN : Hid _ := h
  have hl0 : n ≤ 9223372036854775807 := Nat.le_trans h.le h.lim
  by_cases e : K = 6
  · subst e
    obtain ⟨h1, h2⟩ := hp rfl
    obtain ⟨k, rfl⟩ : ∃ k : Nat, pn = (k : Int) := ⟨pn.toNat, by omega⟩
    have lk : k < n := by omega
    obtain ⟨b, o, rfl, hc⟩ := h.at (by omega)
    have HC : Hid _ := hc
    have x0 := hc k 3 lk (by omega)
    have lb := World.block_lt_of_cell? _ _ x0
    have HR : Hid (ageI 6 A G (k : Int) = G k 3) := by show _ = _; unfold ageI; rw [if_pos rfl]; rfl
    rw [HR.out]
    clear h hc hp HC HN
    go_enter Tryz.func9, Tryz.ntmps9
    go_wp2_with fail
    go_ret
    exact ⟨rfl, bc_al (bc_al (bel_refl w))⟩
  · have HR : Hid (ageI K A G pn = A) := by show _ = _; unfold ageI; rw [if_neg e]
    have d : (K == 6) = false := by simpa using e
    rw [HR.out]
    clear h hp HN
    go_enter Tryz.func9, Tryz.ntmps9
    go_wp2_with fail
    go_ret
    exact ⟨rfl, bc_al (bc_al (bel_refl w))⟩
set_option maxHeartbeats 2000000 in
theorem bounds_any (K R M C Fl A : Int) (a : Option Addr) (n cap : Nat) (G : Nat → Nat → Int) (pw pq pc ps pb : Int) (pr : Nat) (pp pn : Int) (tt : Int) (w : World) (h : NSl w a n cap G) (hV : Vs9 w) (ht : -9223372036854775808 ≤ tt ∧ tt ≤ 9223372036854775807) :
    Calls Tryz.prog 4 #[.agg #[.int .i64 K, .int .i64 R, .int .i64 M, .int .i64 C, .int .i64 Fl, .int .i64 A, .slice a n cap], .agg #[.int .i64 pw, .int .i64 pq, .int .i64 pc, .int .i64 ps, .int .i64 pb, .float .f64 pr, .int .i64 pp, .int .i64 pn], .int .i64 tt] w fun e w' => e = .returned (.bool true) ∧ Below w.heap.size w w' := by
  have HN : Hid _ := h
  have HV : Hid _ := hV
  have hl0 : n ≤ 9223372036854775807 := Nat.le_trans h.le h.lim
  clear h hV
  go_enter Tryz.func4, Tryz.ntmps4
  go_wp2_with fail
  have S0 : Hid _ := ((ce_start w).box7 (.int .i64 K) (.int .i64 R) (.int .i64 M) (.int .i64 C) (.int .i64 Fl) (.int .i64 A) (.slice a n cap) 24 _ rfl).box8 (.int .i64 pw) (.int .i64 pq) (.int .i64 pc) (.int .i64 ps) (.int .i64 pb) (.float .f64 pr) (.int .i64 pp) (.int .i64 pn) 27 (w.heap.size + 1) (by rw [World.size_alloc])
  refine (started9_any _ (HV.out.go S0.out.bel)).mono ?_
  rintro e w1 ⟨rfl, hb1⟩
  obtain ⟨gp, egp⟩ : ∃ g, g = w.heap.size + 1 := ⟨_, rfl⟩
  obtain ⟨gc, egc⟩ : ∃ g, g = w.heap.size := ⟨_, rfl⟩
  have S1 : Hid _ := S0.out.go hb1
  rw [← egp, ← egc] at S1
  rw [← egp, ← egc]
  clear hb1 S0 egp egc
  have x0 := S1.out.cel gc 0 (.int .i64 K)
  have x1 := S1.out.cel gc 1 (.int .i64 R)
  have x2 := S1.out.cel gc 2 (.int .i64 M)
  have x3 := S1.out.cel gc 3 (.int .i64 C)
  have x4 := S1.out.cel gc 4 (.int .i64 Fl)
  have x5 := S1.out.cel gc 5 (.int .i64 A)
  have x6 := S1.out.cel gc 6 (.slice a n cap)
  have y0 := S1.out.cel gp 0 (.int .i64 pw)
  have y1 := S1.out.cel gp 1 (.int .i64 pq)
  have y2 := S1.out.cel gp 2 (.int .i64 pc)
  have y3 := S1.out.cel gp 3 (.int .i64 ps)
  have y4 := S1.out.cel gp 4 (.int .i64 pb)
  have y5 := S1.out.cel gp 5 (.float .f64 pr)
  have y6 := S1.out.cel gp 6 (.int .i64 pp)
  have y7 := S1.out.cel gp 7 (.int .i64 pn)
  go_wp2_with fail
  refine (checkFlow_any K R M C Fl A a n cap G pw pq pc ps pb pr pp pn _ (HN.out.go S1.out.bel)).mono ?_
  rintro e w2 ⟨rfl, hb2⟩
  have S2 : Hid _ := S1.out.go hb2
  obtain ⟨fe, hfe⟩ : ∃ fe, flowE K R M C Fl A G n pw pq pc ps pb pr pp pn = fe := ⟨_, rfl⟩
  rw [hfe]
  clear x0
  clear x1
  clear x2
  clear x3
  clear x4
  clear x5
  clear x6
  clear y0
  clear y1
  clear y2
  clear y3
  clear y4
  clear y5
  clear y6
  clear y7
  clear hb2 S1
  go_wp2_with fail
  refine (num9_any fe _).mono ?_
  rintro e w3 ⟨rfl, rfl⟩
  by_cases c0 : fe = 0
  · subst c0
    obtain ⟨z1, z2, z3, z4, z5, z6, z7, z8, z9⟩ := flowE_zero hfe
    obtain ⟨g1, g2⟩ := age_in z1 z2
    have HO : Hid _ := g2
    obtain ⟨st, hst⟩ : ∃ st, ageI K A G pn = st := ⟨_, rfl⟩
    rw [hst] at g1
    have HAG : Hid _ := hst
    have HST : Hid _ := g1
    have HPC : Hid (0 ≤ pc ∧ pc ≤ 15) := ⟨z5.1, by have := z5.2; unfold fC1 at this; split at this <;> omega⟩
    have HPS : Hid (0 ≤ ps ∧ ps ≤ 1099511627776) := ⟨z6.1, by have := z6.2; unfold fS1 at this; split at this <;> omega⟩
    have HPW : Hid _ := z3
    have HPP : Hid _ := z9
    obtain ⟨b1, b2, b3, b4, b5, b6, b7, b8⟩ := checkE_zero z1
    have HMR : Hid (M ≤ R ∧ 1 ≤ M) := ⟨b3.1, b2.1⟩
    have HRT : Hid (fle 0 pr = true) := by
      show _ = _
      unfold hldF at z8
      exact (Bool.and_eq_true _ _ ▸ z8).1
    clear z1 z2 z3 z4 z5 z6 z7 z8 z9 g1 g2 hst b1 b2 b3 b4 b5 b6 b7 b8 hfe
    have x0 := S2.out.cel gc 0 (.int .i64 K)
    have x1 := S2.out.cel gc 1 (.int .i64 R)
    have x2 := S2.out.cel gc 2 (.int .i64 M)
    have x3 := S2.out.cel gc 3 (.int .i64 C)
    have x4 := S2.out.cel gc 4 (.int .i64 Fl)
    have x5 := S2.out.cel gc 5 (.int .i64 A)
    have x6 := S2.out.cel gc 6 (.slice a n cap)
    have y0 := S2.out.cel gp 0 (.int .i64 pw)
    have y1 := S2.out.cel gp 1 (.int .i64 pq)
    have y2 := S2.out.cel gp 2 (.int .i64 pc)
    have y3 := S2.out.cel gp 3 (.int .i64 ps)
    have y4 := S2.out.cel gp 4 (.int .i64 pb)
    have y5 := S2.out.cel gp 5 (.float .f64 pr)
    have y6 := S2.out.cel gp 6 (.int .i64 pp)
    have y7 := S2.out.cel gp 7 (.int .i64 pn)
    by_cases t1 : tt < 0
    · have b0 : decide (tt < 0) = true := decide_eq_true t1
      go_wp2_with fail
      refine (age_any K R M C Fl A a n cap G pw pq pc ps pb pr pp pn _ (HN.out.go S2.out.bel) HO.out).mono ?_
      rintro e w5 ⟨rfl, hb5⟩
      have S5 : Hid _ := S2.out.go hb5
      rw [HAG.out]
      clear x0
      clear x1
      clear x2
      clear x3
      clear x4
      clear x5
      clear x6
      clear y0
      clear y1
      clear y2
      clear y3
      clear y4
      clear y5
      clear y6
      clear y7
      clear hb5
      have x0 := S5.out.cel gc 0 (.int .i64 K)
      have x1 := S5.out.cel gc 1 (.int .i64 R)
      have x2 := S5.out.cel gc 2 (.int .i64 M)
      have x3 := S5.out.cel gc 3 (.int .i64 C)
      have x4 := S5.out.cel gc 4 (.int .i64 Fl)
      have x5 := S5.out.cel gc 5 (.int .i64 A)
      have x6 := S5.out.cel gc 6 (.slice a n cap)
      have y0 := S5.out.cel gp 0 (.int .i64 pw)
      have y1 := S5.out.cel gp 1 (.int .i64 pq)
      have y2 := S5.out.cel gp 2 (.int .i64 pc)
      have y3 := S5.out.cel gp 3 (.int .i64 ps)
      have y4 := S5.out.cel gp 4 (.int .i64 pb)
      have y5 := S5.out.cel gp 5 (.float .f64 pr)
      have y6 := S5.out.cel gp 6 (.int .i64 pp)
      have y7 := S5.out.cel gp 7 (.int .i64 pn)
      have T0 : Hid (0 ≤ 4611686018427387904 ∧ 4611686018427387904 ≤ 4611686018427387904) := ⟨by omega, by omega⟩
      have hm1 : 0 ≤ pc * st := Int.mul_nonneg (by have := HPC.out; omega) (by have := HST.out; omega)
      have hm2 : pc * st ≤ 15 * 1099511627776 := Int.mul_le_mul (by have := HPC.out; omega) (by have := HST.out; omega) (by have := HST.out; omega) (by omega)
      have q1 : IntKind.i64.wrap (4611686018427387904 + ps) = 4611686018427387904 + ps := by rw [IntKind.wrap_i64]; have := T0.out; have := HPS.out; omega
      have q2 : IntKind.i64.wrap (pc * st) = pc * st := by rw [IntKind.wrap_i64]; omega
      have q3 : IntKind.i64.wrap (4611686018427387904 + pc * st) = 4611686018427387904 + pc * st := by rw [IntKind.wrap_i64]; have := T0.out; omega
      have r1 : ¬ (4611686018427387904 + ps < 4611686018427387904) := by have := HPS.out; omega
      have r3 : ¬ (4611686018427387904 + pc * st < 4611686018427387904) := by omega
      have b1 : decide (4611686018427387904 + ps < 4611686018427387904) = false := decide_eq_false r1
      have b3 : decide (4611686018427387904 + pc * st < 4611686018427387904) = false := decide_eq_false r3
      obtain ⟨m, hm⟩ : ∃ m, pc * st = m := ⟨_, rfl⟩
      rw [hm] at q2 q3 b3 r3
      have HM : Hid _ := hm
      have q4 : 0 < pc → m.tdiv pc = st := fun h => by rw [← hm]; exact Int.mul_tdiv_cancel_left st (by omega)
      have e1 : (1 : Int) ≤ pw := HPW.out.1
      have e2 : pw ≤ C := HPW.out.2
      have e3 : M ≤ R := HMR.out.1
      have e4 : 1 ≤ M := HMR.out.2
      have e5 : (1 : Int) ≤ pp := HPP.out.1
      have hr := fle_geq HRT.out
      have hrb : (FloatKind.f64.format.order pr 0 == some .gt || FloatKind.f64.format.order pr 0 == some .eq) = true := by rcases hr with h | h <;> rw [h] <;> rfl
      have w2 : wrap64 (pc * st) = m := by rw [hm]; exact IntWalk.wrap64_in m (by omega)
      have w3 : wrap64 (4611686018427387904 + m) = 4611686018427387904 + m := IntWalk.wrap64_in _ (by have := T0.out; omega)
      have w4 : 0 < pc → wrap64 (m.tdiv pc) = st := fun h => by rw [q4 h]; exact IntWalk.wrap64_in _ (by have := HST.out; omega)
      have w1 : wrap64 (4611686018427387904 + ps) = 4611686018427387904 + ps := IntWalk.wrap64_in _ (by have := T0.out; have := HPS.out; omega)
      clear hm hm1 hm2 r1 r3 q1 q2 q3
      by_cases p0 : 0 < pc
      · have q5 := w4 p0
        have q6 : pc ≠ 0 := by omega
        clear q4 w4
        go_wp2_with fail
        refine (started9_any _ (HV.out.go S5.out.bel)).mono ?_
        rintro e w9 ⟨rfl, hb9⟩
        go_wp2_with fail
        go_ret
        exact ⟨rfl, bc_go S5.out.bel hb9⟩
      · have q5 : ¬ 0 < pc := p0
        have q7 : decide (0 < pc) = false := decide_eq_false p0
        clear q4 w4
        go_wp2_with fail
        refine (started9_any _ (HV.out.go S5.out.bel)).mono ?_
        rintro e w9 ⟨rfl, hb9⟩
        go_wp2_with fail
        go_ret
        exact ⟨rfl, bc_go S5.out.bel hb9⟩
    · by_cases t2 : 4611686018427387904 < tt
      · go_wp2_with fail
        refine (age_any K R M C Fl A a n cap G pw pq pc ps pb pr pp pn _ (HN.out.go S2.out.bel) HO.out).mono ?_
        rintro e w5 ⟨rfl, hb5⟩
        have S5 : Hid _ := S2.out.go hb5
        rw [HAG.out]
        clear x0
        clear x1
        clear x2
        clear x3
        clear x4
        clear x5
        clear x6
        clear y0
        clear y1
        clear y2
        clear y3
        clear y4
        clear y5
        clear y6
        clear y7
        clear hb5
        have x0 := S5.out.cel gc 0 (.int .i64 K)
        have x1 := S5.out.cel gc 1 (.int .i64 R)
        have x2 := S5.out.cel gc 2 (.int .i64 M)
        have x3 := S5.out.cel gc 3 (.int .i64 C)
        have x4 := S5.out.cel gc 4 (.int .i64 Fl)
        have x5 := S5.out.cel gc 5 (.int .i64 A)
        have x6 := S5.out.cel gc 6 (.slice a n cap)
        have y0 := S5.out.cel gp 0 (.int .i64 pw)
        have y1 := S5.out.cel gp 1 (.int .i64 pq)
        have y2 := S5.out.cel gp 2 (.int .i64 pc)
        have y3 := S5.out.cel gp 3 (.int .i64 ps)
        have y4 := S5.out.cel gp 4 (.int .i64 pb)
        have y5 := S5.out.cel gp 5 (.float .f64 pr)
        have y6 := S5.out.cel gp 6 (.int .i64 pp)
        have y7 := S5.out.cel gp 7 (.int .i64 pn)
        have T0 : Hid (0 ≤ 4611686018427387904 ∧ 4611686018427387904 ≤ 4611686018427387904) := ⟨by omega, by omega⟩
        have hm1 : 0 ≤ pc * st := Int.mul_nonneg (by have := HPC.out; omega) (by have := HST.out; omega)
        have hm2 : pc * st ≤ 15 * 1099511627776 := Int.mul_le_mul (by have := HPC.out; omega) (by have := HST.out; omega) (by have := HST.out; omega) (by omega)
        have q1 : IntKind.i64.wrap (4611686018427387904 + ps) = 4611686018427387904 + ps := by rw [IntKind.wrap_i64]; have := T0.out; have := HPS.out; omega
        have q2 : IntKind.i64.wrap (pc * st) = pc * st := by rw [IntKind.wrap_i64]; omega
        have q3 : IntKind.i64.wrap (4611686018427387904 + pc * st) = 4611686018427387904 + pc * st := by rw [IntKind.wrap_i64]; have := T0.out; omega
        have r1 : ¬ (4611686018427387904 + ps < 4611686018427387904) := by have := HPS.out; omega
        have r3 : ¬ (4611686018427387904 + pc * st < 4611686018427387904) := by omega
        have b1 : decide (4611686018427387904 + ps < 4611686018427387904) = false := decide_eq_false r1
        have b3 : decide (4611686018427387904 + pc * st < 4611686018427387904) = false := decide_eq_false r3
        obtain ⟨m, hm⟩ : ∃ m, pc * st = m := ⟨_, rfl⟩
        rw [hm] at q2 q3 b3 r3
        have HM : Hid _ := hm
        have q4 : 0 < pc → m.tdiv pc = st := fun h => by rw [← hm]; exact Int.mul_tdiv_cancel_left st (by omega)
        have e1 : (1 : Int) ≤ pw := HPW.out.1
        have e2 : pw ≤ C := HPW.out.2
        have e3 : M ≤ R := HMR.out.1
        have e4 : 1 ≤ M := HMR.out.2
        have e5 : (1 : Int) ≤ pp := HPP.out.1
        have hr := fle_geq HRT.out
        have hrb : (FloatKind.f64.format.order pr 0 == some .gt || FloatKind.f64.format.order pr 0 == some .eq) = true := by rcases hr with h | h <;> rw [h] <;> rfl
        have w2 : wrap64 (pc * st) = m := by rw [hm]; exact IntWalk.wrap64_in m (by omega)
        have w3 : wrap64 (4611686018427387904 + m) = 4611686018427387904 + m := IntWalk.wrap64_in _ (by have := T0.out; omega)
        have w4 : 0 < pc → wrap64 (m.tdiv pc) = st := fun h => by rw [q4 h]; exact IntWalk.wrap64_in _ (by have := HST.out; omega)
        have w1 : wrap64 (4611686018427387904 + ps) = 4611686018427387904 + ps := IntWalk.wrap64_in _ (by have := T0.out; have := HPS.out; omega)
        clear hm hm1 hm2 r1 r3 q1 q2 q3
        by_cases p0 : 0 < pc
        · have q5 := w4 p0
          have q6 : pc ≠ 0 := by omega
          clear q4 w4
          go_wp2_with fail
          refine (started9_any _ (HV.out.go S5.out.bel)).mono ?_
          rintro e w9 ⟨rfl, hb9⟩
          go_wp2_with fail
          go_ret
          exact ⟨rfl, bc_go S5.out.bel hb9⟩
        · have q5 : ¬ 0 < pc := p0
          have q7 : decide (0 < pc) = false := decide_eq_false p0
          clear q4 w4
          go_wp2_with fail
          refine (started9_any _ (HV.out.go S5.out.bel)).mono ?_
          rintro e w9 ⟨rfl, hb9⟩
          go_wp2_with fail
          go_ret
          exact ⟨rfl, bc_go S5.out.bel hb9⟩
      · go_wp2_with fail
        refine (age_any K R M C Fl A a n cap G pw pq pc ps pb pr pp pn _ (HN.out.go S2.out.bel) HO.out).mono ?_
        rintro e w5 ⟨rfl, hb5⟩
        have S5 : Hid _ := S2.out.go hb5
        rw [HAG.out]
        clear x0
        clear x1
        clear x2
        clear x3
        clear x4
        clear x5
        clear x6
        clear y0
        clear y1
        clear y2
        clear y3
        clear y4
        clear y5
        clear y6
        clear y7
        clear hb5
        have x0 := S5.out.cel gc 0 (.int .i64 K)
        have x1 := S5.out.cel gc 1 (.int .i64 R)
        have x2 := S5.out.cel gc 2 (.int .i64 M)
        have x3 := S5.out.cel gc 3 (.int .i64 C)
        have x4 := S5.out.cel gc 4 (.int .i64 Fl)
        have x5 := S5.out.cel gc 5 (.int .i64 A)
        have x6 := S5.out.cel gc 6 (.slice a n cap)
        have y0 := S5.out.cel gp 0 (.int .i64 pw)
        have y1 := S5.out.cel gp 1 (.int .i64 pq)
        have y2 := S5.out.cel gp 2 (.int .i64 pc)
        have y3 := S5.out.cel gp 3 (.int .i64 ps)
        have y4 := S5.out.cel gp 4 (.int .i64 pb)
        have y5 := S5.out.cel gp 5 (.float .f64 pr)
        have y6 := S5.out.cel gp 6 (.int .i64 pp)
        have y7 := S5.out.cel gp 7 (.int .i64 pn)
        have T0 : Hid (0 ≤ tt ∧ tt ≤ 4611686018427387904) := ⟨by omega, by omega⟩
        have hm1 : 0 ≤ pc * st := Int.mul_nonneg (by have := HPC.out; omega) (by have := HST.out; omega)
        have hm2 : pc * st ≤ 15 * 1099511627776 := Int.mul_le_mul (by have := HPC.out; omega) (by have := HST.out; omega) (by have := HST.out; omega) (by omega)
        have q1 : IntKind.i64.wrap (tt + ps) = tt + ps := by rw [IntKind.wrap_i64]; have := T0.out; have := HPS.out; omega
        have q2 : IntKind.i64.wrap (pc * st) = pc * st := by rw [IntKind.wrap_i64]; omega
        have q3 : IntKind.i64.wrap (tt + pc * st) = tt + pc * st := by rw [IntKind.wrap_i64]; have := T0.out; omega
        have r1 : ¬ (tt + ps < tt) := by have := HPS.out; omega
        have r3 : ¬ (tt + pc * st < tt) := by omega
        have b1 : decide (tt + ps < tt) = false := decide_eq_false r1
        have b3 : decide (tt + pc * st < tt) = false := decide_eq_false r3
        obtain ⟨m, hm⟩ : ∃ m, pc * st = m := ⟨_, rfl⟩
        rw [hm] at q2 q3 b3 r3
        have HM : Hid _ := hm
        have q4 : 0 < pc → m.tdiv pc = st := fun h => by rw [← hm]; exact Int.mul_tdiv_cancel_left st (by omega)
        have e1 : (1 : Int) ≤ pw := HPW.out.1
        have e2 : pw ≤ C := HPW.out.2
        have e3 : M ≤ R := HMR.out.1
        have e4 : 1 ≤ M := HMR.out.2
        have e5 : (1 : Int) ≤ pp := HPP.out.1
        have hr := fle_geq HRT.out
        have hrb : (FloatKind.f64.format.order pr 0 == some .gt || FloatKind.f64.format.order pr 0 == some .eq) = true := by rcases hr with h | h <;> rw [h] <;> rfl
        have w2 : wrap64 (pc * st) = m := by rw [hm]; exact IntWalk.wrap64_in m (by omega)
        have w3 : wrap64 (tt + m) = tt + m := IntWalk.wrap64_in _ (by have := T0.out; omega)
        have w4 : 0 < pc → wrap64 (m.tdiv pc) = st := fun h => by rw [q4 h]; exact IntWalk.wrap64_in _ (by have := HST.out; omega)
        have w1 : wrap64 (tt + ps) = tt + ps := IntWalk.wrap64_in _ (by have := T0.out; have := HPS.out; omega)
        clear hm hm1 hm2 r1 r3 q1 q2 q3
        by_cases p0 : 0 < pc
        · have q5 := w4 p0
          have q6 : pc ≠ 0 := by omega
          clear q4 w4
          go_wp2_with fail
          refine (started9_any _ (HV.out.go S5.out.bel)).mono ?_
          rintro e w9 ⟨rfl, hb9⟩
          go_wp2_with fail
          go_ret
          exact ⟨rfl, bc_go S5.out.bel hb9⟩
        · have q5 : ¬ 0 < pc := p0
          have q7 : decide (0 < pc) = false := decide_eq_false p0
          clear q4 w4
          go_wp2_with fail
          refine (started9_any _ (HV.out.go S5.out.bel)).mono ?_
          rintro e w9 ⟨rfl, hb9⟩
          go_wp2_with fail
          go_ret
          exact ⟨rfl, bc_go S5.out.bel hb9⟩
  · have d : (fe != 0) = true := by simpa using c0
    clear c0 hfe
    go_wp2_with fail
    refine (started9_any _ (HV.out.go S2.out.bel)).mono ?_
    rintro e w4 ⟨rfl, hb4⟩
    go_wp2_with fail
    go_ret
    exact ⟨rfl, bc_go S2.out.bel hb4⟩
end Go.Proofs.YtfjmnhmdipjenaaGreatDoor

