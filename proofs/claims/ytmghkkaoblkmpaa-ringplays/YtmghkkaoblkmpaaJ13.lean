/- Contracts of the program's functions, part 13: own work, joined in build order. -/
import Derived.Test.YtmghkkaoblkmpaaJ12
import Derived.RangeFuncNested
import Derived.RangeFuncBound
import Derived.RangeFuncCalls
import Derived.RangeFuncLeaves
import Derived.Shelf.Abstract
import Derived.Shelf.RegionOpen
import Derived.OwnWalkIn
import Derived.TacticsInMore
import Derived.LoopNIn
import Derived.LoopIn
import Derived.Stop.RegionWithIn
namespace Go.Proofs.Ytmghkkaoblkmpaa
open Go.RowKit Go.Shelf
set_option maxRecDepth 100000
set_option linter.unusedVariables false
attribute [local go_sem] Oper.semAt_some
theorem allI_any (r : Nat) (w : World) : Calls Try.prog 9 #[.pointer (some ⟨r, 0, none⟩)] w fun e w' => e = .returned (.func (.func 36) #[] #[.pointer (some ⟨w.heap.size, 0, none⟩)]) ∧ w' = w.alloc (.cells #[.pointer (some ⟨r, 0, none⟩)] 24) := by
  have hmf : ∀ (fn : Fn) (first cap : Array Value) (w : World), (Instr.makeFunc fn first cap).run Try.prog w = .ok (.func fn first cap) w := fun _ _ _ _ => rfl
  go_enter Try.func9, Try.ntmps9
  go_wp2_with fail
  go_ret
  exact ⟨rfl, rfl⟩
/-- The things with their places, the first k of them. -/
def pairsI (xs : List Int) (k : Nat) : List (Nat × Int) := (List.range k).map fun j => (j, xs.getD j (0 : Int))
theorem pairsI_succ (xs : List Int) (k : Nat) : pairsI xs (k + 1) = pairsI xs k ++ [(k, xs.getD k (0 : Int))] := by simp [pairsI, List.range_succ]
theorem pairsI_length (xs : List Int) (k : Nat) : (pairsI xs k).length = k := by simp [pairsI]
set_option maxHeartbeats 2000000 in
theorem all1I_in (n : Nat) (hn : 1 ≤ n) (l Bs B r g N f c : Nat) (xs : List Int) (hx : xs.length = c) (J Jx : List (Nat × Int) → World → Prop) (W : World) (hJ : AbidesFrom W.heap.size J)
    (hY : ∀ pre x W, J pre W → pre.length < c → YieldAt Fence.wide (n - 1) Try.prog l #[.int .i64 (x.1 : Int), Value.int .i64 x.2] W fun e W' =>
      (e = .returned (.bool true) ∧ J (pre ++ [x]) W' ∧ Kpx B 3 c (fun j => Value.int .i64 (xs.getD j (0 : Int))) W W') ∨ (e = .returned (.bool false) ∧ Jx (pre ++ [x]) W'))
    (hBs : W.cell? ⟨Bs, 0, none⟩ = some (.pointer (some ⟨r, 0, none⟩))) (h : RI W r g N f c xs) (hB : B ≤ W.heap.size) (h0 : J [] W) :
    CallsIn Fence.wide n Try.prog 36 #[.func (.yield l) #[] #[], .pointer (some ⟨Bs, 0, none⟩)] W fun e W' => (∃ v, e = .returned v) ∧
      ((∃ ys, ys = pairsI xs c ∧ J ys W') ∨ (∃ pre, (∃ k, k ≤ c ∧ pre = pairsI xs k) ∧ Jx pre W')) := by
  have c2 := h.c2
  have hcl := h.cl
  have hl := h.lim
  have HR : Hid (RI W r g N f c xs ∧ xs.length = c ∧ AbidesFrom W.heap.size J ∧ J [] W) := ⟨h, hx, hJ, h0⟩
  clear h hx hJ h0
  refine callsIn_of_wp Try.func36 rfl trivial ?_ rfl
  simp only [Try.ntmps36, List.size_toArray, List.length_cons, List.length_nil, Nat.reduceAdd, Nat.reduceSub, Array.replicate_succ, Array.replicate_zero, List.push_toArray, List.append_toArray, List.nil_append, List.cons_append]
  gi_wp2_with fail
  gi_region_with (first | (refine ⟨trivial, ?_⟩; refine (callsIn_wide.2 (rowI_any r g N f c c xs W.drew (HR.out.1.of_blocks rfl rfl) HR.out.2.1 (Nat.le_refl _) (by omega))).mono ?_; rintro e w1 ⟨rfl, h1, h2⟩))
  all_goals (
    have hJ1 : J [] w1 := HR.out.2.2.1 [] W w1 none HR.out.2.2.2 ⟨h2.os, h2.tape, h2.output, h2.size, fun k hk _ => h2.block k hk⟩ (fun r e => by cases e)
    have H1 : Hid (w1.rowIs W.heap.size 3 c (fun j => Value.int .i64 (xs.getD j (0 : Int))) ∧ J [] w1) := ⟨h1, hJ1⟩
    clear h1 h2 hJ1
    gi_wp2_with fail
    gi_loopw [12] (fun i wr => ∃ k : Nat, k ≤ c ∧ i = .int .i64 (k : Int) ∧ Hid (J (pairsI xs k) wr) ∧ Hid (wr.rowIs W.heap.size 3 c (fun j => Value.int .i64 (xs.getD j (0 : Int))))) (fun i _ => c - (intOf i).toNat)
    case atStart => exact ⟨0, Nat.zero_le _, rfl, H1.out.2, H1.out.1⟩
    case round =>
      obtain ⟨k, hk, rfl, hJs, hrow⟩ := hrel
      by_cases hlt : k < c
      · obtain ⟨x, ex⟩ : ∃ x, x = xs.getD k (0 : Int) := ⟨_, rfl⟩
        obtain ⟨fn, tmps, assign, body, hy, hR⟩ := hY _ (k, x) wr hJs.out (by rw [pairsI_length]; exact hlt)
        dsimp only at hy
        have hcx : wr.cell? ⟨W.heap.size, k, none⟩ = some (Value.int .i64 x) := by rw [ex]; exact hrow.out.cell hlt
        have EX : Hid (x = xs.getD k (0 : Int)) := ex
        clear ex
        gi_wp2_with fail
        refine hR.mono ?_
        rintro e W3 (⟨rfl, hJ3, hk3⟩ | ⟨rfl, hJx3⟩)
        · have H3 : Hid (J (pairsI xs (k + 1)) W3 ∧ W3.rowIs W.heap.size 3 c (fun j => Value.int .i64 (xs.getD j (0 : Int)))) := ⟨by rw [pairsI_succ, ← EX.out]; exact hJ3, hk3.keep _ hB hrow.out⟩
          clear hJ3 hk3
          gi_wp2_with fail
          go_roundw
          case rel => exact ⟨k + 1, by omega, by simp, H3.out.1, H3.out.2⟩
          case measure => simp [intOf]; omega
        · have H3 : Hid (Jx (pairsI xs (k + 1)) W3) := by
            show Jx _ _
            rw [pairsI_succ, ← EX.out]
            exact hJx3
          clear hJx3
          gi_wp2_with fail
          refine bodyPost_ret (results_none rfl _ _ _) rfl ?_
          exact ⟨⟨_, rfl⟩, .inr ⟨_, ⟨k + 1, by omega, rfl⟩, H3.out⟩⟩
      · obtain rfl : k = c := by omega
        gi_wp2_with fail
        go_end0
        exact ⟨⟨_, rfl⟩, .inl ⟨_, rfl, hJs.out⟩⟩)
/-- What All answers can be ranged over: all things with their places, or the first ones. -/
theorem allI_stops (n : Nat) (hn : 1 ≤ n) (Bs B r g N f c : Nat) (xs : List Int) (hx : xs.length = c) (w : World) (hBs : w.cell? ⟨Bs, 0, none⟩ = some (.pointer (some ⟨r, 0, none⟩))) (h : RI w r g N f c xs) (hB : B ≤ w.heap.size) :
    SeqStopsK Fence.wide n Try.prog 36 #[.pointer (some ⟨Bs, 0, none⟩)] (fun x : Nat × Int => #[Value.int .i64 (x.1 : Int), Value.int .i64 x.2]) (Kpx B 3 c (fun j => Value.int .i64 (xs.getD j (0 : Int)))) (fun ys => ys = pairsI xs c) (fun pre => ∃ k, k ≤ c ∧ pre = pairsI xs k) c w := fun l J Jx W hW hJ _ hY h0 =>
  all1I_in n hn l Bs B r g N f c xs hx J Jx W hJ hY (cell_later hW hBs) (h.mono hW) (Nat.le_trans hB hW.size) h0
end Go.Proofs.Ytmghkkaoblkmpaa
