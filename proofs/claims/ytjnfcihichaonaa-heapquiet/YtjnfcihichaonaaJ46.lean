/- Contracts of the program's functions, part 46: own work, joined in build order. -/
import Derived.Test.YtjnfcihichaonaaJ45
import Derived.RangeFuncNested
import Derived.RangeFuncBound
import Derived.RangeFuncCalls
import Derived.RangeFuncLeaves
import Derived.Shelf.Abstract
import Derived.Shelf.RegionOpen
import Derived.OwnWalkIn
import Derived.TacticsInMore
import Derived.LoopNIn
import Derived.LoopIn
import Derived.Stop.RegionWithIn
namespace Go.Proofs.Ytjnfcihichaonaa
open Go.RowKit Go.Shelf Go.Sort
set_option maxRecDepth 100000
set_option linter.unusedVariables false
attribute [local go_sem] Oper.semAt_some
theorem hall_any (r : Nat) (w : World) : Calls Try.prog 14 #[.pointer (some ⟨r, 0, none⟩)] w fun e w' => e = .returned (.func (.func 38) #[] #[.pointer (some ⟨w.heap.size, 0, none⟩)]) ∧ w' = w.alloc (.cells #[.pointer (some ⟨r, 0, none⟩)] 23) := by
  have hmf : ∀ (fn : Fn) (first cap : Array Value) (w : World), (Instr.makeFunc fn first cap).run Try.prog w = .ok (.func fn first cap) w := fun _ _ _ _ => rfl
  go_enter Try.func14, Try.ntmps14
  go_wp2_with fail
  go_ret
  exact ⟨rfl, rfl⟩
/-- The marks in order: all things, numbers rising. -/
def Gd (n : Nat) (d : Array (Int × Int)) (ys : List (Int × Int)) : Prop := ys.length = n ∧ ∃ d', d'.size = n ∧ PermIn 0 n d d' ∧ SortedIn (ltOf fun x y : Int × Int => Lib.compareInt x.1 y.1) 0 n d' ∧ ys = d'.toList
/-- No row of marks is written. -/
def Kmk (W W' : World) : Prop := ∀ (b : Nat) (cs : Array Value), W.heap[b]? = some (.cells cs 79) → W'.heap[b]? = some (.cells cs 79)
theorem take_succ (ys : List (Int × Int)) (k : Nat) (hk : k < ys.length) : ys.take (k + 1) = ys.take k ++ [ys.getD k (0, 0)] := by
  rw [List.take_add_one, List.getD_eq_getElem?_getD, List.getElem?_eq_getElem hk]
  rfl
set_option maxHeartbeats 2000000 in
theorem hall1_in (SORT : SortsMk) (n : Nat) (hn : 1 ≤ n) (l Bs : Nat) {base hb ob : Nat} {a : Option Addr} {c cap mb nn : Nat} {pu : Int} {f : Nat → Nat} {it ke va : Nat → Int} (J Jx : List (Int × Int) → World → Prop) (W : World) (hJ : AbidesFrom W.heap.size J)
    (hY : ∀ pre x W, J pre W → pre.length < c → YieldAt Fence.wide (n - 1) Try.prog l #[.int .i64 x.1, .int .i64 x.2] W fun e W' =>
      (e = .returned (.bool true) ∧ J (pre ++ [x]) W' ∧ Kmk W W') ∨ (e = .returned (.bool false) ∧ Jx (pre ++ [x]) W'))
    (hBs : W.cell? ⟨Bs, 0, none⟩ = some (.pointer (some ⟨hb, 0, none⟩))) (h : HsI W base hb ob a c cap mb nn pu f it ke va) (h0 : J [] W) :
    CallsIn Fence.wide n Try.prog 38 #[.func (.yield l) #[] #[], .pointer (some ⟨Bs, 0, none⟩)] W fun e W' => (∃ v, e = .returned v) ∧
      ((∃ ys, Gd c ((List.range c).map fun i => (it (f i), ke (f i))).toArray ys ∧ J ys W') ∨ (∃ pre, (∃ ys k, Gd c ((List.range c).map fun i => (it (f i), ke (f i))).toArray ys ∧ k ≤ c ∧ pre = ys.take k) ∧ Jx pre W')) := by
  have hlim := h.lim
  have HR : Hid (HsI W base hb ob a c cap mb nn pu f it ke va ∧ AbidesFrom W.heap.size J ∧ J [] W) := ⟨h, hJ, h0⟩
  have MK : Hid _ := marks_any SORT W h
  clear h hJ h0
  refine callsIn_of_wp Try.func38 rfl trivial ?_ rfl
  simp only [Try.ntmps38, List.size_toArray, List.length_cons, List.length_nil, Nat.reduceAdd, Nat.reduceSub, Array.replicate_succ, Array.replicate_zero, List.push_toArray, List.append_toArray, List.nil_append, List.cons_append]
  gi_wp2_with fail
  refine ⟨trivial, ?_⟩
  refine (callsIn_wide.2 MK.out).mono ?_
  rintro e w1 ⟨g, cg, d', rfl, q1, q2, q3, q4, q5, q6, q7, q8⟩
  obtain ⟨ys, eys⟩ : ∃ ys, ys = d'.toList := ⟨_, rfl⟩
  have yl : ys.length = c := by rw [eys]; simpa using q4
  have HG : Hid (Gd c ((List.range c).map fun i => (it (f i), ke (f i))).toArray ys) := ⟨yl, d', q4, q5, q6, eys⟩
  obtain ⟨cs, ecs⟩ := q8
  have HC : Hid (∀ w2 : World, w2.heap[g]? = some (.cells cs 79) → ∀ k, k < c → w2.cell? ⟨g, k * 2, none⟩ = some (.int .i64 (ys.getD k (0, 0)).1) ∧ w2.cell? ⟨g, k * 2 + 1, none⟩ = some (.int .i64 (ys.getD k (0, 0)).2)) := by
    intro w2 e2 k hk
    have ed : d'[k]! = ys.getD k (0, 0) := by rw [eys]; simp [List.getD_eq_getElem?_getD, show k < d'.size by omega]
    have a0 := HoldsK.cell q3 (i := k) (c := 0) (by omega) (by omega)
    have a1 := HoldsK.cell q3 (i := k) (c := 1) (by omega) (by omega)
    rw [ed] at a0 a1
    have ec : ∀ i, w2.cell? ⟨g, i, none⟩ = w1.cell? ⟨g, i, none⟩ := fun i => World.cell?_of_block (e2.trans ecs.symm)
    rw [ec, ec]
    simp [encMk] at a0 a1
    exact ⟨a0.1, a1.1⟩
  have hJ1 : J [] w1 := HR.out.2.1 [] W w1 none HR.out.2.2 ⟨q7.os, q7.tape, q7.output, q7.size, fun k hk _ => q7.block k hk⟩ (fun r e => by cases e)
  have H1 : Hid (J [] w1 ∧ w1.heap[g]? = some (.cells cs 79) ∧ W.heap.size ≤ w1.heap.size) := ⟨hJ1, ecs, q7.size⟩
  have HYL : Hid (ys.length = c) := yl
  clear q1 q2 q3 q4 q5 q6 q7 hJ1 ecs eys MK yl
  gi_wp2_with fail
  gi_loopw [8] (fun i wr => ∃ k : Nat, k ≤ c ∧ i = .int .i64 (k : Int) ∧ Hid (J (ys.take k) wr) ∧ Hid (wr.heap[g]? = some (.cells cs 79))) (fun i _ => c - (intOf i).toNat)
  case atStart => exact ⟨0, Nat.zero_le _, rfl, H1.out.1, H1.out.2.1⟩
  case round =>
    obtain ⟨k, hk, rfl, hJs, hrow⟩ := hrel
    by_cases hlt : k < c
    · obtain ⟨x, ex⟩ : ∃ x : Int × Int, x = ys.getD k (0, 0) := ⟨_, rfl⟩
      obtain ⟨c0, c1⟩ := HC.out wr hrow.out k hlt
      rw [← ex] at c0 c1
      have hglt : g < wr.heap.size := (Array.getElem?_eq_some_iff.1 hrow.out).1
      have hJm : J (ys.take k) (wr.alloc (.cells #[.int .i64 x.1, .int .i64 x.2] 79)) := HR.out.2.1 (ys.take k) wr _ none hJs.out ⟨rfl, rfl, rfl, by simp, fun q hq _ => Below.heap_alloc _ _ _ hq⟩ (fun r e => by cases e)
      have hrm : (wr.alloc (.cells #[.int .i64 x.1, .int .i64 x.2] 79)).heap[g]? = some (.cells cs 79) := (Below.heap_alloc _ _ _ hglt).trans hrow.out
      obtain ⟨fn, tmps, assign, body, hy, hR⟩ := hY _ x _ hJm (by rw [List.length_take, HYL.out]; omega)
      have EX : Hid (ys.take (k + 1) = ys.take k ++ [x] ∧ (wr.alloc (.cells #[.int .i64 x.1, .int .i64 x.2] 79)).heap[g]? = some (.cells cs 79)) := ⟨by rw [ex]; exact take_succ ys k (by rw [HYL.out]; exact hlt), hrm⟩
      have hk' : (k : Int) < (c : Int) := by omega
      have w5 : IntKind.i64.wrap ((k : Int) + 1) = (k : Int) + 1 := by rw [IntKind.wrap_i64]; omega
      clear ex hJm hrm hglt
      gi_wp2_with fail
      refine hR.mono ?_
      rintro e W3 (⟨rfl, hJ3, hk3⟩ | ⟨rfl, hJx3⟩)
      · have H3 : Hid (J (ys.take (k + 1)) W3 ∧ W3.heap[g]? = some (.cells cs 79)) := ⟨by rw [EX.out.1]; exact hJ3, hk3 _ _ EX.out.2⟩
        clear hJ3 hk3
        gi_wp2_with fail
        go_roundw
        case rel => exact ⟨k + 1, by omega, by simp, H3.out.1, H3.out.2⟩
        case measure => simp [intOf]; omega
      · have H3 : Hid (Jx (ys.take (k + 1)) W3) := by
          show Jx _ _
          rw [EX.out.1]
          exact hJx3
        clear hJx3
        gi_wp2_with fail
        refine bodyPost_ret (results_none rfl _ _ _) rfl ?_
        exact ⟨⟨_, rfl⟩, .inr ⟨_, ⟨ys, k + 1, HG.out, by omega, rfl⟩, H3.out⟩⟩
    · obtain rfl : k = c := by omega
      gi_wp2_with fail
      go_end0
      refine ⟨⟨_, rfl⟩, .inl ⟨ys, HG.out, ?_⟩⟩
      have := hJs.out
      rw [← HYL.out, List.take_length] at this
      exact this
/-- What All answers can be ranged over. -/
theorem hall_stops (SORT : SortsMk) (n : Nat) (hn : 1 ≤ n) (Bs : Nat) {base hb ob : Nat} {a : Option Addr} {c cap mb nn : Nat} {pu : Int} {f : Nat → Nat} {it ke va : Nat → Int} (w : World) (hBs : w.cell? ⟨Bs, 0, none⟩ = some (.pointer (some ⟨hb, 0, none⟩))) (h : HsI w base hb ob a c cap mb nn pu f it ke va) :
    SeqStopsK Fence.wide n Try.prog 38 #[.pointer (some ⟨Bs, 0, none⟩)] (fun x : Int × Int => #[Value.int .i64 x.1, Value.int .i64 x.2]) Kmk (Gd c ((List.range c).map fun i => (it (f i), ke (f i))).toArray) (fun pre => ∃ ys k, Gd c ((List.range c).map fun i => (it (f i), ke (f i))).toArray ys ∧ k ≤ c ∧ pre = ys.take k) c w := fun l J Jx W hW hJ _ hY h0 =>
  hall1_in SORT n hn l Bs J Jx W hJ hY (cell_later hW hBs) (h.keep fun k o e _ _ => hW.block k (Array.getElem?_eq_some_iff.1 e).1) h0
end Go.Proofs.Ytjnfcihichaonaa
