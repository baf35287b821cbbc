/- Contracts of the program's functions, part 47: own work, joined in build order. -/
import Derived.Test.YtjnfcihichaonaaJ46
import Derived.Shelf.SlSortCmp.WholeK
import Derived.Shelf.SlicesG.Cmp
import Derived.Ground.SlsfProg
import Derived.Ground.SlgcProg
namespace Go.Proofs
open Go.Shelf
def Try.sortMk_ren : Go.Shelf.Ren := ⟨fun | 6 => 62 | 15 => 76 | 14 => 75 | 28 => 89 | 29 => 90 | 20 => 81 | 21 => 82 | 22 => 83 | 23 => 84 | 24 => 85 | 25 => 86 | 26 => 87 | 27 => 88 | 46 => 93 | 47 => 94 | 48 => 95 | 49 => 96 | 50 => 97 | 57 => 98 | n => n, fun | 22 => 83 | 24 => 79 | 25 => 105 | 3 => 3 | 39 => 112 | 0 => 0 | 53 => 124 | 55 => 126 | 4 => 4 | 46 => 118 | 45 => 117 | 50 => 113 | 5 => 5 | 9 => 9 | 66 => 128 | 70 => 132 | 76 => 134 | 77 => 135 | n => n, fun | n => n⟩
theorem Try.sortMk : Go.Proofs.SlLaysF0.n6 Try.prog Try.sortMk_ren := {
  mixed := by kernel_rfl
  f6 := ⟨Try.f62.name, by decide, Try.func62.trans (congrArg some (by kernel_rfl))⟩
  f14 := ⟨Try.f75.name, by decide, Try.func75.trans (congrArg some (by kernel_rfl))⟩
  f15 := Try.func76.trans (congrArg some (by kernel_rfl))
  f20 := ⟨Try.f81.name, by decide, Try.func81.trans (congrArg some (by kernel_rfl))⟩
  f21 := ⟨Try.f82.name, by decide, Try.func82.trans (congrArg some (by kernel_rfl))⟩
  f22 := ⟨Try.f83.name, by decide, Try.func83.trans (congrArg some (by kernel_rfl))⟩
  f23 := ⟨Try.f84.name, by decide, Try.func84.trans (congrArg some (by kernel_rfl))⟩
  f24 := ⟨Try.f85.name, by decide, Try.func85.trans (congrArg some (by kernel_rfl))⟩
  f25 := ⟨Try.f86.name, by decide, Try.func86.trans (congrArg some (by kernel_rfl))⟩
  f26 := ⟨Try.f87.name, by decide, Try.func87.trans (congrArg some (by kernel_rfl))⟩
  f27 := ⟨Try.f88.name, by decide, Try.func88.trans (congrArg some (by kernel_rfl))⟩
  f28 := Try.func89.trans (congrArg some (by kernel_rfl))
  f29 := Try.func90.trans (congrArg some (by kernel_rfl))
  f46 := ⟨Try.f93.name, by decide, Try.func93.trans (congrArg some (by kernel_rfl))⟩
  f47 := Try.func94.trans (congrArg some (by kernel_rfl))
  f48 := Try.func95.trans (congrArg some (by kernel_rfl))
  f49 := ⟨Try.f96.name, by decide, Try.func96.trans (congrArg some (by kernel_rfl))⟩
  f50 := ⟨Try.f97.name, by decide, Try.func97.trans (congrArg some (by kernel_rfl))⟩
  f57 := ⟨Try.f98.name, by decide, Try.func98.trans (congrArg some (by kernel_rfl))⟩
  t0 := Try.underlying0
  a0 := Try.isAgg0
  z0 := Try.sizeOf0
  v0 := Try.zeroValue0
  t3 := Try.underlying3
  a3 := Try.isAgg3
  z3 := Try.sizeOf3
  v3 := Try.zeroValue3
  t4 := Try.underlying4
  a4 := Try.isAgg4
  z4 := Try.sizeOf4
  v4 := Try.zeroValue4
  t5 := Try.underlying5
  a5 := Try.isAgg5
  z5 := Try.sizeOf5
  v5 := Try.zeroValue5
  t9 := Try.underlying9
  a9 := Try.isAgg9
  z9 := Try.sizeOf9
  v9 := Try.zeroValue9
  t22 := Try.underlying83
  a22 := Try.isAgg83
  z22 := Try.sizeOf83
  v22 := Try.zeroValue83
  t25 := Try.underlying105
  a25 := Try.isAgg105
  z25 := Try.sizeOf105
  v25 := Try.zeroValue105
  t39 := Try.underlying112
  a39 := Try.isAgg112
  z39 := Try.sizeOf112
  v39 := Try.zeroValue112
  t45 := Try.underlying117
  a45 := Try.isAgg117
  z45 := Try.sizeOf117
  v45 := Try.zeroValue117
  t46 := Try.underlying118
  a46 := Try.isAgg118
  z46 := Try.sizeOf118
  v46 := Try.zeroValue118
  t50 := Try.underlying113
  a50 := Try.isAgg113
  z50 := Try.sizeOf113
  v50 := Try.zeroValue113
  t53 := Try.underlying124
  a53 := Try.isAgg124
  z53 := Try.sizeOf124
  v53 := Try.zeroValue124
  t55 := Try.underlying126
  a55 := Try.isAgg126
  z55 := Try.sizeOf126
  v55 := Try.zeroValue126
  t66 := Try.underlying128
  a66 := Try.isAgg128
  z66 := Try.sizeOf128
  v66 := Try.zeroValue128
  t70 := Try.underlying132
  a70 := Try.isAgg132
  z70 := Try.sizeOf132
  v70 := Try.zeroValue132
  t76 := Try.underlying134
  a76 := Try.isAgg134
  z76 := Try.sizeOf134
  v76 := Try.zeroValue134
  t77 := Try.underlying135
  a77 := Try.isAgg135
  z77 := Try.sizeOf135
  v77 := Try.zeroValue135 }
def Try.cmpMk_ren : Go.Shelf.Ren := ⟨fun | 5 => 64 | 7 => 77 | n => n, fun | 22 => 3 | 3 => 3 | 4 => 4 | n => n, fun | n => n⟩
theorem Try.cmpMk : Go.Proofs.SlLaysC2.n5 Try.prog Try.cmpMk_ren := {
  mixed := by kernel_rfl
  f5 := ⟨Try.f64.name, by decide, Try.func64.trans (congrArg some (by kernel_rfl))⟩
  f7 := ⟨Try.f77.name, by decide, Try.func77.trans (congrArg some (by kernel_rfl))⟩
  t3 := Try.underlying3
  a3 := Try.isAgg3
  z3 := Try.sizeOf3
  v3 := Try.zeroValue3
  t4 := Try.underlying4
  a4 := Try.isAgg4
  z4 := Try.sizeOf4
  v4 := Try.zeroValue4
  t22 := Try.underlying3
  a22 := Try.isAgg3
  z22 := Try.sizeOf3
  v22 := Try.zeroValue3 }
end Go.Proofs
namespace Go.Proofs.Ytjnfcihichaonaa
open Go.RowKit Go.Shelf Go.Sort
set_option maxRecDepth 100000
set_option linter.unusedVariables false
theorem ltMk (x y : Int × Int) : ltOf (fun x y : Int × Int => Lib.compareInt x.1 y.1) x y = decide (x.1 < y.1) := by
  unfold ltOf Lib.compareInt
  by_cases h1 : x.1 < y.1
  · simp [h1]
  · by_cases h2 : y.1 < x.1 <;> simp [h1, h2]
theorem swoMk : SWO (ltOf fun x y : Int × Int => Lib.compareInt x.1 y.1) := by
  refine ⟨fun x => ?_, fun x y z h1 h2 => ?_, fun x y z h1 h2 => ?_⟩
  · rw [ltMk]
    simp
  · rw [ltMk] at *
    simp at *
    omega
  · rw [ltMk] at *
    simp at *
    omega
set_option maxHeartbeats 1000000 in
theorem compareMk (x y : Int × Int) (W : World) : Calls Try.prog 63 #[.agg #[.int .i64 x.1, .int .i64 x.2], .agg #[.int .i64 y.1, .int .i64 y.2]] W fun e w' => e = .returned (.int .i64 (Lib.compareInt x.1 y.1)) ∧ ∃ q os', w' = grow (W.drewN q) os' := by
  have hcon := fun W' => AnyG.cmp_Compare_int Try.cmpMk x.1 y.1 W'
  change ∀ W', Calls Try.prog 64 _ _ _ at hcon
  generalize Lib.compareInt x.1 y.1 = r at hcon ⊢
  go_enter Try.func63, Try.ntmps63
  go_wp2_with (go_at_call 64; refine (hcon _).mono ?_; rintro e w' ⟨rfl, rfl⟩)
  go_ret
  exact ⟨rfl, 0, _, by rw [alloc_eq_grow, alloc_eq_grow, grow_grow]; rfl⟩
theorem cmpLaysMk (blk off size : Nat) (w : World) : CmpLays Try.prog 63 #[] encMk 2 (fun x y => Lib.compareInt x.1 y.1) blk off size w :=
  fun _ _ _ _ x y => compareMk x y _
theorem sorts_mk : SortsMk := by
  intro blk cap d w hH hblk hsz
  have eg : ∀ args w, (callFunc 63 args).run Try.prog w = .ok (.enter 63 args) w := enters_of Try.func63 (by kernel_rfl) rfl
  exact AnyQ.slices_SortFunc Try.sortMk 2 Try.isAgg79 Try.sizeOf79 encMk (fun _ => rfl) (fun x v hv => by simp [encMk] at hv; rcases hv with rfl | rfl <;> rfl) (fun x y => Lib.compareInt x.1 y.1) swoMk 63 #[] blk 0 cap d w eg (cmpLaysMk blk 0 d.size w) hH hblk hsz
end Go.Proofs.Ytjnfcihichaonaa
namespace Go.Proofs.Ytjnfcihichaonaa
open Go.RowKit Go.Sort
set_option maxRecDepth 100000
set_option linter.unusedVariables false
/-- Between two calls. -/
structure Sq (W0 W : World) (xb hb ob : Nat) (md : Int) (tur : Bool) (c n : Nat) (pu : Int) (Q : Int → Int → Int → Prop) : Prop where
  pair : W.heap[xb]? = some (.cells #[.pointer (some ⟨hb, 0, none⟩), .pointer (some ⟨ob, 0, none⟩)] 26)
  hp : ∃ N T, N ≤ 20 * c ∧ Hp W0.heap.size W hb ob (.slice none 0 0) 0 md tur 0 N n pu T ∧ ∀ i k v, T i = some (k, v) → Q i k v
  bel : Below W0.heap.size W0 W
  ge : W0.heap.size ≤ xb ∧ W0.heap.size ≤ ob
section
variable {W0 W : World} {xb hb ob : Nat} {md : Int} {tur : Bool} {c n : Nat} {pu : Int} {Q : Int → Int → Int → Prop}
theorem Sq.cells (h : Sq W0 W xb hb ob md tur c n pu Q) : W.cell? ⟨xb, 0, none⟩ = some (.pointer (some ⟨hb, 0, none⟩)) ∧ W.cell? ⟨xb, 1, none⟩ = some (.pointer (some ⟨ob, 0, none⟩)) ∧ xb < W.heap.size ∧ ob < W.heap.size ∧ W.cell? ⟨ob, 0, none⟩ = some (.slice none 0 0) ∧ W.cell? ⟨ob, 1, none⟩ = some (.int .i64 0) ∧ W.cell? ⟨ob, 2, none⟩ = some (.int .i64 md) ∧ W.cell? ⟨ob, 3, none⟩ = some (.bool tur) ∧ 0 ≤ md ∧ md ≤ 12 := by
  obtain ⟨N, T, h1, h2, h3⟩ := h.hp
  obtain ⟨q0, q1, q2, q3, _, _⟩ := h2.od.cells
  exact ⟨by simp [World.cell?, h.pair], by simp [World.cell?, h.pair], (Array.getElem?_eq_some_iff.1 h.pair).1, h2.od.lt, q0, q1, q2, q3, h2.od.mod0, h2.od.mod1⟩
theorem Sq.mono {W' : World} (h : Sq W0 W xb hb ob md tur c n pu Q) (hB : Below W.heap.size W W') : Sq W0 W' xb hb ob md tur c n pu Q := by
  obtain ⟨N, T, h1, h2, h3⟩ := h.hp
  exact ⟨(hB.block _ (Array.getElem?_eq_some_iff.1 h.pair).1).trans h.pair, ⟨N, T, h1, h2.keep hB, h3⟩, h.bel.trans (hB.mono h.bel.size), h.ge⟩
theorem Sq.push (h : Sq W0 W xb hb ob md tur c n pu Q) (k v : Int) (hn : n < 200) (hpu : pu < 200) (hc : c ≤ 1000) (hk : -9223372036854775808 ≤ k ∧ k ≤ 9223372036854775807) (hQ : Q (pu + 1) k v) :
    Calls Try.prog 13 #[.pointer (some ⟨hb, 0, none⟩), .int .i64 k, .int .i64 v] W fun e w' => e = .returned (.int .i64 (pu + 1)) ∧ Sq W0 w' xb hb ob md tur (c + 1) (n + 1) (pu + 1) Q ∧ Below W0.heap.size W w' := by
  obtain ⟨N, T, h1, h2, h3⟩ := h.hp
  refine (h2.push k v (by omega) (by omega) (by omega) hk.1 hk.2).mono ?_
  rintro e w' ⟨rfl, M, q1, q2, q3, q4⟩
  have := pow_9 q3 (by omega)
  refine ⟨rfl, ⟨q4.oth _ _ h.pair (oth_pair _), ⟨M, _, by omega, q1, fun i k v e => ?_⟩, h.bel.trans q4.bel, h.ge⟩, q4.bel⟩
  unfold updT at e
  split at e
  · rename_i e2
    cases e
    rw [e2]
    exact hQ
  · exact h3 _ _ _ e
end
end Go.Proofs.Ytjnfcihichaonaa
