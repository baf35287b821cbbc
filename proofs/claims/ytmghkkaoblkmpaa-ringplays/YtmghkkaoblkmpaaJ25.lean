/- Contracts of the program's functions, part 25: own work, joined in build order. -/
import Derived.Test.YtmghkkaoblkmpaaJ24
namespace Go.Proofs.Ytmghkkaoblkmpaa
open Go.RowKit Go.Shelf
set_option maxRecDepth 100000
set_option linter.unusedVariables false
/-- A ring of the call's own, apart from the blocks ks, and what lay below n0. -/
def OneK (n0 : Nat) (ks : List Nat) (w0 w : World) (r : Nat) (xs : List Int) : Prop := ∃ g, Own1 n0 w r g xs ∧ Below n0 w0 w ∧ n0 ≤ w0.heap.size ∧ ∀ k ∈ ks, k ≠ r ∧ k ≠ g ∧ k < w.heap.size
def Same (ks : List Nat) (w w' : World) : Prop := ∀ k ∈ ks, w'.heap[k]? = w.heap[k]?
theorem OneK.bel {n0 : Nat} {ks : List Nat} {w0 w : World} {r : Nat} {xs : List Int} (h : OneK n0 ks w0 w r xs) : Below n0 w0 w := by obtain ⟨_, _, h2, _⟩ := h; exact h2
theorem OneK.drew {n0 : Nat} {ks : List Nat} {w0 w : World} {r : Nat} {xs : List Int} (h : OneK n0 ks w0 w r xs) (n : Nat) : OneK n0 ks w0 (w.drewN n) r xs := by
  obtain ⟨g, h1, h2, h3, h4⟩ := h
  exact ⟨g, h1.of_blocks rfl rfl, ⟨h2.os, h2.tape, h2.output, h2.size, h2.block⟩, h3, h4⟩
theorem OneK.grow {n0 : Nat} {ks : List Nat} {w0 w w' : World} {r : Nat} {xs : List Int} (h : OneK n0 ks w0 w r xs) (hb : Below w.heap.size w w') : OneK n0 ks w0 w' r xs := by
  obtain ⟨g, h1, h2, h3, h4⟩ := h
  exact ⟨g, h1.mono hb, h2.trans (hb.mono (Nat.le_trans h3 h2.size)), h3, fun k hk => ⟨(h4 k hk).1, (h4 k hk).2.1, Nat.lt_of_lt_of_le (h4 k hk).2.2 hb.size⟩⟩
/-- Another block is watched that lies beyond both. -/
theorem OneK.add {n0 : Nat} {ks : List Nat} {w0 w w' : World} {r : Nat} {xs : List Int} (h : OneK n0 ks w0 w r xs) (hb : Below w.heap.size w w') {k : Nat} (hk : w.heap.size ≤ k) (hk2 : k < w'.heap.size) : OneK n0 (k :: ks) w0 w' r xs := by
  obtain ⟨g, h1, h2, h3, h4⟩ := h.grow hb
  obtain ⟨g', k1, k2, k3, k4⟩ := h
  refine ⟨g', k1.mono hb, h2, h3, fun j hj => ?_⟩
  have l := k1.lt
  rcases List.mem_cons.1 hj with e | e
  · subst e
    exact ⟨by omega, by omega, hk2⟩
  · exact ⟨(k4 j e).1, (k4 j e).2.1, Nat.lt_of_lt_of_le (k4 j e).2.2 hb.size⟩
/-- A watched block from n0 on is written. -/
theorem OneK.set {n0 : Nat} {ks : List Nat} {w0 w : World} {r : Nat} {xs : List Int} (h : OneK n0 ks w0 w r xs) {k : Nat} (hk : k ∈ ks) (hn : n0 ≤ k) (i : Nat) (v : Value) : OneK n0 ks w0 (w.setCell ⟨k, i, none⟩ v) r xs := by
  obtain ⟨g, h1, h2, h3, h4⟩ := h
  have hk4 := h4 k hk
  exact ⟨g, h1.of_blocks (Below.heap_setCell _ _ _ _ (Ne.symm hk4.1)) (Below.heap_setCell _ _ _ _ (Ne.symm hk4.2.1)), h2.setCell hn v, h3, fun j hj => by simpa using h4 j hj⟩
theorem OneK.lift {n0 : Nat} {ks : List Nat} {w0 w : World} {r : Nat} {xs xs' : List Int} (h : OneK n0 ks w0 w r xs) {F : FuncId} {args : Array Value} {E : Ending} (C : ∀ g N f, RI w r g N f xs.length xs → Calls Try.prog F args w fun e w' => e = E ∧ RingsI w r g xs' w') :
    Calls Try.prog F args w fun e w' => e = E ∧ Hid (OneK n0 ks w0 w' r xs' ∧ Same ks w w') := by
  obtain ⟨g, h1, h3, h4, hk⟩ := h
  obtain ⟨N, f, hR⟩ := h1.ring
  refine (C g N f hR).mono fun _ _ ⟨he, h5⟩ => ⟨he, ?_⟩
  obtain ⟨g', h6, h7, h8, h9⟩ := h1.go (Nat.le_trans h4 h3.size) h5
  refine ⟨⟨g', h6, h3.trans h7, h4, fun k kk => ?_⟩, fun k kk => h8.block k (hk k kk).2.2 (hk k kk).1 (hk k kk).2.1⟩
  obtain ⟨a, b, c⟩ := hk k kk
  have := h8.size
  refine ⟨a, ?_, by omega⟩
  rcases h9 with e | e | e <;> omega
section
variable {n0 r : Nat} {ks : List Nat} {w0 w : World} {xs : List Int}
theorem OneK.pushBack (h : OneK n0 ks w0 w r xs) (hx : xs.length ≤ 4294967296) (v : Int) : Calls Try.prog 17 #[.pointer (some ⟨r, 0, none⟩), .int .i64 v] w fun e w' => e = .returned (.tuple #[]) ∧ Hid (OneK n0 ks w0 w' r (xs ++ [v]) ∧ Same ks w w') :=
  h.lift (E := .returned (.tuple #[])) fun g N f k => pushBackI_any r g N f xs v w k hx
theorem OneK.pushFront (h : OneK n0 ks w0 w r xs) (hx : xs.length ≤ 4294967296) (v : Int) : Calls Try.prog 19 #[.pointer (some ⟨r, 0, none⟩), .int .i64 v] w fun e w' => e = .returned (.tuple #[]) ∧ Hid (OneK n0 ks w0 w' r (v :: xs) ∧ Same ks w w') :=
  h.lift (E := .returned (.tuple #[])) fun g N f k => pushFrontI_any r g N f xs v w k hx
theorem OneK.popFront {x : Int} (h : OneK n0 ks w0 w r (x :: xs)) : Calls Try.prog 21 #[.pointer (some ⟨r, 0, none⟩)] w fun e w' => e = .returned (.tuple #[.int .i64 x, .bool true]) ∧ Hid (OneK n0 ks w0 w' r xs ∧ Same ks w w') :=
  h.lift (E := .returned (.tuple #[.int .i64 x, .bool true])) fun g N f k => popFrontI_yes r g N f x xs w k
theorem OneK.at (h : OneK n0 ks w0 w r xs) (j : Nat) (i : Int) (hi : i = j) (hj : j < xs.length) (x : Int) (hx : xs.getD j 0 = x) : Calls Try.prog 31 #[.pointer (some ⟨r, 0, none⟩), .int .i64 i] w fun e w' => e = .returned (.tuple #[.int .i64 x, .bool true]) ∧ ∃ n, w' = w.drewN n := by
  obtain ⟨g, h1, h2, h3⟩ := h
  obtain ⟨N, f, k⟩ := h1.ring
  rw [← hx]
  exact atI_yes r g N f _ xs j i w k hi hj
theorem OneK.len (h : OneK n0 ks w0 w r xs) (c : Nat) (hc : xs.length = c) : Calls Try.prog 33 #[.pointer (some ⟨r, 0, none⟩)] w fun e w' => e = .returned (.int .i64 (c : Int)) ∧ w' = w := by
  obtain ⟨g, h1, h2, h3⟩ := h
  obtain ⟨N, f, k⟩ := h1.ring
  rw [← hc]
  exact lenI_any r g N f _ xs w k
end
/-- The frame of a round: two loop variables. -/
def a2 (a : Act) (p1 p2 q1 q2 : Nat) (v1 v2 : Value) : Act := { tmps := ((((a.tmps.setIfInBounds p1 v1).setIfInBounds p2 v2).setIfInBounds q1 v1).setIfInBounds q2 v2), defers := [] }
theorem range_two {α : Type} {g : Operand} {assign body : Code} {Q : Exit → Act → World → Prop} {a : Act} {w : World} (p1 p2 q1 q2 : Nat)
    {gf : Nat} {lb : Array Value} (hg : a.eval g = .func (.func gf) #[] lb) (eg : ∀ args w, (callFunc gf args).run Try.prog w = .ok (.enter gf args) w)
    {e1 e2 : α → Value} {Kp : World → World → Prop} {S Sp : List α → Prop} {N : Nat} (hseq : SeqStopsK Fence.wide 8 Try.prog gf lb (fun x => #[e1 x, e2 x]) Kp S Sp N w)
    (hKt : ∀ {A B C : World}, Kp A B → Kp B C → Kp A C) (hKb : ∀ (W : World) (l : Nat) (o o' : Obj), w.heap.size ≤ l → W.heap[l]? = some o → o.isCells = false → o.isWalk = false → Kp W (W.putObj l o'))
    (I : List α → World → Prop) (Ix : Code → List α → World → Prop) (hI : OwnFrom w.heap.size I) (hIx : ∀ c, OwnFrom w.heap.size (Ix c)) (h0 : I [] w)
    (hassign : ∀ (l : Nat) (x : α) (W : World) (K : Act → World → Prop), K (a2 a p1 p2 q1 q2 (e1 x) (e2 x)) W →
      assign.wpIn (Fence.wide.inRound l) (9 - 1 - 1) Try.prog (Exit.then K (fun _ _ _ => False)) { tmps := (#[p1, p2].zip #[e1 x, e2 x]).foldl (fun t (p, v) => t.setIfInBounds p v) a.tmps, defers := [] } W)
    (hbody : ∀ (l : Nat) (pre : List α) (x : α) (W : World), I pre W → pre.length < N → body.wpIn (Fence.wide.inRound l) (9 - 1 - 1) Try.prog (ownPostG w.heap.size Kp I Ix (pre ++ [x]) W) (a2 a p1 p2 q1 q2 (e1 x) (e2 x)) W)
    (hdone : ∀ (D : Nat) (xs : List α) (W : World), w.heap.size ≤ D → S xs → I xs W → W.heap[D]? = some (.deferred (some [])) → Q .normal { a with defers := { target := .collected D, args := #[] } :: a.defers } W)
    (hstop : ∀ (D : Nat) (c : Code) (pre : List α) (W : World), w.heap.size ≤ D → Sp pre → Ix c pre W → W.heap[D]? = some (.deferred (some [])) → c.wpIn Fence.wide 9 Try.prog Q { a with defers := { target := .collected D, args := #[] } :: a.defers } W) :
    (Code.rangeFunc g #[p1, p2] assign body).wpIn Fence.wide 9 Try.prog Q a w :=
  wpIn_rangeFunc_ownG rfl (by omega) hg trivial eg hseq hKt hKb (Below.refl _ _) (fun _ => rfl) I Ix hI hIx h0 _ hassign hbody hdone hstop
/-- lo, lo + 1, .., k of them. -/
def seg (lo : Int) (k : Nat) : List Int := (List.range k).map fun j : Nat => lo + (j : Int)
theorem seg_length (lo : Int) (k : Nat) : (seg lo k).length = k := by simp [seg]
theorem seg_back (lo hi : Int) (k : Nat) (h : hi = lo + (k : Int)) : seg lo k ++ [hi] = seg lo (k + 1) := by
  subst h
  simp [seg, List.range_succ]
theorem seg_front (lo lo' : Int) (k : Nat) (h : lo' = lo - 1) : lo' :: seg lo k = seg lo' (k + 1) := by
  subst h
  unfold seg
  rw [List.range_succ_eq_map]
  simp only [List.map_cons, List.map_map]
  congr 1
  · simp
  · refine List.map_congr_left fun j _ => ?_
    simp only [Function.comp]
    omega
theorem seg_getD (lo : Int) (k j : Nat) (h : j < k) : (seg lo k).getD j 0 = lo + (j : Int) := by
  simp [seg, List.getD_eq_getElem?_getD, h]
/-- What RingLong holds: the ring, the box of low, the box of its answer. -/
structure LS (w wr : World) (r bl : Nat) (xs : List Int) (lo : Int) : Prop where
  ring : OneK w.heap.size [bl, w.heap.size] w wr r xs
  low : wr.rowIs bl 3 1 (fun _ => .int .i64 lo)
  res : wr.rowIs w.heap.size 4 1 (fun _ => .bool false)
  hbl : w.heap.size < bl
theorem LS.go {w wr w' : World} {r bl : Nat} {xs ys : List Int} {lo : Int} (h : LS w wr r bl xs lo) (k : OneK w.heap.size [bl, w.heap.size] w w' r ys ∧ Same [bl, w.heap.size] wr w') : LS w w' r bl ys lo :=
  ⟨k.1, h.low.of_block (k.2 bl (by simp)), h.res.of_block (k.2 _ (by simp)), h.hbl⟩
theorem LS.drew {w wr : World} {r bl : Nat} {xs : List Int} {lo : Int} (h : LS w wr r bl xs lo) (n : Nat) : LS w (wr.drewN n) r bl xs lo := ⟨h.ring.drew n, h.low.of_block rfl, h.res.of_block rfl, h.hbl⟩
theorem LS.grow {w wr w' : World} {r bl : Nat} {xs : List Int} {lo : Int} (h : LS w wr r bl xs lo) (hb : Below wr.heap.size wr w') : LS w w' r bl xs lo := ⟨h.ring.grow hb, h.low.of_block (hb.block _ h.low.lt), h.res.of_block (hb.block _ h.res.lt), h.hbl⟩
theorem LS.setLow {w wr : World} {r bl : Nat} {xs : List Int} {lo : Int} (h : LS w wr r bl xs lo) (lo' : Int) : LS w (wr.setCell ⟨bl, 0, none⟩ (.int .i64 lo')) r bl xs lo' :=
  ⟨h.ring.set (by simp) (Nat.le_of_lt h.hbl) 0 _, (h.low.set 0 _).congr fun i hi => by simp; omega, h.res.setOther (by have := h.hbl; simp; omega) _, h.hbl⟩
theorem LS.cl {w wr : World} {r bl : Nat} {xs : List Int} {lo : Int} (h : LS w wr r bl xs lo) : wr.cell? ⟨bl, 0, none⟩ = some (.int .i64 lo) := h.low.cell (by omega)
theorem LS.fl {w wr : World} {r bl : Nat} {xs : List Int} {lo : Int} (h : LS w wr r bl xs lo) : wr.frozen? ⟨bl, 0, none⟩ = false := h.low.frozen 0
theorem LS.cr {w wr : World} {r bl : Nat} {xs : List Int} {lo : Int} (h : LS w wr r bl xs lo) : wr.cell? ⟨w.heap.size, 0, none⟩ = some (.bool false) := h.res.cell (by omega)
theorem LS.fr {w wr : World} {r bl : Nat} {xs : List Int} {lo : Int} (h : LS w wr r bl xs lo) : wr.frozen? ⟨w.heap.size, 0, none⟩ = false := h.res.frozen 0
theorem rowIs_own {W W' : World} {row : Option Nat} {b : Nat} {t : TypeId} {n : Nat} {f : Nat → Value} {B : Nat} (h : W.rowIs b t n f) (hg : W.grownBy W' row) (hr : ∀ r, row = some r → B ≤ r ∧ ∃ o : Obj, W.heap[r]? = some o ∧ o.isCells = false) : W'.rowIs b t n f := by
  refine h.of_block (hg.block b h.lt fun e => ?_)
  obtain ⟨c, hb, _⟩ := h
  obtain ⟨o, ho, hc⟩ := (hr b e.symm).2
  rw [hb] at ho
  cases ho
  cases hc
theorem OneK.all {n0 r : Nat} {ks : List Nat} {w0 w : World} {xs : List Int} (h : OneK n0 ks w0 w r xs) : ∃ g N f, RI w r g N f xs.length xs := by
  obtain ⟨g, h1, _⟩ := h
  obtain ⟨N, f, k⟩ := h1.ring
  exact ⟨g, N, f, k⟩
theorem i64_and15 (n : Int) : bits .and .i64 n 15 = n % 16 := by
  have h := i64_mask n 4 (by omega) 15 (by rfl)
  exact h
end Go.Proofs.Ytmghkkaoblkmpaa
