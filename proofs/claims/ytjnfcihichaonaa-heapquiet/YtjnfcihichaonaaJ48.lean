/- Contracts of the program's functions, part 48: own work, joined in build order. -/
import Derived.Test.YtjnfcihichaonaaJ47
namespace Go.Proofs.Ytjnfcihichaonaa
open Go.RowKit Go.Shelf Go.Sort
set_option maxRecDepth 100000
set_option linter.unusedVariables false
attribute [local go_sem] Oper.semAt_some
theorem Kmk.trans {A B C : World} (h : Kmk A B) (k : Kmk B C) : Kmk A C := fun b cs e => k b cs (h b cs e)
theorem Kmk.putObj (W : World) (l : Nat) (o o' : Obj) (hl : W.heap[l]? = some o) (ho : o.isCells = false) : Kmk W (W.putObj l o') := fun b cs e => by
  refine (World.putObj_heap_other fun e2 => ?_).trans e
  subst e2
  rw [e] at hl
  cases hl
  cases ho
/-- A block of another kind is written. -/
theorem Kmk.set {W : World} {b i : Nat} {t : TypeId} {m : Nat} {f : Nat → Value} (h : W.rowIs b t m f) (ht : t ≠ 79) (v : Value) : Kmk W (W.setCell ⟨b, i, none⟩ v) := fun k cs e => by
  refine (Below.heap_setCell _ _ _ k fun e2 => ?_).trans e
  obtain ⟨c, hb, _⟩ := h
  have e3 : k = b := e2
  rw [e3, hb] at e
  cases e
  exact ht rfl
theorem rowIs_own {W W' : World} {row : Option Nat} {b : Nat} {t : TypeId} {n : Nat} {f : Nat → Value} {B : Nat} (h : W.rowIs b t n f) (hg : W.grownBy W' row) (hr : ∀ r, row = some r → B ≤ r ∧ ∃ o : Obj, W.heap[r]? = some o ∧ o.isCells = false) : W'.rowIs b t n f := by
  refine h.of_block (hg.block b h.lt fun e => ?_)
  obtain ⟨c, hb, _⟩ := h
  obtain ⟨o, ho, hc⟩ := (hr b e.symm).2
  rw [hb] at ho
  cases ho
  cases hc
/-- The frame of a round: two loop variables that nobody reads. -/
def a0 (a : Act) (p1 p2 : Nat) (v1 v2 : Value) : Act := { tmps := ((a.tmps.setIfInBounds p1 v1).setIfInBounds p2 v2), defers := [] }
theorem range_bare {α : Type} {g : Operand} {assign body : Code} {Q : Exit → Act → World → Prop} {a : Act} {w : World} (p1 p2 : Nat)
    {gf : Nat} {lb : Array Value} (hg : a.eval g = .func (.func gf) #[] lb) (eg : ∀ args w, (callFunc gf args).run Try.prog w = .ok (.enter gf args) w)
    {e1 e2 : α → Value} {Kp : World → World → Prop} {S Sp : List α → Prop} {N : Nat} (hseq : SeqStopsK Fence.wide 8 Try.prog gf lb (fun x => #[e1 x, e2 x]) Kp S Sp N w)
    (hKt : ∀ {A B C : World}, Kp A B → Kp B C → Kp A C) (hKb : ∀ (W : World) (l : Nat) (o o' : Obj), w.heap.size ≤ l → W.heap[l]? = some o → o.isCells = false → o.isWalk = false → Kp W (W.putObj l o'))
    (I : List α → World → Prop) (Ix : Code → List α → World → Prop) (hI : OwnFrom w.heap.size I) (hIx : ∀ c, OwnFrom w.heap.size (Ix c)) (h0 : I [] w)
    (hassign : ∀ (l : Nat) (x : α) (W : World) (K : Act → World → Prop), K (a0 a p1 p2 (e1 x) (e2 x)) W →
      assign.wpIn (Fence.wide.inRound l) (9 - 1 - 1) Try.prog (Exit.then K (fun _ _ _ => False)) { tmps := (#[p1, p2].zip #[e1 x, e2 x]).foldl (fun t (p, v) => t.setIfInBounds p v) a.tmps, defers := [] } W)
    (hbody : ∀ (l : Nat) (pre : List α) (x : α) (W : World), I pre W → pre.length < N → body.wpIn (Fence.wide.inRound l) (9 - 1 - 1) Try.prog (ownPostG w.heap.size Kp I Ix (pre ++ [x]) W) (a0 a p1 p2 (e1 x) (e2 x)) W)
    (hdone : ∀ (D : Nat) (xs : List α) (W : World), w.heap.size ≤ D → S xs → I xs W → W.heap[D]? = some (.deferred (some [])) → Q .normal { a with defers := { target := .collected D, args := #[] } :: a.defers } W)
    (hstop : ∀ (D : Nat) (c : Code) (pre : List α) (W : World), w.heap.size ≤ D → Sp pre → Ix c pre W → W.heap[D]? = some (.deferred (some [])) → c.wpIn Fence.wide 9 Try.prog Q { a with defers := { target := .collected D, args := #[] } :: a.defers } W) :
    (Code.rangeFunc g #[p1, p2] assign body).wpIn Fence.wide 9 Try.prog Q a w :=
  wpIn_rangeFunc_ownG rfl (by omega) hg trivial eg hseq hKt hKb (Below.refl _ _) (fun _ => rfl) I Ix hI hIx h0 _ hassign hbody hdone hstop
end Go.Proofs.Ytjnfcihichaonaa
