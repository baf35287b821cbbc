/- Contracts of the program's functions, part 27: own work, joined in build order. -/
import Derived.Test.YtmghkkaoblkmpaaJ26
namespace Go.Proofs.Ytmghkkaoblkmpaa
open Go.RowKit Go.Shelf
set_option maxRecDepth 100000
set_option linter.unusedVariables false
theorem range_twoH {α : Type} {g : Operand} {assign body : Code} {Q : Exit → Act → World → Prop} {a : Act} {w : World} (p1 p2 q1 q2 : Nat)
    {gf : Nat} {lb : Array Value} (hg : a.eval g = .func (.func gf) #[] lb) (eg : ∀ args w, (callFunc gf args).run Try.prog w = .ok (.enter gf args) w)
    {e1 e2 : α → Value} {Kp : World → World → Prop} {S Sp : List α → Prop} {N : Nat} (hseq : SeqStopsK Fence.wide 8 Try.prog gf lb (fun x => #[e1 x, e2 x]) Kp S Sp N w)
    (hKr : ∀ W, Kp W W) (hKt : ∀ {A B C : World}, Kp A B → Kp B C → Kp A C) (hKb : ∀ (W : World) (l : Nat) (o o' : Obj), w.heap.size ≤ l → W.heap[l]? = some o → o.isCells = false → o.isWalk = false → Kp W (W.putObj l o'))
    (I : List α → World → Prop) (Ix : Code → List α → World → Prop) (hI : OwnFrom w.heap.size I) (hIx : ∀ c, OwnFrom w.heap.size (Ix c)) (h0 : I [] w)
    (hassign : ∀ (l : Nat) (x : α) (W : World) (K : Act → World → Prop), K (a2 a p1 p2 q1 q2 (e1 x) (e2 x)) W →
      assign.wpIn (Fence.wide.inRound l) (9 - 1 - 1) Try.prog (Exit.then K (fun _ _ _ => False)) { tmps := (#[p1, p2].zip #[e1 x, e2 x]).foldl (fun t (p, v) => t.setIfInBounds p v) a.tmps, defers := [] } W)
    (hbody : ∀ (l : Nat) (pre : List α) (x : α) (W : World), w.heap.size ≤ l → (∃ rr, W.heap[l]? = some (.loop rr)) → I pre W → pre.length < N → body.wpIn (Fence.wide.inRound l) (9 - 1 - 1) Try.prog (ownPostG w.heap.size Kp I Ix (pre ++ [x]) W) (a2 a p1 p2 q1 q2 (e1 x) (e2 x)) W)
    (hdone : ∀ (D : Nat) (xs : List α) (W : World), w.heap.size ≤ D → S xs → I xs W → W.heap[D]? = some (.deferred (some [])) → Q .normal { a with defers := { target := .collected D, args := #[] } :: a.defers } W)
    (hstop : ∀ (D : Nat) (c : Code) (pre : List α) (W : World), w.heap.size ≤ D → Sp pre → Ix c pre W → W.heap[D]? = some (.deferred (some [])) → c.wpIn Fence.wide 9 Try.prog Q { a with defers := { target := .collected D, args := #[] } :: a.defers } W) :
    (Code.rangeFunc g #[p1, p2] assign body).wpIn Fence.wide 9 Try.prog Q a w :=
  wpIn_rangeFunc_ownH rfl (by omega) hg trivial eg hseq hKt hKb (Below.refl _ _) (fun _ => rfl) I Ix hI hIx h0 (fun x a' _ => a' = a2 a p1 p2 q1 q2 (e1 x) (e2 x)) (fun x a' s W W' row hs _ _ => hs)
    (fun l pre x W K hi hK => hassign l x W K (hK _ W (KeepsFrom.refl _ _) (hKr W) hi rfl)) (fun l pre x a' W hl hr hi ha hlt => by subst ha; exact hbody l pre x W hl hr hi hlt) hdone hstop
theorem range_twoN {α : Type} {g : Operand} {assign body : Code} {Q : Exit → Act → World → Prop} {a : Act} {w : World} (p1 p2 q1 q2 l₀ : Nat) (hl₀ : ∃ r₀, w.heap[l₀]? = some (.loop r₀))
    {gf : Nat} {lb : Array Value} (hg : a.eval g = .func (.func gf) #[] lb) (eg : ∀ args w, (callFunc gf args).run Try.prog w = .ok (.enter gf args) w)
    {e1 e2 : α → Value} {Kp : World → World → Prop} {S Sp : List α → Prop} {N : Nat} (hseq : SeqStopsK Fence.wide 6 Try.prog gf lb (fun x => #[e1 x, e2 x]) Kp S Sp N w)
    (hKr : ∀ W, Kp W W) (hKt : ∀ {A B C : World}, Kp A B → Kp B C → Kp A C) (hKb : ∀ (W : World) (l : Nat) (o o' : Obj), w.heap.size ≤ l → W.heap[l]? = some o → o.isCells = false → o.isWalk = false → Kp W (W.putObj l o'))
    (I : List α → World → Prop) (Ix : Code → List α → World → Prop) (hI : OwnFrom w.heap.size I) (hIx : ∀ c, OwnFrom w.heap.size (Ix c)) (h0 : I [] w)
    (hassign : ∀ (l : Nat) (x : α) (W : World) (K : Act → World → Prop), K (a2 a p1 p2 q1 q2 (e1 x) (e2 x)) W →
      assign.wpIn (Fence.wide.inRound l) (7 - 1 - 1) Try.prog (Exit.then K (fun _ _ _ => False)) { tmps := (#[p1, p2].zip #[e1 x, e2 x]).foldl (fun t (p, v) => t.setIfInBounds p v) a.tmps, defers := [] } W)
    (hbody : ∀ (l : Nat) (pre : List α) (x : α) (W : World), I pre W → pre.length < N → body.wpIn (Fence.wide.inRound l) (7 - 1 - 1) Try.prog (ownPostG w.heap.size Kp I Ix (pre ++ [x]) W) (a2 a p1 p2 q1 q2 (e1 x) (e2 x)) W)
    (hdone : ∀ (xs : List α) (W : World), S xs → I xs W → Q .normal a W)
    (hstop : ∀ (c : Code) (pre : List α) (W : World), Sp pre → Ix c pre W → c.wpIn (Fence.wide.inRound l₀) 7 Try.prog Q a W) :
    (Code.rangeFunc g #[p1, p2] assign body).wpIn (Fence.wide.inRound l₀) 7 Try.prog Q a w := by
  obtain ⟨r₀, hr₀⟩ := hl₀
  exact wpIn_rangeFunc_ownN (l₀ := l₀) (r₀ := r₀) rfl hr₀ (by omega) hg trivial eg (hseq.inRound l₀) hKt hKb (Below.refl _ _) (fun _ => rfl) I Ix hI hIx h0 (fun x a' _ => a' = a2 a p1 p2 q1 q2 (e1 x) (e2 x)) (fun x a' s W W' row hs _ _ => hs)
    (fun l pre x W K hi hK => hassign l x W K (hK _ W (KeepsFrom.refl _ _) (hKr W) hi rfl)) (fun l pre x a' W hl hr hi ha hlt => by subst ha; exact hbody l pre x W hi hlt) hdone hstop
/-- The boxes of ranged, m rounds being over. -/
structure Bs9 (n0 : Nat) (W : World) (r : Nat) (S : Nat → Value) (vl was : Value) (m : Int) : Prop where
  b0 : Boxed W n0 24 (.pointer (some ⟨r, 0, none⟩))
  b1 : Boxed W (n0 + 1) 27 vl
  b2 : W.rowIs (n0 + 2) 34 4 S
  b3 : ∃ u, Boxed W (n0 + 3) 27 u
  b4 : ∃ u, Boxed W (n0 + 4) 4 u
  b5 : Boxed W (n0 + 5) 24 (.pointer (some ⟨r, 0, none⟩))
  b6 : Boxed W (n0 + 6) 30 (.func (.func 36) #[] #[.pointer (some ⟨n0 + 5, 0, none⟩)])
  b7 : Boxed W (n0 + 7) 3 (.int .i64 m)
  b8 : Boxed W (n0 + 8) 27 was
theorem boxed_keep {W W' : World} {row : Option Nat} {b : Nat} {t : TypeId} {v : Value} {B : Nat} (h : Boxed W b t v) (hg : W.grownBy W' row) (hr : ∀ r, row = some r → B ≤ r ∧ ∃ o : Obj, W.heap[r]? = some o ∧ o.isCells = false) : Boxed W' b t v := by
  refine h.kept hg fun e => ?_
  obtain ⟨o, ho, hc⟩ := (hr b e.symm).2
  rw [show W.heap[b]? = _ from h] at ho
  cases ho
  cases hc
theorem Bs9.own {n0 : Nat} {W W' : World} {r : Nat} {S : Nat → Value} {vl was : Value} {m : Int} {row : Option Nat} {B : Nat} (h : Bs9 n0 W r S vl was m) (hg : W.grownBy W' row) (hr : ∀ r, row = some r → B ≤ r ∧ ∃ o : Obj, W.heap[r]? = some o ∧ o.isCells = false) : Bs9 n0 W' r S vl was m := by
  obtain ⟨u3, h3⟩ := h.b3
  obtain ⟨u4, h4⟩ := h.b4
  exact ⟨boxed_keep h.b0 hg hr, boxed_keep h.b1 hg hr, rowIs_own h.b2 hg hr, ⟨u3, boxed_keep h3 hg hr⟩, ⟨u4, boxed_keep h4 hg hr⟩, boxed_keep h.b5 hg hr, boxed_keep h.b6 hg hr, boxed_keep h.b7 hg hr, boxed_keep h.b8 hg hr⟩
/-- Blocks are kept that are neither r nor g. -/
theorem Bs9.chg {n0 : Nat} {W W' : World} {r g : Nat} {S : Nat → Value} {vl was : Value} {m : Int} (h : Bs9 n0 W r S vl was m) (hC : Chg W W' r g) (hr : r < n0) (hg : g < n0 ∨ n0 + 9 ≤ g) : Bs9 n0 W' r S vl was m := by
  obtain ⟨u3, h3⟩ := h.b3
  obtain ⟨u4, h4⟩ := h.b4
  have k : ∀ {b t v}, Boxed W b t v → n0 ≤ b → b < n0 + 9 → Boxed W' b t v := fun {b t v} hb h1 h2 => (hC.block b hb.lt (by omega) (by omega)).trans hb
  exact ⟨k h.b0 (by omega) (by omega), k h.b1 (by omega) (by omega), h.b2.of_block (hC.block _ h.b2.lt (by omega) (by omega)), ⟨u3, k h3 (by omega) (by omega)⟩, ⟨u4, k h4 (by omega) (by omega)⟩, k h.b5 (by omega) (by omega), k h.b6 (by omega) (by omega), k h.b7 (by omega) (by omega), k h.b8 (by omega) (by omega)⟩
theorem Bs9.setN {n0 : Nat} {W : World} {r : Nat} {S : Nat → Value} {vl was : Value} {m : Int} (h : Bs9 n0 W r S vl was m) (m' : Int) : Bs9 n0 (W.setCell ⟨n0 + 7, 0, none⟩ (.int .i64 m')) r S vl was m' := by
  obtain ⟨u3, h3⟩ := h.b3
  obtain ⟨u4, h4⟩ := h.b4
  exact ⟨h.b0.other (by omega) _, h.b1.other (by omega) _, h.b2.setOther (by simp) _, ⟨u3, h3.other (by omega) _⟩, ⟨u4, h4.other (by omega) _⟩, h.b5.other (by omega) _, h.b6.other (by omega) _, h.b7.set _, h.b8.other (by omega) _⟩
theorem Bs9.setL {n0 : Nat} {W : World} {r : Nat} {S : Nat → Value} {vl was : Value} {m : Int} (h : Bs9 n0 W r S vl was m) (vl' : Value) : Bs9 n0 (W.setCell ⟨n0 + 1, 0, none⟩ vl') r S vl' was m := by
  obtain ⟨u3, h3⟩ := h.b3
  obtain ⟨u4, h4⟩ := h.b4
  exact ⟨h.b0.other (by omega) _, h.b1.set _, h.b2.setOther (by simp) _, ⟨u3, h3.other (by omega) _⟩, ⟨u4, h4.other (by omega) _⟩, h.b5.other (by omega) _, h.b6.other (by omega) _, h.b7.other (by omega) _, h.b8.other (by omega) _⟩
end Go.Proofs.Ytmghkkaoblkmpaa
