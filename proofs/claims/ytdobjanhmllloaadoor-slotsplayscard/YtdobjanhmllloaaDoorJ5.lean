/- Contracts of the program's functions, part 5: own work, joined in build order. -/
import Derived.Test.YtdobjanhmllloaaDoorJ4
import Derived.RangeFuncNested
import Derived.RangeFuncWrites
import Derived.RangeFuncLeaves
import Derived.Test.YtdobjanhmllloaaDoorRows
import Derived.RangeFuncBound
import Derived.RangeFuncCalls
import Derived.Shelf.Abstract
import Derived.Shelf.RegionOpen
import Derived.OwnWalkIn
import Derived.TacticsInMore
import Derived.LoopNIn
import Derived.LoopIn
import Derived.Stop.RegionWithIn
import Derived.BigQuiet
import Derived.BigRegion
namespace Go.Proofs.YtdobjanhmllloaaDoor
open Go.RowKit
set_option linter.unusedVariables false
def SeqC (F : Fence) (n : Nat) (P : Program) (gf : Nat) (lb : Array Value) (encs : Nat → Array Value) (Kp : World → World → Prop) (N C : Nat) (w : World) : Prop :=
  ∀ (l : Nat) (J : Nat → World → Prop) (Jx : Unit → World → Prop) (W : World), Below w.heap.size w W → C ≤ W.heap.size → (∀ k A B, J k A → Below A.heap.size A B → J k B) →
    (∀ k A l o o', J k A → W.heap.size ≤ l → A.heap[l]? = some o → o.isCells = false → o.isWalk = false → J k (A.putObj l o')) → (∀ A l o o', Jx () A → W.heap.size ≤ l → A.heap[l]? = some o → o.isCells = false → o.isWalk = false → Jx () (A.putObj l o')) →
    (∀ k W1, k < N → J k W1 → YieldAt F (n - 1) P l (encs k) W1 fun e W' => (e = .returned (.bool true) ∧ J (k + 1) W' ∧ Kp W1 W') ∨ (e = .returned (.bool false) ∧ Jx () W' ∧ Kp W1 W')) →
    J 0 W → CallsIn F n P gf (#[.func (.yield l) #[] #[]] ++ lb) W fun e W' => (∃ v, e = .returned v) ∧ (J N W' ∨ Jx () W')
structure KeepsL (B : Nat) (W W' : World) : Prop where
  size : W.heap.size ≤ W'.heap.size
  same : ∀ (k : Nat) (o : Obj), B ≤ k → W.heap[k]? = some o → o.isCells = false → o.isWalk = false → W'.heap[k]? = some o
theorem KeepsL.refl (B : Nat) (W : World) : KeepsL B W W := ⟨Nat.le_refl _, fun _ _ _ h _ _ => h⟩
theorem KeepsL.trans {B : Nat} {X Y Z : World} (h : KeepsL B X Y) (k : KeepsL B Y Z) : KeepsL B X Z := ⟨Nat.le_trans h.size k.size, fun i o hB hi h1 h2 => k.same i o hB (h.same i o hB hi h1 h2) h1 h2⟩
theorem KeepsL.of_below {B : Nat} {W W' : World} (h : Below W.heap.size W W') : KeepsL B W W' := ⟨h.size, fun k o _ hk _ _ => (h.block k (Array.getElem?_eq_some_iff.1 hk).1).trans hk⟩
def postC (B : Nat) (Kp : World → World → Prop) (I : World → Prop) (Ix : Code → World → Prop) (W : World) : Exit → Act → World → Prop
  | .normal, _, W' => KeepsL B W W' ∧ Kp W W' ∧ I W'
  | .ret, _, W' => KeepsL B W W' ∧ Kp W W' ∧ Ix .ret W'
  | .exit id, _, W' => KeepsL B W W' ∧ Kp W W' ∧ Ix (.exit id) W'
  | .goto t, _, W' => KeepsL B W W' ∧ Kp W W' ∧ Ix (.goto t) W'
  | .panic _, _, _ => False
  | .outgrown, _, _ => False
structure BkS (B : Nat) (r : Loop) (W : World) : Prop where
  loop : W.heap[B + 1]? = some (.loop r)
  mark : W.heap[B]? = some (.deferred (some []))
theorem BkS.lt {B : Nat} {r : Loop} {W : World} (h : BkS B r W) : B + 1 < W.heap.size := (Array.getElem?_eq_some_iff.1 h.loop).1
theorem BkS.put {B : Nat} {r : Loop} {W : World} (h : BkS B r W) (r' : Loop) : BkS B r' (W.putObj (B + 1) (.loop r')) :=
  ⟨World.putObj_heap_same h.lt, (World.putObj_heap_other (by omega)).trans h.mark⟩
theorem BkS.kept {B : Nat} {r : Loop} {W W' : World} (h : BkS B r W) (hk : KeepsL B W W') : BkS B r W' :=
  ⟨hk.same _ _ (by omega) h.loop rfl rfl, hk.same _ _ (Nat.le_refl _) h.mark rfl rfl⟩
theorem BkS.away {B : Nat} {r : Loop} {W : World} (h : BkS B r W) {l : Nat} (hl : B + 1 < l) (o : Obj) : BkS B r (W.putObj l o) := ⟨(World.putObj_heap_other (by omega)).trans h.loop, (World.putObj_heap_other (by omega)).trans h.mark⟩
structure BkN (B : Nat) (r : Loop) (W : World) : Prop where
  loop : W.heap[B]? = some (.loop r)
theorem BkN.lt {B : Nat} {r : Loop} {W : World} (h : BkN B r W) : B < W.heap.size := (Array.getElem?_eq_some_iff.1 h.loop).1
theorem BkN.put {B : Nat} {r : Loop} {W : World} (h : BkN B r W) (r' : Loop) : BkN B r' (W.putObj B (.loop r')) := ⟨World.putObj_heap_same h.lt⟩
theorem BkN.away {B : Nat} {r : Loop} {W : World} (h : BkN B r W) {l : Nat} (hl : B < l) (o : Obj) : BkN B r (W.putObj l o) := ⟨(World.putObj_heap_other (by omega)).trans h.loop⟩
theorem BkN.kept {B : Nat} {r : Loop} {W W' : World} (h : BkN B r W) (hk : KeepsL B W W') : BkN B r W' := ⟨hk.same _ _ (Nat.le_refl _) h.loop rfl rfl⟩
theorem SeqC.inRound {F : Fence} {n : Nat} {P : Program} {gf : Nat} {lb : Array Value} {encs : Nat → Array Value} {Kp : World → World → Prop} {N C : Nat} {w : World} (l : Nat) (h : SeqC F n P gf lb encs Kp N C w) : SeqC (F.inRound l) n P gf lb encs Kp N C w := h
theorem YieldAt.inRound {F : Fence} {m : Nat} {P : Program} {l : Nat} {args : Array Value} {W : World} {R : Ending → World → Prop} (l' : Nat) (h : YieldAt F m P l args W R) : YieldAt (F.inRound l') m P l args W R := h
theorem YieldAt.wide {m m' : Nat} {P : Program} {l : Nat} {args : Array Value} {W : World} {R : Ending → World → Prop} (h : YieldAt Fence.wide m P l args W R) : YieldAt Fence.wide m' P l args W R := by
  obtain ⟨fn, tmps, assign, body, h1, h2, h3⟩ := h
  exact ⟨fn, tmps, assign, body, h1, h2, fun c cs _ => h3 c cs fun d hd => by cases hd⟩
theorem SeqC.wide {n n' : Nat} {P : Program} {gf : Nat} {lb : Array Value} {encs : Nat → Array Value} {Kp : World → World → Prop} {N C : Nat} {w : World} (h : SeqC Fence.wide n P gf lb encs Kp N C w) : SeqC Fence.wide n' P gf lb encs Kp N C w :=
  fun l J Jx W h1 h1' h2 h5 h6 h3 h4 => callsIn_wide.2 (callsIn_wide.1 (h l J Jx W h1 h1' h2 h5 h6 (fun k W1 hk hj => YieldAt.wide (h3 k W1 hk hj)) h4))
section
variable {F : Fence} {n : Nat} {P : Program}
theorem range_atA {g : Operand} {ps : Array Tmp} {assign body : Code} {Q : Exit → Act → World → Prop} {a : Act} {w : World}
    (hro : F.round = none) (h1 : 1 ≤ n) {gf : Nat} {lb : Array Value} (hg : a.eval g = .func (.func gf) #[] lb) (hFg : F.fn gf) (eg : ∀ args w, (callFunc gf args).run P w = .ok (.enter gf args) w)
    {encs : Nat → Array Value} {Kp : World → World → Prop} {N : Nat} {w0 : World} (hseq : SeqC F (n - 1) P gf lb encs Kp N (w.heap.size + 2) w0)
    (hKt : ∀ {A B C : World}, Kp A B → Kp B C → Kp A C) (hKb : ∀ (W : World) (o o' : Obj), W.heap[w.heap.size + 1]? = some o → o.isCells = false → Kp W (W.putObj (w.heap.size + 1) o')) (hb0 : Below w0.heap.size w0 w) (hps : ∀ k, (encs k).size = ps.size)
    (I : Nat → World → Prop) (Ix : Code → World → Prop) (hIb : ∀ k A B, I k A → Below A.heap.size A B → I k B) (hIp : ∀ k A l o o', I k A → w.heap.size ≤ l → A.heap[l]? = some o → o.isCells = false → o.isWalk = false → I k (A.putObj l o')) (hXp : ∀ c A l o o', Ix c A → w.heap.size ≤ l → A.heap[l]? = some o → o.isCells = false → o.isWalk = false → Ix c (A.putObj l o')) (h0 : I 0 w) (hKa : ∀ A B, Below A.heap.size A B → Kp A B) (Ax : Nat → Act → World → Prop) (hAp : ∀ k a' A l o o', Ax k a' A → w.heap.size ≤ l → A.heap[l]? = some o → o.isCells = false → o.isWalk = false → Ax k a' (A.putObj l o'))
    (hassign : ∀ (l k : Nat) (W : World) (K : Act → World → Prop), k < N → I k W → (∀ a' W', Below W.heap.size W W' → Ax k a' W' → K a' W') →
      assign.wpIn (F.inRound l) (n - 1 - 1) P (Exit.then K (fun _ _ _ => False)) { tmps := (ps.zip (encs k)).foldl (fun t (p, v) => t.setIfInBounds p v) a.tmps, defers := [] } W)
    (hbody : ∀ (l k : Nat) (a' : Act) (W : World), k < N → w.heap.size ≤ l → (∃ rr, W.heap[l]? = some (.loop rr)) → I k W → Ax k a' W → body.wpIn (F.inRound l) (n - 1 - 1) P (postC w.heap.size Kp (I (k + 1)) Ix W) a' W)
    (hdone : ∀ (D : Nat) (W : World), w.heap.size ≤ D → I N W → W.heap[D]? = some (.deferred (some [])) → Q .normal { a with defers := { target := .collected D, args := #[] } :: a.defers } W)
    (hstop : ∀ (D : Nat) (c : Code) (W : World), w.heap.size ≤ D → Ix c W → W.heap[D]? = some (.deferred (some [])) → c.wpIn F n P Q { a with defers := { target := .collected D, args := #[] } :: a.defers } W) :
    (Code.rangeFunc g ps assign body).wpIn F n P Q a w := by
  refine wpIn_rangeFunc fun fn hfn => ?_
  rw [hro]
  obtain ⟨R0, eR0⟩ : ∃ r : Loop, r = { state := .ready, pending := none, fn, tmps := a.tmps, params := ps, assign, body, defers := w.heap.size } := ⟨_, rfl⟩
  obtain ⟨W1, eW1⟩ : ∃ W1, W1 = (w.alloc (.deferred (some []))).alloc (.loop R0) := ⟨_, rfl⟩
  have bW1 : Below w.heap.size w W1 := by rw [eW1]; exact ((Below.refl _ w).alloc (Nat.le_refl _) _).alloc (by simp) _
  have k1 : BkS w.heap.size R0 W1 := by
    refine ⟨?_, ?_⟩
    · have := World.alloc_heap_new (w.alloc (.deferred (some []))) (.loop R0)
      rw [World.size_alloc] at this
      rw [eW1]
      exact this
    rw [eW1]
    exact (Below.heap_alloc _ _ _ (by simp)).trans (World.alloc_heap_new w _)
  have i1 : I 0 W1 := by exact hIb _ _ _ h0 bW1
  refine ⟨w.heap.size + 1, [{ target := .collected w.heap.size, args := #[] }], W1, { target := .fn (.func gf) lb, args := #[.func (.yield (w.heap.size + 1)) #[] #[]] }, W1, gf, #[.func (.yield (w.heap.size + 1)) #[] #[]] ++ lb, W1, ?_, ?_, fun f' hf' => ?_, ?_, fun _ => h1, ?_⟩
  · rw [eW1, eR0]
    exact run_enterLoop_outer _ _ _ _ _
  · simp only [resolve, hg]
    simp [go_sem]
  · simp only [Target.leads, Option.some.injEq] at hf'
    exact hf' ▸ hFg
  · simp [invoke, go_sem, eg]
  have call := hseq (w.heap.size + 1) (fun k W => I k W ∧ BkS w.heap.size R0 W) (fun _ W => ∃ c, Ix c W ∧ BkS w.heap.size { R0 with state := .done, pending := some c } W) W1 (hb0.trans (bW1.mono hb0.size)) (by rw [eW1]; simp)
    (fun k A B hA hB => ⟨hIb k A B hA.1 hB, hA.2.kept (KeepsL.of_below hB)⟩) (fun k A l o o' hA hl ho hc hw => ⟨hIp k A l o o' hA.1 (Nat.le_trans bW1.size hl) ho hc hw, hA.2.away (by have := k1.lt; omega) o'⟩) (fun A l o o' ⟨c, hx, hb⟩ hl ho hc hw => ⟨c, hXp c A l o o' hx (Nat.le_trans bW1.size hl) ho hc hw, hb.away (by have := k1.lt; omega) o'⟩)
    (fun k W hk ⟨hi, hb⟩ => by
      have hy := run_yield (P := P) (args := encs k) hb.loop (by rw [eR0]; exact hps k)
      rw [eR0] at hy
      obtain ⟨Rb, eRb⟩ : ∃ r : Loop, r = { R0 with state := .busy } := ⟨_, rfl⟩
      refine ⟨fn, _, assign, body, hy, roundIn_of_wpIn hfn (hassign _ k W _ hk hi fun a' Wa hBa hax => ?_)⟩
      have kpa := hKa W Wa hBa
      clear hy
      replace hi := hIb k W Wa hi hBa
      replace hb := hb.kept (KeepsL.of_below hBa)
      have hsz := hb.lt
      clear hBa
      revert kpa
      generalize W = Wb
      intro kpa
      obtain ⟨W, rfl⟩ : ∃ W, W = Wa := ⟨_, rfl⟩
      have hb2 := hb.put Rb
      have kp2 := hKt kpa (hKb W (.loop R0) (.loop Rb) hb.loop rfl)
      have i2 := hIp k W _ _ (.loop Rb) hi (show w.heap.size ≤ w.heap.size + 1 by omega) hb.loop rfl rfl
      have ax2 := hAp k a' W _ _ (.loop Rb) hax (show w.heap.size ≤ w.heap.size + 1 by omega) hb.loop rfl rfl
      refine ⟨W.putObj (w.heap.size + 1) (.loop Rb), ?_, ?_⟩
      · rw [eRb]
        exact run_beginRound hb.loop (by rw [eR0])
      refine wpIn_mono (hbody _ k a' _ hk (by omega) ⟨_, hb2.loop⟩ i2 ax2) ?_
      have close : ∀ (jump : Option Code) (W3 : World), KeepsL w.heap.size (W.putObj (w.heap.size + 1) (.loop Rb)) W3 →
          ∃ r' : Loop, r' = { R0 with state := (if jump.isNone then .ready else .done), pending := jump } ∧ (Instr.endRound (w.heap.size + 1) jump).run P W3 = .ok (.bool jump.isNone) (W3.putObj (w.heap.size + 1) (.loop r')) ∧ BkS w.heap.size Rb W3 ∧ BkS w.heap.size r' (W3.putObj (w.heap.size + 1) (.loop r')) := fun jump W3 h3 => by
        have hb3 := hb2.kept h3
        refine ⟨_, rfl, ?_, hb3, hb3.put _⟩
        have := run_endRound (P := P) jump hb3.loop
        rw [eRb, eR0] at this
        rw [eR0]
        exact this
      have away : ∀ (c : Code) (W3 : World), KeepsL w.heap.size (W.putObj (w.heap.size + 1) (.loop Rb)) W3 → Kp (W.putObj (w.heap.size + 1) (.loop Rb)) W3 → Ix c W3 → ∃ v W4, (Instr.endRound (w.heap.size + 1) (some c)).run P W3 = .ok v W4 ∧ (v = .bool true ∧ (I (k + 1) W4 ∧ BkS w.heap.size R0 W4) ∧ Kp Wb W4 ∨ v = .bool false ∧ (∃ c, Ix c W4 ∧ BkS w.heap.size { R0 with state := .done, pending := some c } W4) ∧ Kp Wb W4) := fun c W3 h3 kp3 hx => by
        obtain ⟨r', er, hr, hb3, hb4⟩ := close (some c) W3 h3
        refine ⟨_, _, hr, .inr ⟨rfl, ⟨c, hXp c _ _ _ _ hx (by omega) hb3.loop rfl rfl, ?_⟩, hKt (hKt kp2 kp3) (hKb _ _ _ hb3.loop rfl)⟩⟩
        rw [er] at hb4 ⊢
        exact hb4
      intro e a3 W3 hp
      cases e with
      | normal =>
        obtain ⟨h3, kp3, i3⟩ := hp
        obtain ⟨r', er, hr, hb3, hb4⟩ := close none W3 h3
        have er0 : r' = R0 := by rw [er, eR0]; rfl
        rw [er0] at hr hb4
        exact ⟨_, _, hr, .inl ⟨rfl, ⟨hIp _ _ _ _ _ i3 (by omega) hb3.loop rfl rfl, hb4⟩, hKt (hKt kp2 kp3) (hKb _ _ _ hb3.loop rfl)⟩⟩
      | ret =>
        obtain ⟨v, W4, hr, hv⟩ := away .ret W3 hp.1 hp.2.1 hp.2.2
        refine ⟨v, W4, hr, ?_⟩
        rcases hv with ⟨rfl, hv⟩ | ⟨rfl, hv⟩
        · exact .inl ⟨rfl, hv⟩
        exact .inr ⟨rfl, hv⟩
      | exit id =>
        obtain ⟨v, W4, hr, hv⟩ := away (.exit id) W3 hp.1 hp.2.1 hp.2.2
        refine ⟨v, W4, hr, ?_⟩
        rcases hv with ⟨rfl, hv⟩ | ⟨rfl, hv⟩
        · exact .inl ⟨rfl, hv⟩
        exact .inr ⟨rfl, hv⟩
      | goto t =>
        obtain ⟨v, W4, hr, hv⟩ := away (.goto t) W3 hp.1 hp.2.1 hp.2.2
        refine ⟨v, W4, hr, ?_⟩
        rcases hv with ⟨rfl, hv⟩ | ⟨rfl, hv⟩
        · exact .inl ⟨rfl, hv⟩
        exact .inr ⟨rfl, hv⟩
      | panic ch => exact hp.elim
      | outgrown => exact hp.elim)
    ⟨i1, k1⟩
  refine call.mono fun e W2 he => ?_
  obtain ⟨⟨v, rfl⟩, hv⟩ := he
  rcases hv with ⟨hi, hb⟩ | ⟨c, hx, hb⟩
  · have er := run_endLoop (P := P) hb.loop (by rw [eR0]; simp)
    rw [eR0] at er
    exact ⟨none, _, er, hdone _ _ (Nat.le_refl _) (hIp _ _ _ _ _ hi (by omega) hb.loop rfl rfl) ((World.putObj_heap_other (by omega)).trans hb.mark)⟩
  have er := run_endLoop (P := P) hb.loop (by rw [eR0]; simp)
  rw [eR0] at er
  exact ⟨some c, _, er, hstop _ c _ (Nat.le_refl _) (hXp c _ _ _ _ hx (by omega) hb.loop rfl rfl) ((World.putObj_heap_other (by omega)).trans hb.mark)⟩
theorem range_atN {g : Operand} {ps : Array Tmp} {assign body : Code} {Q : Exit → Act → World → Prop} {a : Act} {w : World}
    {l₀ : Nat} {r₀ : Loop} (hro : F.round = some l₀) (hl₀ : w.heap[l₀]? = some (.loop r₀)) (h1 : 1 ≤ n) {gf : Nat} {lb : Array Value} (hg : a.eval g = .func (.func gf) #[] lb) (hFg : F.fn gf) (eg : ∀ args w, (callFunc gf args).run P w = .ok (.enter gf args) w)
    {encs : Nat → Array Value} {Kp : World → World → Prop} {N : Nat} {w0 : World} (hseq : SeqC F (n - 1) P gf lb encs Kp N (w.heap.size + 1) w0)
    (hKt : ∀ {A B C : World}, Kp A B → Kp B C → Kp A C) (hKb : ∀ (W : World) (o o' : Obj), W.heap[w.heap.size]? = some o → o.isCells = false → Kp W (W.putObj (w.heap.size) o')) (hb0 : Below w0.heap.size w0 w) (hps : ∀ k, (encs k).size = ps.size)
    (I : Nat → World → Prop) (Ix : Code → World → Prop) (hIb : ∀ k A B, I k A → Below A.heap.size A B → I k B) (hIp : ∀ k A l o o', I k A → w.heap.size ≤ l → A.heap[l]? = some o → o.isCells = false → o.isWalk = false → I k (A.putObj l o')) (hXp : ∀ c A l o o', Ix c A → w.heap.size ≤ l → A.heap[l]? = some o → o.isCells = false → o.isWalk = false → Ix c (A.putObj l o')) (h0 : I 0 w) (hKa : ∀ A B, Below A.heap.size A B → Kp A B) (Ax : Nat → Act → World → Prop) (hAp : ∀ k a' A l o o', Ax k a' A → w.heap.size ≤ l → A.heap[l]? = some o → o.isCells = false → o.isWalk = false → Ax k a' (A.putObj l o'))
    (hassign : ∀ (l k : Nat) (W : World) (K : Act → World → Prop), k < N → I k W → (∀ a' W', Below W.heap.size W W' → Ax k a' W' → K a' W') →
      assign.wpIn (F.inRound l) (n - 1 - 1) P (Exit.then K (fun _ _ _ => False)) { tmps := (ps.zip (encs k)).foldl (fun t (p, v) => t.setIfInBounds p v) a.tmps, defers := [] } W)
    (hbody : ∀ (l k : Nat) (a' : Act) (W : World), k < N → w.heap.size ≤ l → (∃ rr, W.heap[l]? = some (.loop rr)) → I k W → Ax k a' W → body.wpIn (F.inRound l) (n - 1 - 1) P (postC w.heap.size Kp (I (k + 1)) Ix W) a' W)
    (hdone : ∀ (W : World), I N W → Q .normal a W)
    (hstop : ∀ (c : Code) (W : World), Ix c W → c.wpIn F n P Q a W) :
    (Code.rangeFunc g ps assign body).wpIn F n P Q a w := by
  refine wpIn_rangeFunc fun fn hfn => ?_
  rw [hro]
  obtain ⟨R0, eR0⟩ : ∃ r : Loop, r = { state := .ready, pending := none, fn, tmps := a.tmps, params := ps, assign, body, defers := r₀.defers } := ⟨_, rfl⟩
  obtain ⟨W1, eW1⟩ : ∃ W1, W1 = w.alloc (.loop R0) := ⟨_, rfl⟩
  have bW1 : Below w.heap.size w W1 := by rw [eW1]; exact (Below.refl _ w).alloc (Nat.le_refl _) _
  have k1 : BkN w.heap.size R0 W1 := by rw [eW1]; exact ⟨World.alloc_heap_new w _⟩
  have i1 : I 0 W1 := by exact hIb _ _ _ h0 bW1
  refine ⟨w.heap.size, [], W1, { target := .fn (.func gf) lb, args := #[.func (.yield (w.heap.size)) #[] #[]] }, W1, gf, #[.func (.yield (w.heap.size)) #[] #[]] ++ lb, W1, ?_, ?_, fun f' hf' => ?_, ?_, fun _ => h1, ?_⟩
  · rw [eW1, eR0]
    exact run_enterLoop_inner hl₀ _ _ _ _ _
  · simp only [resolve, hg]
    simp [go_sem]
  · simp only [Target.leads, Option.some.injEq] at hf'
    exact hf' ▸ hFg
  · simp [invoke, go_sem, eg]
  have call := hseq (w.heap.size) (fun k W => I k W ∧ BkN w.heap.size R0 W) (fun _ W => ∃ c, Ix c W ∧ BkN w.heap.size { R0 with state := .done, pending := some c } W) W1 (hb0.trans (bW1.mono hb0.size)) (by rw [eW1]; simp)
    (fun k A B hA hB => ⟨hIb k A B hA.1 hB, hA.2.kept (KeepsL.of_below hB)⟩) (fun k A l o o' hA hl ho hc hw => ⟨hIp k A l o o' hA.1 (Nat.le_trans bW1.size hl) ho hc hw, hA.2.away (by have := k1.lt; omega) o'⟩) (fun A l o o' ⟨c, hx, hb⟩ hl ho hc hw => ⟨c, hXp c A l o o' hx (Nat.le_trans bW1.size hl) ho hc hw, hb.away (by have := k1.lt; omega) o'⟩)
    (fun k W hk ⟨hi, hb⟩ => by
      have hy := run_yield (P := P) (args := encs k) hb.loop (by rw [eR0]; exact hps k)
      rw [eR0] at hy
      obtain ⟨Rb, eRb⟩ : ∃ r : Loop, r = { R0 with state := .busy } := ⟨_, rfl⟩
      refine ⟨fn, _, assign, body, hy, roundIn_of_wpIn hfn (hassign _ k W _ hk hi fun a' Wa hBa hax => ?_)⟩
      have kpa := hKa W Wa hBa
      clear hy
      replace hi := hIb k W Wa hi hBa
      replace hb := hb.kept (KeepsL.of_below hBa)
      have hsz := hb.lt
      clear hBa
      revert kpa
      generalize W = Wb
      intro kpa
      obtain ⟨W, rfl⟩ : ∃ W, W = Wa := ⟨_, rfl⟩
      have hb2 := hb.put Rb
      have kp2 := hKt kpa (hKb W (.loop R0) (.loop Rb) hb.loop rfl)
      have i2 := hIp k W _ _ (.loop Rb) hi (Nat.le_refl _) hb.loop rfl rfl
      have ax2 := hAp k a' W _ _ (.loop Rb) hax (Nat.le_refl _) hb.loop rfl rfl
      refine ⟨W.putObj (w.heap.size) (.loop Rb), ?_, ?_⟩
      · rw [eRb]
        exact run_beginRound hb.loop (by rw [eR0])
      refine wpIn_mono (hbody _ k a' _ hk (Nat.le_refl _) ⟨_, hb2.loop⟩ i2 ax2) ?_
      have close : ∀ (jump : Option Code) (W3 : World), KeepsL w.heap.size (W.putObj (w.heap.size) (.loop Rb)) W3 →
          ∃ r' : Loop, r' = { R0 with state := (if jump.isNone then .ready else .done), pending := jump } ∧ (Instr.endRound (w.heap.size) jump).run P W3 = .ok (.bool jump.isNone) (W3.putObj (w.heap.size) (.loop r')) ∧ BkN w.heap.size Rb W3 ∧ BkN w.heap.size r' (W3.putObj (w.heap.size) (.loop r')) := fun jump W3 h3 => by
        have hb3 := hb2.kept h3
        refine ⟨_, rfl, ?_, hb3, hb3.put _⟩
        have := run_endRound (P := P) jump hb3.loop
        rw [eRb, eR0] at this
        rw [eR0]
        exact this
      have away : ∀ (c : Code) (W3 : World), KeepsL w.heap.size (W.putObj (w.heap.size) (.loop Rb)) W3 → Kp (W.putObj (w.heap.size) (.loop Rb)) W3 → Ix c W3 → ∃ v W4, (Instr.endRound (w.heap.size) (some c)).run P W3 = .ok v W4 ∧ (v = .bool true ∧ (I (k + 1) W4 ∧ BkN w.heap.size R0 W4) ∧ Kp Wb W4 ∨ v = .bool false ∧ (∃ c, Ix c W4 ∧ BkN w.heap.size { R0 with state := .done, pending := some c } W4) ∧ Kp Wb W4) := fun c W3 h3 kp3 hx => by
        obtain ⟨r', er, hr, hb3, hb4⟩ := close (some c) W3 h3
        refine ⟨_, _, hr, .inr ⟨rfl, ⟨c, hXp c _ _ _ _ hx (by omega) hb3.loop rfl rfl, ?_⟩, hKt (hKt kp2 kp3) (hKb _ _ _ hb3.loop rfl)⟩⟩
        rw [er] at hb4 ⊢
        exact hb4
      intro e a3 W3 hp
      cases e with
      | normal =>
        obtain ⟨h3, kp3, i3⟩ := hp
        obtain ⟨r', er, hr, hb3, hb4⟩ := close none W3 h3
        have er0 : r' = R0 := by rw [er, eR0]; rfl
        rw [er0] at hr hb4
        exact ⟨_, _, hr, .inl ⟨rfl, ⟨hIp _ _ _ _ _ i3 (by omega) hb3.loop rfl rfl, hb4⟩, hKt (hKt kp2 kp3) (hKb _ _ _ hb3.loop rfl)⟩⟩
      | ret =>
        obtain ⟨v, W4, hr, hv⟩ := away .ret W3 hp.1 hp.2.1 hp.2.2
        refine ⟨v, W4, hr, ?_⟩
        rcases hv with ⟨rfl, hv⟩ | ⟨rfl, hv⟩
        · exact .inl ⟨rfl, hv⟩
        exact .inr ⟨rfl, hv⟩
      | exit id =>
        obtain ⟨v, W4, hr, hv⟩ := away (.exit id) W3 hp.1 hp.2.1 hp.2.2
        refine ⟨v, W4, hr, ?_⟩
        rcases hv with ⟨rfl, hv⟩ | ⟨rfl, hv⟩
        · exact .inl ⟨rfl, hv⟩
        exact .inr ⟨rfl, hv⟩
      | goto t =>
        obtain ⟨v, W4, hr, hv⟩ := away (.goto t) W3 hp.1 hp.2.1 hp.2.2
        refine ⟨v, W4, hr, ?_⟩
        rcases hv with ⟨rfl, hv⟩ | ⟨rfl, hv⟩
        · exact .inl ⟨rfl, hv⟩
        exact .inr ⟨rfl, hv⟩
      | panic ch => exact hp.elim
      | outgrown => exact hp.elim)
    ⟨i1, k1⟩
  refine call.mono fun e W2 he => ?_
  obtain ⟨⟨v, rfl⟩, hv⟩ := he
  rcases hv with ⟨hi, hb⟩ | ⟨c, hx, hb⟩
  · have er := run_endLoop (P := P) hb.loop (by rw [eR0]; simp)
    rw [eR0] at er
    exact ⟨none, _, er, hdone _ (hIp _ _ _ _ _ hi (Nat.le_refl _) hb.loop rfl rfl)⟩
  have er := run_endLoop (P := P) hb.loop (by rw [eR0]; simp)
  rw [eR0] at er
  exact ⟨some c, _, er, hstop c _ (hXp c _ _ _ _ hx (Nat.le_refl _) hb.loop rfl rfl)⟩
end
end Go.Proofs.YtdobjanhmllloaaDoor
namespace Go.Proofs.YtdobjanhmllloaaDoor
open Go.RowKit Go.Shelf
set_option maxRecDepth 100000
set_option linter.unusedVariables false
attribute [local go_sem] Oper.semAt_some
structure Ksl (sb C : Nat) (W W' : World) : Prop where
  asd : ∀ r G cs, Asd sb r G cs W → Asd sb r G cs W'
  oth : ∀ (k : Nat) (cs : Array Value) (t : TypeId), W.heap[k]? = some (.cells cs t) → (t = 84 ∨ t = 79) → W'.heap[k]? = some (.cells cs t)
  size : W.heap.size ≤ W'.heap.size
  lop : ∀ (k : Nat) (o : Obj), C ≤ k → W.heap[k]? = some o → o.isCells = false → o.isWalk = false → W'.heap[k]? = some o
theorem Ksl.refl (sb C : Nat) (W : World) : Ksl sb C W W := ⟨fun _ _ _ h => h, fun _ _ _ h _ => h, Nat.le_refl _, fun _ _ _ h _ _ => h⟩
theorem Ksl.trans {sb C : Nat} {X Y Z : World} (h : Ksl sb C X Y) (k : Ksl sb C Y Z) : Ksl sb C X Z := ⟨fun r G cs a => k.asd r G cs (h.asd r G cs a), fun x cs t e ht => k.oth x cs t (h.oth x cs t e ht) ht, Nat.le_trans h.size k.size, fun i o hi e h1 h2 => k.lop i o hi (h.lop i o hi e h1 h2) h1 h2⟩
theorem Ksl.up {sb C C' : Nat} {W W' : World} (h : Ksl sb C W W') (hc : C ≤ C') : Ksl sb C' W W' := ⟨h.asd, h.oth, h.size, fun k o hk => h.lop k o (Nat.le_trans hc hk)⟩
theorem Ksl.keeps {sb C B : Nat} {W W' : World} (h : Ksl sb C W W') (hc : C ≤ B) : KeepsL B W W' := ⟨h.size, fun k o hk => h.lop k o (Nat.le_trans hc hk)⟩
theorem Ksl.of_below {sb C : Nat} {W W' : World} (h : Below W.heap.size W W') : Ksl sb C W W' := ⟨fun _ _ _ a => a.mono h, fun k cs t e _ => (h.block _ (Array.getElem?_eq_some_iff.1 e).1).trans e, h.size, fun k o _ e _ _ => (h.block _ (Array.getElem?_eq_some_iff.1 e).1).trans e⟩
theorem Ksl.of_fu {sb C lb : Nat} {W W' : World} (h : Fua sb lb W W') : Ksl sb C W W' := ⟨fun r G cs a => h.asd r G cs a, fun k cs t e ht => h.ft.oth k _ e fun cs' t' z e2 => by cases e2; rcases ht with rfl | rfl <;> (unfold isSV; decide), h.ft.size, fun k o _ e h1 _ => h.ft.oth k _ e fun cs' t' z e2 => by subst e2; cases h1⟩
theorem put_cells {W : World} {l : Nat} {o o' : Obj} (h1 : W.heap[l]? = some o) (h2 : o.isCells = false) {k : Nat} {cs : Array Value} {t : TypeId} (e : W.heap[k]? = some (.cells cs t)) : (W.putObj l o').heap[k]? = some (.cells cs t) := by
  refine (World.putObj_heap_other fun e2 => ?_).trans e
  subst e2
  rw [e] at h1
  cases h1
  cases h2
theorem Ksl.put {sb C : Nat} (W : World) (l : Nat) (o o' : Obj) (hl : l < C) (h1 : W.heap[l]? = some o) (h2 : o.isCells = false) : Ksl sb C W (W.putObj l o') :=
  ⟨fun r G cs a => a.kept fun k cs t e _ => put_cells h1 h2 e, fun k cs t e _ => put_cells h1 h2 e, by simp [World.putObj], fun k o hk e _ _ => (World.putObj_heap_other (by omega)).trans e⟩
theorem set_cells {W : World} {b : Nat} {cs0 : Array Value} {t0 : TypeId} (h : W.heap[b]? = some (.cells cs0 t0)) (i : Nat) (v : Value) {k : Nat} {o : Obj} (e : W.heap[k]? = some o) (hn : ∀ cs, o ≠ .cells cs t0) : (W.setCell ⟨b, i, none⟩ v).heap[k]? = some o := by
  refine (Below.heap_setCell _ _ _ k fun e2 => ?_).trans e
  have e3 : k = b := e2
  rw [e3, h] at e
  cases e
  exact hn _ rfl
theorem Ksl.box {sb C : Nat} {W : World} {b : Nat} {cs0 : Array Value} {t0 : TypeId} (h : W.heap[b]? = some (.cells cs0 t0)) (ht : t0 ≠ 73 ∧ t0 ≠ 78 ∧ t0 ≠ 112 ∧ t0 ≠ 84 ∧ t0 ≠ 79) (i : Nat) (v : Value) : Ksl sb C W (W.setCell ⟨b, i, none⟩ v) := by
  refine ⟨fun r G cs a => a.kept fun k cs t e hx => set_cells h i v e fun cs' e9 => ?_, fun k cs t e hx => set_cells h i v e fun cs' e9 => ?_, by simp, fun k o _ e h1 _ => set_cells h i v e fun cs' e9 => by subst e9; cases h1⟩
  · cases e9
    rcases hx with e9 | e9 | e9
    · exact ht.1 e9
    · exact ht.2.1 e9
    exact ht.2.2.1 e9
  cases e9
  rcases hx with e9 | e9
  · exact ht.2.2.2.1 e9
  exact ht.2.2.2.2 e9
theorem rallV_any (r : Nat) (w : World) : Calls Tryd.prog 29 #[.pointer (some ⟨r, 0, none⟩)] w fun e w' => e = .returned (.func (.func 41) #[] #[.pointer (some ⟨w.heap.size, 0, none⟩)]) ∧ w' = w.alloc (.cells #[.pointer (some ⟨r, 0, none⟩)] 69) := by
  have hmf : ∀ (fn : Fn) (first cap : Array Value) (w : World), (Instr.makeFunc fn first cap).run Tryd.prog w = .ok (.func fn first cap) w := fun _ _ _ _ => rfl
  go_enter Tryd.func29, Tryd.ntmps29
  go_wp2_with fail
  go_ret
  exact ⟨rfl, rfl⟩
def encR (ys : List (Option Nat × Int)) (k : Nat) : Array Value := #[.int .i64 (k : Int), .agg #[pP (ys.getD k (none, 0)).1, .int .i64 (ys.getD k (none, 0)).2]]
set_option maxHeartbeats 2000000 in
theorem rall1_at (n : Nat) (hn : 1 ≤ n) (l Bs C : Nat) {sb lb nn : Nat} {last : Int} {cnt : Nat} {xs : List (Option Int × Int)} {r g N f b L cap : Nat} {G : Nat → Nat} {ys : List (Option Nat × Int)} {S : Nat → Prop} (J : Nat → World → Prop) (Jx : Unit → World → Prop) (W : World) (hJ : ∀ k A B, J k A → Below A.heap.size A B → J k B)
    (hY : ∀ k W, k < ys.length → J k W → YieldAt Fence.wide (n - 1) Tryd.prog l (encR ys k) W fun e W' =>
      (e = .returned (.bool true) ∧ J (k + 1) W' ∧ Ksl sb C W W') ∨ (e = .returned (.bool false) ∧ Jx () W' ∧ Ksl sb C W W'))
    (hBs : W.cell? ⟨Bs, 0, none⟩ = some (.pointer (some ⟨r, 0, none⟩))) (h : SpV W sb lb nn last cnt xs r g N f b L cap G ys S) (h0 : J 0 W) :
    CallsIn Fence.wide n Tryd.prog 41 #[.func (.yield l) #[] #[], .pointer (some ⟨Bs, 0, none⟩)] W fun e W' => (∃ v, e = .returned v) ∧
      (J ys.length W' ∨ Jx () W') := by
  obtain ⟨c, hx⟩ : ∃ c, c = ys.length := ⟨_, rfl⟩
  have c2 := h.ring.c2
  rw [← hx] at c2 hY ⊢
  have hcl := h.ring.cl
  have hl := h.ring.lim
  have hglt := h.ring.glt
  rw [← hx] at hcl
  have HR : Hid (SpV W sb lb nn last cnt xs r g N f b L cap G ys S ∧ ys.length = c ∧ (∀ k A B, J k A → Below A.heap.size A B → J k B) ∧ J 0 W) := ⟨h, hx.symm, hJ, h0⟩
  clear h hx hJ h0
  refine callsIn_of_wp Tryd.func41 rfl trivial ?_ rfl
  simp only [Tryd.ntmps41, List.size_toArray, List.length_cons, List.length_nil, Nat.reduceAdd, Nat.reduceSub, Array.replicate_succ, Array.replicate_zero, List.push_toArray, List.append_toArray, List.nil_append, List.cons_append]
  gi_wp2_with fail
  gi_region_with (first | (refine ⟨trivial, ?_⟩; refine (callsIn_wide.2 (rowV_any r g N f c c ys W.drew (by have := HR.out.1.ring; rw [HR.out.2.1] at this; exact this.of_blocks rfl rfl) HR.out.2.1 (Nat.le_refl _) (by omega))).mono ?_; rintro e w1 ⟨rfl, h1, h2⟩))
  all_goals (
    have hB1 : Below W.heap.size W w1 := ⟨h2.os, h2.tape, h2.output, h2.size, h2.block⟩
    have hJ1 : J 0 w1 := HR.out.2.2.1 0 W w1 HR.out.2.2.2 hB1
    obtain ⟨cs, e1, e2, e3⟩ := h1
    have hA : Asd sb r W.heap.size cs w1 := Asd.of (HR.out.1.mono hB1) e1 (by omega)
    have HC : Hid (∀ k, k < c → cs[k * 2]? = some (pP (ys.getD k (none, 0)).1) ∧ cs[k * 2 + 1]? = some (.int .i64 (ys.getD k (none, 0)).2)) := fun k hk => by
      have a0 := e3 (k * 2) (by omega)
      have a1 := e3 (k * 2 + 1) (by omega)
      dsimp only at a0 a1
      rw [show k * 2 / 2 = k by omega, show k * 2 % 2 = 0 by omega] at a0
      rw [show (k * 2 + 1) / 2 = k by omega, show (k * 2 + 1) % 2 = 1 by omega] at a1
      exact ⟨a0, a1⟩
    have H1 : Hid (J 0 w1 ∧ Asd sb r W.heap.size cs w1) := ⟨hJ1, hA⟩
    clear e1 e2 e3 h2 hJ1 hA hB1
    gi_wp2_with fail
    gi_loopw [12] (fun i wr => ∃ k : Nat, k ≤ c ∧ i = .int .i64 (k : Int) ∧ Hid (J k wr) ∧ Hid (Asd sb r W.heap.size cs wr)) (fun i _ => c - (intOf i).toNat)
    case atStart => exact ⟨0, Nat.zero_le _, rfl, H1.out.1, H1.out.2⟩
    case round =>
      obtain ⟨k, hk, rfl, hJs, hrow⟩ := hrel
      by_cases hlt : k < c
      · obtain ⟨x1, ex1⟩ : ∃ x1, x1 = (ys.getD k (none, 0)).1 := ⟨_, rfl⟩
        obtain ⟨x2, ex2⟩ : ∃ x2, x2 = (ys.getD k (none, 0)).2 := ⟨_, rfl⟩
        obtain ⟨pp, epp⟩ : ∃ pp : Option Addr, pp = x1.map fun b => ⟨b, 0, none⟩ := ⟨_, rfl⟩
        have ep : pP x1 = .pointer pp := by rw [epp]; rfl
        obtain ⟨q0, q1⟩ := HC.out k hlt
        rw [← ex1, ep] at q0
        rw [← ex2] at q1
        have k0 : wr.cell? ⟨W.heap.size, k * 2, none⟩ = some (.pointer pp) := by simp [World.cell?, hrow.out.row, q0]
        have k1 : wr.cell? ⟨W.heap.size, k * 2 + 1, none⟩ = some (.int .i64 x2) := by simp [World.cell?, hrow.out.row, q1]
        have hBm : Below wr.heap.size wr (wr.alloc (.cells #[.pointer pp, .int .i64 x2] 73)) := (Below.refl _ _).alloc (Nat.le_refl _) _
        have hYk := hY k _ hlt (HR.out.2.2.1 k wr _ hJs.out hBm)
        unfold encR at hYk
        rw [← ex1, ← ex2, ep] at hYk
        obtain ⟨fn, tmps, assign, body, hy, hR⟩ := hYk
        have EX : Hid (Asd sb r W.heap.size cs (wr.alloc (.cells #[.pointer pp, .int .i64 x2] 73))) := hrow.out.mono hBm
        have hk' : (k : Int) < (c : Int) := by omega
        have w5 : IntKind.i64.wrap ((k : Int) + 1) = (k : Int) + 1 := by rw [IntKind.wrap_i64]; omega
        clear ex1 ex2 epp ep q0 q1 hBm
        gi_wp2_with fail
        refine hR.mono ?_
        rintro e W3 (⟨rfl, hJ3, hk3⟩ | ⟨rfl, hJx3, _⟩)
        · have H3 : Hid (J (k + 1) W3 ∧ Asd sb r W.heap.size cs W3) := ⟨hJ3, hk3.asd _ _ _ EX.out⟩
          clear hJ3 hk3
          gi_wp2_with fail
          go_roundw
          case rel => exact ⟨k + 1, by omega, by simp, H3.out.1, H3.out.2⟩
          case measure => simp [intOf]; omega
        have H3 : Hid (Jx () W3) := hJx3
        clear hJx3
        gi_wp2_with fail
        refine bodyPost_ret (results_none rfl _ _ _) rfl ?_
        exact ⟨⟨_, rfl⟩, .inr H3.out⟩
      obtain rfl : k = c := by omega
      gi_wp2_with fail
      go_end0
      exact ⟨⟨_, rfl⟩, .inl hJs.out⟩)
theorem rall_at (n : Nat) (hn : 1 ≤ n) (Bs C : Nat) {sb lb nn : Nat} {last : Int} {cnt : Nat} {xs : List (Option Int × Int)} {r g N f b L cap : Nat} {G : Nat → Nat} {ys : List (Option Nat × Int)} {S : Nat → Prop} (w : World) (hBs : w.cell? ⟨Bs, 0, none⟩ = some (.pointer (some ⟨r, 0, none⟩))) (h : SpV w sb lb nn last cnt xs r g N f b L cap G ys S) :
    SeqC Fence.wide n Tryd.prog 41 #[.pointer (some ⟨Bs, 0, none⟩)] (encR ys) (Ksl sb C) ys.length C w := fun l J Jx W hW hC hJ _ _ hY h0 =>
  rall1_at n hn l Bs C J Jx W hJ (fun k W1 hk h1 => hY k W1 hk h1) (cell_later hW hBs) (h.mono hW) h0
end Go.Proofs.YtdobjanhmllloaaDoor
namespace Go.Proofs.YtdobjanhmllloaaDoor
open Go.RowKit
set_option maxRecDepth 100000
set_option linter.unusedVariables false
theorem bx_cell {w W : World} (hB : Below w.heap.size w W) {p : Addr} {v : Value} (h : w.cell? p = some v) : W.cell? p = some v := (hB.cell (World.block_lt_of_cell? _ _ h)).trans h
theorem bx_al {a w : World} {o : Obj} (h : Below a.heap.size a w) : Below a.heap.size a (w.alloc o) := h.alloc h.size o
theorem bx_go {a b c : World} (h : Below a.heap.size a b) (k : Below b.heap.size b c) : Below a.heap.size a c := h.trans (k.mono h.size)
theorem bx_drew {a w : World} (h : Below a.heap.size a w) (n : Nat) : Below a.heap.size a (w.drewN n) := ⟨h.os, h.tape, h.output, h.size, h.block⟩
structure Dr (W : World) (b n : Nat) (T : Nat → Int × Bool × Int) : Prop where
  row : ∃ cs, W.heap[b]? = some (.cells cs 92) ∧ cs.size = n * 3 ∧ ∀ i, i < n → cs[i * 3]? = some (.int .i64 (T i).1) ∧ cs[i * 3 + 1]? = some (.bool (T i).2.1) ∧ cs[i * 3 + 2]? = some (.int .i64 (T i).2.2)
theorem Dr.cell {W : World} {b n : Nat} {T : Nat → Int × Bool × Int} (h : Dr W b n T) {i : Nat} (hi : i < n) : W.cell? ⟨b, i * 3, none⟩ = some (.int .i64 (T i).1) ∧ W.cell? ⟨b, i * 3 + 1, none⟩ = some (.bool (T i).2.1) ∧ W.cell? ⟨b, i * 3 + 2, none⟩ = some (.int .i64 (T i).2.2) := by
  obtain ⟨cs, h1, h2, h3⟩ := h.row
  obtain ⟨c1, c2, c3⟩ := h3 i hi
  simp only [World.cell?, h1]
  exact ⟨c1, c2, c3⟩
theorem Dr.fr {W : World} {b n : Nat} {T : Nat → Int × Bool × Int} (h : Dr W b n T) (j : Nat) : W.frozen? ⟨b, j, none⟩ = false := by
  obtain ⟨cs, h1, h2, h3⟩ := h.row
  simp [World.frozen?, h1]
theorem Dr.lt {W : World} {b n : Nat} {T : Nat → Int × Bool × Int} (h : Dr W b n T) : b < W.heap.size := by
  obtain ⟨cs, h1, _⟩ := h.row
  exact (Array.getElem?_eq_some_iff.1 h1).1
theorem Dr.kept {W W' : World} {b n : Nat} {T : Nat → Int × Bool × Int} (h : Dr W b n T) (hk : W'.heap[b]? = W.heap[b]?) : Dr W' b n T := by
  obtain ⟨cs, h1, h2, h3⟩ := h.row
  exact ⟨cs, hk.trans h1, h2, h3⟩
theorem Dr.go {W W' : World} {b n : Nat} {T : Nat → Int × Bool × Int} (h : Dr W b n T) (hB : Below W.heap.size W W') : Dr W' b n T := h.kept (hB.block _ h.lt)
def goodT (T : Nat → Int × Bool × Int) (n : Nat) (s g : Int) : Bool := decide (0 ≤ s) && (decide (s < (n : Int)) && ((T s.toNat).2.1 && decide ((T s.toNat).1 = g)))
set_option maxHeartbeats 1000000 in
theorem rgood6_any (b n cap : Nat) (T : Nat → Int × Bool × Int) (last s g : Int) (w : World) (h : Dr w b n T) (hn : n ≤ 65536) :
    Calls Tryd.prog 35 #[.agg #[.slice (some ⟨b, 0, none⟩) n cap, .int .i64 last], .agg #[.int .i64 s, .int .i64 g]] w fun e w' => e = .returned (.bool (goodT T n s g)) ∧ Below w.heap.size w w' := by
  have BB : Hid (Below w.heap.size w ((w.alloc (.cells #[.slice (some ⟨b, 0, none⟩) n cap, .int .i64 last] 30)).alloc (.cells #[.int .i64 s, .int .i64 g] 38))) := bx_al (bx_al (Below.refl _ _))
  have HC : Hid (∀ i, i < n → _) := fun i hi => Dr.cell (h.go BB.out) hi
  unfold goodT
  clear h
  by_cases c1 : 0 ≤ s
  · obtain ⟨k, rfl⟩ : ∃ k : Nat, s = (k : Int) := ⟨s.toNat, by omega⟩
    have d1 : decide ((0 : Int) ≤ (k : Int)) = true := decide_eq_true c1
    by_cases c2 : k < n
    · have d2 : decide ((k : Int) < (n : Int)) = true := decide_eq_true (by omega)
      have d2' : (k : Int) < (n : Int) := by omega
      obtain ⟨x0, x1, x2⟩ := HC.out k c2
      rw [d1, d2, Int.toNat_natCast]
      obtain ⟨⟨p, q, r⟩, hT⟩ : ∃ x, T k = x := ⟨_, rfl⟩
      rw [hT] at x0 x1 x2
      rw [hT]
      dsimp only at x0 x1 x2
      dsimp only
      clear hT
      cases q with
      | false =>
        go_enter Tryd.func35, Tryd.ntmps35
        go_wp2_with fail
        go_quiet (fail)
        go_wp2_with fail
        go_ret
        exact ⟨rfl, bx_drew BB.out _⟩
      | true =>
        by_cases c3 : p = g
        · subst c3
          go_enter Tryd.func35, Tryd.ntmps35
          go_wp2_with fail
          go_quiet (fail)
          go_wp2_with fail
          go_ret
          exact ⟨by simp, bx_drew BB.out _⟩
        have d3 : (p == g) = false := by simp [c3]
        go_enter Tryd.func35, Tryd.ntmps35
        go_wp2_with fail
        go_quiet (fail)
        go_wp2_with fail
        go_ret
        exact ⟨by simp [c3], bx_drew BB.out _⟩
    have d2 : decide ((k : Int) < (n : Int)) = false := decide_eq_false (by omega)
    rw [d1, d2]
    go_enter Tryd.func35, Tryd.ntmps35
    go_wp2_with fail
    go_quiet (fail)
    go_wp2_with fail
    go_ret
    exact ⟨rfl, bx_drew BB.out _⟩
  have d1 : decide ((0 : Int) ≤ s) = false := decide_eq_false c1
  rw [d1]
  go_enter Tryd.func35, Tryd.ntmps35
  go_wp2_with fail
  go_quiet (fail)
  go_wp2_with fail
  go_ret
  exact ⟨rfl, bx_drew BB.out _⟩
structure Bw6 (w : World) where
  W : World
  bel : Below w.heap.size w W
theorem Bw6.cel {w : World} (p : Bw6 w) {a : Addr} {v : Value} (h : w.cell? a = some v) : p.W.cell? a = some v := bx_cell p.bel h
theorem wp_region_bel6 {P : Program} {id : Nat} {Q : Exit → Act → World → Prop} {a : Act} {w : World} {l : List Oper} (hm : P.follows .mixedOrders = true) (hB : Region.lexB .any l.toArray = true)
    (h : wpQuiet P l.toArray (fun w' => ∃ p : Bw6 w, w' = p.W) (fun a' => ∀ w', (∃ p : Bw6 w, w' = p.W) → Q .normal a' w') l a) : (Code.region id l.toArray true).wp P Q a w :=
  wp_region_quiet (C := fun w' => ∃ p : Bw6 w, w' = p.W) hm hB ⟨⟨w.drewN 1, bx_drew (Below.refl _ _) 1⟩, rfl⟩ (by simpa using h)
theorem calls_bel6 {P : Program} {f : FuncId} {args : Array Value} {w : World} {p : Bw6 w} {v : Value} (h : Calls P f args p.W fun e w' => e = .returned v ∧ Below p.W.heap.size p.W w') : Calls P f args p.W fun e w'' => e = .returned v ∧ ∃ q : Bw6 w, w'' = q.W :=
  h.mono fun _ w2 ⟨he, hb⟩ => ⟨he, ⟨w2, bx_go p.bel hb⟩, rfl⟩
structure Od (b : Nat) (W W' : World) : Prop where
  os : W'.os = W.os
  tape : W'.tape = W.tape
  output : W'.output = W.output
  size : W.heap.size ≤ W'.heap.size
  block : ∀ k, k < W.heap.size → k ≠ b → W'.heap[k]? = W.heap[k]?
theorem Od.of {b : Nat} {W W' : World} (h : Below W.heap.size W W') : Od b W W' := ⟨h.os, h.tape, h.output, h.size, fun k hk _ => h.block k hk⟩
theorem Od.trans {b : Nat} {x y z : World} (h : Od b x y) (k : Od b y z) : Od b x z :=
  ⟨k.os.trans h.os, k.tape.trans h.tape, k.output.trans h.output, Nat.le_trans h.size k.size, fun i hi hn => (k.block i (Nat.lt_of_lt_of_le hi h.size) hn).trans (h.block i hi hn)⟩
theorem Od.set {b : Nat} {W W' : World} (h : Od b W W') (i : Nat) (v : Value) : Od b W (W'.setCell ⟨b, i, none⟩ v) :=
  ⟨h.os, h.tape, h.output, by simpa [World.setCell] using h.size, fun k hk hn => (Below.heap_setCell _ _ _ _ hn).trans (h.block k hk hn)⟩
theorem Od.drew {b : Nat} {W W' : World} (h : Od b W W') (n : Nat) : Od b W (W'.drewN n) := ⟨h.os, h.tape, h.output, h.size, h.block⟩
theorem Dr.drew {W : World} {b n : Nat} {T : Nat → Int × Bool × Int} (h : Dr W b n T) (k : Nat) : Dr (W.drewN k) b n T := ⟨h.row⟩
def updT (T : Nat → Int × Bool × Int) (k : Nat) (x : Int × Bool × Int) (i : Nat) : Int × Bool × Int := if i = k then x else T i
theorem Dr.set1 {W : World} {b n : Nat} {T : Nat → Int × Bool × Int} (h : Dr W b n T) {k : Nat} (hk : k < n) (x : Int) : Dr (W.setCell ⟨b, k * 3, none⟩ (.int .i64 x)) b n (updT T k (x, (T k).2)) := by
  obtain ⟨cs, h1, h2, h3⟩ := h.row
  refine ⟨cs.setIfInBounds (k * 3) (.int .i64 x), (heap_setCell_same W b (k * 3) _ _ _ h1).trans (by simp), by simp [h2], fun i hi => ?_⟩
  obtain ⟨c1, c2, c3⟩ := h3 i hi
  unfold updT
  by_cases e : i = k
  · subst e
    rw [if_pos rfl]
    refine ⟨by simp [Array.getElem?_setIfInBounds]; omega, ?_, ?_⟩
    · rw [Array.getElem?_setIfInBounds_ne (by omega)]; exact c2
    rw [Array.getElem?_setIfInBounds_ne (by omega)]; exact c3
  rw [if_neg e]
  refine ⟨?_, ?_, ?_⟩
  · rw [Array.getElem?_setIfInBounds_ne (by omega)]; exact c1
  · rw [Array.getElem?_setIfInBounds_ne (by omega)]; exact c2
  rw [Array.getElem?_setIfInBounds_ne (by omega)]; exact c3
theorem Dr.set2 {W : World} {b n : Nat} {T : Nat → Int × Bool × Int} (h : Dr W b n T) {k : Nat} (hk : k < n) (x : Bool) : Dr (W.setCell ⟨b, k * 3 + 1, none⟩ (.bool x)) b n (updT T k ((T k).1, x, (T k).2.2)) := by
  obtain ⟨cs, h1, h2, h3⟩ := h.row
  refine ⟨cs.setIfInBounds (k * 3 + 1) (.bool x), (heap_setCell_same W b (k * 3 + 1) _ _ _ h1).trans (by simp), by simp [h2], fun i hi => ?_⟩
  obtain ⟨c1, c2, c3⟩ := h3 i hi
  unfold updT
  by_cases e : i = k
  · subst e
    rw [if_pos rfl]
    refine ⟨?_, by simp [Array.getElem?_setIfInBounds]; omega, ?_⟩
    · rw [Array.getElem?_setIfInBounds_ne (by omega)]; exact c1
    rw [Array.getElem?_setIfInBounds_ne (by omega)]; exact c3
  rw [if_neg e]
  refine ⟨?_, ?_, ?_⟩
  · rw [Array.getElem?_setIfInBounds_ne (by omega)]; exact c1
  · rw [Array.getElem?_setIfInBounds_ne (by omega)]; exact c2
  rw [Array.getElem?_setIfInBounds_ne (by omega)]; exact c3
theorem Dr.set3 {W : World} {b n : Nat} {T : Nat → Int × Bool × Int} (h : Dr W b n T) {k : Nat} (hk : k < n) (x : Int) : Dr (W.setCell ⟨b, k * 3 + 2, none⟩ (.int .i64 x)) b n (updT T k ((T k).1, (T k).2.1, x)) := by
  obtain ⟨cs, h1, h2, h3⟩ := h.row
  refine ⟨cs.setIfInBounds (k * 3 + 2) (.int .i64 x), (heap_setCell_same W b (k * 3 + 2) _ _ _ h1).trans (by simp), by simp [h2], fun i hi => ?_⟩
  obtain ⟨c1, c2, c3⟩ := h3 i hi
  unfold updT
  by_cases e : i = k
  · subst e
    rw [if_pos rfl]
    refine ⟨?_, ?_, by simp [Array.getElem?_setIfInBounds]; omega⟩
    · rw [Array.getElem?_setIfInBounds_ne (by omega)]; exact c1
    rw [Array.getElem?_setIfInBounds_ne (by omega)]; exact c2
  rw [if_neg e]
  refine ⟨?_, ?_, ?_⟩
  · rw [Array.getElem?_setIfInBounds_ne (by omega)]; exact c1
  · rw [Array.getElem?_setIfInBounds_ne (by omega)]; exact c2
  rw [Array.getElem?_setIfInBounds_ne (by omega)]; exact c3
theorem good_at {T : Nat → Int × Bool × Int} {n : Nat} {s g : Int} (h : goodT T n s g = true) : ∃ k : Nat, s = (k : Int) ∧ k < n ∧ (T k).2.1 = true ∧ (T k).1 = g := by
  unfold goodT at h
  simp only [Bool.and_eq_true, decide_eq_true_eq] at h
  obtain ⟨h1, h2, h3, h4⟩ := h
  exact ⟨s.toNat, by omega, by omega, h3, h4⟩
def getT (T : Nat → Int × Bool × Int) (n : Nat) (s g : Int) : Int := if goodT T n s g then (T s.toNat).2.2 else 0
def getE (T : Nat → Int × Bool × Int) (n : Nat) (s g : Int) : Int := if goodT T n s g then 0 else 60
set_option maxHeartbeats 1000000 in
theorem rget6_any (b n cap : Nat) (T : Nat → Int × Bool × Int) (last s g : Int) (w : World) (h : Dr w b n T) (hn : n ≤ 65536) :
    Calls Tryd.prog 11 #[.agg #[.slice (some ⟨b, 0, none⟩) n cap, .int .i64 last], .agg #[.int .i64 s, .int .i64 g]] w fun e w' => e = .returned (.tuple #[.int .i64 (getT T n s g), .int .i64 (getE T n s g)]) ∧ Below w.heap.size w w' := by
  have BB : Hid (Below w.heap.size w ((w.alloc (.cells #[.slice (some ⟨b, 0, none⟩) n cap, .int .i64 last] 30)).alloc (.cells #[.int .i64 s, .int .i64 g] 38))) := bx_al (bx_al (Below.refl _ _))
  have HD : Hid _ := h.go BB.out
  clear h
  go_enter Tryd.func11, Tryd.ntmps11
  go_wp2_with fail
  refine (rgood6_any b n cap T last s g _ HD.out hn).mono ?_
  rintro e w1 ⟨rfl, hb⟩
  have y0 : w1.cell? ⟨w.heap.size, 0, none⟩ = some (.slice (some ⟨b, 0, none⟩) n cap) := bx_cell hb (by simp [go_sem])
  have y1 : w1.cell? ⟨w.heap.size + 1, 0, none⟩ = some (.int .i64 s) := bx_cell hb (by simp [go_sem])
  have HB : Hid (Below w.heap.size w w1) := bx_go BB.out hb
  have HD1 : Hid (Dr w1 b n T) := HD.out.go hb
  clear hb HD BB
  cases hg : goodT T n s g with
  | false =>
    have HG : Hid _ := hg
    clear hg
    go_wp2_with fail
    exact bodyPost_ret (v := .tuple #[.int .i64 0, .int .i64 60]) (by simp [results, Tryd.results11, go_sem]) rfl ⟨by unfold getT getE; rw [HG.out]; rfl, HB.out⟩
  | true =>
    obtain ⟨k, rfl, hk, _, _⟩ := good_at hg
    obtain ⟨x0, x1, x2⟩ := HD1.out.cell hk
    have d2 : (k : Int) < (n : Int) := by omega
    have HG : Hid _ := hg
    clear x0 x1 hg
    go_wp2_with fail
    exact bodyPost_ret (v := .tuple #[.int .i64 (T k).2.2, .int .i64 0]) (by simp [results, Tryd.results11, go_sem]) rfl ⟨by unfold getT getE; rw [HG.out, Int.toNat_natCast]; rfl, HB.out⟩
def setT6 (T : Nat → Int × Bool × Int) (n : Nat) (s g v : Int) : Nat → Int × Bool × Int := if goodT T n s g then updT T s.toNat ((T s.toNat).1, (T s.toNat).2.1, v) else T
set_option maxHeartbeats 1000000 in
theorem rset6_any (gw b n cap : Nat) (T : Nat → Int × Bool × Int) (last s g v : Int) (w : World) (h : Dr w b n T) (h0 : w.cell? ⟨gw, 0, none⟩ = some (.slice (some ⟨b, 0, none⟩) n cap)) (h1 : w.cell? ⟨gw, 1, none⟩ = some (.int .i64 last)) (hgb : gw ≠ b) (hn : n ≤ 65536) :
    Calls Tryd.prog 13 #[.pointer (some ⟨gw, 0, none⟩), .agg #[.int .i64 s, .int .i64 g], .int .i64 v] w fun e w' => e = .returned (.int .i64 (getE T n s g)) ∧ Dr w' b n (setT6 T n s g v) ∧ Od b w w' := by
  obtain ⟨W0, hW0⟩ : ∃ W, W = w.alloc (.cells #[.int .i64 s, .int .i64 g] 38) := ⟨_, rfl⟩
  have BB : Hid (Below w.heap.size w W0) := by rw [hW0]; exact bx_al (Below.refl _ _)
  have HD : Hid (Dr W0 b n T) := h.go BB.out
  have LB : Hid (b < w.heap.size) := h.lt
  have GB : Hid _ := hgb
  have a0 := fun p : Bw6 W0 => p.cel (bx_cell BB.out h0)
  have a1 := fun p : Bw6 W0 => p.cel (bx_cell BB.out h1)
  have a2 := fun p : Bw6 W0 => p.cel (show W0.cell? ⟨w.heap.size, 0, none⟩ = some (.int .i64 s) by rw [hW0]; simp [go_sem])
  have a3 := fun p : Bw6 W0 => p.cel (show W0.cell? ⟨w.heap.size, 1, none⟩ = some (.int .i64 g) by rw [hW0]; simp [go_sem])
  have HW0 : Hid _ := hW0
  clear h h0 h1 hgb hW0
  go_enter Tryd.func13, Tryd.ntmps13
  go_upto_region 1 with fail
  rw [← HW0.out]
  clear HW0
  haveI hne : Nonempty (Bw6 W0) := ⟨⟨W0, Below.refl _ _⟩⟩
  refine wp_region_bel6 (by kernel_rfl) (by kernel_rfl) ?_
  repeat (quiet_step (first
    | (go_at_call 35; exact calls_bel6 (rgood6_any b n cap T last s g _ (HD.out.go (Bw6.bel _)) hn))))
  refine wpQuiet_nil ?_
  intro w1 hw9
  obtain ⟨p9, hp9⟩ := hw9
  have hb := p9.bel
  rw [← hp9] at hb
  have y0 := a0 p9
  have y2 := a2 p9
  rw [← hp9] at y0 y2
  clear hp9 p9 hne a0 a1 a2 a3
  have HB : Hid (Below w.heap.size w w1) := bx_go BB.out hb
  have HD1 : Hid (Dr w1 b n T) := HD.out.go hb
  clear hb HD BB
  cases hg : goodT T n s g with
  | false =>
    have HG : Hid _ := hg
    clear hg
    go_wp2_with fail
    go_ret
    exact ⟨by unfold getE; rw [HG.out]; rfl, by unfold setT6; rw [HG.out]; exact HD1.out, Od.of HB.out⟩
  | true =>
    obtain ⟨k, rfl, hk, _, _⟩ := good_at hg
    obtain ⟨x0, x1, x2⟩ := HD1.out.cell hk
    have f2 := HD1.out.fr (k * 3 + 2)
    have d2 : (k : Int) < (n : Int) := by omega
    have HG : Hid _ := hg
    clear x0 x1 hg
    go_upto_region 3 with fail
    go_region
    go_wp2_with fail
    go_ret
    refine ⟨by unfold getE; rw [HG.out]; rfl, ?_, ?_⟩
    · unfold setT6
      rw [HG.out, if_pos rfl, Int.toNat_natCast]
      exact (HD1.out.set3 hk v).drew 1
    exact ((Od.of HB.out).set _ _).drew 1
theorem upd_upd (T : Nat → Int × Bool × Int) (k : Nat) (x y : Int × Bool × Int) : updT (updT T k x) k y = updT T k y := by
  funext i
  unfold updT
  split <;> rfl
theorem upd_at (T : Nat → Int × Bool × Int) (k : Nat) (x : Int × Bool × Int) : updT T k x k = x := by unfold updT; rw [if_pos rfl]
theorem Dr.put {W : World} {b n : Nat} {T : Nat → Int × Bool × Int} (h : Dr W b n T) {k : Nat} (hk : k < n) (x : Int) (y : Bool) (z : Int) : Dr (((W.setCell ⟨b, k * 3, none⟩ (.int .i64 x)).setCell ⟨b, k * 3 + 1, none⟩ (.bool y)).setCell ⟨b, k * 3 + 2, none⟩ (.int .i64 z)) b n (updT T k (x, y, z)) := by
  have q := ((h.set1 hk x).set2 hk y).set3 hk z
  simp only [upd_at, upd_upd] at q
  exact q
def dropT6 (T : Nat → Int × Bool × Int) (n : Nat) (s g : Int) : Nat → Int × Bool × Int := if goodT T n s g then updT T s.toNat (g, false, 0) else T
set_option maxHeartbeats 1000000 in
theorem rdrop6_any (gw b n cap : Nat) (T : Nat → Int × Bool × Int) (last s g : Int) (w : World) (h : Dr w b n T) (h0 : w.cell? ⟨gw, 0, none⟩ = some (.slice (some ⟨b, 0, none⟩) n cap)) (h1 : w.cell? ⟨gw, 1, none⟩ = some (.int .i64 last)) (hgb : gw ≠ b) (hn : n ≤ 65536) :
    Calls Tryd.prog 15 #[.pointer (some ⟨gw, 0, none⟩), .agg #[.int .i64 s, .int .i64 g]] w fun e w' => e = .returned (.tuple #[.int .i64 (getT T n s g), .int .i64 (getE T n s g)]) ∧ Dr w' b n (dropT6 T n s g) ∧ Od b w w' := by
  obtain ⟨W0, hW0⟩ : ∃ W, W = w.alloc (.cells #[.int .i64 s, .int .i64 g] 38) := ⟨_, rfl⟩
  have BB : Hid (Below w.heap.size w W0) := by rw [hW0]; exact bx_al (Below.refl _ _)
  have HD : Hid (Dr W0 b n T) := h.go BB.out
  have LB : Hid (b < w.heap.size) := h.lt
  have a0 := fun p : Bw6 W0 => p.cel (bx_cell BB.out h0)
  have a1 := fun p : Bw6 W0 => p.cel (bx_cell BB.out h1)
  have a2 := fun p : Bw6 W0 => p.cel (show W0.cell? ⟨w.heap.size, 0, none⟩ = some (.int .i64 s) by rw [hW0]; simp [go_sem])
  have a3 := fun p : Bw6 W0 => p.cel (show W0.cell? ⟨w.heap.size, 1, none⟩ = some (.int .i64 g) by rw [hW0]; simp [go_sem])
  have HW0 : Hid _ := hW0
  clear h h0 h1 hW0
  go_enter Tryd.func15, Tryd.ntmps15
  go_upto_region 1 with fail
  rw [← HW0.out]
  clear HW0
  haveI hne : Nonempty (Bw6 W0) := ⟨⟨W0, Below.refl _ _⟩⟩
  refine wp_region_bel6 (by kernel_rfl) (by kernel_rfl) ?_
  repeat (quiet_step (first
    | (go_at_call 35; exact calls_bel6 (rgood6_any b n cap T last s g _ (HD.out.go (Bw6.bel _)) hn))))
  refine wpQuiet_nil ?_
  intro w1 hw9
  obtain ⟨p9, hp9⟩ := hw9
  have hb := p9.bel
  rw [← hp9] at hb
  have y0 := a0 p9
  have y2 := a2 p9
  have y3 := a3 p9
  rw [← hp9] at y0 y2 y3
  clear hp9 p9 hne a0 a1 a2 a3
  have HB : Hid (Below w.heap.size w w1) := bx_go BB.out hb
  have HD1 : Hid (Dr w1 b n T) := HD.out.go hb
  clear hb HD BB
  cases hg : goodT T n s g with
  | false =>
    have HG : Hid _ := hg
    clear hg
    go_wp2_with fail
    exact bodyPost_ret (v := .tuple #[.int .i64 0, .int .i64 60]) (by simp [results, Tryd.results15, go_sem]) rfl ⟨by unfold getT getE; rw [HG.out]; rfl, by unfold dropT6; rw [HG.out]; exact HD1.out, Od.of HB.out⟩
  | true =>
    obtain ⟨k, rfl, hk, _, _⟩ := good_at hg
    obtain ⟨x0, x1, x2⟩ := HD1.out.cell hk
    have f0 := HD1.out.fr (k * 3)
    have f1 := HD1.out.fr (k * 3 + 1)
    have f2 := HD1.out.fr (k * 3 + 2)
    have d2 : (k : Int) < (n : Int) := by omega
    have HG : Hid _ := hg
    clear hg
    go_upto_region 3 with fail
    go_quiet (fail)
    go_upto_region 4 with fail
    go_region
    go_wp2_with fail
    refine bodyPost_ret (v := .tuple #[.int .i64 (T k).2.2, .int .i64 0]) (by simp [results, Tryd.results15, go_sem]) rfl ⟨by unfold getT getE; rw [HG.out, Int.toNat_natCast]; rfl, ?_, ?_⟩
    · unfold dropT6
      rw [HG.out, if_pos rfl, Int.toNat_natCast]
      exact (HD1.out.put hk g false 0).drew _
    exact ((((Od.of HB.out).set _ _).set _ _).set _ _).drew _
end Go.Proofs.YtdobjanhmllloaaDoor
