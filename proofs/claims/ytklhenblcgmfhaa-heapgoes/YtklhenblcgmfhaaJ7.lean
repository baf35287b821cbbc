/- Contracts of the program's functions, part 7: own work, joined in build order. -/
import Derived.Test.YtklhenblcgmfhaaJ6
import Derived.RangeFuncNested
import Derived.RangeFuncWrites
import Derived.RangeFuncLeaves
import Derived.Test.YtklhenblcgmfhaaRows
import Derived.RangeFuncBound
import Derived.RangeFuncCalls
import Derived.Shelf.Abstract
import Derived.Shelf.RegionOpen
import Derived.OwnWalkIn
import Derived.TacticsInMore
import Derived.LoopNIn
import Derived.LoopIn
import Derived.Stop.RegionWithIn
import Derived.Shelf.SlSortCmp.WholeK
import Derived.Shelf.SlicesG.Cmp
import Derived.Ground.SlsfProg
import Derived.Ground.SlgcProg
import Derived.Deep.LoopGhost
import Derived.Laws.EntriesVeiled
import Derived.OrdersIn
namespace Go.Proofs.Ytklhenblcgmfhaa
open Go.RowKit
set_option linter.unusedVariables false
/-- gf tells encs 0, encs 1, .. up to N of them, one behind the other. -/
def SeqB (F : Fence) (n : Nat) (P : Program) (gf : Nat) (lb : Array Value) (encs : Nat → Array Value) (Kp : World → World → Prop) (N : Nat) (w : World) : Prop :=
  ∀ (l : Nat) (J : Nat → World → Prop) (Jx : Unit → World → Prop) (W : World), Below w.heap.size w W → (∀ k A B, J k A → Below A.heap.size A B → J k B) →
    (∀ k W1, k < N → J k W1 → YieldAt F (n - 1) P l (encs k) W1 fun e W' => (e = .returned (.bool true) ∧ J (k + 1) W' ∧ Kp W1 W') ∨ (e = .returned (.bool false) ∧ Jx () W')) →
    J 0 W → CallsIn F n P gf (#[.func (.yield l) #[] #[]] ++ lb) W fun e W' => (∃ v, e = .returned v) ∧ (J N W' ∨ Jx () W')
/-- Loops' records and blocks for deferred calls from B on stay. -/
structure KeepsL (B : Nat) (W W' : World) : Prop where
  size : W.heap.size ≤ W'.heap.size
  same : ∀ (k : Nat) (o : Obj), B ≤ k → W.heap[k]? = some o → o.isCells = false → o.isWalk = false → W'.heap[k]? = some o
theorem KeepsL.refl (B : Nat) (W : World) : KeepsL B W W := ⟨Nat.le_refl _, fun _ _ _ h _ _ => h⟩
theorem KeepsL.trans {B : Nat} {X Y Z : World} (h : KeepsL B X Y) (k : KeepsL B Y Z) : KeepsL B X Z := ⟨Nat.le_trans h.size k.size, fun i o hB hi h1 h2 => k.same i o hB (h.same i o hB hi h1 h2) h1 h2⟩
theorem KeepsL.of_from {B : Nat} {W W' : World} (h : KeepsFrom B W W') : KeepsL B W W' := ⟨h.size, fun k o hB hk h1 _ => h.same k o hB hk h1⟩
theorem KeepsL.of_below {B : Nat} {W W' : World} (h : Below W.heap.size W W') : KeepsL B W W' := ⟨h.size, fun k o _ hk _ _ => (h.block k (Array.getElem?_eq_some_iff.1 hk).1).trans hk⟩
/-- A round's end. -/
def postL (B : Nat) (Kp : World → World → Prop) (I : World → Prop) (Ix : Code → World → Prop) (W : World) : Exit → Act → World → Prop
  | .normal, _, W' => KeepsL B W W' ∧ Kp W W' ∧ I W'
  | .ret, _, W' => KeepsL B W W' ∧ Ix .ret W'
  | .exit id, _, W' => KeepsL B W W' ∧ Ix (.exit id) W'
  | .goto t, _, W' => KeepsL B W W' ∧ Ix (.goto t) W'
  | .panic _, _, _ => False
  | .outgrown, _, _ => False
section
variable {F : Fence} {n : Nat} {P : Program}
/-- What is kept of a loop's record and of the block for deferred calls, between rounds. -/
structure Bks (B : Nat) (r : Loop) (W : World) : Prop where
  loop : W.heap[B + 1]? = some (.loop r)
  mark : W.heap[B]? = some (.deferred (some []))
theorem Bks.lt {B : Nat} {r : Loop} {W : World} (h : Bks B r W) : B + 1 < W.heap.size := (Array.getElem?_eq_some_iff.1 h.loop).1
theorem Bks.put {B : Nat} {r : Loop} {W : World} (h : Bks B r W) (r' : Loop) : Bks B r' (W.putObj (B + 1) (.loop r')) :=
  ⟨World.putObj_heap_same h.lt, (World.putObj_heap_other (by omega)).trans h.mark⟩
theorem Bks.kept {B : Nat} {r : Loop} {W W' : World} (h : Bks B r W) (hk : KeepsL B W W') : Bks B r W' :=
  ⟨hk.same _ _ (by omega) h.loop rfl rfl, hk.same _ _ (Nat.le_refl _) h.mark rfl rfl⟩
theorem range_at {g : Operand} {ps : Array Tmp} {assign body : Code} {Q : Exit → Act → World → Prop} {a : Act} {w : World}
    (hro : F.round = none) (h1 : 1 ≤ n) {gf : Nat} {lb : Array Value} (hg : a.eval g = .func (.func gf) #[] lb) (hFg : F.fn gf) (eg : ∀ args w, (callFunc gf args).run P w = .ok (.enter gf args) w)
    {encs : Nat → Array Value} {Kp : World → World → Prop} {N : Nat} {w0 : World} (hseq : SeqB F (n - 1) P gf lb encs Kp N w0)
    (hKt : ∀ {A B C : World}, Kp A B → Kp B C → Kp A C) (hKb : ∀ (W : World) (l : Nat) (o o' : Obj), w.heap.size ≤ l → W.heap[l]? = some o → o.isCells = false → o.isWalk = false → Kp W (W.putObj l o')) (hb0 : Below w0.heap.size w0 w) (hps : ∀ k, (encs k).size = ps.size)
    (I : Nat → World → Prop) (Ix : Code → World → Prop) (hIb : ∀ k A B, I k A → Below A.heap.size A B → I k B) (hIp : ∀ k A l o o', I k A → w.heap.size ≤ l → A.heap[l]? = some o → o.isCells = false → o.isWalk = false → I k (A.putObj l o')) (hXp : ∀ c A l o o', Ix c A → w.heap.size ≤ l → A.heap[l]? = some o → o.isCells = false → o.isWalk = false → Ix c (A.putObj l o')) (h0 : I 0 w) (a₁ : Nat → Act)
    (hassign : ∀ (l k : Nat) (W : World) (K : Act → World → Prop), k < N → K (a₁ k) W →
      assign.wpIn (F.inRound l) (n - 1 - 1) P (Exit.then K (fun _ _ _ => False)) { tmps := (ps.zip (encs k)).foldl (fun t (p, v) => t.setIfInBounds p v) a.tmps, defers := [] } W)
    (hbody : ∀ (l k : Nat) (W : World), k < N → w.heap.size ≤ l → (∃ rr, W.heap[l]? = some (.loop rr)) → I k W → body.wpIn (F.inRound l) (n - 1 - 1) P (postL w.heap.size Kp (I (k + 1)) Ix W) (a₁ k) W)
    (hdone : ∀ (D : Nat) (W : World), w.heap.size ≤ D → I N W → W.heap[D]? = some (.deferred (some [])) → Q .normal { a with defers := { target := .collected D, args := #[] } :: a.defers } W)
    (hstop : ∀ (D : Nat) (c : Code) (W : World), w.heap.size ≤ D → Ix c W → W.heap[D]? = some (.deferred (some [])) → c.wpIn F n P Q { a with defers := { target := .collected D, args := #[] } :: a.defers } W) :
    (Code.rangeFunc g ps assign body).wpIn F n P Q a w := by
  refine wpIn_rangeFunc fun fn hfn => ?_
  rw [hro]
  obtain ⟨R0, eR0⟩ : ∃ r : Loop, r = { state := .ready, pending := none, fn, tmps := a.tmps, params := ps, assign, body, defers := w.heap.size } := ⟨_, rfl⟩
  obtain ⟨W1, eW1⟩ : ∃ W1, W1 = (w.alloc (.deferred (some []))).alloc (.loop R0) := ⟨_, rfl⟩
  have bW1 : Below w.heap.size w W1 := by rw [eW1]; exact ((Below.refl _ w).alloc (Nat.le_refl _) _).alloc (by simp) _
  have k1 : Bks w.heap.size R0 W1 := by
    refine ⟨?_, ?_⟩
    · have := World.alloc_heap_new (w.alloc (.deferred (some []))) (.loop R0)
      rw [World.size_alloc] at this
      rw [eW1]
      exact this
    · rw [eW1]
      exact (Below.heap_alloc _ _ _ (by simp)).trans (World.alloc_heap_new w _)
  have i1 : I 0 W1 := by exact hIb _ _ _ h0 bW1
  refine ⟨w.heap.size + 1, [{ target := .collected w.heap.size, args := #[] }], W1, { target := .fn (.func gf) lb, args := #[.func (.yield (w.heap.size + 1)) #[] #[]] }, W1, gf, #[.func (.yield (w.heap.size + 1)) #[] #[]] ++ lb, W1, ?_, ?_, fun f' hf' => ?_, ?_, fun _ => h1, ?_⟩
  · rw [eW1, eR0]
    exact run_enterLoop_outer _ _ _ _ _
  · simp only [resolve, hg]
    simp [go_sem]
  · simp only [Target.leads, Option.some.injEq] at hf'
    exact hf' ▸ hFg
  · simp [invoke, go_sem, eg]
  · have call := hseq (w.heap.size + 1) (fun k W => I k W ∧ Bks w.heap.size R0 W) (fun _ W => ∃ c, Ix c W ∧ Bks w.heap.size { R0 with state := .done, pending := some c } W) W1 (hb0.trans (bW1.mono hb0.size))
      (fun k A B hA hB => ⟨hIb k A B hA.1 hB, hA.2.kept (KeepsL.of_below hB)⟩)
      (fun k W hk ⟨hi, hb⟩ => by
        have hy := run_yield (P := P) (args := encs k) hb.loop (by rw [eR0]; exact hps k)
        have hsz := hb.lt
        rw [eR0] at hy
        obtain ⟨Rb, eRb⟩ : ∃ r : Loop, r = { R0 with state := .busy } := ⟨_, rfl⟩
        have hb2 := hb.put Rb
        have kp2 := hKb W (w.heap.size + 1) (.loop R0) (.loop Rb) (by omega) hb.loop rfl rfl
        have i2 := hIp k W _ _ (.loop Rb) hi (show w.heap.size ≤ w.heap.size + 1 by omega) hb.loop rfl rfl
        refine ⟨fn, _, assign, body, hy, roundIn_of_wpIn hfn (hassign _ k W _ hk ⟨W.putObj (w.heap.size + 1) (.loop Rb), ?_, ?_⟩)⟩
        · rw [eRb]
          exact run_beginRound hb.loop (by rw [eR0])
        · refine wpIn_mono (hbody _ k _ hk (by omega) ⟨_, hb2.loop⟩ i2) ?_
          have close : ∀ (jump : Option Code) (W3 : World), KeepsL w.heap.size (W.putObj (w.heap.size + 1) (.loop Rb)) W3 →
              ∃ r' : Loop, r' = { R0 with state := (if jump.isNone then .ready else .done), pending := jump } ∧ (Instr.endRound (w.heap.size + 1) jump).run P W3 = .ok (.bool jump.isNone) (W3.putObj (w.heap.size + 1) (.loop r')) ∧ Bks w.heap.size Rb W3 ∧ Bks w.heap.size r' (W3.putObj (w.heap.size + 1) (.loop r')) := fun jump W3 h3 => by
            have hb3 := hb2.kept h3
            refine ⟨_, rfl, ?_, hb3, hb3.put _⟩
            have := run_endRound (P := P) jump hb3.loop
            rw [eRb, eR0] at this
            rw [eR0]
            exact this
          have away : ∀ (c : Code) (W3 : World), KeepsL w.heap.size (W.putObj (w.heap.size + 1) (.loop Rb)) W3 → Ix c W3 → ∃ v W4, (Instr.endRound (w.heap.size + 1) (some c)).run P W3 = .ok v W4 ∧ (v = .bool true ∧ (I (k + 1) W4 ∧ Bks w.heap.size R0 W4) ∧ Kp W W4 ∨ v = .bool false ∧ ∃ c, Ix c W4 ∧ Bks w.heap.size { R0 with state := .done, pending := some c } W4) := fun c W3 h3 hx => by
            obtain ⟨r', er, hr, hb3, hb4⟩ := close (some c) W3 h3
            refine ⟨_, _, hr, .inr ⟨rfl, c, hXp c _ _ _ _ hx (by omega) hb3.loop rfl rfl, ?_⟩⟩
            rw [er] at hb4 ⊢
            exact hb4
          intro e a3 W3 hp
          cases e with
          | normal =>
            obtain ⟨h3, kp3, i3⟩ := hp
            obtain ⟨r', er, hr, hb3, hb4⟩ := close none W3 h3
            have er0 : r' = R0 := by rw [er, eR0]; rfl
            rw [er0] at hr hb4
            exact ⟨_, _, hr, .inl ⟨rfl, ⟨hIp _ _ _ _ _ i3 (by omega) hb3.loop rfl rfl, hb4⟩, hKt (hKt kp2 kp3) (hKb _ _ _ _ (by omega) hb3.loop rfl rfl)⟩⟩
          | ret =>
            obtain ⟨v, W4, hr, hv⟩ := away .ret W3 hp.1 hp.2
            refine ⟨v, W4, hr, ?_⟩
            rcases hv with ⟨rfl, hv⟩ | ⟨rfl, hv⟩
            · exact .inl ⟨rfl, hv⟩
            · exact .inr ⟨rfl, hv⟩
          | exit id =>
            obtain ⟨v, W4, hr, hv⟩ := away (.exit id) W3 hp.1 hp.2
            refine ⟨v, W4, hr, ?_⟩
            rcases hv with ⟨rfl, hv⟩ | ⟨rfl, hv⟩
            · exact .inl ⟨rfl, hv⟩
            · exact .inr ⟨rfl, hv⟩
          | goto t =>
            obtain ⟨v, W4, hr, hv⟩ := away (.goto t) W3 hp.1 hp.2
            refine ⟨v, W4, hr, ?_⟩
            rcases hv with ⟨rfl, hv⟩ | ⟨rfl, hv⟩
            · exact .inl ⟨rfl, hv⟩
            · exact .inr ⟨rfl, hv⟩
          | panic ch => exact hp.elim
          | outgrown => exact hp.elim)
      ⟨i1, k1⟩
    refine call.mono fun e W2 he => ?_
    obtain ⟨⟨v, rfl⟩, hv⟩ := he
    rcases hv with ⟨hi, hb⟩ | ⟨c, hx, hb⟩
    · have er := run_endLoop (P := P) hb.loop (by rw [eR0]; simp)
      rw [eR0] at er
      exact ⟨none, _, er, hdone _ _ (Nat.le_refl _) (hIp _ _ _ _ _ hi (by omega) hb.loop rfl rfl) ((World.putObj_heap_other (by omega)).trans hb.mark)⟩
    · have er := run_endLoop (P := P) hb.loop (by rw [eR0]; simp)
      rw [eR0] at er
      exact ⟨some c, _, er, hstop _ c _ (Nat.le_refl _) (hXp c _ _ _ _ hx (by omega) hb.loop rfl rfl) ((World.putObj_heap_other (by omega)).trans hb.mark)⟩
end
end Go.Proofs.Ytklhenblcgmfhaa
namespace Go.Proofs.Ytklhenblcgmfhaa
open Go.RowKit Go.Shelf Go.Sort
set_option maxRecDepth 100000
set_option linter.unusedVariables false
attribute [local go_sem] Oper.semAt_some
set_option maxHeartbeats 2000000 in
theorem hall1_at (SORT : SortsMk) (n : Nat) (hn : 1 ≤ n) (l Bs : Nat) {base hb ob : Nat} {a : Option Addr} {c cap mb nn : Nat} {pu : Int} {f : Nat → Nat} {it ke va : Nat → Int} (X : Nat → Int × Int) (J : Nat → World → Prop) (Jx : Unit → World → Prop) (W : World) (hJ : ∀ k A B, J k A → Below A.heap.size A B → J k B)
    (hX : ∀ ys, Gd c ((List.range c).map fun i => (it (f i), ke (f i))).toArray ys → ∀ j, j < c → ys.getD j (0, 0) = X j)
    (hY : ∀ k W, k < c → J k W → YieldAt Fence.wide (n - 1) Try.prog l #[.int .i64 (X k).1, .int .i64 (X k).2] W fun e W' =>
      (e = .returned (.bool true) ∧ J (k + 1) W' ∧ Kmk W W') ∨ (e = .returned (.bool false) ∧ Jx () W'))
    (hBs : W.cell? ⟨Bs, 0, none⟩ = some (.pointer (some ⟨hb, 0, none⟩))) (h : HsI W base hb ob a c cap mb nn pu f it ke va) (h0 : J 0 W) :
    CallsIn Fence.wide n Try.prog 38 #[.func (.yield l) #[] #[], .pointer (some ⟨Bs, 0, none⟩)] W fun e W' => (∃ v, e = .returned v) ∧
      (J c W' ∨ Jx () W') := by
  have hlim := h.lim
  have HR : Hid (HsI W base hb ob a c cap mb nn pu f it ke va ∧ (∀ k A B, J k A → Below A.heap.size A B → J k B) ∧ J 0 W) := ⟨h, hJ, h0⟩
  have MK : Hid _ := marks_any SORT W h
  clear h hJ h0
  refine callsIn_of_wp Try.func38 rfl trivial ?_ rfl
  simp only [Try.ntmps38, List.size_toArray, List.length_cons, List.length_nil, Nat.reduceAdd, Nat.reduceSub, Array.replicate_succ, Array.replicate_zero, List.push_toArray, List.append_toArray, List.nil_append, List.cons_append]
  gi_wp2_with fail
  refine ⟨trivial, ?_⟩
  refine (callsIn_wide.2 MK.out).mono ?_
  rintro e w1 ⟨g, cg, d', rfl, q1, q2, q3, q4, q5, q6, q7, q8⟩
  obtain ⟨ys, eys⟩ : ∃ ys, ys = d'.toList := ⟨_, rfl⟩
  have yl : ys.length = c := by rw [eys]; simpa using q4
  have HG : Hid (∀ j, j < c → ys.getD j (0, 0) = X j) := hX ys ⟨yl, d', q4, q5, q6, eys⟩
  obtain ⟨cs, ecs⟩ := q8
  have HC : Hid (∀ w2 : World, w2.heap[g]? = some (.cells cs 79) → ∀ k, k < c → w2.cell? ⟨g, k * 2, none⟩ = some (.int .i64 (ys.getD k (0, 0)).1) ∧ w2.cell? ⟨g, k * 2 + 1, none⟩ = some (.int .i64 (ys.getD k (0, 0)).2)) := by
    intro w2 e2 k hk
    have ed : d'[k]! = ys.getD k (0, 0) := by rw [eys]; simp [List.getD_eq_getElem?_getD, show k < d'.size by omega]
    have a0 := HoldsK.cell q3 (i := k) (c := 0) (by omega) (by omega)
    have a1 := HoldsK.cell q3 (i := k) (c := 1) (by omega) (by omega)
    rw [ed] at a0 a1
    have ec : ∀ i, w2.cell? ⟨g, i, none⟩ = w1.cell? ⟨g, i, none⟩ := fun i => World.cell?_of_block (e2.trans ecs.symm)
    rw [ec, ec]
    simp [encMk] at a0 a1
    exact ⟨a0.1, a1.1⟩
  have hJ1 : J 0 w1 := HR.out.2.1 0 W w1 HR.out.2.2 q7
  have H1 : Hid (J 0 w1 ∧ w1.heap[g]? = some (.cells cs 79) ∧ W.heap.size ≤ w1.heap.size) := ⟨hJ1, ecs, q7.size⟩
  have HYL : Hid (ys.length = c) := yl
  clear q1 q2 q3 q4 q5 q6 q7 hJ1 ecs eys MK yl
  gi_wp2_with fail
  gi_loopw [8] (fun i wr => ∃ k : Nat, k ≤ c ∧ i = .int .i64 (k : Int) ∧ Hid (J k wr) ∧ Hid (wr.heap[g]? = some (.cells cs 79))) (fun i _ => c - (intOf i).toNat)
  case atStart => exact ⟨0, Nat.zero_le _, rfl, H1.out.1, H1.out.2.1⟩
  case round =>
    obtain ⟨k, hk, rfl, hJs, hrow⟩ := hrel
    by_cases hlt : k < c
    · obtain ⟨x, ex⟩ : ∃ x : Int × Int, x = ys.getD k (0, 0) := ⟨_, rfl⟩
      have ex2 : X k = x := by rw [ex]; exact (HG.out k hlt).symm
      obtain ⟨c0, c1⟩ := HC.out wr hrow.out k hlt
      rw [← ex] at c0 c1
      have hglt : g < wr.heap.size := (Array.getElem?_eq_some_iff.1 hrow.out).1
      have hJm : J k (wr.alloc (.cells #[.int .i64 x.1, .int .i64 x.2] 79)) := HR.out.2.1 k wr _ hJs.out ((Below.refl _ _).alloc (Nat.le_refl _) _)
      have hrm : (wr.alloc (.cells #[.int .i64 x.1, .int .i64 x.2] 79)).heap[g]? = some (.cells cs 79) := (Below.heap_alloc _ _ _ hglt).trans hrow.out
      have hYk := hY k _ hlt hJm
      rw [ex2] at hYk
      obtain ⟨fn, tmps, assign, body, hy, hR⟩ := hYk
      have EX : Hid ((wr.alloc (.cells #[.int .i64 x.1, .int .i64 x.2] 79)).heap[g]? = some (.cells cs 79)) := hrm
      have hk' : (k : Int) < (c : Int) := by omega
      have w5 : IntKind.i64.wrap ((k : Int) + 1) = (k : Int) + 1 := by rw [IntKind.wrap_i64]; omega
      clear ex ex2 hJm hrm hglt
      gi_wp2_with fail
      refine hR.mono ?_
      rintro e W3 (⟨rfl, hJ3, hk3⟩ | ⟨rfl, hJx3⟩)
      · have H3 : Hid (J (k + 1) W3 ∧ W3.heap[g]? = some (.cells cs 79)) := ⟨hJ3, hk3 _ _ EX.out⟩
        clear hJ3 hk3
        gi_wp2_with fail
        go_roundw
        case rel => exact ⟨k + 1, by omega, by simp, H3.out.1, H3.out.2⟩
        case measure => simp [intOf]; omega
      · have H3 : Hid (Jx () W3) := hJx3
        clear hJx3
        gi_wp2_with fail
        refine bodyPost_ret (results_none rfl _ _ _) rfl ?_
        exact ⟨⟨_, rfl⟩, .inr H3.out⟩
    · obtain rfl : k = c := by omega
      gi_wp2_with fail
      go_end0
      exact ⟨⟨_, rfl⟩, .inl hJs.out⟩
/-- What All answers, where what it tells is known. -/
theorem hall_at (SORT : SortsMk) (n : Nat) (hn : 1 ≤ n) (Bs : Nat) {base hb ob : Nat} {a : Option Addr} {c cap mb nn : Nat} {pu : Int} {f : Nat → Nat} {it ke va : Nat → Int} (X : Nat → Int × Int) (hX : ∀ ys, Gd c ((List.range c).map fun i => (it (f i), ke (f i))).toArray ys → ∀ j, j < c → ys.getD j (0, 0) = X j) (w : World) (hBs : w.cell? ⟨Bs, 0, none⟩ = some (.pointer (some ⟨hb, 0, none⟩))) (h : HsI w base hb ob a c cap mb nn pu f it ke va) :
    SeqB Fence.wide n Try.prog 38 #[.pointer (some ⟨Bs, 0, none⟩)] (fun k => #[Value.int .i64 (X k).1, Value.int .i64 (X k).2]) Kmk c w := fun l J Jx W hW hJ hY h0 =>
  hall1_at SORT n hn l Bs X J Jx W hJ hX (fun k W1 hk h1 => hY k W1 hk h1) (cell_later hW hBs) (h.keep fun k o e _ _ => hW.block k (Array.getElem?_eq_some_iff.1 e).1) h0
end Go.Proofs.Ytklhenblcgmfhaa
namespace Go.Proofs
open Go.Shelf
def Try.sortMk_ren : Go.Shelf.Ren := ⟨fun | 6 => 62 | 15 => 76 | 14 => 75 | 28 => 89 | 29 => 90 | 20 => 81 | 21 => 82 | 22 => 83 | 23 => 84 | 24 => 85 | 25 => 86 | 26 => 87 | 27 => 88 | 46 => 93 | 47 => 94 | 48 => 95 | 49 => 96 | 50 => 97 | 57 => 98 | n => n, fun | 22 => 83 | 24 => 79 | 25 => 105 | 3 => 3 | 39 => 112 | 0 => 0 | 53 => 124 | 55 => 126 | 4 => 4 | 46 => 118 | 45 => 117 | 50 => 113 | 5 => 5 | 9 => 9 | 66 => 128 | 70 => 132 | 76 => 134 | 77 => 135 | n => n, fun | n => n⟩
theorem Try.sortMk : Go.Proofs.SlLaysF0.n6 Try.prog Try.sortMk_ren := {
  mixed := by kernel_rfl
  f6 := ⟨Try.f62.name, by decide, Try.func62.trans (congrArg some (by kernel_rfl))⟩
  f14 := ⟨Try.f75.name, by decide, Try.func75.trans (congrArg some (by kernel_rfl))⟩
  f15 := Try.func76.trans (congrArg some (by kernel_rfl))
  f20 := ⟨Try.f81.name, by decide, Try.func81.trans (congrArg some (by kernel_rfl))⟩
  f21 := ⟨Try.f82.name, by decide, Try.func82.trans (congrArg some (by kernel_rfl))⟩
  f22 := ⟨Try.f83.name, by decide, Try.func83.trans (congrArg some (by kernel_rfl))⟩
  f23 := ⟨Try.f84.name, by decide, Try.func84.trans (congrArg some (by kernel_rfl))⟩
  f24 := ⟨Try.f85.name, by decide, Try.func85.trans (congrArg some (by kernel_rfl))⟩
  f25 := ⟨Try.f86.name, by decide, Try.func86.trans (congrArg some (by kernel_rfl))⟩
  f26 := ⟨Try.f87.name, by decide, Try.func87.trans (congrArg some (by kernel_rfl))⟩
  f27 := ⟨Try.f88.name, by decide, Try.func88.trans (congrArg some (by kernel_rfl))⟩
  f28 := Try.func89.trans (congrArg some (by kernel_rfl))
  f29 := Try.func90.trans (congrArg some (by kernel_rfl))
  f46 := ⟨Try.f93.name, by decide, Try.func93.trans (congrArg some (by kernel_rfl))⟩
  f47 := Try.func94.trans (congrArg some (by kernel_rfl))
  f48 := Try.func95.trans (congrArg some (by kernel_rfl))
  f49 := ⟨Try.f96.name, by decide, Try.func96.trans (congrArg some (by kernel_rfl))⟩
  f50 := ⟨Try.f97.name, by decide, Try.func97.trans (congrArg some (by kernel_rfl))⟩
  f57 := ⟨Try.f98.name, by decide, Try.func98.trans (congrArg some (by kernel_rfl))⟩
  t0 := Try.underlying0
  a0 := Try.isAgg0
  z0 := Try.sizeOf0
  v0 := Try.zeroValue0
  t3 := Try.underlying3
  a3 := Try.isAgg3
  z3 := Try.sizeOf3
  v3 := Try.zeroValue3
  t4 := Try.underlying4
  a4 := Try.isAgg4
  z4 := Try.sizeOf4
  v4 := Try.zeroValue4
  t5 := Try.underlying5
  a5 := Try.isAgg5
  z5 := Try.sizeOf5
  v5 := Try.zeroValue5
  t9 := Try.underlying9
  a9 := Try.isAgg9
  z9 := Try.sizeOf9
  v9 := Try.zeroValue9
  t22 := Try.underlying83
  a22 := Try.isAgg83
  z22 := Try.sizeOf83
  v22 := Try.zeroValue83
  t25 := Try.underlying105
  a25 := Try.isAgg105
  z25 := Try.sizeOf105
  v25 := Try.zeroValue105
  t39 := Try.underlying112
  a39 := Try.isAgg112
  z39 := Try.sizeOf112
  v39 := Try.zeroValue112
  t45 := Try.underlying117
  a45 := Try.isAgg117
  z45 := Try.sizeOf117
  v45 := Try.zeroValue117
  t46 := Try.underlying118
  a46 := Try.isAgg118
  z46 := Try.sizeOf118
  v46 := Try.zeroValue118
  t50 := Try.underlying113
  a50 := Try.isAgg113
  z50 := Try.sizeOf113
  v50 := Try.zeroValue113
  t53 := Try.underlying124
  a53 := Try.isAgg124
  z53 := Try.sizeOf124
  v53 := Try.zeroValue124
  t55 := Try.underlying126
  a55 := Try.isAgg126
  z55 := Try.sizeOf126
  v55 := Try.zeroValue126
  t66 := Try.underlying128
  a66 := Try.isAgg128
  z66 := Try.sizeOf128
  v66 := Try.zeroValue128
  t70 := Try.underlying132
  a70 := Try.isAgg132
  z70 := Try.sizeOf132
  v70 := Try.zeroValue132
  t76 := Try.underlying134
  a76 := Try.isAgg134
  z76 := Try.sizeOf134
  v76 := Try.zeroValue134
  t77 := Try.underlying135
  a77 := Try.isAgg135
  z77 := Try.sizeOf135
  v77 := Try.zeroValue135 }
def Try.cmpMk_ren : Go.Shelf.Ren := ⟨fun | 5 => 64 | 7 => 77 | n => n, fun | 22 => 3 | 3 => 3 | 4 => 4 | n => n, fun | n => n⟩
theorem Try.cmpMk : Go.Proofs.SlLaysC2.n5 Try.prog Try.cmpMk_ren := {
  mixed := by kernel_rfl
  f5 := ⟨Try.f64.name, by decide, Try.func64.trans (congrArg some (by kernel_rfl))⟩
  f7 := ⟨Try.f77.name, by decide, Try.func77.trans (congrArg some (by kernel_rfl))⟩
  t3 := Try.underlying3
  a3 := Try.isAgg3
  z3 := Try.sizeOf3
  v3 := Try.zeroValue3
  t4 := Try.underlying4
  a4 := Try.isAgg4
  z4 := Try.sizeOf4
  v4 := Try.zeroValue4
  t22 := Try.underlying3
  a22 := Try.isAgg3
  z22 := Try.sizeOf3
  v22 := Try.zeroValue3 }
end Go.Proofs
namespace Go.Proofs.Ytklhenblcgmfhaa
open Go.RowKit Go.Shelf Go.Sort
set_option maxRecDepth 100000
set_option linter.unusedVariables false
theorem ltMk (x y : Int × Int) : ltOf (fun x y : Int × Int => Lib.compareInt x.1 y.1) x y = decide (x.1 < y.1) := by
  unfold ltOf Lib.compareInt
  by_cases h1 : x.1 < y.1
  · simp [h1]
  · by_cases h2 : y.1 < x.1 <;> simp [h1, h2]
theorem swoMk : SWO (ltOf fun x y : Int × Int => Lib.compareInt x.1 y.1) := by
  refine ⟨fun x => ?_, fun x y z h1 h2 => ?_, fun x y z h1 h2 => ?_⟩
  · rw [ltMk]
    simp
  · rw [ltMk] at *
    simp at *
    omega
  · rw [ltMk] at *
    simp at *
    omega
set_option maxHeartbeats 1000000 in
theorem compareMk (x y : Int × Int) (W : World) : Calls Try.prog 63 #[.agg #[.int .i64 x.1, .int .i64 x.2], .agg #[.int .i64 y.1, .int .i64 y.2]] W fun e w' => e = .returned (.int .i64 (Lib.compareInt x.1 y.1)) ∧ ∃ q os', w' = grow (W.drewN q) os' := by
  have hcon := fun W' => AnyG.cmp_Compare_int Try.cmpMk x.1 y.1 W'
  change ∀ W', Calls Try.prog 64 _ _ _ at hcon
  generalize Lib.compareInt x.1 y.1 = r at hcon ⊢
  go_enter Try.func63, Try.ntmps63
  go_wp2_with (go_at_call 64; refine (hcon _).mono ?_; rintro e w' ⟨rfl, rfl⟩)
  go_ret
  exact ⟨rfl, 0, _, by rw [alloc_eq_grow, alloc_eq_grow, grow_grow]; rfl⟩
theorem cmpLaysMk (blk off size : Nat) (w : World) : CmpLays Try.prog 63 #[] encMk 2 (fun x y => Lib.compareInt x.1 y.1) blk off size w :=
  fun _ _ _ _ x y => compareMk x y _
theorem sorts_mk : SortsMk := by
  intro blk cap d w hH hblk hsz
  have eg : ∀ args w, (callFunc 63 args).run Try.prog w = .ok (.enter 63 args) w := enters_of Try.func63 (by kernel_rfl) rfl
  exact AnyQ.slices_SortFunc Try.sortMk 2 Try.isAgg79 Try.sizeOf79 encMk (fun _ => rfl) (fun x v hv => by simp [encMk] at hv; rcases hv with rfl | rfl <;> rfl) (fun x y => Lib.compareInt x.1 y.1) swoMk 63 #[] blk 0 cap d w eg (cmpLaysMk blk 0 d.size w) hH hblk hsz
end Go.Proofs.Ytklhenblcgmfhaa
namespace Go.Proofs.Ytklhenblcgmfhaa
open Go.RowKit Go.Sort
set_option maxRecDepth 100000
set_option linter.unusedVariables false
/-- Between two calls. -/
structure Sq (W0 W : World) (xb hb ob : Nat) (md : Int) (tur : Bool) (c n : Nat) (pu : Int) (Q : Int → Int → Int → Prop) : Prop where
  pair : W.heap[xb]? = some (.cells #[.pointer (some ⟨hb, 0, none⟩), .pointer (some ⟨ob, 0, none⟩)] 26)
  hp : ∃ N T, N ≤ 20 * c ∧ Hp W0.heap.size W hb ob (.slice none 0 0) 0 md tur 0 N n pu T ∧ ∀ i k v, T i = some (k, v) → Q i k v
  bel : Below W0.heap.size W0 W
  ge : W0.heap.size ≤ xb ∧ W0.heap.size ≤ ob
section
variable {W0 W : World} {xb hb ob : Nat} {md : Int} {tur : Bool} {c n : Nat} {pu : Int} {Q : Int → Int → Int → Prop}
theorem Sq.cells (h : Sq W0 W xb hb ob md tur c n pu Q) : W.cell? ⟨xb, 0, none⟩ = some (.pointer (some ⟨hb, 0, none⟩)) ∧ W.cell? ⟨xb, 1, none⟩ = some (.pointer (some ⟨ob, 0, none⟩)) ∧ xb < W.heap.size ∧ ob < W.heap.size ∧ W.cell? ⟨ob, 0, none⟩ = some (.slice none 0 0) ∧ W.cell? ⟨ob, 1, none⟩ = some (.int .i64 0) ∧ W.cell? ⟨ob, 2, none⟩ = some (.int .i64 md) ∧ W.cell? ⟨ob, 3, none⟩ = some (.bool tur) ∧ 0 ≤ md ∧ md ≤ 12 := by
  obtain ⟨N, T, h1, h2, h3⟩ := h.hp
  obtain ⟨q0, q1, q2, q3, _, _⟩ := h2.od.cells
  exact ⟨by simp [World.cell?, h.pair], by simp [World.cell?, h.pair], (Array.getElem?_eq_some_iff.1 h.pair).1, h2.od.lt, q0, q1, q2, q3, h2.od.mod0, h2.od.mod1⟩
theorem Sq.mono {W' : World} (h : Sq W0 W xb hb ob md tur c n pu Q) (hB : Below W.heap.size W W') : Sq W0 W' xb hb ob md tur c n pu Q := by
  obtain ⟨N, T, h1, h2, h3⟩ := h.hp
  exact ⟨(hB.block _ (Array.getElem?_eq_some_iff.1 h.pair).1).trans h.pair, ⟨N, T, h1, h2.keep hB, h3⟩, h.bel.trans (hB.mono h.bel.size), h.ge⟩
theorem Sq.push (h : Sq W0 W xb hb ob md tur c n pu Q) (k v : Int) (hn : n < 200) (hpu : pu < 200) (hc : c ≤ 1000) (hk : -9223372036854775808 ≤ k ∧ k ≤ 9223372036854775807) (hQ : Q (pu + 1) k v) :
    Calls Try.prog 13 #[.pointer (some ⟨hb, 0, none⟩), .int .i64 k, .int .i64 v] W fun e w' => e = .returned (.int .i64 (pu + 1)) ∧ Sq W0 w' xb hb ob md tur (c + 1) (n + 1) (pu + 1) Q ∧ Below W0.heap.size W w' := by
  obtain ⟨N, T, h1, h2, h3⟩ := h.hp
  refine (h2.push k v (by omega) (by omega) (by omega) hk.1 hk.2).mono ?_
  rintro e w' ⟨rfl, M, q1, q2, q3, q4⟩
  have := pow_9 q3 (by omega)
  refine ⟨rfl, ⟨q4.oth _ _ h.pair (oth_pair _), ⟨M, _, by omega, q1, fun i k v e => ?_⟩, h.bel.trans q4.bel, h.ge⟩, q4.bel⟩
  unfold updT at e
  split at e
  · rename_i e2
    cases e
    rw [e2]
    exact hQ
  · exact h3 _ _ _ e
end
end Go.Proofs.Ytklhenblcgmfhaa
namespace Go.Proofs.Ytklhenblcgmfhaa
open Go.RowKit Go.Shelf Go.Sort
set_option maxRecDepth 100000
set_option linter.unusedVariables false
attribute [local go_sem] Oper.semAt_some
theorem Kmk.trans {A B C : World} (h : Kmk A B) (k : Kmk B C) : Kmk A C := fun b cs e => k b cs (h b cs e)
theorem Kmk.putObj (W : World) (l : Nat) (o o' : Obj) (hl : W.heap[l]? = some o) (ho : o.isCells = false) : Kmk W (W.putObj l o') := fun b cs e => by
  refine (World.putObj_heap_other fun e2 => ?_).trans e
  subst e2
  rw [e] at hl
  cases hl
  cases ho
/-- A block of another kind is written. -/
theorem Kmk.set {W : World} {b i : Nat} {t : TypeId} {m : Nat} {f : Nat → Value} (h : W.rowIs b t m f) (ht : t ≠ 79) (v : Value) : Kmk W (W.setCell ⟨b, i, none⟩ v) := fun k cs e => by
  refine (Below.heap_setCell _ _ _ k fun e2 => ?_).trans e
  obtain ⟨c, hb, _⟩ := h
  have e3 : k = b := e2
  rw [e3, hb] at e
  cases e
  exact ht rfl
theorem rowIs_own {W W' : World} {row : Option Nat} {b : Nat} {t : TypeId} {n : Nat} {f : Nat → Value} {B : Nat} (h : W.rowIs b t n f) (hg : W.grownBy W' row) (hr : ∀ r, row = some r → B ≤ r ∧ ∃ o : Obj, W.heap[r]? = some o ∧ o.isCells = false) : W'.rowIs b t n f := by
  refine h.of_block (hg.block b h.lt fun e => ?_)
  obtain ⟨c, hb, _⟩ := h
  obtain ⟨o, ho, hc⟩ := (hr b e.symm).2
  rw [hb] at ho
  cases ho
  cases hc
/-- The frame of a round: two loop variables that nobody reads. -/
def a0 (a : Act) (p1 p2 : Nat) (v1 v2 : Value) : Act := { tmps := ((a.tmps.setIfInBounds p1 v1).setIfInBounds p2 v2), defers := [] }
theorem range_bare {α : Type} {g : Operand} {assign body : Code} {Q : Exit → Act → World → Prop} {a : Act} {w : World} (p1 p2 : Nat)
    {gf : Nat} {lb : Array Value} (hg : a.eval g = .func (.func gf) #[] lb) (eg : ∀ args w, (callFunc gf args).run Try.prog w = .ok (.enter gf args) w)
    {e1 e2 : α → Value} {Kp : World → World → Prop} {S Sp : List α → Prop} {N : Nat} (hseq : SeqStopsK Fence.wide 8 Try.prog gf lb (fun x => #[e1 x, e2 x]) Kp S Sp N w)
    (hKt : ∀ {A B C : World}, Kp A B → Kp B C → Kp A C) (hKb : ∀ (W : World) (l : Nat) (o o' : Obj), w.heap.size ≤ l → W.heap[l]? = some o → o.isCells = false → o.isWalk = false → Kp W (W.putObj l o'))
    (I : List α → World → Prop) (Ix : Code → List α → World → Prop) (hI : OwnFrom w.heap.size I) (hIx : ∀ c, OwnFrom w.heap.size (Ix c)) (h0 : I [] w)
    (hassign : ∀ (l : Nat) (x : α) (W : World) (K : Act → World → Prop), K (a0 a p1 p2 (e1 x) (e2 x)) W →
      assign.wpIn (Fence.wide.inRound l) (9 - 1 - 1) Try.prog (Exit.then K (fun _ _ _ => False)) { tmps := (#[p1, p2].zip #[e1 x, e2 x]).foldl (fun t (p, v) => t.setIfInBounds p v) a.tmps, defers := [] } W)
    (hbody : ∀ (l : Nat) (pre : List α) (x : α) (W : World), I pre W → pre.length < N → body.wpIn (Fence.wide.inRound l) (9 - 1 - 1) Try.prog (ownPostG w.heap.size Kp I Ix (pre ++ [x]) W) (a0 a p1 p2 (e1 x) (e2 x)) W)
    (hdone : ∀ (D : Nat) (xs : List α) (W : World), w.heap.size ≤ D → S xs → I xs W → W.heap[D]? = some (.deferred (some [])) → Q .normal { a with defers := { target := .collected D, args := #[] } :: a.defers } W)
    (hstop : ∀ (D : Nat) (c : Code) (pre : List α) (W : World), w.heap.size ≤ D → Sp pre → Ix c pre W → W.heap[D]? = some (.deferred (some [])) → c.wpIn Fence.wide 9 Try.prog Q { a with defers := { target := .collected D, args := #[] } :: a.defers } W) :
    (Code.rangeFunc g #[p1, p2] assign body).wpIn Fence.wide 9 Try.prog Q a w :=
  wpIn_rangeFunc_ownG rfl (by omega) hg trivial eg hseq hKt hKb (Below.refl _ _) (fun _ => rfl) I Ix hI hIx h0 _ hassign hbody hdone hstop
end Go.Proofs.Ytklhenblcgmfhaa
namespace Go.Proofs.Ytklhenblcgmfhaa
open Go.RowKit Go.Shelf Go.Sort
set_option maxRecDepth 100000
set_option linter.unusedVariables false
/-- All of a table of the numbers m + 1 to m + n. -/
theorem Hp.tells {base : Nat} {W : World} {hb ob : Nat} {lv : Value} {nx md : Int} {tur : Bool} {lies : Int} {N n : Nat} {pu : Int} {T : Int → Option (Int × Int)} (h : Hp base W hb ob lv nx md tur lies N n pu T) (m : Nat) (K : Nat → Int) (hT : ∀ i k v, T i = some (k, v) → ∃ j : Nat, j < n ∧ i = (m : Int) + 1 + (j : Int) ∧ k = K j) :
    ∃ a cap mb nn f it ke va, HsI W base hb ob a n cap mb nn pu f it ke va ∧ ∀ ys, Gd n ((List.range n).map fun i => (it (f i), ke (f i))).toArray ys → ∀ j, j < n → ys.getD j (0, 0) = ((m : Int) + 1 + (j : Int), K j) := by
  obtain ⟨a, cap, mb, nn, f, it, ke, va, h1, h2, h3⟩ := h.ex
  refine ⟨a, cap, mb, nn, f, it, ke, va, h1, fun ys hG => ?_⟩
  have hi : ∀ i j, i < n → j < n → it (f i) = it (f j) → i = j := fun i j hi hj e => h1.iti i j hi hj e
  have hr : ∀ i, i < n → ∃ j : Nat, j < n ∧ it (f i) = (m : Int) + 1 + (j : Int) ∧ ke (f i) = K j := fun i hi => hT _ _ _ ((h3 _ _ _).2 ⟨f i, ⟨i, hi, by omega, rfl⟩, rfl, rfl, rfl⟩)
  have hm : ∀ j, j < n → ∃ q : Nat, q < n ∧ ys.getD j (0, 0) = ((m : Int) + 1 + (q : Int), K q) := fun j hj => by
    have hl := hG.1
    obtain ⟨i, hi', e⟩ := (hG.mem _).1 (show ys.getD j (0, 0) ∈ ys by
      rw [List.getD_eq_getElem?_getD, List.getElem?_eq_getElem (show j < ys.length by omega)]
      exact List.getElem_mem _)
    obtain ⟨q, hq, e1, e2⟩ := hr i hi'
    exact ⟨q, hq, by rw [e, e1, e2]⟩
  have e1 := rise_exact (n := n) (g := fun j => (ys.getD j (0, 0)).1 - (m : Int)) (fun j hj => by obtain ⟨q, hq, e⟩ := hm j hj; simp only [e]; omega) (fun i j hij hj => by have := hG.lt hi hij hj; omega)
  intro j hj
  obtain ⟨q, hq, e⟩ := hm j hj
  have e2 := e1 j hj
  simp only [e] at e2
  have : q = j := by omega
  rw [e, this]
theorem Kmk.refl (W : World) : Kmk W W := fun _ _ h => h
theorem Kmk.of_below {W W' : World} (h : Below W.heap.size W W') : Kmk W W' := fun b cs e => (h.block b (Array.getElem?_eq_some_iff.1 e).1).trans e
theorem Kmk.box {W : World} {b : Nat} {t : TypeId} {u : Value} (h : Boxed W b t u) (ht : t ≠ 79) (v : Value) : Kmk W (W.setCell ⟨b, 0, none⟩ v) := fun k cs e => by
  refine (Below.heap_setCell _ _ _ k fun e2 => ?_).trans e
  have e3 : k = b := e2
  rw [e3, show W.heap[b]? = _ from h] at e
  cases e
  exact ht rfl
theorem Kmk.grown {w W W' : World} {row : Option Nat} {B : Nat} (h : Kmk w W) (hg : W.grownBy W' row) (hr : ∀ r, row = some r → B ≤ r ∧ ∃ o : Obj, W.heap[r]? = some o ∧ o.isCells = false) : Kmk w W' := fun k cs e => by
  have e1 := h k cs e
  refine (hg.block k (Array.getElem?_eq_some_iff.1 e1).1 fun e2 => ?_).trans e1
  obtain ⟨_, o, ho, hc⟩ := hr k e2.symm
  rw [e1] at ho
  cases ho
  cases hc
theorem Boxed.below {W W' : World} {b : Nat} {t : TypeId} {v : Value} (h : Boxed W b t v) (hB : Below W.heap.size W W') : Boxed W' b t v := (hB.block b h.lt).trans h
theorem Boxed.putO {W : World} {b l : Nat} {t : TypeId} {v : Value} {o : Obj} (h : Boxed W b t v) (o' : Obj) (hl : W.heap[l]? = some o) (ho : o.isCells = false) : Boxed (W.putObj l o') b t v := by
  refine (World.putObj_heap_other fun e => ?_).trans h
  subst e
  rw [show W.heap[b]? = _ from h] at hl
  cases hl
  cases ho
theorem Boxed.own {W W' : World} {row : Option Nat} {b : Nat} {t : TypeId} {v : Value} {B : Nat} (h : Boxed W b t v) (hg : W.grownBy W' row) (hr : ∀ r, row = some r → B ≤ r ∧ ∃ o : Obj, W.heap[r]? = some o ∧ o.isCells = false) : Boxed W' b t v := by
  refine h.kept hg fun e => ?_
  obtain ⟨o, ho, hc⟩ := (hr b e.symm).2
  rw [show W.heap[b]? = _ from h] at ho
  cases ho
  cases hc
theorem below_putO {n0 : Nat} {w W : World} {l : Nat} {o : Obj} (h : Below n0 w W) (o' : Obj) (hl : W.heap[l]? = some o) (hn : n0 ≤ l) : Below n0 w (W.putObj l o') :=
  ⟨h.os, h.tape, h.output, by simpa [World.putObj] using h.size, fun k hk => (World.putObj_heap_other (by omega)).trans (h.block k hk)⟩
/-- The frame of a round of a range whose second variable is left out. -/
def aF (a : Act) (p1 p2 q1 : Nat) (v1 v2 : Value) : Act := { tmps := (((a.tmps.setIfInBounds p1 v1).setIfInBounds p2 v2).setIfInBounds q1 v1), defers := [] }
/-- .. of a range whose two variables are both read. -/
def a2 (a : Act) (p1 p2 q1 q2 : Nat) (v1 v2 : Value) : Act := { tmps := ((((a.tmps.setIfInBounds p1 v1).setIfInBounds p2 v2).setIfInBounds q1 v1).setIfInBounds q2 v2), defers := [] }
/-- .. within another range. -/
theorem range_fstN {α : Type} {g : Operand} {assign body : Code} {Q : Exit → Act → World → Prop} {a : Act} {w : World} (p1 p2 q1 l₀ : Nat) (hl₀ : ∃ r₀, w.heap[l₀]? = some (.loop r₀))
    {gf : Nat} {lb : Array Value} (hg : a.eval g = .func (.func gf) #[] lb) (eg : ∀ args w, (callFunc gf args).run Try.prog w = .ok (.enter gf args) w)
    {e1 e2 : α → Value} {Kp : World → World → Prop} {S Sp : List α → Prop} {N : Nat} (hseq : SeqStopsK Fence.wide 6 Try.prog gf lb (fun x => #[e1 x, e2 x]) Kp S Sp N w)
    (hKr : ∀ W, Kp W W) (hKt : ∀ {A B C : World}, Kp A B → Kp B C → Kp A C) (hKb : ∀ (W : World) (l : Nat) (o o' : Obj), w.heap.size ≤ l → W.heap[l]? = some o → o.isCells = false → o.isWalk = false → Kp W (W.putObj l o'))
    (I : List α → World → Prop) (Ix : Code → List α → World → Prop) (hI : OwnFrom w.heap.size I) (hIx : ∀ c, OwnFrom w.heap.size (Ix c)) (h0 : I [] w)
    (hassign : ∀ (l : Nat) (x : α) (W : World) (K : Act → World → Prop), K (aF a p1 p2 q1 (e1 x) (e2 x)) W →
      assign.wpIn (Fence.wide.inRound l) (7 - 1 - 1) Try.prog (Exit.then K (fun _ _ _ => False)) { tmps := (#[p1, p2].zip #[e1 x, e2 x]).foldl (fun t (p, v) => t.setIfInBounds p v) a.tmps, defers := [] } W)
    (hbody : ∀ (l : Nat) (pre : List α) (x : α) (W : World), I pre W → pre.length < N → body.wpIn (Fence.wide.inRound l) (7 - 1 - 1) Try.prog (ownPostG w.heap.size Kp I Ix (pre ++ [x]) W) (aF a p1 p2 q1 (e1 x) (e2 x)) W)
    (hdone : ∀ (xs : List α) (W : World), S xs → I xs W → Q .normal a W)
    (hstop : ∀ (c : Code) (pre : List α) (W : World), Sp pre → Ix c pre W → c.wpIn (Fence.wide.inRound l₀) 7 Try.prog Q a W) :
    (Code.rangeFunc g #[p1, p2] assign body).wpIn (Fence.wide.inRound l₀) 7 Try.prog Q a w := by
  obtain ⟨r₀, hr₀⟩ := hl₀
  exact wpIn_rangeFunc_ownN (l₀ := l₀) (r₀ := r₀) rfl hr₀ (by omega) hg trivial eg (hseq.inRound l₀) hKt hKb (Below.refl _ _) (fun _ => rfl) I Ix hI hIx h0 (fun x a' _ => a' = aF a p1 p2 q1 (e1 x) (e2 x)) (fun x a' s W W' row hs _ _ => hs)
    (fun l pre x W K hi hK => hassign l x W K (hK _ W (KeepsFrom.refl _ _) (hKr W) hi rfl)) (fun l pre x a' W hl hr hi ha hlt => by subst ha; exact hbody l pre x W hi hlt) hdone hstop
/-- A range over All's answer where what it tells is known. -/
theorem range_X {g : Operand} {p1 p2 : Nat} {assign body : Code} {Q : Exit → Act → World → Prop} {a : Act} {w : World}
    {lb : Array Value} (hg : a.eval g = .func (.func 38) #[] lb) {X : Nat → Int × Int} {N : Nat} (hseq : SeqB Fence.wide 8 Try.prog 38 lb (fun k => #[Value.int .i64 (X k).1, Value.int .i64 (X k).2]) Kmk N w)
    (I : Nat → World → Prop) (Ix : Code → World → Prop) (hIb : ∀ k A B, I k A → Below A.heap.size A B → I k B) (hIp : ∀ k A l o o', I k A → w.heap.size ≤ l → A.heap[l]? = some o → o.isCells = false → o.isWalk = false → I k (A.putObj l o')) (hXp : ∀ c A l o o', Ix c A → w.heap.size ≤ l → A.heap[l]? = some o → o.isCells = false → o.isWalk = false → Ix c (A.putObj l o')) (h0 : I 0 w) (af : Act → Value → Value → Act)
    (hassign : ∀ (l k : Nat) (W : World) (K : Act → World → Prop), k < N → K (af a (.int .i64 (X k).1) (.int .i64 (X k).2)) W →
      assign.wpIn (Fence.wide.inRound l) (9 - 1 - 1) Try.prog (Exit.then K (fun _ _ _ => False)) { tmps := (#[p1, p2].zip #[Value.int .i64 (X k).1, Value.int .i64 (X k).2]).foldl (fun t (p, v) => t.setIfInBounds p v) a.tmps, defers := [] } W)
    (hbody : ∀ (l k : Nat) (W : World), k < N → w.heap.size ≤ l → (∃ rr, W.heap[l]? = some (.loop rr)) → I k W → body.wpIn (Fence.wide.inRound l) (9 - 1 - 1) Try.prog (postL w.heap.size Kmk (I (k + 1)) Ix W) (af a (.int .i64 (X k).1) (.int .i64 (X k).2)) W)
    (hdone : ∀ (D : Nat) (W : World), w.heap.size ≤ D → I N W → W.heap[D]? = some (.deferred (some [])) → Q .normal { a with defers := { target := .collected D, args := #[] } :: a.defers } W)
    (hstop : ∀ (D : Nat) (c : Code) (W : World), w.heap.size ≤ D → Ix c W → W.heap[D]? = some (.deferred (some [])) → c.wpIn Fence.wide 9 Try.prog Q { a with defers := { target := .collected D, args := #[] } :: a.defers } W) :
    (Code.rangeFunc g #[p1, p2] assign body).wpIn Fence.wide 9 Try.prog Q a w :=
  range_at rfl (by omega) hg trivial (enters_of Try.func38 (by kernel_rfl) rfl) hseq (fun h k => h.trans k) (fun W l o o' _ h1 h2 _ => Kmk.putObj W l o o' h1 h2) (Below.refl _ _) (fun _ => rfl) I Ix hIb hIp hXp h0 (fun k => af a (.int .i64 (X k).1) (.int .i64 (X k).2)) hassign hbody hdone hstop
end Go.Proofs.Ytklhenblcgmfhaa
namespace Go.Proofs.Ytklhenblcgmfhaa
open Go.RowKit Go.Shelf Go.Sort
set_option maxRecDepth 100000
set_option linter.unusedVariables false
attribute [local go_sem] Oper.semAt_some
/-- The boxes of nested. -/
structure Nb (n0 : Nat) (W : World) (hb : Nat) (ti ou : Int) : Prop where
  b0 : Boxed W n0 23 (.pointer (some ⟨hb, 0, none⟩))
  b1 : ∃ u, Boxed W (n0 + 1) 4 u
  b2 : Boxed W (n0 + 2) 23 (.pointer (some ⟨hb, 0, none⟩))
  b3 : Boxed W (n0 + 3) 38 (.func (.func 38) #[] #[.pointer (some ⟨n0 + 2, 0, none⟩)])
  b4 : Boxed W (n0 + 4) 3 (.int .i64 ti)
  b5 : Boxed W (n0 + 5) 3 (.int .i64 ou)
section
variable {n0 : Nat} {W W' : World} {hb : Nat} {ti ou : Int}
theorem Nb.map (h : Nb n0 W hb ti ou) (hk : ∀ b t v, Boxed W b t v → Boxed W' b t v) : Nb n0 W' hb ti ou := by
  obtain ⟨u, h1⟩ := h.b1
  exact ⟨hk _ _ _ h.b0, ⟨u, hk _ _ _ h1⟩, hk _ _ _ h.b2, hk _ _ _ h.b3, hk _ _ _ h.b4, hk _ _ _ h.b5⟩
theorem Nb.setT (h : Nb n0 W hb ti ou) (t : Int) : Nb n0 (W.setCell ⟨n0 + 4, 0, none⟩ (.int .i64 t)) hb t ou := by
  obtain ⟨u, h1⟩ := h.b1
  exact ⟨h.b0.other (by omega) _, ⟨u, h1.other (by omega) _⟩, h.b2.other (by omega) _, h.b3.other (by omega) _, h.b4.set _, h.b5.other (by omega) _⟩
theorem Nb.setO (h : Nb n0 W hb ti ou) (t : Int) : Nb n0 (W.setCell ⟨n0 + 5, 0, none⟩ (.int .i64 t)) hb ti t := by
  obtain ⟨u, h1⟩ := h.b1
  exact ⟨h.b0.other (by omega) _, ⟨u, h1.other (by omega) _⟩, h.b2.other (by omega) _, h.b3.other (by omega) _, h.b4.other (by omega) _, h.b5.set _⟩
theorem Nb.setX (h : Nb n0 W hb ti ou) {b : Nat} (hb' : n0 + 6 ≤ b) (v : Value) : Nb n0 (W.setCell ⟨b, 0, none⟩ v) hb ti ou := by
  obtain ⟨u, h1⟩ := h.b1
  exact ⟨h.b0.other (by omega) _, ⟨u, h1.other (by omega) _⟩, h.b2.other (by omega) _, h.b3.other (by omega) _, h.b4.other (by omega) _, h.b5.other (by omega) _⟩
end
/-- Numbers that rise, all above 0. -/
def Rise (pre : List (Int × Int)) : Prop := (∀ i j, i < j → j < pre.length → (pre.getD i (0, 0)).1 < (pre.getD j (0, 0)).1) ∧ ∀ i, i < pre.length → 0 < (pre.getD i (0, 0)).1
def lastOf (pre : List (Int × Int)) : Int := if pre.length = 0 then 0 else (pre.getD (pre.length - 1) (0, 0)).1
theorem getD_app (pre : List (Int × Int)) (x : Int × Int) (i : Nat) : (pre ++ [x]).getD i (0, 0) = if i < pre.length then pre.getD i (0, 0) else if i = pre.length then x else (0, 0) := by
  simp only [List.getD_eq_getElem?_getD]
  by_cases h : i < pre.length
  · rw [if_pos h, List.getElem?_append_left h]
  · rw [if_neg h]
    by_cases h2 : i = pre.length
    · rw [if_pos h2, h2]; simp
    · rw [if_neg h2, List.getElem?_eq_none (by simp; omega)]; rfl
theorem last_app (pre : List (Int × Int)) (x : Int × Int) : lastOf (pre ++ [x]) = x.1 := by
  unfold lastOf
  rw [if_neg (by simp), getD_app]
  simp
theorem rise_app {pre : List (Int × Int)} (h : Rise pre) {x : Int × Int} : Rise (pre ++ [x]) ↔ lastOf pre < x.1 := by
  constructor
  · intro h2
    unfold lastOf
    split
    · rename_i e
      have := h2.2 pre.length (by simp)
      rw [getD_app, if_neg (by omega), if_pos rfl] at this
      exact this
    · rename_i e
      have := h2.1 (pre.length - 1) pre.length (by omega) (by simp)
      rw [getD_app, getD_app, if_pos (by omega), if_neg (by omega), if_pos rfl] at this
      exact this
  · intro hx
    have hl : ∀ i, i < pre.length → (pre.getD i (0, 0)).1 ≤ lastOf pre := fun i hi => by
      unfold lastOf
      rw [if_neg (by omega)]
      rcases Nat.lt_or_ge i (pre.length - 1) with h3 | h3
      · have := h.1 i (pre.length - 1) h3 (by omega)
        omega
      · rw [show i = pre.length - 1 by omega]
        exact Int.le_refl _
    have h0 : 0 ≤ lastOf pre := by
      unfold lastOf
      split
      · exact Int.le_refl _
      · have := h.2 (pre.length - 1) (by omega)
        omega
    refine ⟨fun i j hij hj => ?_, fun i hi => ?_⟩
    · rw [List.length_append] at hj
      simp only [List.length_cons, List.length_nil] at hj
      rw [getD_app, getD_app, if_pos (by omega)]
      by_cases e : j < pre.length
      · rw [if_pos e]
        exact h.1 i j hij e
      · rw [if_neg e, if_pos (by omega)]
        have := hl i (by omega)
        omega
    · rw [List.length_append] at hi
      simp only [List.length_cons, List.length_nil] at hi
      rw [getD_app]
      by_cases e : i < pre.length
      · rw [if_pos e]
        exact h.2 i e
      · rw [if_neg e, if_pos (by omega)]
        omega
set_option maxHeartbeats 4000000 in
theorem nested_any {base : Nat} {w : World} {hb ob : Nat} {lv : Value} {nx md : Int} {tur : Bool} {lies : Int} {N n : Nat} {pu : Int} {T : Int → Option (Int × Int)} (h : Hp base w hb ob lv nx md tur lies N n pu T) (m : Nat) (K : Nat → Int) (hT : ∀ i k v, T i = some (k, v) → ∃ j : Nat, j < n ∧ i = (m : Int) + 1 + (j : Int) ∧ k = K j) (hn : n ≤ 60) (hm : m ≤ 60) :
    Calls Try.prog 18 #[.pointer (some ⟨hb, 0, none⟩), .int .i64 (n : Int)] w fun e w' => e = .returned (.bool true) ∧ Below w.heap.size w w' := by
  have HP : Hid _ := h
  have HT : Hid _ := hT
  obtain ⟨n0, en0⟩ : ∃ n0, n0 = w.heap.size := ⟨_, rfl⟩
  clear h hT
  refine (callsIn_wide (n := 9)).1 ?_
  refine callsIn_of_wp_marks Try.func18 rfl trivial ?_ rfl
  simp only [Try.ntmps18, List.size_toArray, List.length_cons, List.length_nil, Nat.reduceAdd, Nat.reduceSub, Array.replicate_succ, Array.replicate_zero, List.push_toArray, List.append_toArray, List.nil_append, List.cons_append]
  have hnf : ∀ (cp : Array Value) (w : World), (binOp .eql 38 (.func (.func 38) #[] cp) .nilFunc).run Try.prog w = .ok (.bool false) w := fun cp w => by kernel_rfl
  gi_wp2_with (refine ⟨trivial, ?_⟩; refine (callsIn_wide.2 (hall_any hb _)).mono ?_; rintro e w5 ⟨rfl, rfl⟩)
  simp only [Nat.add_assoc, Nat.reduceAdd]
  obtain ⟨W0, hW0⟩ : ∃ W0, W0 = (((((w.alloc (.cells #[.pointer (some ⟨hb, 0, none⟩)] 23)).alloc (.cells #[.bool false] 4)).alloc (.cells #[.pointer (some ⟨hb, 0, none⟩)] 23)).alloc (.cells #[.func (.func 38) #[] #[.pointer (some ⟨w.heap.size + 2, 0, none⟩)]] 38)).alloc (.cells #[.int .i64 0] 3)).alloc (.cells #[.int .i64 0] 3) := ⟨_, rfl⟩
  rw [← hW0, ← en0]
  have B0 : Below w.heap.size w W0 := by
    rw [hW0]
    exact ((((((Below.refl _ _).alloc (Nat.le_refl _) _).alloc (by simp) _).alloc (by simp <;> omega) _).alloc (by simp <;> omega) _).alloc (by simp <;> omega) _).alloc (by simp <;> omega) _
  have sz0 : W0.heap.size = n0 + 6 := by rw [hW0, en0]; simp
  have N0 : Hid (Nb n0 W0 hb ((0 : Nat) : Int) ((0 : Nat) : Int)) := by
    rw [en0, hW0]
    refine ⟨?_, ⟨.bool false, ?_⟩, ?_, ?_, ?_, ?_⟩
    · exact (((((Boxed.new w _ _).alloc _).alloc _).alloc _).alloc _).alloc _
    · have := ((((Boxed.new (w.alloc (.cells #[.pointer (some ⟨hb, 0, none⟩)] 23)) 4 (.bool false)).alloc (.cells #[.pointer (some ⟨hb, 0, none⟩)] 23)).alloc (.cells #[.func (.func 38) #[] #[.pointer (some ⟨w.heap.size + 2, 0, none⟩)]] 38)).alloc (.cells #[.int .i64 0] 3)).alloc (.cells #[.int .i64 0] 3)
      simpa using this
    · have := (((Boxed.new ((w.alloc (.cells #[.pointer (some ⟨hb, 0, none⟩)] 23)).alloc (.cells #[.bool false] 4)) 23 (.pointer (some ⟨hb, 0, none⟩))).alloc (.cells #[.func (.func 38) #[] #[.pointer (some ⟨w.heap.size + 2, 0, none⟩)]] 38)).alloc (.cells #[.int .i64 0] 3)).alloc (.cells #[.int .i64 0] 3)
      simpa using this
    · have := ((Boxed.new (((w.alloc (.cells #[.pointer (some ⟨hb, 0, none⟩)] 23)).alloc (.cells #[.bool false] 4)).alloc (.cells #[.pointer (some ⟨hb, 0, none⟩)] 23)) 38 (.func (.func 38) #[] #[.pointer (some ⟨w.heap.size + 2, 0, none⟩)])).alloc (.cells #[.int .i64 0] 3)).alloc (.cells #[.int .i64 0] 3)
      simpa using this
    · have := (Boxed.new ((((w.alloc (.cells #[.pointer (some ⟨hb, 0, none⟩)] 23)).alloc (.cells #[.bool false] 4)).alloc (.cells #[.pointer (some ⟨hb, 0, none⟩)] 23)).alloc (.cells #[.func (.func 38) #[] #[.pointer (some ⟨w.heap.size + 2, 0, none⟩)]] 38)) 3 (.int .i64 0)).alloc (.cells #[.int .i64 0] 3)
      simpa using this
    · have := Boxed.new (((((w.alloc (.cells #[.pointer (some ⟨hb, 0, none⟩)] 23)).alloc (.cells #[.bool false] 4)).alloc (.cells #[.pointer (some ⟨hb, 0, none⟩)] 23)).alloc (.cells #[.func (.func 38) #[] #[.pointer (some ⟨w.heap.size + 2, 0, none⟩)]] 38)).alloc (.cells #[.int .i64 0] 3)) 3 (.int .i64 0)
      simpa using this
  have cBs := N0.out.b2.cell
  obtain ⟨X, eX⟩ : ∃ X : Nat → Int × Int, X = fun (j : Nat) => ((m : Int) + 1 + (j : Int), K j) := ⟨_, rfl⟩
  obtain ⟨fa, fcap, fmb, fnn, ff, fit, fke, fva, S0, hX0⟩ := (HP.out.keep B0).tells m K HT.out
  have hX : ∀ ys, Gd n ((List.range n).map fun i => (fit (ff i), fke (ff i))).toArray ys → ∀ j, j < n → ys.getD j (0, 0) = X j := fun ys hG j hj => by rw [eX]; exact hX0 ys hG j hj
  have HX : Hid (X = fun (j : Nat) => ((m : Int) + 1 + (j : Int), K j)) := eX
  have HSX : Hid (HsI W0 base hb ob fa n fcap fmb fnn pu ff fit fke fva ∧ ∀ ys, Gd n ((List.range n).map fun i => (fit (ff i), fke (ff i))).toArray ys → ∀ j, j < n → ys.getD j (0, 0) = X j) := ⟨S0, hX⟩
  have LE : Hid (∀ A, Below n0 w A → n0 ≤ A.heap.size) := fun A h => by have := h.size; omega
  have HSZ : Hid (W0.heap.size = n0 + 6 ∧ n0 = w.heap.size) := ⟨sz0, en0⟩
  have HB0 : Hid (Below n0 w W0) := by rw [en0]; exact B0
  have hls : n0 ≤ W0.heap.size := by omega
  clear hX0 eX S0 hX en0 sz0 B0 hW0
  refine range_X (X := X) (N := n) (lb := #[.pointer (some ⟨n0 + 2, 0, none⟩)]) rfl (hall_at sorts_mk 8 (by omega) (n0 + 2) X HSX.out.2 W0 cBs HSX.out.1)
    (fun k W => k ≤ 8 ∧ Nb n0 W hb ((n * k : Nat) : Int) (k : Int) ∧ Below n0 w W)
    (fun c W => c = .exit 0 ∧ ∃ q : Nat, 1 ≤ q ∧ q ≤ 9 ∧ Nb n0 W hb ((n * q : Nat) : Int) (q : Int) ∧ Below n0 w W)
    (fun k A B ⟨h1, h2, h3⟩ hB => ⟨h1, h2.map fun b t v hb => Boxed.below hb hB, h3.trans (hB.mono (LE.out _ h3))⟩)
    (fun k A l o o' ⟨h1, h2, h3⟩ hl ho hc _ => ⟨h1, h2.map fun b t v hb => Boxed.putO hb o' ho hc, below_putO h3 o' ho (Nat.le_trans hls hl)⟩)
    (fun c A l o o' ⟨h1, q, q1, q2, h2, h3⟩ hl ho hc _ => ⟨h1, q, q1, q2, h2.map fun b t v hb => Boxed.putO hb o' ho hc, below_putO h3 o' ho (Nat.le_trans hls hl)⟩)
    ⟨by omega, by simpa using N0.out, HB0.out⟩ (fun a v1 v2 => aF a 17 18 8 v1 v2) ?assign ?body ?done ?stop
  case assign =>
    intro l k W K hk hK
    simp only [aF, List.setIfInBounds_toArray, List.set_cons_zero, List.set_cons_succ] at hK
    gi_wp2_with fail
    exact hK
  case body =>
    intro l k W hk hl hlr ⟨h8, hN, hB⟩
    simp only [aF, List.setIfInBounds_toArray, List.set_cons_zero, List.set_cons_succ]
    clear cBs N0 hls
    obtain ⟨x1, x2, ex⟩ : ∃ x1 x2, X k = (x1, x2) := ⟨_, _, rfl⟩
    have hx1 : -9223372036854775808 ≤ x1 ∧ x1 ≤ 9223372036854775807 := by
      have e := ex
      rw [HX.out] at e
      injection e with e
      omega
    rw [ex]
    have k5 := hN.b5.cell
    have z5 := hN.b5.frozen
    have k3 := hN.b3.cell
    have w6 : IntKind.i64.wrap ((k : Int) + 1) = (k : Int) + 1 := by rw [IntKind.wrap_i64]; omega
    have k3' : (W.setCell ⟨n0 + 5, 0, none⟩ (.int .i64 ((k : Int) + 1))).cell? ⟨n0 + 3, 0, none⟩ = some (.func (.func 38) #[] #[.pointer (some ⟨n0 + 2, 0, none⟩)]) := (hN.setO _).b3.cell
    have l3 : n0 + 3 < (W.setCell ⟨n0 + 5, 0, none⟩ (.int .i64 ((k : Int) + 1))).heap.size := (hN.setO ((k : Int) + 1)).b3.lt
    obtain ⟨W1, hW1⟩ : ∃ W1, W1 = (W.setCell ⟨n0 + 5, 0, none⟩ (.int .i64 ((k : Int) + 1))).alloc (.cells #[.int .i64 0] 3) := ⟨_, rfl⟩
    obtain ⟨lk, elk⟩ : ∃ lk, lk = W.heap.size := ⟨_, rfl⟩
    have lk6 : n0 + 6 ≤ lk := by
      obtain ⟨rr, hrr⟩ := hlr
      have h1 := (Array.getElem?_eq_some_iff.1 hrr).1
      have h2 := HSZ.out.1
      omega
    have H1 : Hid (Nb n0 W1 hb ((n * k : Nat) : Int) ((k : Int) + 1) ∧ Boxed W1 lk 3 (.int .i64 0) ∧ Below n0 w W1 ∧ KeepsFrom W0.heap.size W W1 ∧ Kmk W W1 ∧ W1.heap.size = lk + 1 ∧ ∃ rr, W1.heap[l]? = some (.loop rr)) := by
      have b1 : Below (W.setCell ⟨n0 + 5, 0, none⟩ (.int .i64 ((k : Int) + 1))).heap.size (W.setCell ⟨n0 + 5, 0, none⟩ (.int .i64 ((k : Int) + 1))) W1 := by rw [hW1]; exact (Below.refl _ _).alloc (Nat.le_refl _) _
      have kf : KeepsFrom W0.heap.size W W1 := ((KeepsOthers.setCell _ _ _).from _).trans ⟨b1.size, fun q o _ hq _ => (b1.block q (Array.getElem?_eq_some_iff.1 hq).1).trans hq⟩
      obtain ⟨rr, hrr⟩ := hlr
      refine ⟨(hN.setO _).map fun b t v hb => Boxed.below hb b1, ?_, ?_, kf, (Kmk.box hN.b5 (by decide) _).trans (Kmk.of_below b1), by rw [hW1, elk]; simp, rr, kf.same _ _ hl hrr rfl⟩
      · have := Boxed.new (W.setCell ⟨n0 + 5, 0, none⟩ (.int .i64 ((k : Int) + 1))) 3 (.int .i64 0)
        rw [← hW1] at this
        rw [elk]
        simpa using this
      · have h9 : Below n0 w (W.setCell ⟨n0 + 5, 0, none⟩ (.int .i64 ((k : Int) + 1))) := hB.setCell (p := ⟨n0 + 5, 0, none⟩) (by simp) _
        exact h9.trans (b1.mono (LE.out _ h9))
    have HPW : Hid (Hp base W1 hb ob lv nx md tur lies N n pu T) := HP.out.keep (by have := H1.out.2.2.1; rw [HSZ.out.2] at this; exact this)
    have k3'' := H1.out.1.b3.cell
    rw [hW1] at k3''
    gi_wp2_with fail
    rw [← hW1, ← elk]
    clear hW1 elk hN hB k5 z5 k3 k3' k3'' l3 hlr
    have cBs := H1.out.1.b2.cell
    obtain ⟨ga, gcap, gmb, gnn, gf', git, gke, gva, S1, hX1⟩ := HPW.out.tells m K HT.out
    have HS1 : Hid (HsI W1 base hb ob ga n gcap gmb gnn pu gf' git gke gva ∧ ∀ ys, Gd n ((List.range n).map fun i => (git (gf' i), gke (gf' i))).toArray ys → ∀ j, j < n → ys.getD j (0, 0) = ((m : Int) + 1 + (j : Int), K j)) := ⟨S1, hX1⟩
    have hW1s := H1.out.2.2.2.2.2.1
    have hWs : W.heap.size ≤ W1.heap.size := H1.out.2.2.2.1.size
    have hn1 : n0 ≤ W1.heap.size := by omega
    have hnw : n0 ≤ w.heap.size := by rw [HSZ.out.2]; exact Nat.le_refl _
    clear S1 hX1
    refine range_fstN (α := Int × Int) (e1 := fun x => .int .i64 x.1) (e2 := fun x => .int .i64 x.2) 22 23 10 l H1.out.2.2.2.2.2.2 (gf := 38) (lb := #[.pointer (some ⟨n0 + 2, 0, none⟩)]) rfl (enters_of Try.func38 (by kernel_rfl) rfl)
      (hall_stops sorts_mk 6 (by omega) (n0 + 2) W1 cBs HS1.out.1) Kmk.refl (fun h k => h.trans k) (fun W l o o' _ h1 h2 _ => Kmk.putObj W l o o' h1 h2)
      (fun pre W' => Rise pre ∧ Boxed W' lk 3 (.int .i64 (lastOf pre)) ∧ Nb n0 W' hb ((n * k + pre.length : Nat) : Int) ((k : Int) + 1) ∧ Below n0 w W' ∧ KeepsFrom W0.heap.size W W' ∧ Kmk W W')
      (fun c pre W' => c = .ret ∧ ¬ Rise pre)
      (fun pre A B row ⟨h1, h2, h3, h4, h5, h6⟩ hg hr => ⟨h1, Boxed.own h2 hg hr, h3.map fun b t v hb => Boxed.own hb hg hr, ownFrom_below (β := List (Int × Int)) hnw hn1 pre A B row h4 hg hr, ownFrom_keepsFrom (β := List (Int × Int)) hWs pre A B row h5 hg hr, h6.grown hg hr⟩)
      (fun c pre A B row h _ _ => h)
      ⟨⟨fun i j hij hj => absurd hj (Nat.not_lt_zero _), fun i hi => absurd hi (Nat.not_lt_zero _)⟩, H1.out.2.1, H1.out.1, H1.out.2.2.1, H1.out.2.2.2.1, H1.out.2.2.2.2.1⟩ ?assign2 ?body2 ?done2 ?stop2
    case assign2 =>
      intro l x W K hK
      simp only [aF, List.setIfInBounds_toArray, List.set_cons_zero, List.set_cons_succ] at hK
      gi_wp2_with fail
      exact hK
    case body2 =>
      rintro l2 pre ⟨y1, y2⟩ W2 ⟨hR, hL, hN, hB, hKf, hKm⟩ hlt
      simp only [aF, List.setIfInBounds_toArray, List.set_cons_zero, List.set_cons_succ]
      obtain ⟨L, eL⟩ : ∃ L, L = lastOf pre := ⟨_, rfl⟩
      obtain ⟨q, eq⟩ : ∃ q, q = n * k + pre.length := ⟨_, rfl⟩
      have hq : q ≤ 10000 := by
        have h1 : n * k ≤ 60 * 60 := Nat.mul_le_mul hn (by omega)
        omega
      rw [← eL] at hL
      rw [← eq] at hN
      have k9 := hL.cell
      have z9 := hL.frozen
      obtain ⟨u1, hb1⟩ := hN.b1
      have k1 := hb1.cell
      have z1 := hb1.frozen
      have k4 : (W2.setCell ⟨lk, 0, none⟩ (.int .i64 y1)).cell? ⟨n0 + 4, 0, none⟩ = some (.int .i64 (q : Int)) := (hN.setX lk6 _).b4.cell
      have z4 : (W2.setCell ⟨lk, 0, none⟩ (.int .i64 y1)).frozen? ⟨n0 + 4, 0, none⟩ = false := (hN.setX lk6 _).b4.frozen
      have w7 : IntKind.i64.wrap ((q : Int) + 1) = (q : Int) + 1 := by rw [IntKind.wrap_i64]; omega
      have HQ : Hid (Rise pre ∧ Boxed W2 lk 3 (.int .i64 L) ∧ Nb n0 W2 hb (q : Int) ((k : Int) + 1) ∧ Below n0 w W2 ∧ KeepsFrom W0.heap.size W W2 ∧ Kmk W W2 ∧ L = lastOf pre ∧ q = n * k + pre.length) := ⟨hR, hL, hN, hB, hKf, hKm, eL, eq⟩
      clear hR hL hN hB hKf hKm eL eq hb1
      by_cases hy : y1 ≤ L
      · have dy : decide (y1 ≤ L) = true := decide_eq_true hy
        gi_wp2_with fail
        refine ⟨(KeepsOthers.setCell _ _ _).from _, rfl, ?_⟩
        obtain ⟨hR, hL, hN, hB, hKf, hKm, eL, eq⟩ := HQ.out
        rw [rise_app hR]
        show ¬ lastOf pre < y1
        omega
      · have dy : decide (y1 ≤ L) = false := decide_eq_false hy
        gi_wp2_with fail
        obtain ⟨hR, hL, hN, hB, hKf, hKm, eL, eq⟩ := HQ.out
        have h3 := hN.setX lk6 (.int .i64 y1)
        have kf : KeepsFrom W0.heap.size W2 ((W2.setCell ⟨lk, 0, none⟩ (.int .i64 y1)).setCell ⟨n0 + 4, 0, none⟩ (.int .i64 ((q : Int) + 1))) := ((KeepsOthers.setCell _ _ _).from _).trans ((KeepsOthers.setCell _ _ _).from _)
        have km : Kmk W2 ((W2.setCell ⟨lk, 0, none⟩ (.int .i64 y1)).setCell ⟨n0 + 4, 0, none⟩ (.int .i64 ((q : Int) + 1))) := (Kmk.box hL (by decide) _).trans (Kmk.box h3.b4 (by decide) _)
        refine ⟨((KeepsOthers.setCell _ _ _).from _).trans ((KeepsOthers.setCell _ _ _).from _), km, (rise_app hR).2 (by show lastOf pre < y1; omega), ?_, ?_, ?_, hKf.trans kf, hKm.trans km⟩
        · rw [last_app]
          exact (hL.set _).other (by omega) _
        · have e1 : (q : Int) = (n : Int) * (k : Int) + (pre.length : Int) := by rw [eq]; simp
          have e2 : (n : Int) * (k : Int) + ((pre ++ [(y1, y2)]).length : Int) = (q : Int) + 1 := by rw [e1, List.length_append]; simp [Int.add_assoc]
          rw [e2]
          exact h3.setT _
        · exact (hB.setCell (p := ⟨lk, 0, none⟩) (by show n0 ≤ lk; omega) _).setCell (p := ⟨n0 + 4, 0, none⟩) (by show n0 ≤ n0 + 4; omega) _
    case done2 =>
      rintro ys W2 hG ⟨hR, hL, hN, hB, hKf, hKm⟩
      rw [hG.1] at hN
      have hBw : Below w.heap.size w W2 := by have := hB; rw [HSZ.out.2] at this; exact this
      have e1 : ((n * k + n : Nat) : Int) = ((n * (k + 1) : Nat) : Int) := by rw [Nat.mul_succ]
      rw [e1] at hN
      have e2 : (k : Int) + 1 = ((k + 1 : Nat) : Int) := by omega
      rw [e2] at hN
      have k0 := hN.b0.cell
      have GT := (HP.out.keep hBw).get x1 hx1.1 hx1.2
      have HQ : Hid (Nb n0 W2 hb ((n * (k + 1) : Nat) : Int) ((k + 1 : Nat) : Int) ∧ Below n0 w W2 ∧ KeepsL W0.heap.size W W2 ∧ Kmk W W2) := ⟨hN, hB, KeepsL.of_from hKf, hKm⟩
      have k5 : ∀ m6, (W2.drewN m6).cell? ⟨n0 + 5, 0, none⟩ = some (.int .i64 ((k + 1 : Nat) : Int)) := fun m6 => hN.b5.cell
      have dn : ∀ m6, Below W2.heap.size W2 (W2.drewN m6) := fun m6 => ⟨rfl, rfl, rfl, Nat.le_refl _, fun _ _ => rfl⟩
      have HE : Hid (∀ m6, postL W0.heap.size Kmk (fun W => k + 1 ≤ 8 ∧ Nb n0 W hb ((n * (k + 1) : Nat) : Int) ((k + 1 : Nat) : Int) ∧ Below n0 w W) (fun c W => c = .exit 0 ∧ ∃ q : Nat, 1 ≤ q ∧ q ≤ 9 ∧ Nb n0 W hb ((n * q : Nat) : Int) (q : Int) ∧ Below n0 w W) W (.exit 0) ⟨#[], []⟩ (W2.drewN m6)) := fun m6 =>
        ⟨HQ.out.2.2.1.trans (KeepsL.of_below (dn m6)), rfl, k + 1, by omega, by omega, HQ.out.1.map fun b t v hb => Boxed.below hb (dn m6), HQ.out.2.1.trans ((dn m6).mono (LE.out _ HQ.out.2.1))⟩
      clear hR hL hN hB hKf hKm hG hBw e1 e2 dn
      rcases eT : T x1 with _ | ⟨kk, vv⟩
      · rw [eT] at GT
        unfold rowT at GT
        gi_wp2_with fail
        refine ⟨trivial, ?_⟩
        refine (callsIn_wide.2 GT).mono ?_
        rintro e w6 ⟨rfl, m6, rfl⟩
        gi_wp2_with fail
        exact HE.out m6
      · rw [eT] at GT
        unfold rowT at GT
        by_cases h9 : 8 < k + 1
        · have d9 : (8 : Int) < ((k + 1 : Nat) : Int) := by omega
          gi_wp2_with fail
          refine ⟨trivial, ?_⟩
          refine (callsIn_wide.2 GT).mono ?_
          rintro e w6 ⟨rfl, m6, rfl⟩
          have k5' := k5 m6
          gi_wp2_with fail
          exact HE.out m6
        · have d9 : ¬ (8 : Int) < ((k + 1 : Nat) : Int) := by omega
          gi_wp2_with fail
          refine ⟨trivial, ?_⟩
          refine (callsIn_wide.2 GT).mono ?_
          rintro e w6 ⟨rfl, m6, rfl⟩
          have k5' := k5 m6
          gi_wp2_with fail
          have dn : Below W2.heap.size W2 (W2.drewN m6) := ⟨rfl, rfl, rfl, Nat.le_refl _, fun _ _ => rfl⟩
          exact ⟨HQ.out.2.2.1.trans (KeepsL.of_below dn), HQ.out.2.2.2.trans (Kmk.of_below dn), by omega, HQ.out.1.map fun b t v hb => Boxed.below hb dn, HQ.out.2.1.trans (dn.mono (LE.out _ HQ.out.2.1))⟩
    case stop2 =>
      rintro c pre W2 ⟨ys, k', hG, hk', rfl⟩ ⟨rfl, hnr⟩
      refine absurd ?_ hnr
      have hl := hG.1
      have e : ∀ i, i < k' → (ys.take k').getD i (0, 0) = ((m : Int) + 1 + (i : Int), K i) := fun i hi => by
        rw [← HS1.out.2 ys hG i (by omega)]
        simp only [List.getD_eq_getElem?_getD, List.getElem?_take_of_lt hi]
      refine ⟨fun i j hij hj => ?_, fun i hi => ?_⟩
      · rw [List.length_take] at hj
        rw [e i (by omega), e j (by omega)]
        show (m : Int) + 1 + (i : Int) < (m : Int) + 1 + (j : Int)
        omega
      · rw [List.length_take] at hi
        rw [e i (by omega)]
        show 0 < (m : Int) + 1 + (i : Int)
        omega
  case done =>
    rintro D W hD ⟨h8, hN, hB⟩ hK
    clear cBs N0 hls
    rcases Nat.eq_zero_or_pos n with e0 | e0
    · have d0 : (n : Int) = 0 := by omega
      have hq : n * n ≤ 3600 := by
        have h1 : n * n ≤ 60 * 60 := Nat.mul_le_mul hn (by omega)
        omega
      have w8 : IntKind.i64.wrap ((n : Int) * (n : Int)) = (n : Int) * (n : Int) := by
        have e : (n : Int) * (n : Int) = ((n * n : Nat) : Int) := by simp
        rw [e, IntKind.wrap_i64]
        omega
      have k4 := hN.b4.cell
      have k5 := hN.b5.cell
      obtain ⟨u1, hb1⟩ := hN.b1
      have k1 := hb1.cell
      have z1 := hb1.frozen
      rw [show ((n * n : Nat) : Int) = (n : Int) * (n : Int) by simp] at k4
      have hKD : (W.setCell ⟨n0 + 1, 0, none⟩ (.bool true)).heap[D]? = some (.deferred (some [])) := (Below.heap_setCell _ _ _ _ (show D ≠ n0 + 1 by have := HSZ.out.1; omega)).trans hK
      have HE : Hid (Boxed (W.setCell ⟨n0 + 1, 0, none⟩ (.bool true)) (n0 + 1) 4 (.bool true) ∧ Below n0 w (W.setCell ⟨n0 + 1, 0, none⟩ (.bool true)) ∧ (W.setCell ⟨n0 + 1, 0, none⟩ (.bool true)).heap[D]? = some (.deferred (some [])) ∧ n0 ≤ D) := ⟨hb1.set _, hB.setCell (p := ⟨n0 + 1, 0, none⟩) (by show n0 ≤ n0 + 1; omega) _, hKD, by have := HSZ.out.1; omega⟩
      clear hN hB hb1 hK hKD
      gi_wp2_with fail
      refine ⟨by simp, .inl ⟨_, _, rfl, run_takeDeferred HE.out.2.2.1, ?_⟩⟩
      have hc5 := (Boxed.putO HE.out.1 (.deferred none) HE.out.2.2.1 rfl).cell
      have hbl := below_putO HE.out.2.1 (.deferred none) HE.out.2.2.1 HE.out.2.2.2
      refine ⟨.bool true, ?_, rfl, by rw [← HSZ.out.2]; exact hbl⟩
      simp [results, Try.results18, go_sem, hc5]
    · have d0 : ¬ (n : Int) = 0 := by omega
      have d1 : (0 : Int) < (n : Int) := by omega
      have hq : n * n ≤ 3600 := by
        have h1 : n * n ≤ 60 * 60 := Nat.mul_le_mul hn (by omega)
        omega
      have w8 : IntKind.i64.wrap ((n : Int) * (n : Int)) = (n : Int) * (n : Int) := by
        have e : (n : Int) * (n : Int) = ((n * n : Nat) : Int) := by simp
        rw [e, IntKind.wrap_i64]
        omega
      have k4 := hN.b4.cell
      have k5 := hN.b5.cell
      obtain ⟨u1, hb1⟩ := hN.b1
      have k1 := hb1.cell
      have z1 := hb1.frozen
      rw [show ((n * n : Nat) : Int) = (n : Int) * (n : Int) by simp] at k4
      have hKD : (W.setCell ⟨n0 + 1, 0, none⟩ (.bool true)).heap[D]? = some (.deferred (some [])) := (Below.heap_setCell _ _ _ _ (show D ≠ n0 + 1 by have := HSZ.out.1; omega)).trans hK
      have HE : Hid (Boxed (W.setCell ⟨n0 + 1, 0, none⟩ (.bool true)) (n0 + 1) 4 (.bool true) ∧ Below n0 w (W.setCell ⟨n0 + 1, 0, none⟩ (.bool true)) ∧ (W.setCell ⟨n0 + 1, 0, none⟩ (.bool true)).heap[D]? = some (.deferred (some [])) ∧ n0 ≤ D) := ⟨hb1.set _, hB.setCell (p := ⟨n0 + 1, 0, none⟩) (by show n0 ≤ n0 + 1; omega) _, hKD, by have := HSZ.out.1; omega⟩
      clear hN hB hb1 hK hKD
      gi_wp2_with fail
      refine ⟨by simp, .inl ⟨_, _, rfl, run_takeDeferred HE.out.2.2.1, ?_⟩⟩
      have hc5 := (Boxed.putO HE.out.1 (.deferred none) HE.out.2.2.1 rfl).cell
      have hbl := below_putO HE.out.2.1 (.deferred none) HE.out.2.2.1 HE.out.2.2.2
      refine ⟨.bool true, ?_, rfl, by rw [← HSZ.out.2]; exact hbl⟩
      simp [results, Try.results18, go_sem, hc5]
  case stop =>
    rintro D c W hD ⟨rfl, q, q1, q2, hN, hB⟩ hK
    clear cBs N0 hls
    rcases Nat.eq_zero_or_pos n with e0 | e0
    · have d0 : (n : Int) = 0 := by omega
      have hq : n * q ≤ 3600 := by
        have h1 : n * q ≤ 60 * 60 := Nat.mul_le_mul hn (by omega)
        omega
      have w8 : IntKind.i64.wrap ((n : Int) * (q : Int)) = (n : Int) * (q : Int) := by
        have e : (n : Int) * (q : Int) = ((n * q : Nat) : Int) := by simp
        rw [e, IntKind.wrap_i64]
        omega
      have k4 := hN.b4.cell
      have k5 := hN.b5.cell
      obtain ⟨u1, hb1⟩ := hN.b1
      have k1 := hb1.cell
      have z1 := hb1.frozen
      rw [show ((n * q : Nat) : Int) = (n : Int) * (q : Int) by simp] at k4
      have hKD : (W.setCell ⟨n0 + 1, 0, none⟩ (.bool true)).heap[D]? = some (.deferred (some [])) := (Below.heap_setCell _ _ _ _ (show D ≠ n0 + 1 by have := HSZ.out.1; omega)).trans hK
      have HE : Hid (Boxed (W.setCell ⟨n0 + 1, 0, none⟩ (.bool true)) (n0 + 1) 4 (.bool true) ∧ Below n0 w (W.setCell ⟨n0 + 1, 0, none⟩ (.bool true)) ∧ (W.setCell ⟨n0 + 1, 0, none⟩ (.bool true)).heap[D]? = some (.deferred (some [])) ∧ n0 ≤ D) := ⟨hb1.set _, hB.setCell (p := ⟨n0 + 1, 0, none⟩) (by show n0 ≤ n0 + 1; omega) _, hKD, by have := HSZ.out.1; omega⟩
      clear hN hB hb1 hK hKD
      gi_wp2_with fail
      refine ⟨by simp, .inl ⟨_, _, rfl, run_takeDeferred HE.out.2.2.1, ?_⟩⟩
      have hc5 := (Boxed.putO HE.out.1 (.deferred none) HE.out.2.2.1 rfl).cell
      have hbl := below_putO HE.out.2.1 (.deferred none) HE.out.2.2.1 HE.out.2.2.2
      refine ⟨.bool true, ?_, rfl, by rw [← HSZ.out.2]; exact hbl⟩
      simp [results, Try.results18, go_sem, hc5]
    · have d0 : ¬ (n : Int) = 0 := by omega
      have d1 : 0 < q := by omega
      have hq : n * q ≤ 3600 := by
        have h1 : n * q ≤ 60 * 60 := Nat.mul_le_mul hn (by omega)
        omega
      have w8 : IntKind.i64.wrap ((n : Int) * (q : Int)) = (n : Int) * (q : Int) := by
        have e : (n : Int) * (q : Int) = ((n * q : Nat) : Int) := by simp
        rw [e, IntKind.wrap_i64]
        omega
      have k4 := hN.b4.cell
      have k5 := hN.b5.cell
      obtain ⟨u1, hb1⟩ := hN.b1
      have k1 := hb1.cell
      have z1 := hb1.frozen
      rw [show ((n * q : Nat) : Int) = (n : Int) * (q : Int) by simp] at k4
      have hKD : (W.setCell ⟨n0 + 1, 0, none⟩ (.bool true)).heap[D]? = some (.deferred (some [])) := (Below.heap_setCell _ _ _ _ (show D ≠ n0 + 1 by have := HSZ.out.1; omega)).trans hK
      have HE : Hid (Boxed (W.setCell ⟨n0 + 1, 0, none⟩ (.bool true)) (n0 + 1) 4 (.bool true) ∧ Below n0 w (W.setCell ⟨n0 + 1, 0, none⟩ (.bool true)) ∧ (W.setCell ⟨n0 + 1, 0, none⟩ (.bool true)).heap[D]? = some (.deferred (some [])) ∧ n0 ≤ D) := ⟨hb1.set _, hB.setCell (p := ⟨n0 + 1, 0, none⟩) (by show n0 ≤ n0 + 1; omega) _, hKD, by have := HSZ.out.1; omega⟩
      clear hN hB hb1 hK hKD
      gi_wp2_with fail
      refine ⟨by simp, .inl ⟨_, _, rfl, run_takeDeferred HE.out.2.2.1, ?_⟩⟩
      have hc5 := (Boxed.putO HE.out.1 (.deferred none) HE.out.2.2.1 rfl).cell
      have hbl := below_putO HE.out.2.1 (.deferred none) HE.out.2.2.1 HE.out.2.2.2
      refine ⟨.bool true, ?_, rfl, by rw [← HSZ.out.2]; exact hbl⟩
      simp [results, Try.results18, go_sem, hc5]
end Go.Proofs.Ytklhenblcgmfhaa
namespace Go.Proofs.Ytklhenblcgmfhaa
open Go.RowKit Go.Shelf Go.Sort
set_option maxRecDepth 100000
set_option linter.unusedVariables false
theorem Hp.cellsKept {base : Nat} {W W' : World} {hb ob : Nat} {lv : Value} {nx md : Int} {tur : Bool} {lies : Int} {N n : Nat} {pu : Int} {T : Int → Option (Int × Int)} (h : Hp base W hb ob lv nx md tur lies N n pu T) (hk : ∀ (k : Nat) (o : Obj), W.heap[k]? = some o → (o.isCells = true ∨ o.isWalk = true) → W'.heap[k]? = some o) (hz : base ≤ W'.heap.size) : Hp base W' hb ob lv nx md tur lies N n pu T := by
  obtain ⟨a, cap, mb, nn, f, it, ke, va, h1, h2, h3⟩ := h.ex
  have q1 : ∀ (k : Nat) (cs : Array Value) (t : TypeId), W.heap[k]? = some (.cells cs t) → W'.heap[k]? = W.heap[k]? := fun k cs t e => (hk k _ e (.inl rfl)).trans e.symm
  refine ⟨⟨a, cap, mb, nn, f, it, ke, va, ?_, h2, h3⟩, h.od.kept (q1 _ _ _ h.od.at'), hz⟩
  refine { h1 with hd := (q1 _ _ _ h1.hd).trans h1.hd, row := own_kept h1.row fun k hk2 => ?_, pl := fun i hi => (q1 _ _ _ (h1.pl i hi)).trans (h1.pl i hi), mp := ?_ }
  · obtain ⟨_, cs, e⟩ := h1.own hk2
    exact q1 _ _ _ e
  · obtain ⟨g, hm, hg⟩ := h1.mp
    obtain ⟨es, ck, hmb⟩ := hm.block
    exact ⟨g, hm.kept ((hk _ _ hmb (.inr rfl)).trans hmb.symm), hg⟩
/-- Types that a heap has no blocks of. -/
def ot (t : TypeId) : Prop := t ≠ 70 ∧ t ≠ 57 ∧ t ≠ 77 ∧ t ≠ 81
/-- From W to W' all else stands. -/
structure Sg (W W' : World) : Prop where
  kl : ∀ B, KeepsL B W W'
  km : Kmk W W'
  bx : ∀ b t v, Boxed W b t v → ot t → Boxed W' b t v
theorem Sg.trans {A B C : World} (h : Sg A B) (k : Sg B C) : Sg A C := ⟨fun x => (h.kl x).trans (k.kl x), h.km.trans k.km, fun b t v hb ht => k.bx b t v (h.bx b t v hb ht) ht⟩
theorem Sg.of_below {W W' : World} (h : Below W.heap.size W W') : Sg W W' := ⟨fun _ => KeepsL.of_below h, Kmk.of_below h, fun b t v hb _ => Boxed.below hb h⟩
theorem Sg.of_fr {base : Nat} {W W' : World} {hb ob : Nat} {lv : Value} {nx md : Int} {tur : Bool} {lies : Int} {N n : Nat} {pu : Int} {T : Int → Option (Int × Int)} (h : Hp base W hb ob lv nx md tur lies N n pu T) (hF : Fr hb ob base W W') : Sg W W' := by
  obtain ⟨a, cap, mb, nn, f, it, ke, va, h1, h2, h3⟩ := h.ex
  refine ⟨fun B => ⟨hF.bel.size, fun k o _ hk hc hw => (hF.own k (Array.getElem?_eq_some_iff.1 hk).1 fun hb' => ?_).trans hk⟩, fun b cs e => hF.oth b _ e ⟨cs, _, _, rfl, by decide, by decide, by decide, by decide⟩, fun b t v hb' ht => hF.oth b _ hb' ⟨_, t, _, rfl, ht.1, ht.2.1, ht.2.2.1, ht.2.2.2⟩⟩
  rcases (h1.bk k).1 hb' with e | e | e | e | ⟨i, hi, _, e⟩
  · rw [e, h1.hd] at hk
    cases hk
    cases hc
  · obtain ⟨g, hm, _⟩ := h1.mp
    obtain ⟨es, ck, hmb⟩ := hm.block
    rw [e, hmb] at hk
    cases hk
    cases hw
  · rw [e, h.od.at'] at hk
    cases hk
    cases hc
  · obtain ⟨_, cs, e2⟩ := h1.own e
    rw [e2] at hk
    cases hk
    cases hc
  · have e3 := h1.pl i hi
    rw [e] at e3
    rw [e3] at hk
    cases hk
    cases hc
/-- Between two calls. -/
structure Gs (Wa W : World) (xb hb ob : Nat) (md : Int) (c n : Nat) (pu : Int) (P : (Int → Option (Int × Int)) → Prop) : Prop where
  pair : W.heap[xb]? = some (.cells #[.pointer (some ⟨hb, 0, none⟩), .pointer (some ⟨ob, 0, none⟩)] 26)
  hp : ∃ N T, N ≤ 20 * c ∧ Hp Wa.heap.size W hb ob (.slice none 0 0) 0 md false 0 N n pu T ∧ P T
  bel : Below Wa.heap.size Wa W
section
variable {Wa W W' : World} {xb hb ob : Nat} {md : Int} {c n : Nat} {pu : Int} {P P' : (Int → Option (Int × Int)) → Prop}
theorem Gs.imp (h : Gs Wa W xb hb ob md c n pu P) (hi : ∀ T, P T → P' T) : Gs Wa W xb hb ob md c n pu P' := by
  obtain ⟨N, T, h1, h2, h3⟩ := h.hp
  exact ⟨h.pair, ⟨N, T, h1, h2, hi T h3⟩, h.bel⟩
theorem Gs.cells (h : Gs Wa W xb hb ob md c n pu P) : W.cell? ⟨xb, 0, none⟩ = some (.pointer (some ⟨hb, 0, none⟩)) ∧ xb < W.heap.size := ⟨by simp [World.cell?, h.pair], (Array.getElem?_eq_some_iff.1 h.pair).1⟩
theorem Gs.mono (h : Gs Wa W xb hb ob md c n pu P) (hB : Below W.heap.size W W') : Gs Wa W' xb hb ob md c n pu P := by
  obtain ⟨N, T, h1, h2, h3⟩ := h.hp
  exact ⟨(hB.block _ (Array.getElem?_eq_some_iff.1 h.pair).1).trans h.pair, ⟨N, T, h1, h2.keep hB, h3⟩, h.bel.trans (hB.mono h.bel.size)⟩
/-- A box of another kind is written. -/
theorem Gs.box (h : Gs Wa W xb hb ob md c n pu P) {b : Nat} {t : TypeId} {u : Value} (hb' : Boxed W b t u) (ht : ot t ∧ t ≠ 26) (hl : Wa.heap.size ≤ b) (v : Value) : Gs Wa (W.setCell ⟨b, 0, none⟩ v) xb hb ob md c n pu P := by
  obtain ⟨N, T, h1, h2, h3⟩ := h.hp
  have ne : ∀ k o, W.heap[k]? = some o → ¬ Oth o → k ≠ b := fun k o e ho e2 => by
    rw [e2, show W.heap[b]? = _ from hb'] at e
    cases e
    exact ho ⟨_, _, _, rfl, ht.1.1, ht.1.2.1, ht.1.2.2.1, ht.1.2.2.2⟩
  refine ⟨(Below.heap_setCell _ _ _ xb fun e2 => ?_).trans h.pair, ⟨N, T, h1, h2.other (fun k o e ho => (Below.heap_setCell _ _ _ k (ne k o e ho)).trans e) (by simpa using h2.le), h3⟩, h.bel.setCell (p := ⟨b, 0, none⟩) hl _⟩
  have e3 : xb = b := e2
  have e4 := h.pair
  rw [e3, show W.heap[b]? = _ from hb'] at e4
  injection e4 with e4
  injection e4 with _ e5
  exact ht.2 e5
/-- A record that is no cells is written. -/
theorem Gs.putO (h : Gs Wa W xb hb ob md c n pu P) {l : Nat} {o : Obj} (o' : Obj) (hl : Wa.heap.size ≤ l) (ho : W.heap[l]? = some o) (h1 : o.isCells = false) (h2 : o.isWalk = false) : Gs Wa (W.putObj l o') xb hb ob md c n pu P := by
  obtain ⟨N, T, q1, q2, q3⟩ := h.hp
  have ne : ∀ (k : Nat) (p : Obj), W.heap[k]? = some p → (p.isCells = true ∨ p.isWalk = true) → k ≠ l := fun k p e hp e2 => by
    rw [e2, ho] at e
    cases e
    rcases hp with hp | hp
    · rw [h1] at hp; cases hp
    · rw [h2] at hp; cases hp
  refine ⟨(World.putObj_heap_other (ne _ _ h.pair (.inl rfl))).trans h.pair, ⟨N, T, q1, q2.cellsKept (fun k p e hp => (World.putObj_heap_other (ne k p e hp)).trans e) (by simpa [World.putObj] using q2.le), q3⟩, below_putO h.bel o' ho hl⟩
theorem pow_14 {M N n : Nat} (h : 2 ^ (M - N) ≤ 4 * (n + 1) * (n + 1)) (hn : n ≤ 200) : M ≤ N + 20 := by
  rcases Nat.lt_or_ge (N + 20) M with e | e
  · have h1 : 2 ^ 20 ≤ 2 ^ (M - N) := Nat.pow_le_pow_right (by decide) (by omega)
    have h2 : 4 * (n + 1) * (n + 1) ≤ 4 * 201 * 201 := Nat.mul_le_mul (by omega) (by omega)
    omega
  · exact e
theorem Gs.push (h : Gs Wa W xb hb ob md c n pu P) (k v : Int) (hn : n < 200) (hpu : pu < 200) (hc : c ≤ 1000) (hk : -9223372036854775808 ≤ k ∧ k ≤ 9223372036854775807) :
    Calls Try.prog 13 #[.pointer (some ⟨hb, 0, none⟩), .int .i64 k, .int .i64 v] W fun e w' => e = .returned (.int .i64 (pu + 1)) ∧ Gs Wa w' xb hb ob md (c + 1) (n + 1) (pu + 1) (fun T' => ∃ T, P T ∧ T' = updT T (pu + 1) (some (k, v))) ∧ Sg W w' := by
  obtain ⟨N, T, h1, h2, h3⟩ := h.hp
  refine (h2.push k v (by omega) (by omega) (by omega) hk.1 hk.2).mono ?_
  rintro e w' ⟨rfl, M, q1, q2, q3, q4⟩
  have := pow_9 q3 (by omega)
  exact ⟨rfl, ⟨q4.oth _ _ h.pair (oth_pair _), ⟨M, _, by omega, q1, T, h3, rfl⟩, h.bel.trans q4.bel⟩, Sg.of_fr h2 q4⟩
theorem Gs.remove (h : Gs Wa W xb hb ob md c (n + 1) pu P) (i : Int) (hn : n < 200) (hc : c ≤ 1000) (hP : ∀ T, P T → ∃ k v, T i = some (k, v)) :
    Calls Try.prog 15 #[.pointer (some ⟨hb, 0, none⟩), .int .i64 i] W fun e w' => (∃ v, e = .returned v) ∧ Gs Wa w' xb hb ob md (c + 1) n pu (fun T' => ∃ T, P T ∧ T' = updT T i none) ∧ Sg W w' := by
  obtain ⟨N, T, h1, h2, h3⟩ := h.hp
  obtain ⟨k, v, e⟩ := hP T h3
  refine (h2.remove (by omega) e).mono ?_
  rintro e w' ⟨rfl, M, q1, q2, q3, q4⟩
  have := pow_14 q3 (by omega)
  exact ⟨⟨_, rfl⟩, ⟨q4.oth _ _ h.pair (oth_pair _), ⟨M, _, by omega, q1, T, h3, rfl⟩, h.bel.trans q4.bel⟩, Sg.of_fr h2 q4⟩
theorem Gs.update (h : Gs Wa W xb hb ob md c n pu P) (i l : Int) (hn : n ≤ 200) (hc : c ≤ 1000) (hl : -9223372036854775808 ≤ l ∧ l ≤ 9223372036854775807) (hP : ∀ T, P T → ∃ k v, T i = some (k, v)) :
    Calls Try.prog 16 #[.pointer (some ⟨hb, 0, none⟩), .int .i64 i, .int .i64 l] W fun e w' => e = .returned (.int .i64 0) ∧ Gs Wa w' xb hb ob md (c + 1) n pu (fun T' => ∃ T v, P T ∧ T' = updT T i (some (l, v))) ∧ Sg W w' := by
  obtain ⟨N, T, h1, h2, h3⟩ := h.hp
  obtain ⟨k, v, e⟩ := hP T h3
  refine (h2.update (by omega) e l hl.1 hl.2).mono ?_
  rintro e w' ⟨rfl, M, q1, q2, q3, q4⟩
  have := pow_14 q3 (by omega)
  exact ⟨rfl, ⟨q4.oth _ _ h.pair (oth_pair _), ⟨M, _, by omega, q1, T, v, h3, rfl⟩, h.bel.trans q4.bel⟩, Sg.of_fr h2 q4⟩
end
theorem Gs.remove1 {Wa W : World} {xb hb ob : Nat} {md : Int} {c n : Nat} {pu : Int} {P : (Int → Option (Int × Int)) → Prop} (h : Gs Wa W xb hb ob md c n pu P) (i : Int) (hn0 : 0 < n) (hn : n < 200) (hc : c ≤ 1000) (hP : ∀ T, P T → ∃ k v, T i = some (k, v)) :
    Calls Try.prog 15 #[.pointer (some ⟨hb, 0, none⟩), .int .i64 i] W fun e w' => (∃ v, e = .returned v) ∧ Gs Wa w' xb hb ob md (c + 1) (n - 1) pu (fun T' => ∃ T, P T ∧ T' = updT T i none) ∧ Sg W w' := by
  obtain ⟨m, rfl⟩ : ∃ m, n = m + 1 := ⟨n - 1, by omega⟩
  exact h.remove i (by omega) hc hP
/-- The boxes beside it, and what stands since W. -/
def Rb (B : Nat) (W Wc : World) (b9 hb : Nat) (n at' : Int) : Prop := Boxed Wc b9 3 (.int .i64 n) ∧ Boxed Wc (b9 + 1) 23 (.pointer (some ⟨hb, 0, none⟩)) ∧ Boxed Wc (b9 + 2) 3 (.int .i64 at') ∧ KeepsL B W Wc ∧ Kmk W Wc
theorem Rb.step {B : Nat} {W Wc Wd : World} {b9 hb : Nat} {n at' : Int} (h : Rb B W Wc b9 hb n at') (s : Sg Wc Wd) : Rb B W Wd b9 hb n at' :=
  ⟨s.bx _ _ _ h.1 (by unfold ot; decide), s.bx _ _ _ h.2.1 (by unfold ot; decide), s.bx _ _ _ h.2.2.1 (by unfold ot; decide), h.2.2.2.1.trans (s.kl B), h.2.2.2.2.trans s.km⟩
/-- The next key, as ints go. -/
def nxt (x : Int) : Int := IntKind.i64.wrap (x + 1)
theorem nxt_wf (x : Int) : -9223372036854775808 ≤ nxt x ∧ nxt x ≤ 9223372036854775807 := by
  unfold nxt
  rw [IntKind.wrap_i64]
  omega
theorem nxt_wrap (x : Int) : nxt x = wrap64 (x + 1) := by
  unfold nxt wrap64
  exact IntKind.wrap_i64 _
/-- The table: of at rounds. -/
def PT (n : Nat) (xs : Nat → Int) (at' : Nat) (T : Int → Option (Int × Int)) : Prop :=
  (∀ i k v, T i = some (k, v) → (∃ j : Nat, j < n - at' ∧ i = (j : Int) + 1 ∧ k = xs j) ∨ (∃ j : Nat, j < at' ∧ i = (n : Int) + 1 + (j : Int) ∧ k = nxt (xs j))) ∧ ∀ j : Nat, j < n - at' → ∃ v, T ((j : Int) + 1) = some (xs j, v)
theorem PT.round {n : Nat} {xs : Nat → Int} {a : Nat} (ha : a < n) {T T1 T2 T3 : Int → Option (Int × Int)} {u v : Int} (h : PT n xs a T) (e1 : T1 = updT T ((n : Int) - (a : Int)) none) (e2 : T2 = updT T1 ((n : Int) + (a : Int) + 1) (some (xs a, u))) (e3 : T3 = updT T2 ((n : Int) + (a : Int) + 1) (some (nxt (xs a), v))) : PT n xs (a + 1) T3 := by
  subst e1 e2 e3
  refine ⟨fun i k v' e => ?_, fun j hj => ?_⟩
  · unfold updT at e
    by_cases h1 : i = (n : Int) + (a : Int) + 1
    · rw [if_pos h1] at e
      cases e
      exact .inr ⟨a, by omega, by omega, rfl⟩
    · rw [if_neg h1, if_neg h1] at e
      by_cases h2 : i = (n : Int) - (a : Int)
      · rw [if_pos h2] at e
        cases e
      · rw [if_neg h2] at e
        rcases h.1 i k v' e with ⟨j, hj, e4, e5⟩ | ⟨j, hj, e4, e5⟩
        · exact .inl ⟨j, by omega, e4, e5⟩
        · exact .inr ⟨j, by omega, e4, e5⟩
  · unfold updT
    rw [if_neg (by omega), if_neg (by omega), if_neg (by omega)]
    exact h.2 j (by omega)
/-- .. while the keys are laid in. -/
def PL (xs : Nat → Int) (i : Nat) (T : Int → Option (Int × Int)) : Prop :=
  (∀ q k v, T q = some (k, v) → ∃ j : Nat, j < i ∧ q = (j : Int) + 1 ∧ k = xs j) ∧ ∀ j : Nat, j < i → ∃ v, T ((j : Int) + 1) = some (xs j, v)
theorem PL.step {xs : Nat → Int} {i : Nat} {T T1 : Int → Option (Int × Int)} {v : Int} (h : PL xs i T) (e1 : T1 = updT T ((i : Int) + 1) (some (xs i, v))) : PL xs (i + 1) T1 := by
  subst e1
  refine ⟨fun q k v' e => ?_, fun j hj => ?_⟩
  · unfold updT at e
    by_cases h1 : q = (i : Int) + 1
    · rw [if_pos h1] at e
      cases e
      exact ⟨i, by omega, h1, rfl⟩
    · rw [if_neg h1] at e
      obtain ⟨j, hj, e4, e5⟩ := h.1 q k v' e
      exact ⟨j, by omega, e4, e5⟩
  · unfold updT
    by_cases h1 : j = i
    · subst h1
      exact ⟨v, by rw [if_pos rfl]⟩
    · rw [if_neg (by omega)]
      exact h.2 j (by omega)
theorem PL.all {xs : Nat → Int} {n : Nat} {T : Int → Option (Int × Int)} (h : PL xs n T) : PT n xs 0 T := ⟨fun i k v e => .inl (by obtain ⟨j, hj, e1, e2⟩ := h.1 i k v e; exact ⟨j, by omega, e1, e2⟩), fun j hj => h.2 j (by omega)⟩
theorem Gs.tells0 {Wa W : World} {xb hb ob : Nat} {md : Int} {c n : Nat} {pu : Int} {xs : Nat → Int} (h : Gs Wa W xb hb ob md c n pu (PT n xs 0)) : ∃ a cap mb nn f it ke va, HsI W Wa.heap.size hb ob a n cap mb nn pu f it ke va ∧ ∀ ys, Gd n ((List.range n).map fun i => (it (f i), ke (f i))).toArray ys → ∀ j, j < n → ys.getD j (0, 0) = ((j : Int) + 1, xs j) := by
  obtain ⟨N, T, h1, h2, h3⟩ := h.hp
  obtain ⟨a, cap, mb, nn, f, it, ke, va, q1, q2⟩ := h2.tells 0 xs fun i k v e => by
    rcases h3.1 i k v e with ⟨j, hj, e1, e2⟩ | ⟨j, hj, e1, e2⟩
    · exact ⟨j, by omega, by omega, e2⟩
    · omega
  exact ⟨a, cap, mb, nn, f, it, ke, va, q1, fun ys hG j hj => by rw [q2 ys hG j hj]; simp; omega⟩
theorem PT.last {n : Nat} {xs : Nat → Int} {T : Int → Option (Int × Int)} (h : PT n xs n T) : ∀ i k v, T i = some (k, v) → ∃ j : Nat, j < n ∧ i = (n : Int) + 1 + (j : Int) ∧ k = nxt (xs j) := fun i k v e => by
  rcases h.1 i k v e with ⟨j, hj, e1, e2⟩ | h1
  · omega
  · exact h1
/-- A frame that has nothing left but marks. -/
theorem leaves_marks {n : Nat} {P : Program} {fn : Func} {tmps : Array Value} {R : Ending → World → Prop} : ∀ (Ds : List Nat) (w : World), Ds.Nodup → (∀ D ∈ Ds, w.heap[D]? = some (.deferred (some []))) →
    (∀ w', (∀ k, k ∉ Ds → w'.heap[k]? = w.heap[k]?) → w'.os = w.os → w'.tape = w.tape → w'.output = w.output → w'.heap.size = w.heap.size → LeavesInM Fence.wide n P fn tmps R [] .returning w') →
    LeavesInM Fence.wide n P fn tmps R (Ds.map fun D => { target := .collected D, args := #[] }) .returning w
  | [], w, _, _, h => h w (fun _ _ => rfl) rfl rfl rfl rfl
  | D :: Ds, w, hn, hD, h => by
    have h1 := hD D (by simp)
    refine ⟨by simp, .inl ⟨D, _, rfl, run_takeDeferred h1, ?_⟩⟩
    have hg := grownBy_putObj' w D (.deferred none)
    have hz : (w.putObj D (.deferred none)).heap.size = w.heap.size := by simp [World.putObj]
    refine leaves_marks Ds _ (List.nodup_cons.1 hn).2 (fun E hE => ?_) fun w' hk ho ht hp hs => h w' (fun k hk' => ?_) (ho.trans hg.os) (ht.trans hg.tape) (hp.trans hg.output) (hs.trans hz)
    · have hE' := hD E (by simp [hE])
      refine (hg.block E (Array.getElem?_eq_some_iff.1 hE').1 ?_).trans hE'
      intro e
      cases e
      exact (List.nodup_cons.1 hn).1 hE
    · have hk2 : k ≠ D ∧ k ∉ Ds := by simpa [not_or] using hk'
      refine (hk k hk2.2).trans ?_
      rcases Nat.lt_or_ge k w.heap.size with hl | hl
      · exact hg.block k hl (fun e => hk2.1 (by injection e))
      · rw [Array.getElem?_eq_none (by omega), Array.getElem?_eq_none (by omega)]
end Go.Proofs.Ytklhenblcgmfhaa
