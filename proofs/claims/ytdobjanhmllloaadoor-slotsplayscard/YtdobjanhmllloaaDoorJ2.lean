/- Contracts of the program's functions, part 2: own work, joined in build order. -/
import Derived.Test.YtdobjanhmllloaaDoorJ1
import Derived.RangeFuncNested
import Derived.RangeFuncWrites
import Derived.RangeFuncLeaves
import Derived.Test.YtdobjanhmllloaaDoorRows
import Derived.RangeFuncBound
import Derived.RangeFuncCalls
import Derived.Shelf.Abstract
import Derived.Shelf.RegionOpen
import Derived.OwnWalkIn
import Derived.TacticsInMore
import Derived.LoopNIn
import Derived.LoopIn
import Derived.Stop.RegionWithIn
import Derived.Shelf.Spec.TrailingZeros
namespace Go.Proofs.YtdobjanhmllloaaDoor
open Go.RowKit
set_option linter.unusedVariables false
def SeqAt (F : Fence) (n : Nat) (P : Program) (gf : Nat) (lb : Array Value) (encs : Nat → Array Value) (Kp : World → World → Prop) (N : Nat) (w : World) : Prop :=
  ∀ (l : Nat) (J : Nat → World → Prop) (Jx : Unit → World → Prop) (W : World), Below w.heap.size w W → AbidesFrom W.heap.size J → AbidesFrom W.heap.size Jx →
    (∀ k W1, k < N → J k W1 → YieldAt F (n - 1) P l (encs k) W1 fun e W' => (e = .returned (.bool true) ∧ J (k + 1) W' ∧ Kp W1 W') ∨ (e = .returned (.bool false) ∧ Jx () W')) →
    J 0 W → CallsIn F n P gf (#[.func (.yield l) #[] #[]] ++ lb) W fun e W' => (∃ v, e = .returned v) ∧ (J N W' ∨ Jx () W')
section
variable {F : Fence} {n : Nat} {P : Program}
structure Bks (B : Nat) (r : Loop) (W : World) : Prop where
  loop : W.heap[B + 1]? = some (.loop r)
  mark : W.heap[B]? = some (.deferred (some []))
theorem Bks.lt {B : Nat} {r : Loop} {W : World} (h : Bks B r W) : B + 1 < W.heap.size := (Array.getElem?_eq_some_iff.1 h.loop).1
theorem Bks.put {B : Nat} {r : Loop} {W : World} (h : Bks B r W) (r' : Loop) : Bks B r' (W.putObj (B + 1) (.loop r')) :=
  ⟨World.putObj_heap_same h.lt, (World.putObj_heap_other (by omega)).trans h.mark⟩
theorem Bks.kept {B : Nat} {r : Loop} {W W' : World} (h : Bks B r W) (hk : KeepsFrom B W W') : Bks B r W' :=
  ⟨hk.same _ _ (by omega) h.loop rfl, hk.same _ _ (Nat.le_refl _) h.mark rfl⟩
theorem Bks.grown {B : Nat} {r : Loop} {W W' : World} {row : Option Nat} (h : Bks B r W) (hg : W.grownBy W' row) (hr : ∀ q, row = some q → ∃ o : Obj, W.heap[q]? = some o ∧ o.isWalk = true) : Bks B r W' :=
  ⟨(grownBy_keeps hg hr h.loop rfl).trans h.loop, (grownBy_keeps hg hr h.mark rfl).trans h.mark⟩
theorem range_known {g : Operand} {ps : Array Tmp} {assign body : Code} {Q : Exit → Act → World → Prop} {a : Act} {w : World}
    (hro : F.round = none) (h1 : 1 ≤ n) {gf : Nat} {lb : Array Value} (hg : a.eval g = .func (.func gf) #[] lb) (hFg : F.fn gf) (eg : ∀ args w, (callFunc gf args).run P w = .ok (.enter gf args) w)
    {encs : Nat → Array Value} {Kp : World → World → Prop} {N : Nat} {w0 : World} (hseq : SeqAt F (n - 1) P gf lb encs Kp N w0)
    (hKt : ∀ {A B C : World}, Kp A B → Kp B C → Kp A C) (hKb : ∀ (W : World) (l : Nat) (o o' : Obj), w.heap.size ≤ l → W.heap[l]? = some o → o.isCells = false → o.isWalk = false → Kp W (W.putObj l o')) (hb0 : Below w0.heap.size w0 w) (hps : ∀ k, (encs k).size = ps.size)
    (I : Nat → World → Prop) (Ix : Code → Unit → World → Prop) (hI : OwnFrom w.heap.size I) (hIx : ∀ c, OwnFrom w.heap.size (Ix c)) (h0 : I 0 w) (a₁ : Nat → Act)
    (hassign : ∀ (l k : Nat) (W : World) (K : Act → World → Prop), k < N → K (a₁ k) W →
      assign.wpIn (F.inRound l) (n - 1 - 1) P (Exit.then K (fun _ _ _ => False)) { tmps := (ps.zip (encs k)).foldl (fun t (p, v) => t.setIfInBounds p v) a.tmps, defers := [] } W)
    (hbody : ∀ (l k : Nat) (W : World), k < N → I k W → body.wpIn (F.inRound l) (n - 1 - 1) P (ownPostG w.heap.size Kp (fun _ => I (k + 1)) (fun c _ => Ix c ()) ([] : List Unit) W) (a₁ k) W)
    (hdone : ∀ (D : Nat) (W : World), w.heap.size ≤ D → I N W → W.heap[D]? = some (.deferred (some [])) → Q .normal { a with defers := { target := .collected D, args := #[] } :: a.defers } W)
    (hstop : ∀ (D : Nat) (c : Code) (W : World), w.heap.size ≤ D → Ix c () W → W.heap[D]? = some (.deferred (some [])) → c.wpIn F n P Q { a with defers := { target := .collected D, args := #[] } :: a.defers } W) :
    (Code.rangeFunc g ps assign body).wpIn F n P Q a w := by
  refine wpIn_rangeFunc fun fn hfn => ?_
  rw [hro]
  obtain ⟨R0, eR0⟩ : ∃ r : Loop, r = { state := .ready, pending := none, fn, tmps := a.tmps, params := ps, assign, body, defers := w.heap.size } := ⟨_, rfl⟩
  obtain ⟨W1, eW1⟩ : ∃ W1, W1 = (w.alloc (.deferred (some []))).alloc (.loop R0) := ⟨_, rfl⟩
  have bW1 : Below w.heap.size w W1 := by rw [eW1]; exact ((Below.refl _ w).alloc (Nat.le_refl _) _).alloc (by simp) _
  have k1 : Bks w.heap.size R0 W1 := by
    refine ⟨?_, ?_⟩
    · have := World.alloc_heap_new (w.alloc (.deferred (some []))) (.loop R0)
      rw [World.size_alloc] at this
      rw [eW1]
      exact this
    rw [eW1]
    exact (Below.heap_alloc _ _ _ (by simp)).trans (World.alloc_heap_new w _)
  have i1 : I 0 W1 := by rw [eW1]; exact hI.alloc _ (hI.alloc _ h0)
  refine ⟨w.heap.size + 1, [{ target := .collected w.heap.size, args := #[] }], W1, { target := .fn (.func gf) lb, args := #[.func (.yield (w.heap.size + 1)) #[] #[]] }, W1, gf, #[.func (.yield (w.heap.size + 1)) #[] #[]] ++ lb, W1, ?_, ?_, fun f' hf' => ?_, ?_, fun _ => h1, ?_⟩
  · rw [eW1, eR0]
    exact run_enterLoop_outer _ _ _ _ _
  · simp only [resolve, hg]
    simp [go_sem]
  · simp only [Target.leads, Option.some.injEq] at hf'
    exact hf' ▸ hFg
  · simp [invoke, go_sem, eg]
  have own : ∀ {A B : World} {row : Option Nat}, (∀ r, row = some r → W1.heap.size ≤ r ∧ ∃ o : Obj, A.heap[r]? = some o ∧ o.isWalk = true) → ∀ r, row = some r → w.heap.size ≤ r ∧ ∃ o : Obj, A.heap[r]? = some o ∧ o.isCells = false := fun hr r e => by
    obtain ⟨q1, o, q2, q3⟩ := hr r e
    exact ⟨Nat.le_trans bW1.size q1, o, q2, Obj.not_cells_of_walk q3⟩
  have call := hseq (w.heap.size + 1) (fun k W => I k W ∧ Bks w.heap.size R0 W) (fun _ W => ∃ c, Ix c () W ∧ Bks w.heap.size { R0 with state := .done, pending := some c } W) W1 (hb0.trans (bW1.mono hb0.size))
    (fun k A B row hA hgr hr => ⟨hI k A B row hA.1 hgr (own (B := B) hr), hA.2.grown hgr fun r e => (hr r e).2⟩)
    (fun _ A B row ⟨c, hc, hk⟩ hgr hr => ⟨c, hIx c () A B row hc hgr (own (B := B) hr), hk.grown hgr fun r e => (hr r e).2⟩)
    (fun k W hk ⟨hi, hb⟩ => by
      have hy := run_yield (P := P) (args := encs k) hb.loop (by rw [eR0]; exact hps k)
      have hsz := hb.lt
      rw [eR0] at hy
      obtain ⟨Rb, eRb⟩ : ∃ r : Loop, r = { R0 with state := .busy } := ⟨_, rfl⟩
      have hb2 := hb.put Rb
      have kp2 := hKb W (w.heap.size + 1) (.loop R0) (.loop Rb) (by omega) hb.loop rfl rfl
      have i2 := hI.putObj (.loop Rb) hi (by omega) hb.loop rfl
      refine ⟨fn, _, assign, body, hy, roundIn_of_wpIn hfn (hassign _ k W _ hk ⟨W.putObj (w.heap.size + 1) (.loop Rb), ?_, ?_⟩)⟩
      · rw [eRb]
        exact run_beginRound hb.loop (by rw [eR0])
      refine wpIn_mono (hbody _ k _ hk i2) ?_
      have close : ∀ (jump : Option Code) (W3 : World), KeepsFrom w.heap.size (W.putObj (w.heap.size + 1) (.loop Rb)) W3 →
          ∃ r' : Loop, r' = { R0 with state := (if jump.isNone then .ready else .done), pending := jump } ∧ (Instr.endRound (w.heap.size + 1) jump).run P W3 = .ok (.bool jump.isNone) (W3.putObj (w.heap.size + 1) (.loop r')) ∧ Bks w.heap.size Rb W3 ∧ Bks w.heap.size r' (W3.putObj (w.heap.size + 1) (.loop r')) := fun jump W3 h3 => by
        have hb3 := hb2.kept h3
        refine ⟨_, rfl, ?_, hb3, hb3.put _⟩
        have := run_endRound (P := P) jump hb3.loop
        rw [eRb, eR0] at this
        rw [eR0]
        exact this
      have away : ∀ (c : Code) (W3 : World), KeepsFrom w.heap.size (W.putObj (w.heap.size + 1) (.loop Rb)) W3 → Ix c () W3 → ∃ v W4, (Instr.endRound (w.heap.size + 1) (some c)).run P W3 = .ok v W4 ∧ (v = .bool true ∧ (I (k + 1) W4 ∧ Bks w.heap.size R0 W4) ∧ Kp W W4 ∨ v = .bool false ∧ ∃ c, Ix c () W4 ∧ Bks w.heap.size { R0 with state := .done, pending := some c } W4) := fun c W3 h3 hx => by
        obtain ⟨r', er, hr, hb3, hb4⟩ := close (some c) W3 h3
        refine ⟨_, _, hr, .inr ⟨rfl, c, (hIx c).putObj _ hx (by omega) hb3.loop rfl, ?_⟩⟩
        rw [er] at hb4 ⊢
        exact hb4
      intro e a3 W3 hp
      cases e with
      | normal =>
        obtain ⟨h3, kp3, i3⟩ := hp
        obtain ⟨r', er, hr, hb3, hb4⟩ := close none W3 h3
        have er0 : r' = R0 := by rw [er, eR0]; rfl
        rw [er0] at hr hb4
        exact ⟨_, _, hr, .inl ⟨rfl, ⟨hI.putObj _ i3 (by omega) hb3.loop rfl, hb4⟩, hKt (hKt kp2 kp3) (hKb _ _ _ _ (by omega) hb3.loop rfl rfl)⟩⟩
      | ret =>
        obtain ⟨v, W4, hr, hv⟩ := away .ret W3 hp.1 hp.2
        refine ⟨v, W4, hr, ?_⟩
        rcases hv with ⟨rfl, hv⟩ | ⟨rfl, hv⟩
        · exact .inl ⟨rfl, hv⟩
        exact .inr ⟨rfl, hv⟩
      | exit id =>
        obtain ⟨v, W4, hr, hv⟩ := away (.exit id) W3 hp.1 hp.2
        refine ⟨v, W4, hr, ?_⟩
        rcases hv with ⟨rfl, hv⟩ | ⟨rfl, hv⟩
        · exact .inl ⟨rfl, hv⟩
        exact .inr ⟨rfl, hv⟩
      | goto t =>
        obtain ⟨v, W4, hr, hv⟩ := away (.goto t) W3 hp.1 hp.2
        refine ⟨v, W4, hr, ?_⟩
        rcases hv with ⟨rfl, hv⟩ | ⟨rfl, hv⟩
        · exact .inl ⟨rfl, hv⟩
        exact .inr ⟨rfl, hv⟩
      | panic ch => exact hp.elim
      | outgrown => exact hp.elim)
    ⟨i1, k1⟩
  refine call.mono fun e W2 he => ?_
  obtain ⟨⟨v, rfl⟩, hv⟩ := he
  rcases hv with ⟨hi, hb⟩ | ⟨c, hx, hb⟩
  · have er := run_endLoop (P := P) hb.loop (by rw [eR0]; simp)
    rw [eR0] at er
    exact ⟨none, _, er, hdone _ _ (Nat.le_refl _) (hI.putObj _ hi (by omega) hb.loop rfl) ((World.putObj_heap_other (by omega)).trans hb.mark)⟩
  have er := run_endLoop (P := P) hb.loop (by rw [eR0]; simp)
  rw [eR0] at er
  exact ⟨some c, _, er, hstop _ c _ (Nat.le_refl _) ((hIx c).putObj _ hx (by omega) hb.loop rfl) ((World.putObj_heap_other (by omega)).trans hb.mark)⟩
end
end Go.Proofs.YtdobjanhmllloaaDoor
namespace Go.Proofs.YtdobjanhmllloaaDoor
open Go.RowKit Go.Shelf
set_option maxRecDepth 100000
set_option linter.unusedVariables false
attribute [local go_sem] Oper.semAt_some
theorem backward_any (v : Value) (hv : ∃ a n c, v = .slice a n c) (w : World) : Calls Tryd.prog 43 #[v] w fun e w' => e = .returned (.func (.func 53) #[] #[.pointer (some ⟨w.heap.size, 0, none⟩)]) ∧ w' = w.alloc (.cells #[v] 75) := by
  obtain ⟨a, n, c, rfl⟩ := hv
  have hmf : ∀ (fn : Fn) (first cap : Array Value) (w : World), (Instr.makeFunc fn first cap).run Tryd.prog w = .ok (.func fn first cap) w := fun _ _ _ _ => rfl
  go_enter Tryd.func43, Tryd.ntmps43
  go_wp2_with fail
  go_ret
  exact ⟨rfl, rfl⟩
def Kbk (W W' : World) : Prop := ∀ (k : Nat) (cs : Array Value) (t : TypeId), W.heap[k]? = some (.cells cs t) → (t = 113 ∨ t = 75) → W'.heap[k]? = some (.cells cs t)
theorem Kbk.trans {A B C : World} (h : Kbk A B) (k : Kbk B C) : Kbk A C := fun b cs t e ht => k b cs t (h b cs t e ht) ht
theorem Kbk.putObj (W : World) (l : Nat) (o o' : Obj) (hl : W.heap[l]? = some o) (ho : o.isCells = false) : Kbk W (W.putObj l o') := fun b cs t e _ => by
  refine (World.putObj_heap_other fun e2 => ?_).trans e
  subst e2
  rw [e] at hl
  cases hl
  cases ho
def rowV (G : Nat → Nat) (n x : Nat) : Value := .slice (some ⟨G x, 0, none⟩) (cl n (x + 1)) (cl n (x + 1))
set_option maxHeartbeats 2000000 in
theorem back1_in (m : Nat) (hm : 1 ≤ m) (l Bs b L cap : Nat) (G : Nat → Nat) (n : Nat) (J : Nat → World → Prop) (Jx : World → Prop) (W : World) (h1 : 1 ≤ L) (hc : L ≤ cap) (hc2 : cap ≤ 9223372036854775807) (csb : Array Value)
    (hY : ∀ k W1, k < L → J k W1 → YieldAt Fence.wide (m - 1) Tryd.prog l #[.int .i64 ((L - 1 - k : Nat) : Int), rowV G n (L - 1 - k)] W1 fun e W' =>
      (e = .returned (.bool true) ∧ J (k + 1) W' ∧ Kbk W1 W') ∨ (e = .returned (.bool false) ∧ Jx W'))
    (hBs : W.heap[Bs]? = some (.cells #[.slice (some ⟨b, 0, none⟩) L cap] 75)) (hb : W.heap[b]? = some (.cells csb 113)) (hr : ∀ k, k < L → csb[k]? = some (rowV G n k)) (h0 : J 0 W) :
    CallsIn Fence.wide m Tryd.prog 53 #[.func (.yield l) #[] #[], .pointer (some ⟨Bs, 0, none⟩)] W fun e W' => (∃ v, e = .returned v) ∧ (J L W' ∨ Jx W') := by
  have HR : Hid (J 0 W ∧ W.heap[Bs]? = some (.cells #[.slice (some ⟨b, 0, none⟩) L cap] 75) ∧ W.heap[b]? = some (.cells csb 113)) := ⟨h0, hBs, hb⟩
  have c0 : W.cell? ⟨Bs, 0, none⟩ = some (.slice (some ⟨b, 0, none⟩) L cap) := by simp [World.cell?, hBs]
  have HG : Hid (∀ k, k < L → csb[k]? = some (rowV G n k)) := hr
  clear h0 hBs hb hr
  refine callsIn_of_wp Tryd.func53 rfl trivial ?_ rfl
  simp only [Tryd.ntmps53, List.size_toArray, List.length_cons, List.length_nil, Nat.reduceAdd, Nat.reduceSub, Array.replicate_succ, Array.replicate_zero, List.push_toArray, List.append_toArray, List.nil_append, List.cons_append]
  gi_wp2_with fail
  gi_loopw [3] (fun i wr => ∃ k : Nat, k ≤ L ∧ i = .int .i64 ((L : Int) - 1 - (k : Int)) ∧ Hid (J k wr ∧ wr.heap[Bs]? = some (.cells #[.slice (some ⟨b, 0, none⟩) L cap] 75) ∧ wr.heap[b]? = some (.cells csb 113))) (fun i _ => (intOf i + 1).toNat)
  case atStart => exact ⟨0, Nat.zero_le _, by simp, HR⟩
  case round =>
    obtain ⟨k, hk, rfl, hJ⟩ := hrel
    by_cases hlt : k < L
    · obtain ⟨x, ex⟩ : ∃ x, x = L - 1 - k := ⟨_, rfl⟩
      have exi : (L : Int) - 1 - (k : Int) = (x : Int) := by omega
      rw [exi]
      have hxL : x < L := by omega
      have c1 : wr.cell? ⟨Bs, 0, none⟩ = some (.slice (some ⟨b, 0, none⟩) L cap) := by simp [World.cell?, hJ.out.2.1]
      have c2 : wr.cell? ⟨b, x, none⟩ = some (rowV G n x) := by simp [World.cell?, hJ.out.2.2, HG.out x hxL]
      have hYk := hY k wr hlt hJ.out.1
      rw [← ex] at hYk
      obtain ⟨fn, tmps, assign, body, hy, hR⟩ := hYk
      have EX : Hid (x = L - 1 - k ∧ wr.heap[Bs]? = some (.cells #[.slice (some ⟨b, 0, none⟩) L cap] 75) ∧ wr.heap[b]? = some (.cells csb 113)) := ⟨ex, hJ.out.2⟩
      unfold rowV at c2 hy
      clear ex exi hJ
      gi_wp2_with fail
      refine hR.mono ?_
      rintro e W3 (⟨rfl, hJ3, hk3⟩ | ⟨rfl, hJx3⟩)
      · have H3 : Hid (J (k + 1) W3 ∧ W3.heap[Bs]? = some (.cells #[.slice (some ⟨b, 0, none⟩) L cap] 75) ∧ W3.heap[b]? = some (.cells csb 113)) := ⟨hJ3, hk3 _ _ _ EX.out.2.1 (.inr rfl), hk3 _ _ _ EX.out.2.2 (.inl rfl)⟩
        clear hJ3 hk3
        gi_wp2_with fail
        go_roundw
        case rel => exact ⟨k + 1, by omega, by have := EX.out.1; congr 1; omega, H3⟩
        case measure => simp [intOf]
      have H3 : Hid (Jx W3) := hJx3
      clear hJx3
      gi_wp2_with fail
      refine bodyPost_ret (results_none rfl _ _ _) rfl ?_
      exact ⟨⟨_, rfl⟩, .inr H3.out⟩
    obtain rfl : k = L := by omega
    gi_wp2_with fail
    go_end0
    exact ⟨⟨_, rfl⟩, .inl hJ.out.1⟩
theorem back_at (m : Nat) (hm : 1 ≤ m) (Bs b L cap : Nat) (G : Nat → Nat) (n lb : Nat) (T : Nat → Nat → Prop) (w : World) (h : NmX w b L cap G n T lb) (hBs : w.heap[Bs]? = some (.cells #[.slice (some ⟨b, 0, none⟩) L cap] 75)) :
    SeqAt Fence.wide m Tryd.prog 53 #[.pointer (some ⟨Bs, 0, none⟩)] (fun k => #[Value.int .i64 ((L - 1 - k : Nat) : Int), rowV G n (L - 1 - k)]) Kbk L w := fun l J Jx W hW hJ _ hY h0 => by
  obtain ⟨cs, e1, e2⟩ := h.rows
  exact back1_in m hm l Bs b L cap G n J (Jx ()) W h.one h.le h.lim cs hY ((hW.block _ (Array.getElem?_eq_some_iff.1 hBs).1).trans hBs) ((hW.block _ (Array.getElem?_eq_some_iff.1 e1).1).trans e1) e2 h0
def Tab (w : World) : Prop := TabAt 0 Lib.deBruijn64tab w
theorem Tab.go {w w' : World} (h : Tab w) (hb : Below w.heap.size w w') : Tab w' := fun j hj => cell_later hb (h j hj)
set_option maxHeartbeats 1000000 in
theorem tz64_core (x k idx : Nat) (w : World) (hx0 : ((x : Int) == 0) = false)
    (key : IntKind.u64.wrap (bits BinOp.and IntKind.u64 (x : Int) (IntKind.u64.wrap (-(x : Int))) * 285870213051353865) / 288230376151711744 = (idx : Int))
    (hi : idx < 64) (hk : k < 64) (hcell : w.cell? ⟨0, idx, none⟩ = some (.int .u8 k)) :
    Calls Tryd.prog 44 #[.int .u64 x] w fun e w' => e = .returned (.int .i64 k) ∧ w' = w := by
  go_enter Tryd.func44, Tryd.ntmps44
  go_wp2_with (simp only [key])
  go_ret
  exact ⟨rfl, rfl⟩
theorem tz64_low (x : Nat) (hx : x < 18446744073709551616) (w : World) (hT : Tab w) (hx0 : x ≠ 0) : ∃ k m : Nat, k < 64 ∧ x = 2 ^ k * (2 * m + 1) ∧
    Calls Tryd.prog 44 #[.int .u64 x] w fun e w' => e = .returned (.int .i64 (k : Int)) ∧ w' = w := by
  obtain ⟨hlow, hk⟩ := Lib.lowest_bit 64 x hx0 hx
  obtain ⟨hi, htab⟩ := Lib.deBruijn64_at _ hk
  have hcell := hT _ hi
  rw [htab] at hcell
  obtain ⟨m, hm, _⟩ := Lib.ctzFrom_spec 64 x (by omega) hx
  have e : Lib.ctz 64 x = Lib.ctzFrom 64 x := by simp [Lib.ctz, hx0]
  exact ⟨Lib.ctz 64 x, m, hk, by rw [e]; exact hm, tz64_core x _ _ w (by simp; omega) (tz64_key x _ hx hx0 hlow) hi hk hcell⟩
attribute [local go_sem] Oper.semAt_some
theorem Kbk.set {W : World} {b i : Nat} {cs : Array Value} {t : TypeId} (h : W.heap[b]? = some (.cells cs t)) (h1 : t ≠ 113) (h2 : t ≠ 75) (v : Value) : Kbk W (W.setCell ⟨b, i, none⟩ v) := fun k cs' t' e ht => by
  refine (Below.heap_setCell _ _ _ k fun e2 => ?_).trans e
  have e3 : k = b := e2
  rw [e3, h] at e
  cases e
  rcases ht with ht | ht
  · exact h1 ht
  exact h2 ht
theorem blk_own {W W' : World} {row : Option Nat} {b B : Nat} {cs : Array Value} {t : TypeId} (h : W.heap[b]? = some (.cells cs t)) (hg : W.grownBy W' row) (hr : ∀ r, row = some r → B ≤ r ∧ ∃ o : Obj, W.heap[r]? = some o ∧ o.isCells = false) : W'.heap[b]? = some (.cells cs t) := by
  refine (hg.block b (Array.getElem?_eq_some_iff.1 h).1 fun e => ?_).trans h
  obtain ⟨o, ho, hc⟩ := (hr b e.symm).2
  rw [h] at ho
  cases ho
  cases hc
def Least (S : Nat → Prop) (m : Nat) : Prop := S m ∧ ∀ i, S i → m ≤ i
theorem word_least {S : Nat → Prop} {m k x q z : Nat} (hm : Least S m) (hx : Wd (Lv S k) (m / 64 ^ (k + 1)) x) (hq : q < 64) (e : x = 2 ^ q * (2 * z + 1)) : m / 64 ^ (k + 1) * 64 + q = m / 64 ^ k := by
  obtain ⟨⟨i, h1, h2⟩, h3⟩ := hx.low hq e
  have h4 := hm.2 i h1
  have h5 : m / 64 ^ k ≤ i / 64 ^ k := Nat.div_le_div_right h4
  have h6 := div_succ m k
  have h7 : m / 64 ^ k % 64 < q ∨ q ≤ m / 64 ^ k % 64 := by omega
  rcases h7 with h7 | h7
  · exact absurd ⟨m, hm.1, by omega⟩ (h3 _ h7)
  omega
theorem word_some {S : Nat → Prop} {m k x : Nat} (hm : Least S m) (hx : Wd (Lv S k) (m / 64 ^ (k + 1)) x) : x ≠ 0 := fun e => by
  have h6 := div_succ m k
  exact hx.zero.1 e (m / 64 ^ k % 64) (by omega) ⟨m, hm.1, by omega⟩
def a1 (a : Act) (p1 p2 q : Nat) (v1 v2 : Value) : Act := { tmps := ((a.tmps.setIfInBounds p1 v1).setIfInBounds p2 v2).setIfInBounds q v2, defers := [] }
theorem range_second {g : Operand} {assign body : Code} {Q : Exit → Act → World → Prop} {a : Act} {w : World} (p1 p2 q : Nat)
    {gf : Nat} {lb : Array Value} (hg : a.eval g = .func (.func gf) #[] lb) (eg : ∀ args w, (callFunc gf args).run Tryd.prog w = .ok (.enter gf args) w)
    {e1 e2 : Nat → Value} {Kp : World → World → Prop} {N : Nat} (hseq : SeqAt Fence.wide 8 Tryd.prog gf lb (fun k => #[e1 k, e2 k]) Kp N w)
    (hKt : ∀ {A B C : World}, Kp A B → Kp B C → Kp A C) (hKb : ∀ (W : World) (l : Nat) (o o' : Obj), w.heap.size ≤ l → W.heap[l]? = some o → o.isCells = false → o.isWalk = false → Kp W (W.putObj l o'))
    (I : Nat → World → Prop) (Ix : Code → Unit → World → Prop) (hI : OwnFrom w.heap.size I) (hIx : ∀ c, OwnFrom w.heap.size (Ix c)) (h0 : I 0 w)
    (hassign : ∀ (l k : Nat) (W : World) (K : Act → World → Prop), k < N → K (a1 a p1 p2 q (e1 k) (e2 k)) W →
      assign.wpIn (Fence.wide.inRound l) (9 - 1 - 1) Tryd.prog (Exit.then K (fun _ _ _ => False)) { tmps := (#[p1, p2].zip #[e1 k, e2 k]).foldl (fun t (p, v) => t.setIfInBounds p v) a.tmps, defers := [] } W)
    (hbody : ∀ (l k : Nat) (W : World), k < N → I k W → body.wpIn (Fence.wide.inRound l) (9 - 1 - 1) Tryd.prog (ownPostG w.heap.size Kp (fun _ => I (k + 1)) (fun c _ => Ix c ()) ([] : List Unit) W) (a1 a p1 p2 q (e1 k) (e2 k)) W)
    (hdone : ∀ (D : Nat) (W : World), w.heap.size ≤ D → I N W → W.heap[D]? = some (.deferred (some [])) → Q .normal { a with defers := { target := .collected D, args := #[] } :: a.defers } W)
    (hstop : ∀ (D : Nat) (c : Code) (W : World), w.heap.size ≤ D → Ix c () W → W.heap[D]? = some (.deferred (some [])) → c.wpIn Fence.wide 9 Tryd.prog Q { a with defers := { target := .collected D, args := #[] } :: a.defers } W) :
    (Code.rangeFunc g #[p1, p2] assign body).wpIn Fence.wide 9 Tryd.prog Q a w :=
  range_known rfl (by omega) hg trivial eg hseq hKt hKb (Below.refl _ _) (fun _ => rfl) I Ix hI hIx h0 _ hassign hbody hdone hstop
set_option maxHeartbeats 4000000 in
theorem least_yes (w : World) (b L cap : Nat) (G : Nat → Nat) (n lb m : Nat) (S : Nat → Prop) (h : NmX w b L cap G n (Lv S) lb) (hT : Tab w) (hm : Least S m) (hmn : m < n) :
    Calls Tryd.prog 30 #[.slice (some ⟨b, 0, none⟩) L cap] w fun e w' => e = .returned (.tuple #[.int .i64 (m : Int), .bool true]) ∧ Below w.heap.size w w' := by
  have hle := h.le
  have hlim := h.lim
  have hone := h.one
  have hn := h.nlim.2
  obtain ⟨W1, hW1⟩ : ∃ W1, W1 = ((w.alloc (.cells #[.int .i64 0] 3)).alloc (.cells #[.bool false] 4)).alloc (.cells #[.slice (some ⟨b, 0, none⟩) L cap] 75) := ⟨_, rfl⟩
  obtain ⟨z, ez⟩ : ∃ z, z = w.heap.size := ⟨_, rfl⟩
  have B1 : Below w.heap.size w W1 := by rw [hW1]; exact (((Below.refl _ w).alloc (Nat.le_refl _) _).alloc (by simp) _).alloc (by simp; omega) _
  have s1 : W1.heap.size = z + 3 := by rw [hW1, ez]; simp
  have k0 : W1.heap[z]? = some (.cells #[.int .i64 0] 3) := by
    rw [hW1, ez]
    exact (Below.heap_alloc _ _ _ (by simp; omega)).trans ((Below.heap_alloc _ _ _ (by simp)).trans (MapKept.heap_alloc _ _).1)
  have k1 : W1.heap[z + 1]? = some (.cells #[.bool false] 4) := by
    rw [hW1, ez]
    refine (Below.heap_alloc _ _ _ (by simp)).trans ?_
    have := (MapKept.heap_alloc (w.alloc (.cells #[.int .i64 0] 3)) (.cells #[.bool false] 4)).1
    simpa using this
  have k2 : W1.heap[z + 2]? = some (.cells #[.slice (some ⟨b, 0, none⟩) L cap] 75) := by
    rw [hW1, ez]
    have := (MapKept.heap_alloc ((w.alloc (.cells #[.int .i64 0] 3)).alloc (.cells #[.bool false] 4)) (.cells #[.slice (some ⟨b, 0, none⟩) L cap] 75)).1
    simpa using this
  have h' : NmX W1 b L cap G n (Lv S) lb := h.kept fun k cs t e _ => B1.block _ (Array.getElem?_eq_some_iff.1 e).1
  have hmL : m / 64 ^ L = 0 := by have := cl_lt hmn L; rw [h.last] at this; exact Nat.lt_one_iff.1 this
  have HH : Hid (NmX W1 b L cap G n (Lv S) lb ∧ Tab W1 ∧ Least S m ∧ Below w.heap.size w W1 ∧ W1.heap.size = z + 3 ∧ W1.heap[z]? = some (.cells #[.int .i64 0] 3) ∧ W1.heap[z + 1]? = some (.cells #[.bool false] 4) ∧ W1.heap[z + 2]? = some (.cells #[.slice (some ⟨b, 0, none⟩) L cap] 75) ∧ m / 64 ^ L = 0 ∧ z = w.heap.size) := ⟨h', hT.go B1, hm, B1, s1, k0, k1, k2, hmL, ez⟩
  have HW : Hid (((w.alloc (.cells #[.int .i64 0] 3)).alloc (.cells #[.bool false] 4)).alloc (.cells #[.slice (some ⟨b, 0, none⟩) L cap] 75) = W1 ∧ w.heap.size = z) := ⟨hW1.symm, ez.symm⟩
  have HN : Hid (NmX w b L cap G n (Lv S) lb) := h
  have HT : Hid (Tab w) := hT
  clear h hT hm B1 s1 k0 k1 k2 h' hmL hW1 ez
  refine (callsIn_wide (n := 9)).1 ?_
  refine callsIn_of_wp_marks Tryd.func30 rfl trivial ?_ rfl
  simp only [Tryd.ntmps30, List.size_toArray, List.length_cons, List.length_nil, Nat.reduceAdd, Nat.reduceSub, Array.replicate_succ, Array.replicate_zero, List.push_toArray, List.append_toArray, List.nil_append, List.cons_append]
  gi_wp2_with fail
  refine ⟨trivial, ?_⟩
  refine (callsIn_wide.2 (backward_any _ ⟨_, _, _, rfl⟩ _)).mono ?_
  rintro e w5 ⟨rfl, e5⟩
  rw [HW.out.1] at e5
  subst e5
  have ez2 : ((w.alloc (.cells #[.int .i64 0] 3)).alloc (.cells #[.bool false] 4)).heap.size = z + 2 := by rw [← HW.out.2]; simp
  rw [ez2, HW.out.2]
  clear ez2
  gi_wp2_with fail
  refine range_second 8 9 5 (gf := 53) (lb := #[.pointer (some ⟨z + 2, 0, none⟩)]) rfl (enters_of Tryd.func53 (by kernel_rfl) rfl)
    (back_at 8 (by omega) (z + 2) b L cap G n lb (Lv S) w5 HH.out.1 HH.out.2.2.2.2.2.2.2.1) (fun h k => h.trans k) (fun W l o o' _ h1 h2 _ => Kbk.putObj W l o o' h1 h2)
    (fun k W => W.heap[z]? = some (.cells #[.int .i64 ((m / 64 ^ (L - k) : Nat) : Int)] 3) ∧ W.heap[z + 1]? = some (.cells #[.bool false] 4) ∧ Below w.heap.size w W)
    (fun _ _ _ => False)
    (OwnFrom.and (fun s A B row hs hg hr => blk_own hs hg hr) (OwnFrom.and (fun s A B row hs hg hr => blk_own hs hg hr) (ownFrom_below (by have := HH.out.2.2.2.2.1; have := HH.out.2.2.2.2.2.2.2.2.2; omega) (by have := HH.out.2.2.2.2.1; have := HH.out.2.2.2.2.2.2.2.2.2; omega))))
    (fun _ _ _ _ _ hs _ _ => hs)
    ⟨by rw [Nat.sub_zero, HH.out.2.2.2.2.2.2.2.2.1]; exact HH.out.2.2.2.2.2.1, HH.out.2.2.2.2.2.2.1, HH.out.2.2.2.1⟩ ?assign ?body ?done ?stop
  case assign =>
    intro l k W K hk hK
    simp only [a1, List.setIfInBounds_toArray, List.set_cons_zero, List.set_cons_succ] at hK
    gi_wp2_with fail
    exact hK
  case body =>
    rintro l k W hk ⟨q0, q1, qB⟩
    simp only [a1, List.setIfInBounds_toArray, List.set_cons_zero, List.set_cons_succ]
    obtain ⟨x, ex⟩ : ∃ x, x = L - 1 - k := ⟨_, rfl⟩
    have hxL : x < L := by omega
    have eLk : L - k = x + 1 := by omega
    have eLk1 : L - (k + 1) = x := by omega
    rw [← ex]
    unfold rowV
    rw [eLk] at q0
    obtain ⟨i, ei⟩ : ∃ i, i = m / 64 ^ (x + 1) := ⟨_, rfl⟩
    have HNm : NmX W b L cap G n (Lv S) lb := HN.out.kept fun k cs t e _ => qB.block _ (Array.getElem?_eq_some_iff.1 e).1
    have hic : i < cl n (x + 1) := by rw [ei]; exact cl_lt hmn (x + 1)
    obtain ⟨v, cv, _, hv⟩ := HNm.cword hxL hic
    have hTW : Tab W := HT.out.go qB
    have hv0 : v ≠ 0 := word_some HH.out.2.2.1 (by rw [← ei]; exact hv)
    obtain ⟨q, u, hq, eq, hcall⟩ := tz64_low v hv.1 W hTW hv0
    have hcalls : Hid (∀ W', (W' = W ∨ W' = W.drew) → Calls Tryd.prog 44 #[.int .u64 (v : Int)] W' fun e w' => e = .returned (.int .i64 (q : Int)) ∧ w' = W') := by
      intro W' hW'
      rcases hW' with rfl | rfl
      · exact hcall
      obtain ⟨q', u', hq', eq', hcall'⟩ := tz64_low v hv.1 W.drew (hTW.go ⟨rfl, rfl, rfl, Nat.le_refl _, fun _ _ => rfl⟩) hv0
      have e1 := word_least HH.out.2.2.1 (by rw [← ei]; exact hv) hq eq
      have e2 := word_least HH.out.2.2.1 (by rw [← ei]; exact hv) hq' eq'
      have : q' = q := by omega
      subst this
      exact hcall'
    have HI : Hid (i * 64 + q = m / 64 ^ x) := by rw [ei]; exact word_least HH.out.2.2.1 (by rw [← ei]; exact hv) hq eq
    rw [← ei] at q0
    have c0 : W.cell? ⟨z, 0, none⟩ = some (.int .i64 (i : Int)) := by simp [World.cell?, q0]
    have f0 : W.frozen? ⟨z, 0, none⟩ = false := by simp [World.frozen?, q0]
    have hcl : cl n (x + 1) ≤ 65536 := cl_le hn _
    obtain ⟨ln, eln⟩ : ∃ ln, ln = cl n (x + 1) := ⟨_, rfl⟩
    obtain ⟨Gx, eG⟩ : ∃ Gx, Gx = G x := ⟨_, rfl⟩
    rw [← eln] at hic hcl ⊢
    rw [← eG] at cv ⊢
    have w1 : IntKind.i64.wrap ((i : Int) * 64) = (i : Int) * 64 := by rw [IntKind.wrap_i64]; omega
    have w2 : IntKind.i64.wrap ((i : Int) * 64 + (q : Int)) = (i : Int) * 64 + (q : Int) := by rw [IntKind.wrap_i64]; omega
    have hvz : ((v : Int) == 0) = false := by simp [hv0]
    have HQ : Hid (W.heap[z]? = some (.cells #[.int .i64 (i : Int)] 3) ∧ W.heap[z + 1]? = some (.cells #[.bool false] 4) ∧ Below w.heap.size w W ∧ L - (k + 1) = x) := ⟨q0, q1, qB, eLk1⟩
    have FIN : Hid (KeepsFrom w5.heap.size W (W.setCell ⟨z, 0, none⟩ (.int .i64 ((i : Int) * 64 + (q : Int)))).drew ∧ Kbk W (W.setCell ⟨z, 0, none⟩ (.int .i64 ((i : Int) * 64 + (q : Int)))).drew ∧ (W.setCell ⟨z, 0, none⟩ (.int .i64 ((i : Int) * 64 + (q : Int)))).drew.heap[z]? = some (.cells #[.int .i64 ((m / 64 ^ (L - (k + 1)) : Nat) : Int)] 3) ∧ (W.setCell ⟨z, 0, none⟩ (.int .i64 ((i : Int) * 64 + (q : Int)))).drew.heap[z + 1]? = some (.cells #[.bool false] 4) ∧ Below w.heap.size w (W.setCell ⟨z, 0, none⟩ (.int .i64 ((i : Int) * 64 + (q : Int)))).drew) := by
      refine ⟨((KeepsOthers.setCell _ _ _).trans (KeepsOthers.drew _)).from _, Kbk.set q0 (by decide) (by decide) _, ?_, (Below.heap_setCell _ _ _ _ (show z + 1 ≠ z by omega)).trans q1, bel_drew (qB.setCell (p := ⟨z, 0, none⟩) (by have := HH.out.2.2.2.2.2.2.2.2.2; show _ ≤ z; omega) _)⟩
      have e1 := heap_setCell_same W z 0 _ _ (.int .i64 ((i : Int) * 64 + (q : Int))) q0
      rw [eLk1, ← HI.out, show ((i * 64 + q : Nat) : Int) = (i : Int) * 64 + (q : Int) by omega]
      exact e1
    clear q0 q1 qB ex eLk eLk1 ei HNm hv hTW hcall eq eln eG
    gi_wp2_with fail
    gi_region_with (first | (refine ⟨trivial, ?_⟩; refine (callsIn_wide.2 (hcalls.out _ (by first | exact .inl rfl | exact .inr rfl))).mono ?_; rintro e w8 ⟨rfl, rfl⟩))
    all_goals exact FIN.out
  case done =>
    rintro D W hD ⟨q0, q1, qB⟩ hK
    rw [Nat.sub_self, Nat.pow_zero, Nat.div_one] at q0
    have c0 : W.cell? ⟨z, 0, none⟩ = some (.int .i64 (m : Int)) := by simp [World.cell?, q0]
    have c1 : W.cell? ⟨z + 1, 0, none⟩ = some (.bool false) := by simp [World.cell?, q1]
    have f0 : W.frozen? ⟨z, 0, none⟩ = false := by simp [World.frozen?, q0]
    have f1 : W.frozen? ⟨z + 1, 0, none⟩ = false := by simp [World.frozen?, q1]
    have HQ : Hid (Below w.heap.size w W ∧ z = w.heap.size ∧ w5.heap.size = z + 3) := ⟨qB, HH.out.2.2.2.2.2.2.2.2.2, HH.out.2.2.2.2.1⟩
    have HK : Hid (W.heap[D]? = some (.deferred (some [])) ∧ w5.heap.size ≤ D) := ⟨hK, hD⟩
    have FIN : Hid (∃ W8, W8 = (W.setCell ⟨z, 0, none⟩ (.int .i64 (m : Int))).setCell ⟨z + 1, 0, none⟩ (.bool true) ∧ W8.heap[D]? = some (.deferred (some [])) ∧ Below w.heap.size w W8 ∧ (W8.putObj D (.deferred none)).cell? ⟨z, 0, none⟩ = some (.int .i64 (m : Int)) ∧ (W8.putObj D (.deferred none)).cell? ⟨z + 1, 0, none⟩ = some (.bool true)) := by
      have nD : D ≠ z ∧ D ≠ z + 1 := by have := HQ.out.2.2; omega
      refine ⟨_, rfl, ?_, ?_, ?_, ?_⟩
      · exact (Below.heap_setCell _ _ _ _ nD.2).trans ((Below.heap_setCell _ _ _ _ nD.1).trans hK)
      · exact (qB.setCell (p := ⟨z, 0, none⟩) (by have := HQ.out.2.1; show _ ≤ z; omega) _).setCell (p := ⟨z + 1, 0, none⟩) (by have := HQ.out.2.1; show _ ≤ z + 1; omega) _
      · rw [World.cell?_of_block (World.putObj_heap_other (Ne.symm nD.1))]
        simp [go_sem, c0]
      rw [World.cell?_of_block (World.putObj_heap_other (Ne.symm nD.2))]
      simp [go_sem, c1]
    clear q0 q1 qB hK hD
    gi_wp2_with fail
    obtain ⟨W8, e8, hK8, B8, r0, r1⟩ := FIN.out
    rw [← e8]
    clear e8 FIN c0 c1 f0 f1
    refine ⟨by simp, .inl ⟨_, _, rfl, run_takeDeferred hK8, ?_⟩⟩
    refine ⟨.tuple #[.int .i64 (m : Int), .bool true], by simp [results, Tryd.results30, go_sem, r0, r1], rfl, B8.trans (belowK_b (w := w) (Nat.le_refl _) W8 D _ _ (by have := HK.out.2; have := HQ.out.2; omega) hK8 rfl rfl)⟩
  case stop =>
    rintro D c W _ h _
    exact h.elim
set_option maxHeartbeats 4000000 in
theorem least_no (w : World) (b L cap : Nat) (G : Nat → Nat) (n lb : Nat) (S : Nat → Prop) (h : NmX w b L cap G n (Lv S) lb) (hm : ∀ i, ¬ S i) :
    Calls Tryd.prog 30 #[.slice (some ⟨b, 0, none⟩) L cap] w fun e w' => e = .returned (.tuple #[.int .i64 0, .bool false]) ∧ Below w.heap.size w w' := by
  have hle := h.le
  have hlim := h.lim
  have hone := h.one
  have hn := h.nlim.2
  obtain ⟨W1, hW1⟩ : ∃ W1, W1 = ((w.alloc (.cells #[.int .i64 0] 3)).alloc (.cells #[.bool false] 4)).alloc (.cells #[.slice (some ⟨b, 0, none⟩) L cap] 75) := ⟨_, rfl⟩
  obtain ⟨z, ez⟩ : ∃ z, z = w.heap.size := ⟨_, rfl⟩
  have B1 : Below w.heap.size w W1 := by rw [hW1]; exact (((Below.refl _ w).alloc (Nat.le_refl _) _).alloc (by simp) _).alloc (by simp; omega) _
  have s1 : W1.heap.size = z + 3 := by rw [hW1, ez]; simp
  have k0 : W1.heap[z]? = some (.cells #[.int .i64 0] 3) := by
    rw [hW1, ez]
    exact (Below.heap_alloc _ _ _ (by simp; omega)).trans ((Below.heap_alloc _ _ _ (by simp)).trans (MapKept.heap_alloc _ _).1)
  have k1 : W1.heap[z + 1]? = some (.cells #[.bool false] 4) := by
    rw [hW1, ez]
    refine (Below.heap_alloc _ _ _ (by simp)).trans ?_
    have := (MapKept.heap_alloc (w.alloc (.cells #[.int .i64 0] 3)) (.cells #[.bool false] 4)).1
    simpa using this
  have k2 : W1.heap[z + 2]? = some (.cells #[.slice (some ⟨b, 0, none⟩) L cap] 75) := by
    rw [hW1, ez]
    have := (MapKept.heap_alloc ((w.alloc (.cells #[.int .i64 0] 3)).alloc (.cells #[.bool false] 4)) (.cells #[.slice (some ⟨b, 0, none⟩) L cap] 75)).1
    simpa using this
  have h' : NmX W1 b L cap G n (Lv S) lb := h.kept fun k cs t e _ => B1.block _ (Array.getElem?_eq_some_iff.1 e).1
  have HH : Hid (NmX W1 b L cap G n (Lv S) lb ∧ True ∧ (∀ i, ¬ S i) ∧ Below w.heap.size w W1 ∧ W1.heap.size = z + 3 ∧ W1.heap[z]? = some (.cells #[.int .i64 0] 3) ∧ W1.heap[z + 1]? = some (.cells #[.bool false] 4) ∧ W1.heap[z + 2]? = some (.cells #[.slice (some ⟨b, 0, none⟩) L cap] 75) ∧ cl n L = 1 ∧ z = w.heap.size) := ⟨h', trivial, hm, B1, s1, k0, k1, k2, h.last, ez⟩
  have HW : Hid (((w.alloc (.cells #[.int .i64 0] 3)).alloc (.cells #[.bool false] 4)).alloc (.cells #[.slice (some ⟨b, 0, none⟩) L cap] 75) = W1 ∧ w.heap.size = z) := ⟨hW1.symm, ez.symm⟩
  have HN : Hid (NmX w b L cap G n (Lv S) lb) := h
  clear h hm B1 s1 k0 k1 k2 h' hW1 ez
  refine (callsIn_wide (n := 9)).1 ?_
  refine callsIn_of_wp_marks Tryd.func30 rfl trivial ?_ rfl
  simp only [Tryd.ntmps30, List.size_toArray, List.length_cons, List.length_nil, Nat.reduceAdd, Nat.reduceSub, Array.replicate_succ, Array.replicate_zero, List.push_toArray, List.append_toArray, List.nil_append, List.cons_append]
  gi_wp2_with fail
  refine ⟨trivial, ?_⟩
  refine (callsIn_wide.2 (backward_any _ ⟨_, _, _, rfl⟩ _)).mono ?_
  rintro e w5 ⟨rfl, e5⟩
  rw [HW.out.1] at e5
  subst e5
  have ez2 : ((w.alloc (.cells #[.int .i64 0] 3)).alloc (.cells #[.bool false] 4)).heap.size = z + 2 := by rw [← HW.out.2]; simp
  rw [ez2, HW.out.2]
  clear ez2
  gi_wp2_with fail
  refine range_second 8 9 5 (gf := 53) (lb := #[.pointer (some ⟨z + 2, 0, none⟩)]) rfl (enters_of Tryd.func53 (by kernel_rfl) rfl)
    (back_at 8 (by omega) (z + 2) b L cap G n lb (Lv S) w5 HH.out.1 HH.out.2.2.2.2.2.2.2.1) (fun h k => h.trans k) (fun W l o o' _ h1 h2 _ => Kbk.putObj W l o o' h1 h2)
    (fun k W => k = 0 ∧ W.heap[z]? = some (.cells #[.int .i64 0] 3) ∧ W.heap[z + 1]? = some (.cells #[.bool false] 4) ∧ Below w.heap.size w W)
    (fun c _ W => c = .ret ∧ W.heap[z]? = some (.cells #[.int .i64 0] 3) ∧ W.heap[z + 1]? = some (.cells #[.bool false] 4) ∧ Below w.heap.size w W)
    (OwnFrom.and (fun s A B row hs hg hr => hs) (OwnFrom.and (fun s A B row hs hg hr => blk_own hs hg hr) (OwnFrom.and (fun s A B row hs hg hr => blk_own hs hg hr) (ownFrom_below (by have := HH.out.2.2.2.2.1; have := HH.out.2.2.2.2.2.2.2.2.2; omega) (by have := HH.out.2.2.2.2.1; have := HH.out.2.2.2.2.2.2.2.2.2; omega)))))
    (fun c => OwnFrom.and (fun s A B row hs hg hr => hs) (OwnFrom.and (fun s A B row hs hg hr => blk_own hs hg hr) (OwnFrom.and (fun s A B row hs hg hr => blk_own hs hg hr) (ownFrom_below (by have := HH.out.2.2.2.2.1; have := HH.out.2.2.2.2.2.2.2.2.2; omega) (by have := HH.out.2.2.2.2.1; have := HH.out.2.2.2.2.2.2.2.2.2; omega)))))
    ⟨rfl, HH.out.2.2.2.2.2.1, HH.out.2.2.2.2.2.2.1, HH.out.2.2.2.1⟩ ?assign ?body ?done ?stop
  case assign =>
    intro l k W K hk hK
    simp only [a1, List.setIfInBounds_toArray, List.set_cons_zero, List.set_cons_succ] at hK
    gi_wp2_with fail
    exact hK
  case body =>
    rintro l k W hk ⟨rfl, q0, q1, qB⟩
    simp only [a1, List.setIfInBounds_toArray, List.set_cons_zero, List.set_cons_succ]
    obtain ⟨x, ex⟩ : ∃ x, x = L - 1 - 0 := ⟨_, rfl⟩
    have hxL : x < L := by omega
    rw [← ex]
    unfold rowV
    have HNm : NmX W b L cap G n (Lv S) lb := HN.out.kept fun k cs t e _ => qB.block _ (Array.getElem?_eq_some_iff.1 e).1
    have ecl : cl n (x + 1) = 1 := by rw [show x + 1 = L by omega]; exact HH.out.2.2.2.2.2.2.2.2.1
    obtain ⟨v, cv, _, hv⟩ := HNm.cword hxL (j := 0) (by rw [ecl]; omega)
    have hv0 : v = 0 := hv.zero.2 fun b _ ⟨i, hi, _⟩ => HH.out.2.2.1 i hi
    subst hv0
    have c0 : W.cell? ⟨z, 0, none⟩ = some (.int .i64 0) := by simp [World.cell?, q0]
    have f0 : W.frozen? ⟨z, 0, none⟩ = false := by simp [World.frozen?, q0]
    have c1 : W.cell? ⟨z + 1, 0, none⟩ = some (.bool false) := by simp [World.cell?, q1]
    have f1 : W.frozen? ⟨z + 1, 0, none⟩ = false := by simp [World.frozen?, q1]
    have FIN : Hid (KeepsFrom w5.heap.size W ((W.setCell ⟨z, 0, none⟩ (.int .i64 0)).setCell ⟨z + 1, 0, none⟩ (.bool false)) ∧ Code.ret = .ret ∧ ((W.setCell ⟨z, 0, none⟩ (.int .i64 0)).setCell ⟨z + 1, 0, none⟩ (.bool false)).heap[z]? = some (.cells #[.int .i64 0] 3) ∧ ((W.setCell ⟨z, 0, none⟩ (.int .i64 0)).setCell ⟨z + 1, 0, none⟩ (.bool false)).heap[z + 1]? = some (.cells #[.bool false] 4) ∧ Below w.heap.size w ((W.setCell ⟨z, 0, none⟩ (.int .i64 0)).setCell ⟨z + 1, 0, none⟩ (.bool false))) := by
      refine ⟨((KeepsOthers.setCell _ _ _).trans (KeepsOthers.setCell _ _ _)).from _, rfl, (Below.heap_setCell _ _ _ _ (show z ≠ z + 1 by omega)).trans (heap_setCell_same W z 0 _ _ _ q0), heap_setCell_same _ (z + 1) 0 _ _ _ ((Below.heap_setCell _ _ _ _ (show z + 1 ≠ z by omega)).trans q1), ?_⟩
      exact (qB.setCell (p := ⟨z, 0, none⟩) (by have := HH.out.2.2.2.2.2.2.2.2.2; show _ ≤ z; omega) _).setCell (p := ⟨z + 1, 0, none⟩) (by have := HH.out.2.2.2.2.2.2.2.2.2; show _ ≤ z + 1; omega) _
    obtain ⟨Gx, eG⟩ : ∃ Gx, Gx = G x := ⟨_, rfl⟩
    rw [← eG] at cv ⊢
    rw [ecl]
    have cv' : W.cell? ⟨Gx, 0, none⟩ = some (.int .u64 0) := cv
    clear q0 q1 qB ex HNm hv cv eG ecl
    gi_wp2_with fail
    exact ⟨FIN.out.1, rfl, FIN.out.2.2⟩
  case done =>
    rintro D W hD ⟨e, _⟩ _
    omega
  case stop =>
    rintro D c W hD ⟨rfl, q0, q1, qB⟩ hK
    have c0 : W.cell? ⟨z, 0, none⟩ = some (.int .i64 0) := by simp [World.cell?, q0]
    have c1 : W.cell? ⟨z + 1, 0, none⟩ = some (.bool false) := by simp [World.cell?, q1]
    have HQ : Hid (Below w.heap.size w W ∧ z = w.heap.size ∧ w5.heap.size = z + 3 ∧ W.heap[D]? = some (.deferred (some [])) ∧ w5.heap.size ≤ D) := ⟨qB, HH.out.2.2.2.2.2.2.2.2.2, HH.out.2.2.2.2.1, hK, hD⟩
    have nD : D ≠ z ∧ D ≠ z + 1 := by have := HQ.out.2.2; omega
    have r0 : (W.putObj D (.deferred none)).cell? ⟨z, 0, none⟩ = some (.int .i64 0) := by rw [World.cell?_of_block (World.putObj_heap_other (Ne.symm nD.1))]; exact c0
    have r1 : (W.putObj D (.deferred none)).cell? ⟨z + 1, 0, none⟩ = some (.bool false) := by rw [World.cell?_of_block (World.putObj_heap_other (Ne.symm nD.2))]; exact c1
    clear q0 q1 qB hK hD c0 c1 nD
    gi_wp2_with fail
    refine ⟨by simp, .inl ⟨_, _, rfl, run_takeDeferred HQ.out.2.2.2.1, ?_⟩⟩
    refine ⟨.tuple #[.int .i64 0, .bool false], by simp [results, Tryd.results30, go_sem, r0, r1], rfl, HQ.out.1.trans (belowK_b (w := w) (Nat.le_refl _) W D _ _ (by have := HQ.out.2; omega) HQ.out.2.2.2.1 rfl rfl)⟩
end Go.Proofs.YtdobjanhmllloaaDoor
