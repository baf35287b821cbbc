/- Contracts of the program's functions, part 13: own work, joined in build order. -/
import Derived.Test.YtdobjanhmllloaaDoorJ12
import Derived.Maps.OwnIn
namespace Go.Proofs.YtdobjanhmllloaaDoor
open Go.RowKit
set_option maxRecDepth 100000
set_option linter.unusedVariables false
def hcs6 (gs : List (Int × Int)) : List Value := gs.flatMap fun g => [.int .i64 g.1, .int .i64 g.2]
theorem hcs6_snoc (gs : List (Int × Int)) (g : Int × Int) : hcs6 (gs ++ [g]) = hcs6 gs ++ [.int .i64 g.1, .int .i64 g.2] := by simp [hcs6]
theorem hcs6_at : ∀ (gs : List (Int × Int)) (k : Nat), k < gs.length → (hcs6 gs)[k * 2]? = some (.int .i64 (gs.getD k (0, 0)).1) ∧ (hcs6 gs)[k * 2 + 1]? = some (.int .i64 (gs.getD k (0, 0)).2)
  | [], k, h => by cases h
  | g :: gs, 0, _ => ⟨rfl, rfl⟩
  | g :: gs, k + 1, h => by
    have ih := hcs6_at gs k (by simpa using h)
    rw [show (k + 1) * 2 = k * 2 + 1 + 1 by omega]
    exact ih
def Hw (base : Nat) (W : World) (v : Value) (gs : List (Int × Int)) : Prop := W.ownsRow base 38 2 v gs.length (hcs6 gs)
theorem Hw.nil (base : Nat) (W : World) : Hw base W (.slice none 0 0) [] := ⟨rfl, .inl ⟨rfl, rfl⟩⟩
theorem Hw.own {base : Nat} {W : World} {v : Value} {L : List (Int × Int)} (h : Hw base W v L) {k : Nat} (hk : v.ownBlock = some k) : base ≤ k ∧ ∃ cs, W.heap[k]? = some (.cells cs 38) := by
  rcases h.2 with ⟨e, _⟩ | ⟨g, cap', cur, e, hb', hg, _⟩
  · rw [e] at hk
    cases hk
  rw [e] at hk
  cases hk
  exact ⟨hb', cur, hg⟩
theorem Hw.kept {base : Nat} {W W' : World} {v : Value} {L : List (Int × Int)} (h : Hw base W v L) (hk : ∀ k, v.ownBlock = some k → W'.heap[k]? = W.heap[k]?) : Hw base W' v L := by
  refine ⟨h.1, h.2.imp id ?_⟩
  rintro ⟨g, cap, cur, e, hb, hg, rest⟩
  exact ⟨g, cap, cur, e, hb, (hk g (by rw [e]; rfl)).trans hg, rest⟩
theorem Hw.at {base : Nat} {W : World} {v : Value} {gs : List (Int × Int)} (h : Hw base W v gs) : ∃ a cap, v = .slice a gs.length cap ∧ gs.length ≤ cap ∧ cap ≤ 9223372036854775807 ∧ (0 < gs.length → ∃ g, a = some ⟨g, 0, none⟩ ∧ g < W.heap.size ∧ ∀ i, i < gs.length → W.cell? ⟨g, i * 2, none⟩ = some (.int .i64 (gs.getD i (0, 0)).1) ∧ W.cell? ⟨g, i * 2 + 1, none⟩ = some (.int .i64 (gs.getD i (0, 0)).2)) := by
  rcases h.2 with ⟨e, e0⟩ | ⟨g, cap, cur, e, hb', hg, h1, h2, h3, h4⟩
  · exact ⟨none, 0, by rw [e]; congr 1; omega, by omega, by omega, fun h => by omega⟩
  refine ⟨some ⟨g, 0, none⟩, cap, e, h1, by simp only [maxLen] at h2; omega, fun _ => ⟨g, rfl, (Array.getElem?_eq_some_iff.1 hg).1, fun i hi => ?_⟩⟩
  obtain ⟨q0, q1⟩ := hcs6_at gs i hi
  have ee : ∀ q, q < gs.length * 2 → cur[q]? = (hcs6 gs)[q]? := fun q hq => by
    have := congrArg (fun l => l[q]?) h4
    rw [← this, List.getElem?_take_of_lt hq, Array.getElem?_toList]
  simp only [World.cell?, hg]
  rw [← ee _ (by omega)] at q0 q1
  exact ⟨q0, q1⟩
theorem Tryd.infoH6 : (Tryd.prog.info? 38).map (fun i => (i.zero, i.size, i.bytes)) = some (some (.agg #[.int .i64 0, .int .i64 0]), 2, 16) := by kernel_rfl
theorem Bq.grown {W W' : World} {sb lb n : Nat} {last : Int} {xs ys : List (Option Int × Int)} {gw b cap : Nat} {row : Option Nat} (h : Bq W sb lb n last xs ys gw b cap) (hg : W.grownBy W' row) (hr : ∀ k, row = some k → ∃ cs t, W.heap[k]? = some (.cells cs t) ∧ (t = 38 ∨ t = 58)) (hl : ∀ k, row = some k → lb ≤ k) : Bq W' sb lb n last xs ys gw b cap := by
  have ll := h.tb.le
  refine h.kept ⟨hg.os, hg.tape, hg.output, hg.size, fun k hk => hg.block k (by omega) fun e => ?_⟩ fun k cs t e ht => (hg.block k (Array.getElem?_eq_some_iff.1 e).1 fun e2 => ?_).trans e
  · have := hl k e.symm
    omega
  obtain ⟨cs2, t2, e3, e4⟩ := hr k e2.symm
  rw [e] at e3
  cases e3
  rcases e4 with e4 | e4 <;> subst e4 <;> rcases ht with ht | ht | ht
  · rcases ht with ht | ht | ht | ht | ht | ht <;> exact absurd ht (by decide)
  · exact absurd ht (by decide)
  · exact absurd ht (by decide)
  · rcases ht with ht | ht | ht | ht | ht | ht <;> exact absurd ht (by decide)
  · exact absurd ht (by decide)
  exact absurd ht (by decide)
structure Lp6 (w W : World) (sb lb n : Nat) (last : Int) (xs ys : List (Option Int × Int)) (gw b cap : Nat) (gs : List (Int × Int)) (vg vh : Value) (Ds : List Nat) : Prop where
  bq : Bq W sb lb n last xs ys gw b cap
  bel : Below w.heap.size w W
  gv : Hw lb W vg gs
  vh : ∃ hb, vh = .func (.func 28) #[] #[.pointer (some ⟨hb, 0, none⟩)] ∧ Bx W hb 24 (.pointer (some ⟨sb, 0, none⟩))
  ds : Ds.Nodup ∧ ∀ D ∈ Ds, w.heap.size ≤ D ∧ W.heap[D]? = some (.deferred (some []))
  le : w.heap.size ≤ lb
section
variable {w W W' : World} {sb lb n : Nat} {last : Int} {xs ys xs' ys' : List (Option Int × Int)} {gw b cap : Nat} {gs : List (Int × Int)} {vg vh : Value} {Ds : List Nat}
theorem Bq.neb (h : Bq W sb lb n last xs ys gw b cap) {k : Nat} {o : Obj} (e : W.heap[k]? = some o) (hn : ∀ cs, o ≠ .cells cs 92) : k ≠ b := fun e2 => by
  obtain ⟨cs0, e0, _⟩ := h.dr.row
  rw [e2, e0] at e
  cases e
  exact hn _ rfl
theorem Lp6.fv (h : Lp6 w W sb lb n last xs ys gw b cap gs vg vh Ds) (hF : Fv b lb W W') (hq : Bq W' sb lb n last xs' ys' gw b cap) : Lp6 w W' sb lb n last xs' ys' gw b cap gs vg vh Ds := by
  refine ⟨hq, h.bel.trans (hF.bel.mono h.le), h.gv.kept fun k hk => ?_, ?_, ⟨h.ds.1, fun D hD => ⟨(h.ds.2 D hD).1, ?_⟩⟩, h.le⟩
  · obtain ⟨_, cs, e⟩ := h.gv.own hk
    exact (hF.bx e (h.bq.neb e fun cs' e2 => by cases e2) (by unfold isSV; decide)).trans e.symm
  · obtain ⟨hb, e1, e2⟩ := h.vh
    exact ⟨hb, e1, hF.bx e2 (h.bq.neb e2 fun cs' e3 => by cases e3) (by unfold isSV; decide)⟩
  have e := (h.ds.2 D hD).2
  exact hF.oth D _ e (h.bq.neb e fun cs' e3 => by cases e3) fun cs t z e3 => by cases e3
theorem Lp6.below (h : Lp6 w W sb lb n last xs ys gw b cap gs vg vh Ds) (hB : Below W.heap.size W W') : Lp6 w W' sb lb n last xs ys gw b cap gs vg vh Ds := h.fv (Fv.of_below hB h.bq.tb.le) (h.bq.below hB)
theorem Lp6.ft (h : Lp6 w W sb lb n last xs ys gw b cap gs vg vh Ds) (hF : Ft isSV lb W W') (hs : ∃ cnt, SlV W' sb lb n last cnt xs') : Lp6 w W' sb lb n last xs' ys gw b cap gs vg vh Ds := h.fv (Fv.of_ft hF h.bq.tb.le) (h.bq.prog hF hs)
theorem Lp6.od (h : Lp6 w W sb lb n last xs ys gw b cap gs vg vh Ds) (hO : Od b W W') (hd : Dr W' b n (tbT ys')) : Lp6 w W' sb lb n last xs ys' gw b cap gs vg vh Ds := h.fv (Fv.of_od hO h.bq.tb.le h.bq.lo.1) (h.bq.doc hO hd)
theorem Lp6.set (h : Lp6 w W sb lb n last xs ys gw b cap gs vg vh Ds) {x : Nat} {cs0 : Array Value} {t0 : TypeId} (e0 : W.heap[x]? = some (.cells cs0 t0)) (ht : t0 ≠ 24 ∧ ¬ isMV t0 ∧ t0 ≠ 92 ∧ t0 ≠ 30) (hn : ∀ k, vg.ownBlock = some k → k ≠ x) (hl : lb ≤ x) (i : Nat) (v : Value) : Lp6 w (W.setCell ⟨x, i, none⟩ v) sb lb n last xs ys gw b cap gs vg vh Ds := by
  refine ⟨h.bq.set e0 ht.2 hl i v, h.bel.setCell (p := ⟨x, i, none⟩) (Nat.le_trans h.le hl) v, h.gv.kept fun k hk => Below.heap_setCell _ _ _ _ (hn k hk), ?_, ⟨h.ds.1, fun D hD => ⟨(h.ds.2 D hD).1, ?_⟩⟩, h.le⟩
  · obtain ⟨hb, e1, e2⟩ := h.vh
    exact ⟨hb, e1, set_cells e0 i v e2 fun cs' e3 => by cases e3; exact ht.1 rfl⟩
  exact set_cells e0 i v (h.ds.2 D hD).2 fun cs' e3 => by cases e3
theorem Lp6.given {row : Option Nat} {vg' : Value} {g : Int × Int} (h : Lp6 w W sb lb n last xs ys gw b cap gs vg vh Ds) (hg : W.grownBy W' vg.ownBlock) (hw : Hw lb W' vg' (gs ++ [g])) : Lp6 w W' sb lb n last xs ys gw b cap (gs ++ [g]) vg' vh Ds := by
  have ll := h.bq.tb.le
  have hne : ∀ (k : Nat) (o : Obj), W.heap[k]? = some o → (∀ cs, o ≠ .cells cs 38) → W'.heap[k]? = some o := fun k o e hn => by
    refine (hg.block k (Array.getElem?_eq_some_iff.1 e).1 fun e2 => ?_).trans e
    obtain ⟨_, cs, e3⟩ := h.gv.own e2.symm
    rw [e] at e3
    cases e3
    exact hn _ rfl
  refine ⟨h.bq.grown hg (fun k hk => ?_) (fun k hk => (h.gv.own hk).1), h.bel.trans ⟨hg.os, hg.tape, hg.output, hg.size, fun k hk => hg.block k (by have := h.bel.size; omega) fun e2 => ?_⟩, hw, ?_, ⟨h.ds.1, fun D hD => ⟨(h.ds.2 D hD).1, ?_⟩⟩, h.le⟩
  · obtain ⟨_, cs, e3⟩ := h.gv.own hk
    exact ⟨cs, _, e3, .inl rfl⟩
  · have := (h.gv.own e2.symm).1
    have := h.le
    omega
  · obtain ⟨hb, e1, e2⟩ := h.vh
    exact ⟨hb, e1, hne _ _ e2 fun cs e3 => by cases e3⟩
  exact hne _ _ (h.ds.2 D hD).2 fun cs e3 => by cases e3
theorem Lp6.hold (h : Lp6 w W sb lb n last xs ys gw b cap gs vg vh Ds) : Lp6 w (W.alloc (.cells #[.pointer (some ⟨sb, 0, none⟩)] 24)) sb lb n last xs ys gw b cap gs vg (.func (.func 28) #[] #[.pointer (some ⟨W.heap.size, 0, none⟩)]) Ds :=
  { h.below ((Below.refl _ _).alloc (Nat.le_refl _) _) with vh := ⟨W.heap.size, rfl, ax_at _ _⟩ }
theorem Lp6.mark (h : Lp6 w W sb lb n last xs ys gw b cap gs vg vh Ds) {D : Nat} (hD : W.heap[D]? = some (.deferred (some []))) (hl : w.heap.size ≤ D) (hn : D ∉ Ds) : Lp6 w W sb lb n last xs ys gw b cap gs vg vh (D :: Ds) :=
  { h with ds := ⟨List.nodup_cons.2 ⟨hn, h.ds.1⟩, fun E hE => by
      rcases List.mem_cons.1 hE with e | e
      · rw [e]; exact ⟨hl, hD⟩
      exact h.ds.2 E e⟩ }
theorem Lp6.put (h : Lp6 w W sb lb n last xs ys gw b cap gs vg vh Ds) {l : Nat} {o : Obj} (o' : Obj) (h1 : W.heap[l]? = some o) (h2 : o.isCells = false) (hl : lb ≤ l) (hd : ∀ D ∈ Ds, D ≠ l) : Lp6 w (W.putObj l o') sb lb n last xs ys gw b cap gs vg vh Ds := by
  refine ⟨h.bq.put o' h1 h2 hl, below_putC h.bel o' h1 (Nat.le_trans h.le hl), h.gv.kept fun k hk => ?_, ?_, ⟨h.ds.1, fun D hD => ⟨(h.ds.2 D hD).1, (World.putObj_heap_other (hd D hD)).trans (h.ds.2 D hD).2⟩⟩, h.le⟩
  · obtain ⟨_, cs, e⟩ := h.gv.own hk
    exact (put_cells h1 h2 e).trans e.symm
  obtain ⟨hb, e1, e2⟩ := h.vh
  exact ⟨hb, e1, e2.put o' h1 h2⟩
end
section
variable {w W W' : World} {sb lb n : Nat} {last : Int} {xs ys : List (Option Int × Int)} {gw b cap : Nat} {gs : List (Int × Int)} {vg vh : Value} {Ds : List Nat}
theorem Lp6.grown {v : Value} {L : List Pr6} (h : Lp6 w W sb lb n last xs ys gw b cap gs vg vh Ds) (hp : Pw lb W v L) (hg : W.grownBy W' v.ownBlock) : Lp6 w W' sb lb n last xs ys gw b cap gs vg vh Ds := by
  have ll := h.bq.tb.le
  have hne : ∀ (k : Nat) (o : Obj), W.heap[k]? = some o → (∀ cs, o ≠ .cells cs 58) → W'.heap[k]? = some o := fun k o e hn => by
    refine (hg.block k (Array.getElem?_eq_some_iff.1 e).1 fun e2 => ?_).trans e
    obtain ⟨_, cs, e3⟩ := hp.own e2.symm
    rw [e] at e3
    cases e3
    exact hn _ rfl
  refine ⟨h.bq.grown hg (fun k hk => ?_) (fun k hk => (hp.own hk).1), h.bel.trans ⟨hg.os, hg.tape, hg.output, hg.size, fun k hk => hg.block k (by have := h.bel.size; omega) fun e2 => ?_⟩, h.gv.kept fun k hk => ?_, ?_, ⟨h.ds.1, fun D hD => ⟨(h.ds.2 D hD).1, ?_⟩⟩, h.le⟩
  · obtain ⟨_, cs, e3⟩ := hp.own hk
    exact ⟨cs, _, e3, .inr rfl⟩
  · have := (hp.own e2.symm).1
    have := h.le
    omega
  · obtain ⟨_, cs, e⟩ := h.gv.own hk
    exact (hne _ _ e fun cs e3 => by cases e3).trans e.symm
  · obtain ⟨hb, e1, e2⟩ := h.vh
    exact ⟨hb, e1, hne _ _ e2 fun cs e3 => by cases e3⟩
  exact hne _ _ (h.ds.2 D hD).2 fun cs e3 => by cases e3
theorem Ksl.grownP {C base : Nat} {v : Value} {L : List Pr6} (hp : Pw base W v L) (hg : W.grownBy W' v.ownBlock) : Ksl sb C W W' := by
  have hne : ∀ (k : Nat) (o : Obj), W.heap[k]? = some o → (∀ cs, o ≠ .cells cs 58) → W'.heap[k]? = some o := fun k o e hn => by
    refine (hg.block k (Array.getElem?_eq_some_iff.1 e).1 fun e2 => ?_).trans e
    obtain ⟨_, cs, e3⟩ := hp.own e2.symm
    rw [e] at e3
    cases e3
    exact hn _ rfl
  exact ⟨fun r G cs a => a.kept fun k cs t e ht => hne k _ e fun cs' e2 => (by cases e2; rcases ht with ht | ht | ht <;> exact absurd ht (by decide)), fun k cs t e ht => hne k _ e fun cs' e2 => (by cases e2; rcases ht with ht | ht <;> exact absurd ht (by decide)), hg.size, fun k o _ e h1 _ => hne k o e fun cs' e2 => (by subst e2; cases h1)⟩
end
structure SSl (w : World) (a : Option Addr) (n cap : Nat) (F : Nat → Nat → Int) : Prop where
  le : n ≤ cap
  lim : cap ≤ 9223372036854775807
  wf : ∀ i j, i < n → j < 5 → -9223372036854775808 ≤ F i j ∧ F i j ≤ 9223372036854775807
  at' : n = 0 ∨ ∃ b o, a = some ⟨b, o, none⟩ ∧ ∀ i j, i < n → j < 5 → w.cell? ⟨b, o + i * 5 + j, none⟩ = some (.int .i64 (F i j))
def mks6 (Ds : List Nat) : List Deferred := Ds.map fun D => { target := .collected D, args := #[] }
theorem leaves6 {n : Nat} {P : Program} {fn : Func} {tmps : Array Value} {R : Ending → World → Prop} : ∀ (Ds : List Nat) (w : World), Ds.Nodup → (∀ D ∈ Ds, w.heap[D]? = some (.deferred (some []))) →
    (∀ w', (∀ k, k ∉ Ds → w'.heap[k]? = w.heap[k]?) → w'.os = w.os → w'.tape = w.tape → w'.output = w.output → w'.heap.size = w.heap.size → LeavesInM Fence.wide n P fn tmps R [] .returning w') →
    LeavesInM Fence.wide n P fn tmps R (mks6 Ds) .returning w
  | [], w, _, _, h => h w (fun _ _ => rfl) rfl rfl rfl rfl
  | D :: Ds, w, hn, hD, h => by
    have h1 := hD D (by simp)
    refine ⟨by simp, .inl ⟨D, _, rfl, run_takeDeferred h1, ?_⟩⟩
    have hg := grownBy_putObj' w D (.deferred none)
    have hz : (w.putObj D (.deferred none)).heap.size = w.heap.size := by simp [World.putObj]
    refine leaves6 Ds _ (List.nodup_cons.1 hn).2 (fun E hE => ?_) fun w' hk ho ht hp hs => h w' (fun k hk' => ?_) (ho.trans hg.os) (ht.trans hg.tape) (hp.trans hg.output) (hs.trans hz)
    · have hE' := hD E (by simp [hE])
      refine (hg.block E (Array.getElem?_eq_some_iff.1 hE').1 ?_).trans hE'
      intro e
      cases e
      exact (List.nodup_cons.1 hn).1 hE
    have hk2 : k ≠ D ∧ k ∉ Ds := by simpa [not_or] using hk'
    refine (hk k hk2.2).trans ?_
    rcases Nat.lt_or_ge k w.heap.size with hl | hl
    · exact hg.block k hl (fun e => hk2.1 (by injection e))
    rw [Array.getElem?_eq_none (by omega), Array.getElem?_eq_none (by omega)]
end Go.Proofs.YtdobjanhmllloaaDoor
namespace Go.Proofs.YtdobjanhmllloaaDoor
open Go.RowKit
set_option maxRecDepth 100000
set_option linter.unusedVariables false
theorem wp_appH6 {w : World} {ops : Array Oper} {rest : List Oper} {o : Oper} {a : Act} {Q : Exit → Act → World → Prop} (hgd : o.guard = none) (s x : Operand)
    (ho : o.op = .call { callee := .builtin .append, args := #[s, x], argTypes := #[33, 33] }) (base : Nat) (v : Value) (gs : List (Int × Int)) (hs : a.eval s = v) (hown : Hw base w v gs)
    (g : Nat) (y : Int × Int) (hx : a.eval x = .slice (some ⟨g, 0, none⟩) 1 1) (h0 : w.cell? ⟨g, 0, none⟩ = some (.int .i64 y.1)) (h1 : w.cell? ⟨g, 1, none⟩ = some (.int .i64 y.2)) (hlim : gs.length ≤ 1000000) (hb : base ≤ w.heap.size)
    (h : ∀ v' w', Hid (Hw base w' v' (gs ++ [y]) ∧ w.grownBy w' v.ownBlock) → wpList Tryd.prog ops Q rest (a.put o.dst v') w') : wpList Tryd.prog ops Q (o :: rest) a w := by
  obtain ⟨i, hi, hz, hsz, hby⟩ := info_parts Tryd.infoH6
  refine wpList_append_own_at w hgd s x 33 ho base 38 i _ 2 16 Tryd.underlying33 hi hz hsz hby rfl (by omega) v _ _ hs hown ⟨g, 0, none⟩ 1 1 (hcs6 [y]) hx rfl (fun j u hj => by
    rw [ax_add, Nat.zero_add]
    match j, hj with
    | 0, hj => cases hj; exact h0
    | 1, hj => cases hj; exact h1
    | j + 2, hj => simp [hcs6] at hj) (fun u' hu' => by
    simp [hcs6] at hu'
    rcases hu' with rfl | rfl <;> rfl) (by simp only [maxLen]; omega) (by omega) hb ?_
  intro v' w' h2 h3 _ _
  refine h v' w' ⟨?_, h3⟩
  show World.ownsRow _ _ _ _ _ _ _
  rw [List.length_append, hcs6_snoc]
  exact h2
theorem wpi_app6 {F : Fence} {nF : Nat} {w : World} {ops : Array Oper} {rest : List Oper} {o : Oper} {a : Act} {Q : Exit → Act → World → Prop} (hgd : o.guard = none) (s x : Operand)
    (ho : o.op = .call { callee := .builtin .append, args := #[s, x], argTypes := #[55, 55] }) (base : Nat) (v : Value) (L : List Pr6) (hs : a.eval s = v) (hown : Pw base w v L)
    (g : Nat) (y : Pr6) (hx : a.eval x = .slice (some ⟨g, 0, none⟩) 1 1) (h0 : w.cell? ⟨g, 0, none⟩ = some (.int .i64 y.1)) (h1 : w.cell? ⟨g, 1, none⟩ = some (.int .i64 y.2.1)) (h2 : w.cell? ⟨g, 2, none⟩ = some (.int .i64 y.2.2)) (hlim : L.length ≤ 1000000) (hb : base ≤ w.heap.size)
    (h : ∀ v' w', Hid (Pw base w' v' (L ++ [y]) ∧ w.grownBy w' v.ownBlock) → wpListIn F nF Tryd.prog ops Q rest (a.put o.dst v') w') : wpListIn F nF Tryd.prog ops Q (o :: rest) a w := by
  obtain ⟨i, hi, hz, hsz, hby⟩ := info_parts Tryd.infoP6
  refine wpListIn_append_own_at w hgd s x 55 ho base 58 i _ 3 24 Tryd.underlying55 hi hz hsz hby rfl (by omega) v _ _ hs hown ⟨g, 0, none⟩ 1 1 (pcss [y]) hx rfl (fun j u hj => by
    rw [ax_add, Nat.zero_add]
    match j, hj with
    | 0, hj => cases hj; exact h0
    | 1, hj => cases hj; exact h1
    | 2, hj => cases hj; exact h2
    | j + 3, hj => simp [pcss, pcs] at hj) (fun u' hu' => by
    simp [pcss, pcs] at hu'
    rcases hu' with rfl | rfl | rfl <;> rfl) (by simp only [maxLen]; omega) (by omega) hb ?_
  intro v' w' h3 h4 _ _
  refine h v' w' ⟨?_, h4⟩
  show World.ownsRow _ _ _ _ _ _ _
  rw [List.length_append, pcss_app]
  exact h3
theorem bx_grown {A A' : World} {base : Nat} {v : Value} {L : List Pr6} (hp : Pw base A v L) (hg : A.grownBy A' v.ownBlock) {z : Nat} {t : TypeId} {u : Value} (hb : Bx A z t u) (ht : t ≠ 58) : Bx A' z t u := by
  refine (hg.block z hb.lt fun e => ?_).trans hb
  obtain ⟨_, cs, e3⟩ := hp.own e.symm
  rw [show A.heap[z]? = _ from hb] at e3
  cases e3
  exact ht rfl
theorem pw_slice {A : World} {base : Nat} {v : Value} {L : List Pr6} (h : Pw base A v L) : ∃ a n c, v = .slice a n c := by
  obtain ⟨a, c, e, _⟩ := h.sl
  exact ⟨a, _, c, e⟩
theorem take_succ6 (L : List Pr6) (k : Nat) (h : k < L.length) : L.take (k + 1) = L.take k ++ [L.getD k p60] := by
  rw [List.take_add_one, List.getElem?_eq_getElem h, List.getD_eq_getElem?_getD, List.getElem?_eq_getElem h]
  rfl
end Go.Proofs.YtdobjanhmllloaaDoor
namespace Go.Proofs.YtdobjanhmllloaaDoor
open Go.RowKit
set_option maxRecDepth 100000
set_option linter.unusedVariables false
theorem run_valW {P : Program} {n : Nat} {ops : Array Oper} {Q : Exit → Act → World → Prop} {K : Act → World → Prop} {o : Oper} {a : Act} {w w' : World} {X : Prop} {v : Value} (hw : Region.wanted o (yielded ops a.tmps) = true) (hnd : ∀ c, o.op ≠ .defer c) (hr : (execOp a.eval o).run P w = .ok (.value v) w') (h : K (a.put o.dst v) w') : if Region.wanted o (yielded ops a.tmps) then o.wpIn Fence.wide n P a w K Q else X := by
  rw [if_pos hw]
  refine ⟨fun _ _ => trivial, ?_⟩
  show o.uponIn _ n P a K Q ((Oper.semAt none a.eval o).run P w)
  rw [show Oper.semAt none a.eval o = execOp a.eval o from rfl, hr]
  exact h
theorem run_callW {P : Program} {n : Nat} {ops : Array Oper} {Q : Exit → Act → World → Prop} {K : Act → World → Prop} {o : Oper} {a : Act} {w : World} {X : Prop} {f : FuncId} {args : Array Value} {R : Ending → World → Prop} (hw : Region.wanted o (yielded ops a.tmps) = true) (hnd : ∀ c, o.op ≠ .defer c) (hr : (execOp a.eval o).run P w = .ok (.enter f args) w) (hc : Calls P f args w R) (h : ∀ e w', R e w' → ∃ v, e = .returned v ∧ K (a.put o.dst v) w') : if Region.wanted o (yielded ops a.tmps) then o.wpIn Fence.wide n P a w K Q else X := by
  rw [if_pos hw]
  refine ⟨fun _ _ => trivial, ?_⟩
  show o.uponIn _ n P a K Q ((Oper.semAt none a.eval o).run P w)
  rw [show Oper.semAt none a.eval o = execOp a.eval o from rfl, hr]
  refine ⟨fun h => (by cases h), ?_⟩
  refine CallsIn.mono (callsIn_wide.2 hc) fun e w'' he => ?_
  obtain ⟨v, rfl, hk⟩ := h e w'' he
  exact hk
structure Jm (St : (Nat → Bool) → World → Prop) (R : Nat → Value → World → Prop) (L : Nat → Bool) (vs : Nat → Value) (w' : World) : Prop where
  st : St L w'
  val : ∀ j, L j = true → R j (vs j) w'
theorem Jm.step {St : (Nat → Bool) → World → Prop} {R : Nat → Value → World → Prop} {L : Nat → Bool} {vs : Nat → Value} {w' w'' : World} (h : Jm St R L vs w') {j : Nat} {v : Value} (hs : St (updB L j) w'') (hR : ∀ i, L i = true → R i (vs i) w' → R i (vs i) w'') (hv : R j v w'') : Jm St R (updB L j) (updV vs j v) w'' := by
  refine ⟨hs, fun i hi => ?_⟩
  by_cases e : i = j
  · subst e
    rw [updV_eq]
    exact hv
  rw [updV_ne e]
  rw [updB_ne e] at hi
  exact hR i hi (h.val i hi)
def Rk (cs : List Value) (m base : Nat) (Lx : List Pr6) (j : Nat) (v : Value) (w' : World) : Prop := if j = m then Pw base w' v Lx else v = cs.getD j undef
section
variable {cs : List Value} {m base : Nat} {Lx : List Pr6} {j : Nat} {v : Value} {w' w'' : World}
theorem Rk.mono (h : Rk cs m base Lx j v w') (hB : Below w'.heap.size w' w'') : Rk cs m base Lx j v w'' := by
  unfold Rk at h ⊢
  split
  · rename_i e
    rw [if_pos e] at h
    exact h.below hB
  rename_i e
  rw [if_neg e] at h
  exact h
theorem Rk.at (h : Rk cs m base Lx j v w') (e : j ≠ m) : v = cs.getD j undef := by
  unfold Rk at h
  rw [if_neg e] at h
  exact h
theorem Rk.row (h : Rk cs m base Lx m v w') : Pw base w' v Lx := by
  unfold Rk at h
  rw [if_pos rfl] at h
  exact h
theorem Rk.mk (e : j ≠ m) (h : v = cs.getD j undef) : Rk cs m base Lx j v w' := by
  unfold Rk
  rw [if_neg e]
  exact h
theorem Rk.mkr (h : Pw base w' v Lx) : Rk cs m base Lx m v w' := by
  unfold Rk
  rw [if_pos rfl]
  exact h
theorem Pw.low {b' : Nat} (h : Pw base w' v Lx) (hb : b' ≤ base) : Pw b' w' v Lx := by
  refine ⟨h.1, h.2.imp id ?_⟩
  rintro ⟨g, cap, cur, e, hb2, rest⟩
  exact ⟨g, cap, cur, e, Nat.le_trans hb hb2, rest⟩
end
end Go.Proofs.YtdobjanhmllloaaDoor
