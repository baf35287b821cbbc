/- Contracts of the program's functions, part 33: own work, joined in build order. -/
import Derived.Test.YtmghkkaoblkmpaaJ32
namespace Go.Proofs.Ytmghkkaoblkmpaa
open Go.RowKit Go.Shelf
set_option maxRecDepth 100000
set_option linter.unusedVariables false
/-- A frame that has nothing left but marks. -/
theorem leaves_marks {n : Nat} {P : Program} {fn : Func} {tmps : Array Value} {R : Ending → World → Prop} : ∀ (Ds : List Nat) (w : World), Ds.Nodup → (∀ D ∈ Ds, w.heap[D]? = some (.deferred (some []))) →
    (∀ w', (∀ k, k ∉ Ds → w'.heap[k]? = w.heap[k]?) → w'.os = w.os → w'.tape = w.tape → w'.output = w.output → w'.heap.size = w.heap.size → LeavesInM Fence.wide n P fn tmps R [] .returning w') →
    LeavesInM Fence.wide n P fn tmps R (Ds.map fun D => { target := .collected D, args := #[] }) .returning w
  | [], w, _, _, h => h w (fun _ _ => rfl) rfl rfl rfl rfl
  | D :: Ds, w, hn, hD, h => by
    have h1 := hD D (by simp)
    refine ⟨by simp, .inl ⟨D, _, rfl, run_takeDeferred h1, ?_⟩⟩
    have hg := grownBy_putObj' w D (.deferred none)
    have hz : (w.putObj D (.deferred none)).heap.size = w.heap.size := by simp [World.putObj]
    refine leaves_marks Ds _ (List.nodup_cons.1 hn).2 (fun E hE => ?_) fun w' hk ho ht hp hs => h w' (fun k hk' => ?_) (ho.trans hg.os) (ht.trans hg.tape) (hp.trans hg.output) (hs.trans hz)
    · have hE' := hD E (by simp [hE])
      refine (hg.block E (Array.getElem?_eq_some_iff.1 hE').1 ?_).trans hE'
      intro e
      cases e
      exact (List.nodup_cons.1 hn).1 hE
    · have hk2 : k ≠ D ∧ k ∉ Ds := by simpa [not_or] using hk'
      refine (hk k hk2.2).trans ?_
      rcases Nat.lt_or_ge k w.heap.size with hl | hl
      · exact hg.block k hl (fun e => hk2.1 (by injection e))
      · rw [Array.getElem?_eq_none (by omega), Array.getElem?_eq_none (by omega)]
/-- One step of either kind: do or ranged. -/
structure Stp (W W' : World) (r g : Nat) (v0 : Value) (xs : List Int) (v : Value) : Prop where
  ring : ∃ ys g' N' f', RI W' r g' N' f' ys.length ys ∧ (g' = g ∨ g' = r ∨ W.heap.size ≤ g') ∧ ys.length ≤ xs.length + 3 ∧ ((v = v0 ∧ ys = xs) ∨ (∃ b0, W.heap.size ≤ b0 ∧ Ow b0 W' v ys) ∧ ∀ b o n c, v = .slice (some ⟨b, o, none⟩) n c → b ≠ g')
  chg : Chg W W' r g
theorem Did.stp {w w' : World} {r g : Nat} {v0 v : Value} {xs : List Int} (h : Did w r g v0 xs v w') : Stp w w' r g v0 xs v := by
  obtain ⟨⟨ys, g', N', f', h1, h2, h3, h4⟩, hC⟩ := h
  refine ⟨⟨ys, g', N', f', h1, h2, by omega, h4.imp id ?_⟩, hC⟩
  rintro ⟨b0, s1, s2, s3, s4⟩
  refine ⟨⟨b0, s1, s4⟩, fun b o n c e => ?_⟩
  obtain ⟨a9, c9, e9, _, ha⟩ := s4.isx
  rw [e] at e9
  injection e9 with e3
  rcases ha with e6 | ⟨g9, e6, h7, h8⟩
  · rw [e6] at e3
    cases e3
  · have e7 := e3.trans e6
    injection e7 with e7
    injection e7 with e8
    omega
theorem RgK.stp {w W : World} {r g : Nat} {v0 v : Value} {xs : List Int} {tb : Bool} (h : Rg3 w W r g v0 xs v tb) : Stp w W r g v0 xs v := by
  obtain ⟨⟨ys, g', N', f', q1, q2, q3, q4, q5⟩, hC⟩ := h
  refine ⟨⟨ys, g', N', f', q1, ?_, q3, q4.imp id ?_⟩, hC⟩
  · rcases q2 with e | e | e
    · exact .inl e
    · exact .inr (.inl e)
    · exact .inr (.inr (by omega))
  · rintro ⟨⟨b0, p1, p4⟩, p5⟩
    exact ⟨⟨b0, by omega, p4⟩, p5⟩
def updF {α : Type} (f : Nat → α) (o : Nat) (x : α) : Nat → α := fun j => if j = o then x else f j
theorem updF_eq {α : Type} {f : Nat → α} {o : Nat} {x : α} : updF f o x o = x := by simp [updF]
theorem updF_ne {α : Type} {f : Nat → α} {o j : Nat} {x : α} (h : j ≠ o) : updF f o x j = f j := by simp [updF, h]
/-- A block that neither ring, nor the array of the lists, nor the row of the lists that were told lies in. -/
structure Fre (W : World) (bL : Nat) (r g : Nat → Nat) (vl : Value) (k : Nat) : Prop where
  lt : k < W.heap.size
  nr : ∀ o, o < 2 → k ≠ r o ∧ k ≠ g o
  nl : k ≠ bL
  nv : vl.ownBlock ≠ some k
/-- RingPlays, between two rounds. -/
structure Pl (w W : World) (bR bL : Nat) (r g : Nat → Nat) (v : Nat → Value) (ys : Nat → List Int) (hb of : Nat) (vl : Value) (Vs : List Value) (M : Nat) : Prop where
  rows : W.rowIs bR 26 2 (fun o => .pointer (some ⟨r o, 0, none⟩))
  lsts : W.rowIs bL 28 2 v
  ring : ∀ o, o < 2 → ∃ N f, RI W (r o) (g o) N f (ys o).length (ys o)
  apart : ∀ i j, i < 2 → j < 2 → i ≠ j → r i ≠ r j ∧ r i ≠ g j ∧ g i ≠ g j
  lst : ∀ o, o < 2 → ∃ a cap, v o = .slice a (ys o).length cap ∧ ISx W a (ys o).length cap (ys o) ∧ ∀ b p, a = some ⟨b, p, none⟩ → Fre W bL r g vl b
  held : Boxed W hb 24 (.pointer (some ⟨r of, 0, none⟩))
  ofl : of < 2
  lists : W.ownsRow w.heap.size 27 1 vl Vs.length Vs
  each : ∀ j, j < Vs.length → ∃ n, Ow w.heap.size W (Vs.getD j undef) (List.replicate n (-7 - (j : Int))) ∧ ∀ k, (Vs.getD j undef).ownBlock = some k → Fre W bL r g vl k
  freR : Fre W bL r g vl bR
  freH : Fre W bL r g vl hb
  okL : bL < W.heap.size ∧ (∀ o, o < 2 → bL ≠ r o ∧ bL ≠ g o)
  okV : ∀ k, vl.ownBlock = some k → k < W.heap.size ∧ k ≠ bL ∧ ∀ o, o < 2 → k ≠ r o ∧ k ≠ g o
  base : w.heap.size ≤ bL ∧ ∀ o, o < 2 → w.heap.size ≤ r o ∧ w.heap.size ≤ g o
  bel : Below w.heap.size w W
  lim : ∀ o, o < 2 → (ys o).length ≤ M
theorem rows_kept {W W' : World} {b : Nat} {t : TypeId} {s n : Nat} {v : Value} {xs : List Value} (h : W.ownsRow b t s v n xs) (hk : ∀ k, v.ownBlock = some k → W'.heap[k]? = W.heap[k]?) : W'.ownsRow b t s v n xs := by
  refine ⟨h.1, h.2.imp id ?_⟩
  rintro ⟨g, cap, cur, e, hb, hg, rest⟩
  exact ⟨g, cap, cur, e, hb, (hk g (by rw [e]; rfl)).trans hg, rest⟩
theorem isx_kept {W W' : World} {a : Option Addr} {n cap : Nat} {xs : List Int} (h : ISx W a n cap xs) (hk : ∀ b p, a = some ⟨b, p, none⟩ → W'.heap[b]? = W.heap[b]?) : ISx W' a n cap xs := by
  refine ⟨⟨h.sl.le, h.sl.lim, h.sl.len, h.sl.at'.imp id ?_⟩, h.nil⟩
  rintro ⟨b, o, e, hc⟩
  exact ⟨b, o, e, fun i hi => (World.cell?_of_block (hk b o e)).trans (hc i hi)⟩
theorem Pl.doing {w W : World} {bR bL : Nat} {r g : Nat → Nat} {v : Nat → Value} {ys : Nat → List Int} {hb of : Nat} {vl : Value} {Vs : List Value} {M : Nat} (h : Pl w W bR bL r g v ys hb of vl Vs M) {o : Nat} (ho : o < 2) (hM : M ≤ 1048570) :
    ∃ a cap N f, v o = .slice a (ys o).length cap ∧ Doing W (r o) (g o) N f a (ys o).length cap (ys o) := by
  obtain ⟨N, f, hR⟩ := h.ring o ho
  obtain ⟨a, cap, e, hx, hf⟩ := h.lst o ho
  have hl := h.lim o ho
  exact ⟨a, cap, N, f, e, hR, hx, fun b p e => ⟨((hf b p e).nr o ho).1, ((hf b p e).nr o ho).2, (hf b p e).lt⟩, by omega⟩
theorem Pl.step {w W W' : World} {bR bL : Nat} {r g : Nat → Nat} {v : Nat → Value} {ys : Nat → List Int} {hb of : Nat} {vl : Value} {Vs : List Value} {M : Nat} (h : Pl w W bR bL r g v ys hb of vl Vs M) {o : Nat} (ho : o < 2) {u : Value} (hs : Stp W W' (r o) (g o) (v o) (ys o) u) :
    ∃ g' ys', Pl w (W'.setCell ⟨bL, o, none⟩ u) bR bL r g' (updF v o u) ys' hb of vl Vs (M + 3) := by
  obtain ⟨⟨zs, g1, N1, f1, q1, q2, q3, q4⟩, hC⟩ := hs
  have hsz := hC.size
  have hg1 := q1.glt
  have kept : ∀ k, k < W.heap.size → k ≠ r o → k ≠ g o → k ≠ bL → (W'.setCell ⟨bL, o, none⟩ u).heap[k]? = W.heap[k]? := fun k h1 h2 h3 h4 => (Below.heap_setCell _ _ _ _ h4).trans (hC.block k h1 h2 h3)
  have keptF : ∀ k, Fre W bL r g vl k → (W'.setCell ⟨bL, o, none⟩ u).heap[k]? = W.heap[k]? := fun k hk => kept k hk.lt (hk.nr o ho).1 (hk.nr o ho).2 hk.nl
  have hz2 : (W'.setCell ⟨bL, o, none⟩ u).heap.size = W'.heap.size := by simp
  have ng1 : ∀ k, k < W.heap.size → k ≠ r o → k ≠ g o → k ≠ g1 := fun k h1 h2 h3 => by rcases q2 with e | e | e <;> omega
  have freF : ∀ k, Fre W bL r g vl k → Fre (W'.setCell ⟨bL, o, none⟩ u) bL r (updF g o g1) vl k := fun k hk => ⟨by have := hk.lt; omega, fun j hj => ⟨(hk.nr j hj).1, by
    by_cases e : j = o
    · rw [e, updF_eq]
      exact ng1 k hk.lt (hk.nr o ho).1 (hk.nr o ho).2
    · rw [updF_ne e]
      exact (hk.nr j hj).2⟩, hk.nl, hk.nv⟩
  have hlL := h.okL.1
  have hLo := h.okL.2 o ho
  have rlt : ∀ j, j < 2 → r j < W.heap.size ∧ g j < W.heap.size := fun j hj => by
    obtain ⟨N, f, hR⟩ := h.ring j hj
    exact ⟨hR.rlt, hR.glt⟩
  refine ⟨updF g o g1, updF ys o zs, ?_⟩
  refine { rows := h.rows.of_block (keptF bR h.freR), lsts := ?_, ring := ?_, apart := ?_, lst := ?_, held := (keptF hb h.freH).trans h.held, ofl := h.ofl, lists := rows_kept h.lists fun k hk => kept k (h.okV k hk).1 ((h.okV k hk).2.2 o ho).1 ((h.okV k hk).2.2 o ho).2 (h.okV k hk).2.1, each := ?_, freR := freF bR h.freR, freH := freF hb h.freH, okL := ?_, okV := ?_, base := ?_, bel := ?_, lim := ?_ }
  · have h1 : W'.rowIs bL 28 2 v := h.lsts.of_block (hC.block bL hlL hLo.1 hLo.2)
    obtain ⟨cs, e1, e2, e3⟩ := h1
    refine ⟨cs.setIfInBounds o u, heap_setCell_same W' bL o cs _ u e1, by simpa using e2, fun i hi => ?_⟩
    by_cases e : i = o
    · subst e
      rw [updF_eq, Array.getElem?_setIfInBounds_self_of_lt (by omega)]
    · rw [updF_ne e, Array.getElem?_setIfInBounds_ne (Ne.symm e)]
      exact e3 i hi
  · intro j hj
    by_cases e : j = o
    · subst e
      rw [updF_eq, updF_eq]
      exact ⟨N1, f1, q1.of_blocks (Below.heap_setCell _ _ _ _ (Ne.symm hLo.1)) (Below.heap_setCell _ _ _ _ (Ne.symm (ng1 bL hlL hLo.1 hLo.2)))⟩
    · obtain ⟨N, f, hR⟩ := h.ring j hj
      have a1 := h.apart j o hj ho e
      have a2 := h.apart o j ho hj (Ne.symm e)
      rw [updF_ne e, updF_ne e]
      exact ⟨N, f, hR.of_blocks (kept _ hR.rlt a1.1 a1.2.1 (Ne.symm (h.okL.2 j hj).1)) (kept _ hR.glt (Ne.symm a2.2.1) a1.2.2 (Ne.symm (h.okL.2 j hj).2))⟩
  · intro i j hi hj hij
    have a1 := h.apart i j hi hj hij
    have a2 := h.apart j i hj hi (Ne.symm hij)
    have ri := rlt i hi
    have rj := rlt j hj
    refine ⟨a1.1, ?_, ?_⟩
    · by_cases e : j = o
      · subst e
        rw [updF_eq]
        exact ng1 _ ri.1 a1.1 a1.2.1
      · rw [updF_ne e]
        exact a1.2.1
    · by_cases e : j = o
      · subst e
        rw [updF_eq, updF_ne hij]
        exact ng1 _ ri.2 (Ne.symm a2.2.1) a1.2.2
      · rw [updF_ne e]
        by_cases e2 : i = o
        · subst e2
          rw [updF_eq]
          exact Ne.symm (ng1 _ rj.2 (Ne.symm a1.2.1) (Ne.symm a1.2.2))
        · rw [updF_ne e2]
          exact a1.2.2
  · intro j hj
    by_cases e : j = o
    · subst e
      rw [updF_eq, updF_eq]
      rcases q4 with ⟨e1, e2⟩ | ⟨⟨b0, p1, p4⟩, p5⟩
      · subst e1 e2
        obtain ⟨a, cap, e, hx, hf⟩ := h.lst j hj
        exact ⟨a, cap, e, isx_kept hx fun b p e => keptF b (hf b p e), fun b p e => freF b (hf b p e)⟩
      · obtain ⟨a, cap, e, hx, ha⟩ := p4.isx
        have hbl : ∀ b p, a = some ⟨b, p, none⟩ → W.heap.size ≤ b ∧ b < W'.heap.size := fun b p e => by
          rcases ha with e6 | ⟨g9, e6, h7, h8⟩
          · rw [e6] at e
            cases e
          · rw [e6] at e
            cases e
            exact ⟨by omega, h8⟩
        refine ⟨a, cap, e, isx_kept hx fun b p e => Below.heap_setCell _ _ _ _ (by have := hbl b p e; show b ≠ bL; omega), fun b p e9 => ?_⟩
        have hb2 := hbl b p e9
        refine ⟨by omega, fun i hi => ⟨by have := (rlt i hi).1; omega, ?_⟩, by omega, fun e8 => by have := (h.okV b e8).1; omega⟩
        by_cases e7 : i = j
        · subst e7
          rw [updF_eq]
          exact p5 b p _ _ (by rw [e, e9])
        · rw [updF_ne e7]
          have := (rlt i hi).2
          omega
    · obtain ⟨a, cap, e8, hx, hf⟩ := h.lst j hj
      rw [updF_ne e, updF_ne e]
      exact ⟨a, cap, e8, isx_kept hx fun b p e => keptF b (hf b p e), fun b p e => freF b (hf b p e)⟩
  · intro j hj
    obtain ⟨n, h1, h2⟩ := h.each j hj
    exact ⟨n, rows_kept h1 fun k hk => keptF k (h2 k hk), fun k hk => freF k (h2 k hk)⟩
  · refine ⟨by omega, fun j hj => ⟨(h.okL.2 j hj).1, ?_⟩⟩
    by_cases e : j = o
    · rw [e, updF_eq]
      exact ng1 bL hlL hLo.1 hLo.2
    · rw [updF_ne e]
      exact (h.okL.2 j hj).2
  · intro k hk
    obtain ⟨h1, h2, h3⟩ := h.okV k hk
    refine ⟨by omega, h2, fun j hj => ⟨(h3 j hj).1, ?_⟩⟩
    by_cases e : j = o
    · rw [e, updF_eq]
      exact ng1 k h1 (h3 o ho).1 (h3 o ho).2
    · rw [updF_ne e]
      exact (h3 j hj).2
  · refine ⟨h.base.1, fun j hj => ⟨(h.base.2 j hj).1, ?_⟩⟩
    by_cases e : j = o
    · rw [e, updF_eq]
      have := h.base.2 o ho
      have := h.bel.size
      rcases q2 with e | e | e <;> omega
    · rw [updF_ne e]
      exact (h.base.2 j hj).2
  · have hb := h.base.2 o ho
    exact (h.bel.trans (hC.below hb.1 hb.2 h.bel.size)).setCell h.base.1 _
  · intro j hj
    have hl := h.lim j hj
    by_cases e : j = o
    · subst e
      rw [updF_eq]
      omega
    · rw [updF_ne e]
      omega
end Go.Proofs.Ytmghkkaoblkmpaa
