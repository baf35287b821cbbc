/- Contracts of the program's functions, part 26: own work, joined in build order. -/
import Derived.Test.YtmghkkaoblkmpaaJ25
namespace Go.Proofs.Ytmghkkaoblkmpaa
open Go.RowKit Go.Shelf
set_option maxRecDepth 100000
set_option linter.unusedVariables false
theorem KeepsFrom.of_chg {B : Nat} {W W' : World} {r g : Nat} (h : Chg W W' r g) (hr : ∃ c t z, W.heap[r]? = some (.cells c t z)) (hg : ∃ c t z, W.heap[g]? = some (.cells c t z)) : KeepsFrom B W W' := by
  refine ⟨h.size, fun k o _ hk ho => ?_⟩
  have hlt : k < W.heap.size := (Array.getElem?_eq_some_iff.1 hk).1
  refine (h.block k hlt ?_ ?_).trans hk
  · rintro rfl
    obtain ⟨c, t, z, e⟩ := hr
    rw [e] at hk
    cases hk
    cases ho
  · rintro rfl
    obtain ⟨c, t, z, e⟩ := hg
    rw [e] at hk
    cases hk
    cases ho
/-- The ring and the list, as far as a range has come: as they were, or turned by at most k steps. -/
structure RgK (w : World) (B : Nat) (W : World) (r g : Nat) (v0 : Value) (xs : List Int) (vl : Value) (turned : Bool) (k : Nat) : Prop where
  ring : ∃ ys g' N' f', RI W r g' N' f' ys.length ys ∧ (g' = g ∨ g' = r ∨ B ≤ g') ∧ ys.length ≤ xs.length + k ∧ ((vl = v0 ∧ ys = xs) ∨ (∃ b0, B ≤ b0 ∧ Ow b0 W vl ys) ∧ ∀ b o n c, vl = .slice (some ⟨b, o, none⟩) n c → b ≠ g') ∧ (turned = false → g' = g ∧ vl = v0 ∧ ys = xs)
  chg : Chg w W r g
abbrev Rg3 (w W : World) (r g : Nat) (v0 : Value) (xs : List Int) (vl : Value) (turned : Bool) : Prop := RgK w (w.heap.size + 9) W r g v0 xs vl turned 3
theorem ow_own {W W' : World} {row : Option Nat} {b : Nat} {v : Value} {xs : List Int} {B : Nat} (h : Ow b W v xs) (hg : W.grownBy W' row) (hr : ∀ r, row = some r → B ≤ r ∧ ∃ o : Obj, W.heap[r]? = some o ∧ o.isCells = false) : Ow b W' v xs := by
  refine ⟨h.1, h.2.imp id ?_⟩
  rintro ⟨g, cap, cur, e, hb, hgg, rest⟩
  refine ⟨g, cap, cur, e, hb, ?_, rest⟩
  refine (hg.block g (Array.getElem?_eq_some_iff.1 hgg).1 fun e2 => ?_).trans hgg
  obtain ⟨o, ho, hc⟩ := (hr g e2.symm).2
  rw [hgg] at ho
  cases ho
  cases hc
theorem rw_own {W W' : World} {row : Option Nat} {r g N f c : Nat} {xs : List Int} {B : Nat} (h : RI W r g N f c xs) (hg : W.grownBy W' row) (hr : ∀ r, row = some r → B ≤ r ∧ ∃ o : Obj, W.heap[r]? = some o ∧ o.isCells = false) : RI W' r g N f c xs :=
  ⟨rowIs_own h.hd hg hr, fun hN => rowIs_own (h.row hN) hg hr, h.ne, h.zr, h.fl, h.cl, h.len, h.pow, h.lim⟩
theorem RgK.own {w W W' : World} {r g : Nat} {v0 : Value} {xs : List Int} {vl : Value} {tb : Bool} {k : Nat} {row : Option Nat} {B B' : Nat} (hB : w.heap.size ≤ B') (h : RgK w B W r g v0 xs vl tb k) (hg : W.grownBy W' row) (hr : ∀ r, row = some r → B' ≤ r ∧ ∃ o : Obj, W.heap[r]? = some o ∧ o.isCells = false) : RgK w B W' r g v0 xs vl tb k := by
  obtain ⟨⟨ys, g', N', f', h1, h2, h3, h4, h5⟩, hC⟩ := h
  refine ⟨⟨ys, g', N', f', rw_own h1 hg hr, h2, h3, h4.imp id ?_, h5⟩, ⟨hg.os.trans hC.os, hg.tape.trans hC.tape, hg.output.trans hC.output, Nat.le_trans hC.size hg.size, fun k hk e1 e2 => ?_⟩⟩
  · rintro ⟨⟨b0, q1, q4⟩, q5⟩
    exact ⟨⟨b0, q1, ow_own q4 hg hr⟩, q5⟩
  · refine (hg.block k (Nat.lt_of_lt_of_le hk hC.size) fun e => ?_).trans (hC.block k hk e1 e2)
    have := (hr k e.symm).1
    omega
theorem RgK.isSlice {B : Nat} {w W : World} {r g : Nat} {a0 : Option Addr} {n0 c0 : Nat} {xs : List Int} {vl : Value} {tb : Bool} {k : Nat} (h : RgK w B W r g (.slice a0 n0 c0) xs vl tb k) : ∃ al nl cl, vl = .slice al nl cl := by
  obtain ⟨ys, g', N', f', _, _, _, q4, _⟩ := h.ring
  rcases q4 with ⟨e, _⟩ | ⟨⟨b0, _, q⟩, _⟩
  · exact ⟨_, _, _, e⟩
  · obtain ⟨a9, c9, e9, _⟩ := q.isx
    exact ⟨_, _, _, e9⟩
theorem RgK.drew {B : Nat} {w W : World} {r g : Nat} {v0 : Value} {xs : List Int} {vl : Value} {tb : Bool} {k : Nat} (h : RgK w B W r g v0 xs vl tb k) : RgK w B W.drew r g v0 xs vl tb k := by
  obtain ⟨⟨ys, g', N', f', q1, q2, q3, q4, q5⟩, hC⟩ := h
  exact ⟨⟨ys, g', N', f', q1.of_blocks rfl rfl, q2, q3, q4.imp id fun ⟨⟨b0, p1, p4⟩, p5⟩ => ⟨⟨b0, p1, p4.1, p4.2⟩, p5⟩, q5⟩, hC.drew⟩
theorem RgK.weak {B B' : Nat} {w W : World} {r g : Nat} {v0 : Value} {xs : List Int} {vl : Value} {tb tb' : Bool} {k k' : Nat} (h : RgK w B W r g v0 xs vl tb k) (ht : tb' = true ∨ tb' = tb) (hk : k ≤ k') (hBB : B' ≤ B) : RgK w B' W r g v0 xs vl tb' k' := by
  obtain ⟨⟨ys, g', N', f', q1, q2, q3, q4, q5⟩, hC⟩ := h
  refine ⟨⟨ys, g', N', f', q1, q2.imp id (Or.imp id (Nat.le_trans hBB)), by omega, q4.imp id fun ⟨⟨b0, p1, p4⟩, p5⟩ => ⟨⟨b0, Nat.le_trans hBB p1, p4⟩, p5⟩, fun h => ?_⟩, hC⟩
  rcases ht with e | e
  · rw [e] at h
    cases h
  · rw [e] at h
    exact q5 h
theorem RgK.set {B : Nat} {w W : World} {r g : Nat} {v0 : Value} {xs : List Int} {vl : Value} {tb : Bool} {kk : Nat} (h : RgK w B W r g v0 xs vl tb kk) (hr : r < w.heap.size) (hg : g < w.heap.size) {k : Nat} (h1 : w.heap.size ≤ k) (h2 : k < w.heap.size + 9) (hB : w.heap.size + 9 ≤ B) (u : Value) : RgK w B (W.setCell ⟨k, 0, none⟩ u) r g v0 xs vl tb kk := by
  obtain ⟨⟨ys, g', N', f', q1, q2, q3, q4, q5⟩, hC⟩ := h
  have hgk : g' ≠ k := by rcases q2 with e | e | e <;> omega
  refine ⟨⟨ys, g', N', f', q1.of_blocks (Below.heap_setCell _ _ _ _ (by show r ≠ k; omega)) (Below.heap_setCell _ _ _ _ hgk), q2, q3, q4.imp id ?_, q5⟩, ⟨hC.os, hC.tape, hC.output, by simpa using hC.size, fun j hj e1 e2 => (Below.heap_setCell _ _ _ _ (by show j ≠ k; omega)).trans (hC.block j hj e1 e2)⟩⟩
  rintro ⟨⟨b0, p1, p4⟩, p5⟩
  refine ⟨⟨b0, p1, p4.1, p4.2.imp id ?_⟩, p5⟩
  rintro ⟨gg, cap, cur, e, hb, hgg, rest⟩
  exact ⟨gg, cap, cur, e, hb, (Below.heap_setCell _ _ _ _ (by show gg ≠ k; omega)).trans hgg, rest⟩
/-- What a step finds in the midst of a range. -/
theorem RgK.doing {B : Nat} {w W : World} {r g N0 f0 : Nat} {a : Option Addr} {c cap : Nat} {xs : List Int} {al : Option Addr} {nl cl : Nat} {tb : Bool} {k : Nat} (h : RgK w B W r g (.slice a c cap) xs (.slice al nl cl) tb k) (hd : Doing w r g N0 f0 a c cap xs) (hB : w.heap.size + 9 ≤ B) (hl : c + k ≤ 1048576) : ∃ ys g' N' f', Doing W r g' N' f' al nl cl ys ∧ (g' = g ∨ g' = r ∨ B ≤ g') ∧ ys.length ≤ xs.length + k ∧ ((Value.slice al nl cl = .slice a c cap ∧ ys = xs) ∨ (∃ b0, B ≤ b0 ∧ Ow b0 W (.slice al nl cl) ys) ∧ ∀ b o, al = some ⟨b, o, none⟩ → b ≠ g') := by
  obtain ⟨⟨ys, g', N', f', q1, q2, q3, q4, q5⟩, hC⟩ := h
  have hlen := hd.lst.sl.len
  have hr0 := hd.ring.rlt
  have hg0 := hd.ring.glt
  have hsz := hC.size
  rcases q4 with ⟨e, e2⟩ | ⟨⟨b0, p1, p4⟩, p5⟩
  · injection e with e3 e4 e5
    subst e3 e4 e5 e2
    refine ⟨_, g', N', f', ⟨q1, hd.lst_at hC, fun b o e => ?_, by omega⟩, q2, q3, .inl ⟨rfl, rfl⟩⟩
    obtain ⟨h1, h2, h3⟩ := hd.ap b o e
    exact ⟨h1, by rcases q2 with e | e | e <;> omega, by omega⟩
  · obtain ⟨a9, c9, e9, hx, ha⟩ := p4.isx
    injection e9 with e3 e4 e5
    subst e3 e4 e5
    refine ⟨ys, g', N', f', ⟨q1, hx, fun b o e => ?_, by omega⟩, q2, q3, .inr ⟨⟨b0, p1, p4⟩, fun b o e => p5 b o _ _ (by rw [e])⟩⟩
    rcases ha with e6 | ⟨g9, e6, h7, h8⟩
    · rw [e6] at e
      cases e
    · have e7 := e6.symm.trans e
      injection e7 with e7
      injection e7 with e8
      subst e8
      exact ⟨by omega, p5 _ _ _ _ (by rw [e6]), by omega⟩
theorem ow_chg {b0 : Nat} {W W' : World} {r g : Nat} {v : Value} {xs : List Int} (h : Ow b0 W v xs) (hC : Chg W W' r g) (h1 : r < b0) (h2 : ∀ b o n c, v = .slice (some ⟨b, o, none⟩) n c → b ≠ g) : Ow b0 W' v xs := by
  refine ⟨h.1, h.2.imp id ?_⟩
  rintro ⟨gg, cap, cur, e, hb, hgg, rest⟩
  exact ⟨gg, cap, cur, e, hb, (hC.block gg (Array.getElem?_eq_some_iff.1 hgg).1 (by omega) (h2 _ _ _ _ e)).trans hgg, rest⟩
/-- A step more. -/
theorem RgK.did {B : Nat} {w W W' : World} {r g N0 f0 : Nat} {a : Option Addr} {c cap : Nat} {xs : List Int} {al : Option Addr} {nl cl : Nat} {tb : Bool} {k : Nat} (h : RgK w B W r g (.slice a c cap) xs (.slice al nl cl) tb k) (hd : Doing w r g N0 f0 a c cap xs) {ys : List Int} {g' : Nat} (q2 : g' = g ∨ g' = r ∨ B ≤ g') (q3 : ys.length ≤ xs.length + k)
    (q4 : (Value.slice al nl cl = .slice a c cap ∧ ys = xs) ∨ (∃ b0, B ≤ b0 ∧ Ow b0 W (.slice al nl cl) ys) ∧ ∀ b o, al = some ⟨b, o, none⟩ → b ≠ g') (hB : w.heap.size + 9 ≤ B) (h9 : B ≤ W.heap.size) {v : Value} (hD : Did W r g' (.slice al nl cl) ys v W') : RgK w B W' r g (.slice a c cap) xs v true (k + 1) := by
  obtain ⟨⟨zs, g2, N2, f2, p1, p2, p3, p4⟩, hC⟩ := hD
  have hr0 := hd.ring.rlt
  have hsz := h.chg.size
  refine ⟨⟨zs, g2, N2, f2, p1, ?_, by omega, ?_, fun h => by cases h⟩, h.chg.trans hC (by rcases q2 with e | e | e <;> omega)⟩
  · rcases p2 with e | e | e
    · rw [e]; exact q2
    · exact .inr (.inl e)
    · exact .inr (.inr (by omega))
  · rcases p4 with ⟨e, e2⟩ | ⟨b0, s1, s2, s3, s4⟩
    · subst e e2
      rcases q4 with q | ⟨⟨b0, t1, t4⟩, t5⟩
      · exact .inl q
      · have hC' := ow_chg t4 hC (by omega) (fun b o n c e => t5 b o (by injection e))
        refine .inr ⟨⟨b0, t1, hC'⟩, fun b o n c e => ?_⟩
        injection e with e1
        obtain ⟨a9, c9, e9, _, ha⟩ := t4.isx
        injection e9 with e3
        rcases ha with e6 | ⟨g9, e6, h7, h8⟩
        · rw [e1, e6] at e3
          cases e3
        · have e7 := (e3.symm.trans e1).symm.trans e6
          injection e7 with e7
          injection e7 with e8
          subst e8
          have := t5 _ _ e1
          rcases p2 with e | e | e <;> omega
    · refine .inr ⟨⟨b0, by omega, s4⟩, fun b o n c e => ?_⟩
      obtain ⟨a9, c9, e9, _, ha⟩ := s4.isx
      rw [e] at e9
      injection e9 with e3
      rcases ha with e6 | ⟨g9, e6, h7, h8⟩
      · rw [e6] at e3
        cases e3
      · have e7 := e3.trans e6
        injection e7 with e7
        injection e7 with e8
        subst e8
        omega
end Go.Proofs.Ytmghkkaoblkmpaa
