/- Contracts of the program's functions, part 31: own work, joined in build order. -/
import Derived.Test.YtjnfcihichaonaaJ30
namespace Go.Proofs.Ytjnfcihichaonaa
open Go.RowKit
set_option maxRecDepth 100000
set_option linter.unusedVariables false
/-- A call, in a block. -/
def opF (oj kd K V It : Int) (j : Nat) : Value := if j = 0 then .int .i64 oj else if j = 1 then .int .i64 kd else if j = 2 then .int .i64 K else if j = 3 then .int .i64 V else .int .i64 It
theorem op_box (w : World) (oj kd K V It : Int) : (w.alloc (.cells #[.int .i64 oj, .int .i64 kd, .int .i64 K, .int .i64 V, .int .i64 It] 32)).rowIs w.heap.size 32 5 (opF oj kd K V It) :=
  World.rowIs_alloc w #[.int .i64 oj, .int .i64 kd, .int .i64 K, .int .i64 V, .int .i64 It] _ _ fun i hi => by
    have hi' : i < 5 := hi
    match i, hi' with
    | 0, _ => rfl
    | 1, _ => rfl
    | 2, _ => rfl
    | 3, _ => rfl
    | 4, _ => rfl
theorem op_cells {W : World} {b : Nat} {oj kd K V It : Int} (h : W.rowIs b 32 5 (opF oj kd K V It)) : W.cell? ⟨b, 0, none⟩ = some (.int .i64 oj) ∧ W.cell? ⟨b, 1, none⟩ = some (.int .i64 kd) ∧ W.cell? ⟨b, 2, none⟩ = some (.int .i64 K) ∧ W.cell? ⟨b, 3, none⟩ = some (.int .i64 V) ∧ W.cell? ⟨b, 4, none⟩ = some (.int .i64 It) :=
  ⟨h.cell (i := 0) (by omega), h.cell (i := 1) (by omega), h.cell (i := 2) (by omega), h.cell (i := 3) (by omega), h.cell (i := 4) (by omega)⟩
theorem op_fr {h9 o9 base : Nat} {W W' : World} {b : Nat} {f : Nat → Value} (h : W.rowIs b 32 5 f) (hF : Fr h9 o9 base W W') : W'.rowIs b 32 5 f := by
  obtain ⟨cs, e, r⟩ := h
  exact ⟨cs, hF.oth _ _ e (oth_op _), r⟩
theorem th_fr {h9 o9 base : Nat} {W W' : World} {b m : Nat} {f : Nat → Value} (h : W.rowIs b 49 m f) (hF : Fr h9 o9 base W W') : W'.rowIs b 49 m f := by
  obtain ⟨cs, e, r⟩ := h
  exact ⟨cs, hF.oth _ _ e (oth_th _), r⟩
/-- The thing that is wanted, in a block. -/
def wtF (i k v : Int) (j : Nat) : Value := if j = 0 then .int .i64 i else if j = 1 then .int .i64 k else .int .i64 v
theorem wt_box (w : World) (i k v : Int) : (w.alloc (.cells #[.int .i64 i, .int .i64 k, .int .i64 v] 49)).rowIs w.heap.size 49 3 (wtF i k v) :=
  World.rowIs_alloc w #[.int .i64 i, .int .i64 k, .int .i64 v] _ _ fun i hi => by
    have hi' : i < 3 := hi
    match i, hi' with
    | 0, _ => rfl
    | 1, _ => rfl
    | 2, _ => rfl
theorem Lz.nobody {W0 W : World} {hb ob : Nat} {md : Int} {tur : Bool} {lies : Int} {N n : Nat} {pu : Int} {T : Int → Option (Int × Int)} {nx : Int} {lv : Value} {L : List Th} (h : Lz W0 W hb ob md tur lies N n pu T nx lv L) {i : Int} (hi : i < 1 ∨ pu < i) : T i = none := by
  cases e : T i with
  | none => rfl
  | some p =>
    have := h.hp.range (k := p.1) (v := p.2) e
    omega
theorem ne_heap {W : World} {b k m : Nat} {f : Nat → Value} {cs : Array Value} {t : TypeId} (hr : W.rowIs b 55 m f) (e : W.heap[k]? = some (.cells cs t)) (ht : t ≠ 55) : k ≠ b := by
  rintro rfl
  obtain ⟨cs', e', _⟩ := hr
  rw [e'] at e
  cases e
  exact ht rfl
theorem Tr.setH {base : Nat} {W : World} {v u : Value} {L : List Th} {b m i : Nat} {f : Nat → Value} (h : Tr base W v L) (hr : W.rowIs b 55 m f) : Tr base (W.setCell ⟨b, i, none⟩ u) v L := h.kept fun k hk => by
  obtain ⟨_, cs, e⟩ := h.own hk
  exact Below.heap_setCell _ _ _ k (ne_heap hr e (by decide))
theorem Lz.setH {W0 W : World} {hb ob : Nat} {md : Int} {tur : Bool} {lies : Int} {N n : Nat} {pu : Int} {T : Int → Option (Int × Int)} {nx : Int} {lv : Value} {L : List Th} {b m i : Nat} {f : Nat → Value} {u : Value} (h : Lz W0 W hb ob md tur lies N n pu T nx lv L) (hr : W.rowIs b 55 m f) (hb' : W0.heap.size ≤ b) : Lz W0 (W.setCell ⟨b, i, none⟩ u) hb ob md tur lies N n pu T nx lv L := by
  refine ⟨h.hp.other (fun k o e ho => (Below.heap_setCell _ _ _ k fun e3 => ?_).trans e) (by simpa using h.hp.le), h.tr.setH hr, h.bel.setCell hb' _, h.ge⟩
  have e4 : k = b := e3
  obtain ⟨cs', e', _⟩ := hr
  rw [e4, e'] at e
  cases e
  exact ho ⟨_, _, _, rfl, by decide, by decide, by decide, by decide⟩
theorem Fr.set {W0 W w8 : World} {hb ob : Nat} {md : Int} {tur : Bool} {lies : Int} {N n : Nat} {pu : Int} {T : Int → Option (Int × Int)} {nx : Int} {lv : Value} {L : List Th} {b i m : Nat} {f : Nat → Value} {t : TypeId} {u : Value} (h : Fr hb ob W0.heap.size W w8) (h8 : Lz W0 w8 hb ob md tur lies N n pu T nx lv L) (hr : w8.rowIs b t m f) (ht : ∀ cs, Oth (.cells cs t)) (hb1 : W.heap.size ≤ b) (hb2 : W0.heap.size ≤ b) : Fr hb ob W0.heap.size W (w8.setCell ⟨b, i, none⟩ u) := by
  refine ⟨h.bel.setCell hb2 _, fun k o e ho => (Below.heap_setCell _ _ _ k (by have := (Array.getElem?_eq_some_iff.1 e).1; show k ≠ b; omega)).trans (h.oth k o e ho), fun k hk hn => (Below.heap_setCell _ _ _ k (by show k ≠ b; omega)).trans (h.own k hk hn), fun k hk => h.new k ((h8.hp.bk_other (fun k o e ho => (Below.heap_setCell _ _ _ k fun e3 => ?_).trans e) k).1 hk)⟩
  have e4 : k = b := e3
  obtain ⟨cs', e', _⟩ := hr
  rw [e4, e'] at e
  cases e
  exact ho (ht _)
theorem oth_heap (cs : Array Value) : Oth (.cells cs 55) := ⟨cs, _, _, rfl, by decide, by decide, by decide, by decide⟩
theorem item_rem {It nx : Int} (h0 : 0 ≤ It) (h1 : It ≤ 9223372036854775807) (h2 : 0 ≤ nx) (h3 : nx ≤ 100000) : ∃ j, It.tmod (nx + 2) = j ∧ It % (nx + 2) = j ∧ 0 ≤ j ∧ j ≤ nx + 1 ∧ IntKind.i64.wrap j = j := by
  refine ⟨It.tmod (nx + 2), rfl, (Int.tmod_eq_emod_of_nonneg h0).symm, Int.tmod_nonneg _ h0, ?_, ?_⟩
  · have := Int.tmod_lt_of_pos It (show 0 < nx + 2 by omega)
    omega
  · have h4 := Int.tmod_nonneg (nx + 2) h0
    have h5 := Int.tmod_lt_of_pos It (show 0 < nx + 2 by omega)
    rw [IntKind.wrap_i64]
    omega
end Go.Proofs.Ytjnfcihichaonaa
