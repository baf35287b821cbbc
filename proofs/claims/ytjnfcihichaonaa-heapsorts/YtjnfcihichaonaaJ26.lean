/- Contracts of the program's functions, part 26: own work, joined in build order. -/
import Derived.Test.YtjnfcihichaonaaJ25
namespace Go.Proofs.Ytjnfcihichaonaa
open Go.RowKit
set_option maxRecDepth 100000
set_option linter.unusedVariables false
theorem MeS.inj {W : World} {hb ob gp n cap mb : Nat} {pu : Int} {f : Nat → Nat} {B : Nat → Prop} {it ke : Nat → Int} {va : Nat → ByteArray} {hole : Nat} (h : MeS W hb ob gp n cap mb pu f B it ke va hole) {i j : Nat} (hi : i < n) (hj : j < n) (h1 : i ≠ hole) (h2 : j ≠ hole) (e : f i = f j) : i = j := by
  have a := h.pl i hi h1
  have b := h.pl j hj h2
  rw [e, b] at a
  simp at a
  omega
/-- What lies at from goes to the empty place; from is empty then. -/
theorem MeS.put {W : World} {hb ob gp n cap mb : Nat} {pu : Int} {f : Nat → Nat} {B : Nat → Prop} {it ke : Nat → Int} {va : Nat → ByteArray} {to : Nat} (h : MeS W hb ob gp n cap mb pu f B it ke va to) {frm : Nat} (hf : frm < n) (ht : to < n) (hn : frm ≠ to) :
    MeS ((W.setCell ⟨gp, to, none⟩ (.pointer (some ⟨f frm, 0, none⟩))).setCell ⟨f frm, 3, none⟩ (.int .i64 (to : Int))) hb ob gp n cap mb pu (setF f to (f frm)) B it ke va frm := by
  obtain ⟨cs, ec, hsz, hc⟩ := h.row
  have px := h.pl frm hf hn
  have n1 : gp ≠ f frm := ne_of_type ec px (by decide)
  have n2 : hb ≠ gp := ne_of_type h.hd ec (by decide)
  have n3 : hb ≠ f frm := ne_of_type h.hd px (by decide)
  have kept : ∀ k, k ≠ gp → k ≠ f frm → ((W.setCell ⟨gp, to, none⟩ (.pointer (some ⟨f frm, 0, none⟩))).setCell ⟨f frm, 3, none⟩ (.int .i64 (to : Int))).heap[k]? = W.heap[k]? := fun k h1 h2 => (Below.heap_setCell _ _ _ k h2).trans (Below.heap_setCell _ _ _ k h1)
  have hx : ((W.setCell ⟨gp, to, none⟩ (.pointer (some ⟨f frm, 0, none⟩))).setCell ⟨f frm, 3, none⟩ (.int .i64 (to : Int))).heap[f frm]? = some (.cells #[.int .i64 (it (f frm)), .int .i64 (ke (f frm)), .string (va (f frm)), .int .i64 (to : Int)] 98) :=
    heap_setCell_same _ (f frm) 3 _ _ _ ((Below.heap_setCell _ _ _ _ (Ne.symm n1)).trans px)
  refine { hd := (kept hb n2 n3).trans h.hd, row := ⟨cs.setIfInBounds to (.pointer (some ⟨f frm, 0, none⟩)), ?_, by simpa using hsz, fun i hi => ?_⟩, le := h.le, lim := h.lim, th := fun b hb' => ?_, fB := fun i hi hne => ?_, pl := fun i hi hne => ?_, wf := h.wf }
  · exact (Below.heap_setCell _ _ _ _ n1).trans (heap_setCell_same W gp to cs _ _ ec)
  · have hle := h.le
    by_cases e : i = to
    · subst e
      rw [setF_eq, Array.getElem?_setIfInBounds_self_of_lt (by omega)]
    · rw [setF_ne e, Array.getElem?_setIfInBounds_ne (Ne.symm e)]
      exact hc i hi
  · by_cases e : b = f frm
    · subst e
      exact ⟨_, hx⟩
    · obtain ⟨q, eq⟩ := h.th b hb'
      exact ⟨q, (kept b (Ne.symm (ne_of_type ec eq (by decide))) e).trans eq⟩
  · by_cases e : i = to
    · subst e
      rw [setF_eq]
      exact h.fB frm hf hn
    · rw [setF_ne e]
      exact h.fB i hi e
  · by_cases e : i = to
    · subst e
      rw [setF_eq]
      exact hx
    · rw [setF_ne e]
      have pi := h.pl i hi e
      exact (kept (f i) (Ne.symm (ne_of_type ec pi (by decide))) fun e2 => hne (h.inj hi hf e hn e2)).trans pi
theorem putS_any {hb ob gp n cap mb : Nat} {pu : Int} {f : Nat → Nat} {B : Nat → Prop} {it ke : Nat → Int} {va : Nat → ByteArray} {to : Nat} {lv : Value} {nx mod : Int} {tur : Bool} {lies : Int} {N : Nat} (frm : Nat) (w : World) (h : MeS w hb ob gp n cap mb pu f B it ke va to) (ho : Ordr w ob lv nx mod tur lies N) (hf : frm < n) (ht : to < n) (hn : frm ≠ to) :
    Calls Try.prog 70 #[.pointer (some ⟨hb, 0, none⟩), .int .i64 (frm : Int), .int .i64 (to : Int)] w fun e w' => e = .returned (.tuple #[]) ∧ MeS w' hb ob gp n cap mb pu (setF f to (f frm)) B it ke va frm ∧ Ordr w' ob lv nx mod tur lies N ∧ Tn (fun k => k = gp ∨ B k) w w' := by
  have hl := h.lim
  have hle := h.le
  have b1 := h.c1
  have a1 := h.at hf
  have a2 := h.at ht
  obtain ⟨cs, ec, hsz, hc⟩ := h.row
  have px := h.pl frm hf hn
  have n1 : f frm ≠ gp := ne_of_type px ec (by decide)
  have z1 : w.frozen? ⟨gp, to, none⟩ = false := by simp [World.frozen?, ec]
  have z2 : w.cell? ⟨f frm, 3, none⟩ = some (.int .i64 (frm : Int)) := by simp [World.cell?, px]
  have z3 : w.frozen? ⟨f frm, 3, none⟩ = false := by simp [World.frozen?, px]
  have HP : Hid (MeS ((w.setCell ⟨gp, to, none⟩ (.pointer (some ⟨f frm, 0, none⟩))).setCell ⟨f frm, 3, none⟩ (.int .i64 (to : Int))) hb ob gp n cap mb pu (setF f to (f frm)) B it ke va frm ∧ Ordr ((w.setCell ⟨gp, to, none⟩ (.pointer (some ⟨f frm, 0, none⟩))).setCell ⟨f frm, 3, none⟩ (.int .i64 (to : Int))) ob lv nx mod tur lies N ∧ Tn (fun k => k = gp ∨ B k) w ((w.setCell ⟨gp, to, none⟩ (.pointer (some ⟨f frm, 0, none⟩))).setCell ⟨f frm, 3, none⟩ (.int .i64 (to : Int)))) :=
    ⟨h.put hf ht hn, ho.kept ((Below.heap_setCell _ _ _ _ (ne_of_type ho.at' px (by decide))).trans (Below.heap_setCell _ _ _ _ (ne_of_type ho.at' ec (by decide)))), ((Tn.refl _ _).set (fun _ => .inl rfl) _ _).set (fun _ => .inr (h.fB frm hf hn)) _ _⟩
  clear h ho ec hc px
  generalize f frm = x at *
  go_enter Try.func70, Try.ntmps70
  go_wp2_with fail
  refine bodyPost_end (results_none rfl _ _ _) rfl ?_
  exact ⟨rfl, HP.out⟩
end Go.Proofs.Ytjnfcihichaonaa
