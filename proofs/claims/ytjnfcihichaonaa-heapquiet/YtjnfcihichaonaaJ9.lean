/- Contracts of the program's functions, part 9: own work, joined in build order. -/
import Derived.Test.YtjnfcihichaonaaJ8
namespace Go.Proofs.Ytjnfcihichaonaa
open Go.RowKit
set_option maxRecDepth 100000
set_option linter.unusedVariables false
/-- x on its way up: its place p is empty yet. -/
structure RisI (w0 w : World) (hb ob gp n cap mb : Nat) (pu : Int) (f0 f : Nat → Nat) (B : Nat → Prop) (it ke : Nat → Int) (va : Nat → Int) (lv : Value) (nx mod : Int) (tur : Bool) (lies : Int) (N0 N p0 p x : Nat) : Prop where
  me : MeI w hb ob gp n cap mb pu f B it ke va p
  od : Ordr w ob lv nx mod tur lies N
  lt : p < n
  ge : N0 ≤ N
  few : 2 ^ (N - N0) * (p / 2 + 1) ≤ 2 * (p0 / 2 + 1)
  ord : lies = 0 → Ord (leB mod tur it ke) n f0 p0 → Ord (leB mod tur it ke) n f p ∧ Fits (leB mod tur it ke) n f p x
  img : ∀ b, Img n f p b ↔ Img n f0 p0 b
  tn : Tn (fun k => k = ob ∨ k = gp ∨ B k) w0 w
/-- x lies. -/
structure LayI (w0 w : World) (hb ob gp n cap mb : Nat) (pu : Int) (f0 f : Nat → Nat) (B : Nat → Prop) (it ke : Nat → Int) (va : Nat → Int) (lv : Value) (nx mod : Int) (tur : Bool) (lies : Int) (N0 N p0 x : Nat) : Prop where
  me : MeI w hb ob gp n cap mb pu f B it ke va n
  od : Ordr w ob lv nx mod tur lies N
  ge : N0 ≤ N
  few : 2 ^ (N - N0) ≤ 4 * (p0 / 2 + 1)
  ord : lies = 0 → Ord (leB mod tur it ke) n f0 p0 → Ord (leB mod tur it ke) n f n
  img : ∀ b, Img n f n b ↔ Img n f0 p0 b ∨ b = x
  tn : Tn (fun k => k = ob ∨ k = gp ∨ B k) w0 w
theorem MeI.lay {W : World} {hb ob gp n cap mb : Nat} {pu : Int} {f : Nat → Nat} {B : Nat → Prop} {it ke : Nat → Int} {va : Nat → Int} {p : Nat} (h : MeI W hb ob gp n cap mb pu f B it ke va p) {x : Nat} (hp : p < n) (hB : B x) (hx : ¬ Img n f p x) :
    MeI ((W.setCell ⟨gp, p, none⟩ (.pointer (some ⟨x, 0, none⟩))).setCell ⟨x, 3, none⟩ (.int .i64 (p : Int))) hb ob gp n cap mb pu (setF f p x) B it ke va n := by
  obtain ⟨cs, ec, hsz, hc⟩ := h.row
  obtain ⟨q, px⟩ := h.th x hB
  have n1 : gp ≠ x := ne_of_type ec px (by decide)
  have n2 : hb ≠ gp := ne_of_type h.hd ec (by decide)
  have n3 : hb ≠ x := ne_of_type h.hd px (by decide)
  have kept : ∀ k, k ≠ gp → k ≠ x → ((W.setCell ⟨gp, p, none⟩ (.pointer (some ⟨x, 0, none⟩))).setCell ⟨x, 3, none⟩ (.int .i64 (p : Int))).heap[k]? = W.heap[k]? := fun k h1 h2 => (Below.heap_setCell _ _ _ k h2).trans (Below.heap_setCell _ _ _ k h1)
  have hx2 : ((W.setCell ⟨gp, p, none⟩ (.pointer (some ⟨x, 0, none⟩))).setCell ⟨x, 3, none⟩ (.int .i64 (p : Int))).heap[x]? = some (.cells #[.int .i64 (it x), .int .i64 (ke x), .int .i64 (va x), .int .i64 (p : Int)] 81) :=
    heap_setCell_same _ x 3 _ _ _ ((Below.heap_setCell _ _ _ _ (Ne.symm n1)).trans px)
  refine { hd := (kept hb n2 n3).trans h.hd, row := ⟨cs.setIfInBounds p (.pointer (some ⟨x, 0, none⟩)), ?_, by simpa using hsz, fun i hi => ?_⟩, le := h.le, lim := h.lim, th := fun b hb' => ?_, fB := fun i hi hne => ?_, pl := fun i hi hne => ?_, wf := h.wf }
  · exact (Below.heap_setCell _ _ _ _ n1).trans (heap_setCell_same W gp p cs _ _ ec)
  · have hle := h.le
    by_cases e : i = p
    · subst e
      rw [setF_eq, Array.getElem?_setIfInBounds_self_of_lt (by omega)]
    · rw [setF_ne e, Array.getElem?_setIfInBounds_ne (Ne.symm e)]
      exact hc i hi
  · by_cases e : b = x
    · subst e
      exact ⟨_, hx2⟩
    · obtain ⟨q, eq⟩ := h.th b hb'
      exact ⟨q, (kept b (Ne.symm (ne_of_type ec eq (by decide))) e).trans eq⟩
  · by_cases e : i = p
    · subst e
      rw [setF_eq]
      exact hB
    · rw [setF_ne e]
      exact h.fB i hi e
  · by_cases e : i = p
    · subst e
      rw [setF_eq]
      exact hx2
    · rw [setF_ne e]
      have pi := h.pl i hi e
      exact (kept (f i) (Ne.symm (ne_of_type ec pi (by decide))) fun e2 => hx ⟨i, hi, e, e2⟩).trans pi
/-- The end: the place is told. -/
theorem RisI.end {w0 w : World} {hb ob gp n cap mb : Nat} {pu : Int} {f0 f : Nat → Nat} {B : Nat → Prop} {it ke : Nat → Int} {va : Nat → Int} {lv : Value} {nx mod : Int} {tur : Bool} {lies : Int} {N0 N M p0 p x : Nat} (h : RisI w0 w hb ob gp n cap mb pu f0 f B it ke va lv nx mod tur lies N0 N p0 p x) {w1 : World} (hme : MeI w1 hb ob gp n cap mb pu f B it ke va p) (hod : Ordr w1 ob lv nx mod tur lies M) (htn : Tn (fun k => k = ob) w w1) (hM : N ≤ M) (hM2 : M ≤ N + 1) (hB : B x) (hx : ¬ Img n f0 p0 x) (hb' : lies = 0 → p ≤ 1 ∨ if p % 2 = 0 then leB mod tur it ke (f (up p)) x else leB mod tur it ke x (f (up p))) :
    LayI w0 ((w1.setCell ⟨gp, p, none⟩ (.pointer (some ⟨x, 0, none⟩))).setCell ⟨x, 3, none⟩ (.int .i64 (p : Int))) hb ob gp n cap mb pu f0 (setF f p x) B it ke va lv nx mod tur lies N0 M p0 x := by
  obtain ⟨cs, ec, hsz, hc⟩ := hme.row
  obtain ⟨q, px⟩ := hme.th x hB
  have hge := h.ge
  refine ⟨hme.lay h.lt hB (fun hi => hx ((h.img x).1 hi)), hod.kept ((Below.heap_setCell _ _ _ _ (ne_of_type hod.at' px (by decide))).trans (Below.heap_setCell _ _ _ _ (ne_of_type hod.at' ec (by decide)))), by omega, ?_, fun e0 ho => ?_, fun b => (img_lay h.lt b).trans (or_congr (h.img b) Iff.rfl), ?_⟩
  · have h1 := h.few
    have h2 : 2 ^ (M - N0) ≤ 2 ^ (N - N0 + 1) := Nat.pow_le_pow_right (by decide) (by omega)
    have h3 : 2 ^ (N - N0) * 1 ≤ 2 ^ (N - N0) * (p / 2 + 1) := Nat.mul_le_mul_left _ (by omega)
    rw [Nat.pow_succ] at h2
    omega
  · obtain ⟨h1, h2⟩ := h.ord e0 ho
    exact h1.lay (leB_total _ _ _ _) h.lt h2 (hb' e0)
  · exact ((h.tn.trans htn (fun k _ e => .inl e)).set (fun _ => .inr (.inl rfl)) _ _).set (fun _ => .inr (.inr hB)) _ _
theorem RisI.up {w0 w : World} {hb ob gp n cap mb : Nat} {pu : Int} {f0 f : Nat → Nat} {B : Nat → Prop} {it ke : Nat → Int} {va : Nat → Int} {lv : Value} {nx mod : Int} {tur : Bool} {lies : Int} {N0 N p0 p x : Nat} (h : RisI w0 w hb ob gp n cap mb pu f0 f B it ke va lv nx mod tur lies N0 N p0 p x) (h1 : 1 < p) {w1 : World} (hme : MeI w1 hb ob gp n cap mb pu (setF f p (f (up p))) B it ke va (up p)) (hod : Ordr w1 ob lv nx mod tur lies (N + 1)) (htn : Tn (fun k => k = ob ∨ k = gp ∨ B k) w w1) (hb' : lies = 0 → if p % 2 = 0 then leB mod tur it ke x (f (up p)) else leB mod tur it ke (f (up p)) x) :
    RisI w0 w1 hb ob gp n cap mb pu f0 (setF f p (f (up p))) B it ke va lv nx mod tur lies N0 (N + 1) p0 (up p) x := by
  have hlt := up_lt h1
  have hl := h.lt
  have hge := h.ge
  refine ⟨hme, hod, by omega, by omega, ?_, fun e0 ho => ?_, fun b => (img_put (by omega) h.lt (by omega) b).trans (h.img b), h.tn.trans htn (fun k _ e => e)⟩
  · have h2 := h.few
    have h3 := (up_half h1).1
    have h4 : N + 1 - N0 = N - N0 + 1 := by omega
    rw [h4, Nat.pow_succ, Nat.mul_assoc]
    have h5 : 2 ^ (N - N0) * (2 * (Go.Proofs.Ytjnfcihichaonaa.up p / 2 + 1)) ≤ 2 ^ (N - N0) * (p / 2 + 1) := Nat.mul_le_mul_left _ (by omega)
    omega
  · obtain ⟨q1, q2⟩ := h.ord e0 ho
    exact q1.lift (leB_total _ _ _ _) h.lt h1 q2 (hb' e0)
end Go.Proofs.Ytjnfcihichaonaa
