/- Contracts of the program's functions, part 2: own work, joined in build order. -/
import Derived.Test.YtmghkkaoblkmpaaJ1
import Derived.Deep.RegionLaw
namespace Go.Proofs.Ytmghkkaoblkmpaa
open Go.RowKit
theorem row_list {w : World} {b : Nat} {t : TypeId} {n : Nat} {f : Nat → Value} (h : w.rowIs b t n f) : w.heap[b]? = some (.cells ((List.range n).map f).toArray t (0, 0)) := by
  obtain ⟨c, hb, hn, hc⟩ := h
  rw [hb]
  congr 2
  refine Array.ext (by simp [hn]) fun i h1 h2 => ?_
  have := hc i (by omega)
  simp at h2
  rw [Array.getElem?_eq_getElem h1] at this
  simpa using this
theorem list_row {w : World} {b : Nat} {t : TypeId} {n : Nat} {l : List Value} {f : Nat → Value} (h : w.heap[b]? = some (.cells l.toArray t (0, 0))) (hl : l.length = n) (hf : ∀ i, i < n → l[i]? = some (f i)) : w.rowIs b t n f :=
  ⟨_, h, by simpa using hl, fun i hi => by simpa using hf i hi⟩
/-- F with G's first n laid over it from o on. -/
def laid (F : Nat → Value) (o : Nat) (G : Nat → Value) (n : Nat) : Nat → Value := fun j => if o ≤ j ∧ j < o + n then G (j - o) else F j
theorem splice_row (n o m : Nat) (F G : Nat → Value) (h : o + m ≤ n) : ∀ i, i < n → (splice ((List.range n).map F) o ((List.range m).map G))[i]? = some (laid F o G m i) := by
  intro i hi
  unfold splice laid
  rcases Nat.lt_or_ge i o with h1 | h1
  · rw [List.getElem?_append_left (by simp; omega), List.getElem?_take_of_lt h1, if_neg (by omega)]
    simp [hi]
  · rw [List.getElem?_append_right (by simp; omega)]
    have e : ((List.range n).map F |>.take o).length = o := by simp; omega
    rw [e]
    rcases Nat.lt_or_ge (i - o) m with h2 | h2
    · rw [List.getElem?_append_left (by simpa using h2), if_pos (by omega)]
      simp [h2]
    · rw [List.getElem?_append_right (by simpa using h2), if_neg (by omega), List.getElem?_drop]
      simp only [List.length_map, List.length_range]
      rw [show o + m + (i - o - m) = i by omega]
      simp [hi]
theorem step_copy {P : Program} {ops : Array Oper} {o : Oper} {a : Act} {w : World} {K : Act → World → Prop} {Q : Exit → Act → World → Prop} {E : Prop} (hgd : o.guard = none) (d s : Operand) (dT sT : TypeId)
    (ho : o.op = .call { callee := .builtin .copy, args := #[d, s], argTypes := #[dT, sT] }) (elem : TypeId) (hu : P.underlying dT = some (.slice elem)) (hsz : (P.info? elem).map (·.size) = some 1)
    (dp sp : Option Addr) (dLen dCap sLen sCap : Nat) (hd : a.eval d = .slice dp dLen dCap) (hs : a.eval s = .slice sp sLen sCap)
    (g off M : Nat) (F G : Nat → Value) (t : TypeId) (hg : w.rowIs g t M F) (hn : sLen ≤ dLen)
    (hpos : 0 < sLen → dp = some ⟨g, off, none⟩ ∧ ∃ ad, sp = some ad ∧ ∀ j, j < sLen → w.cell? (ad.add j) = some (G j))
    (hfit : off + sLen ≤ M) (h1 : ∀ j, (G j).oneCell' = true) (B : Nat) (w0 : World) (hb : Below B w0 w) (hBg : B ≤ g)
    (h : ∀ w', Hid (w'.rowIs g t M (laid F off G sLen) ∧ Below B w0 w') → K (a.put o.dst (goInt sLen)) w') :
    if Region.wanted o (yielded ops a.tmps) = true then Oper.wp P o a w K Q else E := by
  have hl : ((List.range sLen).map G).length = sLen := by simp
  refine step_copy_splice hgd d s dT sT ho elem hu hsz dp sp dLen dCap sLen sCap hd hs g off ((List.range M).map F) t (row_list hg) ((List.range sLen).map G) (by rw [hl]; exact (Nat.min_eq_left hn).symm) ?_ (by simpa using hfit) ?_ B w0 hb hBg ?_
  · intro h0
    rw [hl] at h0
    obtain ⟨e1, ad, e2, h3⟩ := hpos h0
    refine ⟨e1, ad, e2, fun j v hj => ?_⟩
    rcases Nat.lt_or_ge j sLen with h4 | h4
    · rw [h3 j h4]
      simpa [h4] using hj
    · rw [List.getElem?_eq_none (by simpa using h4)] at hj
      cases hj
  · intro v hv
    obtain ⟨j, _, rfl⟩ := List.mem_map.1 hv
    exact h1 j
  · intro w' h2 h3
    rw [hl]
    exact h w' ⟨list_row h2.out (by unfold splice; simp; omega) (splice_row M off sLen F G hfit), h3⟩
theorem addr_add (b o j : Nat) : (⟨b, o, none⟩ : Addr).add j = ⟨b, o + j, none⟩ := by unfold Addr.add; split <;> simp_all
theorem bel_drewN {B : Nat} {a w : World} (h : Below B a w) (n : Nat) : Below B a (w.drewN n) := ⟨h.os, h.tape, h.output, h.size, h.block⟩
theorem bel_drew {B : Nat} {a w : World} (h : Below B a w) : Below B a w.drew := ⟨h.os, h.tape, h.output, h.size, h.block⟩
end Go.Proofs.Ytmghkkaoblkmpaa
