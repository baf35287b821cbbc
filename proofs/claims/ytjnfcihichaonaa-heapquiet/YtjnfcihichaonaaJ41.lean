/- Contracts of the program's functions, part 41: own work, joined in build order. -/
import Derived.Test.YtjnfcihichaonaaJ40
namespace Go.Proofs.Ytjnfcihichaonaa
open Go.RowKit
set_option maxRecDepth 100000
set_option linter.unusedVariables false
section
variable {base : Nat} {W W' : World} {hb ob : Nat} {lv : Value} {nx md : Int} {tur : Bool} {lies : Int} {N n : Nat} {pu : Int} {T : Int → Option (Int × Int)}
/-- What a number's row tells. -/
def rowT : Option (Int × Int) → Value
  | some (k, v) => .tuple #[.int .i64 k, .int .i64 v, .bool true]
  | none => .tuple #[.int .i64 0, .int .i64 0, .bool false]
theorem Hp.get (h : Hp base W hb ob lv nx md tur lies N n pu T) (i : Int) (hi : -9223372036854775808 ≤ i) (hi2 : i ≤ 9223372036854775807) :
    Calls Try.prog 27 #[.pointer (some ⟨hb, 0, none⟩), .int .i64 i] W fun e w' => e = .returned (rowT (T i)) ∧ ∃ m, w' = W.drewN m := by
  obtain ⟨a, cap, mb, nn, f, it, ke, va, h1, h2, h3⟩ := h.ex
  refine (getI_any i W h1 hi hi2).mono ?_
  rintro e w' ⟨h4, m, rfl⟩
  refine ⟨?_, m, rfl⟩
  rcases h4 with ⟨b, hb', rfl, rfl⟩ | ⟨h4, rfl⟩
  · rw [(h3 _ _ _).2 ⟨b, hb', rfl, rfl, rfl⟩]
    rfl
  · cases e : T i with
    | none => rfl
    | some p =>
      obtain ⟨b, h5, h6, _⟩ := (h3 i p.1 p.2).1 e
      exact absurd h6 (h4 b h5)
theorem Hp.absent {a : Option Addr} {cap mb nn : Nat} {f : Nat → Nat} {it ke va : Nat → Int} {i : Int} (h3 : ∀ i k v, T i = some (k, v) ↔ ∃ b, Img n f n b ∧ it b = i ∧ ke b = k ∧ va b = v) (e : T i = none) : ∀ b, Img n f n b → it b ≠ i := fun b hb' e2 => by
  have := (h3 i (ke b) (va b)).2 ⟨b, hb', e2, rfl, rfl⟩
  rw [e] at this
  cases this
theorem Hp.removeNo (h : Hp base W hb ob lv nx md tur lies N n pu T) (i : Int) (hi : -9223372036854775808 ≤ i) (hi2 : i ≤ 9223372036854775807) (e : T i = none) :
    Calls Try.prog 15 #[.pointer (some ⟨hb, 0, none⟩), .int .i64 i] W fun e w' => e = .returned (rowT none) ∧ ∃ m, w' = W.drewN m := by
  obtain ⟨a, cap, mb, nn, f, it, ke, va, h1, h2, h3⟩ := h.ex
  exact removeI_none i W h1 hi hi2 (Hp.absent (a := a) (cap := cap) (mb := mb) (nn := nn) h3 e)
theorem Hp.remove (h : Hp base W hb ob lv nx md tur lies N (n + 1) pu T) (hN : N < 999999999) {i k v : Int} (e : T i = some (k, v)) :
    Calls Try.prog 15 #[.pointer (some ⟨hb, 0, none⟩), .int .i64 i] W fun e w' => e = .returned (rowT (some (k, v))) ∧ ∃ M, Hp base w' hb ob lv nx md tur lies M n pu (updT T i none) ∧ N ≤ M ∧ 2 ^ (M - N) ≤ 4 * (n + 1) * (n + 1) ∧ Fr hb ob base W w' := by
  obtain ⟨a, cap, mb, nn, f, it, ke, va, h1, h2, h3⟩ := h.ex
  obtain ⟨x, hx, rfl, rfl, rfl⟩ := (h3 _ _ _).1 e
  refine (removeI_any x W h1 h.od (by omega) h.le hx).mono ?_
  rintro e w' ⟨rfl, ht⟩
  obtain ⟨M, q1, q2, q3, q4, q5⟩ := Hp.taken h.le h.od h1 h2 h3 hx ht
  exact ⟨rfl, M, q1, q3, q4, q5⟩
theorem Hp.updateNo (h : Hp base W hb ob lv nx md tur lies N n pu T) (i k : Int) (hi : -9223372036854775808 ≤ i) (hi2 : i ≤ 9223372036854775807) (e : T i = none) :
    Calls Try.prog 16 #[.pointer (some ⟨hb, 0, none⟩), .int .i64 i, .int .i64 k] W fun e w' => e = .returned (.int .i64 50) ∧ w' = W := by
  obtain ⟨a, cap, mb, nn, f, it, ke, va, h1, h2, h3⟩ := h.ex
  exact updateI_none i k W h1 hi hi2 (Hp.absent (a := a) (cap := cap) (mb := mb) (nn := nn) h3 e)
theorem Hp.update (h : Hp base W hb ob lv nx md tur lies N n pu T) (hN : N < 999999999) {i k v : Int} (e : T i = some (k, v)) (l : Int) (hl : -9223372036854775808 ≤ l) (hl2 : l ≤ 9223372036854775807) :
    Calls Try.prog 16 #[.pointer (some ⟨hb, 0, none⟩), .int .i64 i, .int .i64 l] W fun e w' => e = .returned (.int .i64 0) ∧ ∃ M, Hp base w' hb ob lv nx md tur lies M n pu (updT T i (some (l, v))) ∧ N ≤ M ∧ 2 ^ (M - N) ≤ 4 * (n + 1) * (n + 1) ∧ Fr hb ob base W w' := by
  obtain ⟨a, cap, mb, nn, f, it, ke, va, h1, h2, h3⟩ := h.ex
  obtain ⟨x, hx, rfl, rfl, rfl⟩ := (h3 _ _ _).1 e
  refine (updateI_any x l W h1 h.od (by omega) hl hl2 hx).mono ?_
  rintro e w' ⟨rfl, f', M, q1, q2, q3, q4, q5, q6, q7⟩
  refine ⟨rfl, M, ⟨⟨_, _, _, _, f', it, _, va, q1, fun e => q5 e (h2 e), fun i k v => ?_⟩, q2, Nat.le_trans h.le q7.size⟩, q3, q4, Fr.of_tn h1 h.od h.le q7 fun k hk => .inl ((h1.bk k).2 (((q1.bk k).1 hk).imp id fun e => e.imp id fun e => e.imp id fun e => e.imp id fun e => (q6 k).1 e))⟩
  have inj : ∀ b, Img n f n b → it b = it x → b = x := fun b hb' e => by
    obtain ⟨i, hi, _, rfl⟩ := hb'
    obtain ⟨j, hj, _, rfl⟩ := hx
    rw [h1.iti i j hi hj e]
  unfold updT
  split
  · rename_i e
    subst e
    constructor
    · intro e
      cases e
      exact ⟨x, (q6 x).2 hx, rfl, upN_eq, rfl⟩
    · rintro ⟨b, hb', e1, e2, e3⟩
      have eb := inj b ((q6 b).1 hb') e1
      subst eb
      rw [upN_eq] at e2
      rw [e2, e3]
  · rename_i hne
    rw [h3]
    constructor
    · rintro ⟨b, hb', e1, e2, e3⟩
      exact ⟨b, (q6 b).2 hb', e1, by rw [upN_ne (fun e => hne (by rw [← e1, e]))]; exact e2, e3⟩
    · rintro ⟨b, hb', e1, e2, e3⟩
      rw [upN_ne (fun e => hne (by rw [← e1, e]))] at e2
      exact ⟨b, (q6 b).1 hb', e1, e2, e3⟩
/-- The order's own block is written: what it is told by is another. -/
theorem Hp.turn (h : Hp base W hb ob lv nx md tur lies N n pu T) {lv' : Value} {nx' : Int} {M : Nat} (hz : base ≤ W'.heap.size) (hk : ∀ k, k ≠ ob → k < W.heap.size → W'.heap[k]? = W.heap[k]?) (ho : Ordr W' ob lv' nx' md tur lies M) : Hp base W' hb ob lv' nx' md tur lies M n pu T := by
  obtain ⟨a, cap, mb, nn, f, it, ke, va, h1, h2, h3⟩ := h.ex
  refine ⟨⟨a, cap, mb, nn, f, it, ke, va, h1.keep fun k o e t1 _ => hk k (fun e2 => ?_) (Array.getElem?_eq_some_iff.1 e).1, h2, h3⟩, ho, hz⟩
  rw [e2, h.od.at'] at e
  cases e
  exact t1 _ rfl
theorem Hp.zero (h : Hp base W hb ob lv nx md tur lies N n pu T) (M : Nat) : Hp base (W.setCell ⟨ob, 5, none⟩ (.int .i64 (M : Int))) hb ob lv nx md tur lies M n pu T :=
  h.turn (by simpa using h.le) (fun k hk _ => Below.heap_setCell _ _ _ k hk) (h.od.ask M)
end
end Go.Proofs.Ytjnfcihichaonaa
