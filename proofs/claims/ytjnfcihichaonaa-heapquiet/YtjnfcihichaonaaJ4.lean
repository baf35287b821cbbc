/- Contracts of the program's functions, part 4: own work, joined in build order. -/
import Derived.Test.YtjnfcihichaonaaJ3
import Derived.Laws.Bits64
namespace Go.Proofs.Ytjnfcihichaonaa
open Go.RowKit
set_option maxRecDepth 100000
set_option linter.unusedVariables false
theorem even_any (p : Nat) (hp : p < 4611686018427387904) (w : World) : Calls Try.prog 73 #[.int .i64 (p : Int)] w fun e w' => e = .returned (.bool (decide (p % 2 = 0))) ∧ w' = w := by
  have e1 : (p : Int).tmod 2 = ((p % 2 : Nat) : Int) := by rw [Int.tmod_eq_emod_of_nonneg (by omega)]; omega
  have e2 : IntKind.i64.wrap ((p % 2 : Nat) : Int) = ((p % 2 : Nat) : Int) := by rw [IntKind.wrap_i64]; omega
  go_enter Try.func73, Try.ntmps73
  rcases Nat.mod_two_eq_zero_or_one p with c | c
  · rw [c] at e1 e2
    go_wp2_with fail
    go_ret
    refine ⟨?_, rfl⟩
    simp [c]
  · rw [c] at e1 e2
    go_wp2_with fail
    go_ret
    refine ⟨?_, rfl⟩
    simp [c]
theorem above_any (p : Nat) (h1 : 1 < p) (hp : p < 4611686018427387904) (w : World) : Calls Try.prog 61 #[.int .i64 (p : Int)] w fun e w' => e = .returned (.int .i64 (up p : Int)) ∧ w' = w := by
  have e1 : (p : Int).tmod 2 = ((p % 2 : Nat) : Int) := by rw [Int.tmod_eq_emod_of_nonneg (by omega)]; omega
  have e3 : (p : Int).tdiv 2 = ((p / 2 : Nat) : Int) := by rw [Int.tdiv_eq_ediv_of_nonneg (by omega)]; omega
  have e4 : (((p / 2 : Nat) : Int) - 1) = ((p / 2 - 1 : Nat) : Int) := by omega
  have e5 : ((p / 2 - 1 : Nat) : Int).tdiv 2 = (((p / 2 - 1) / 2 : Nat) : Int) := by rw [Int.tdiv_eq_ediv_of_nonneg (by omega)]; omega
  have e6 : ((p / 2 - 1 : Nat) : Int) / 2 = (((p / 2 - 1) / 2 : Nat) : Int) := by omega
  have e7 : (p : Int) / 2 = ((p / 2 : Nat) : Int) := by omega
  have e8 : (p : Int) % 2 = ((p % 2 : Nat) : Int) := by omega
  have w1 : IntKind.i64.wrap ((p / 2 : Nat) : Int) = ((p / 2 : Nat) : Int) := by rw [IntKind.wrap_i64]; omega
  have w2 : IntKind.i64.wrap ((p / 2 - 1 : Nat) : Int) = ((p / 2 - 1 : Nat) : Int) := by rw [IntKind.wrap_i64]; omega
  have w3 : IntKind.i64.wrap (((p / 2 - 1) / 2 : Nat) : Int) = (((p / 2 - 1) / 2 : Nat) : Int) := by rw [IntKind.wrap_i64]; omega
  have w4 : IntKind.i64.wrap ((((p / 2 - 1) / 2 : Nat) : Int) * 2) = (((p / 2 - 1) / 2 : Nat) : Int) * 2 := by rw [IntKind.wrap_i64]; omega
  have w5 : IntKind.i64.wrap ((p % 2 : Nat) : Int) = ((p % 2 : Nat) : Int) := by rw [IntKind.wrap_i64]; omega
  have w6 : IntKind.i64.wrap ((((p / 2 - 1) / 2 : Nat) : Int) * 2 + ((p % 2 : Nat) : Int)) = ((up p : Nat) : Int) := by unfold up; rw [IntKind.wrap_i64]; omega
  generalize up p = U at w6 ⊢
  generalize p % 2 = r at *
  generalize (p / 2 - 1) / 2 = d at *
  generalize p / 2 - 1 = c at *
  generalize p / 2 = a at *
  go_enter Try.func61, Try.ntmps61
  go_wp2_with fail
  go_ret
  exact ⟨rfl, rfl⟩
/-- The other place of a pair. -/
def tw (p : Nat) : Nat := if p % 2 = 0 then p + 1 else p - 1
theorem xor_one (p : Nat) : p ^^^ 1 = tw p := by
  have h1 : (p ^^^ 1) / 2 = p / 2 := by rw [Nat.xor_div_two]; simp
  have h2 : (p ^^^ 1) % 2 = (p + 1) % 2 := by
    have h3 := Nat.testBit_xor p 1 0
    have h4 : (p ^^^ 1) % 2 = (if (p ^^^ 1).testBit 0 then 1 else 0) := by rw [Nat.testBit_zero]; rcases Nat.mod_two_eq_zero_or_one (p ^^^ 1) with h | h <;> simp [h]
    rw [h4, h3, Nat.testBit_zero, Nat.testBit_zero]
    rcases Nat.mod_two_eq_zero_or_one p with h | h <;> simp [h] <;> omega
  unfold tw
  split <;> omega
theorem bits_twin (p : Nat) (hp : p < 4611686018427387904) : bits .xor .i64 (p : Int) 1 = ((tw p : Nat) : Int) := by
  have hx : p ^^^ 1 < 2 ^ 62 := Nat.xor_lt_two_pow (by omega) (by omega)
  have h1 : (BitVec.ofInt 64 (p : Int)).toNat = p := by
    rw [BitVec.ofInt_natCast, BitVec.toNat_ofNat]; exact Nat.mod_eq_of_lt (by omega)
  show IntKind.i64.wrap ((BitVec.ofInt 64 (p : Int) ^^^ BitVec.ofInt 64 (1 : Int)).toNat : Int) = _
  rw [BitVec.toNat_xor, h1, show (BitVec.ofInt 64 (1 : Int)).toNat = 1 by rfl, ← xor_one, IntKind.wrap_i64]
  omega
/-- The place of p's kind in a pair. -/
def ofM (n pr p : Nat) : Option Nat := if n ≤ 2 * pr then none else if p % 2 = 0 ∨ 2 * pr + 1 = n then some (2 * pr) else some (2 * pr + 1)
def ofV : Option Nat → Value
  | none => .tuple #[.int .i64 0, .bool false]
  | some c => .tuple #[.int .i64 (c : Int), .bool true]
end Go.Proofs.Ytjnfcihichaonaa
namespace Go.Proofs.Ytjnfcihichaonaa
set_option linter.unusedVariables false
def acr (n p : Nat) : Nat := if tw p < n then tw p else up p + 1
/-- Where across looks. -/
theorem acr_is {n p : Nat} (hp : p < n) (hn : 1 < n) : acr n p < n ∧ acr n p ≠ p ∧ acr n p % 2 ≠ p % 2 ∧ (acr n p / 2 = p / 2 ∨ (p % 2 = 0 ∧ p + 1 = n ∧ 1 < p ∧ acr n p / 2 = (p / 2 - 1) / 2)) ∧ acr n p / 2 ≤ p / 2 := by
  unfold acr tw up
  split <;> split at * <;> omega
theorem acr_even {n p : Nat} (hp : p < n) (hn : 1 < n) (hl : n ≤ 4 * (p / 2) + 2) (h0 : p % 2 = 0) : (∀ b, b < n → b ≠ p → Rel p b → b = acr n p ∨ Rel (acr n p) b) ∧ ∀ a, a < n → a ≠ p → Rel a p → Rel a (acr n p) := by
  obtain ⟨h1, h2, h3, h4, h5⟩ := acr_is hp hn
  have anc : ∀ i, Anc i (p / 2) → i ≠ p / 2 → Anc i (acr n p / 2) := fun i hA hn' => by
    rcases h4 with e | ⟨_, _, _, e⟩
    · rw [e]; exact hA
    · rw [e]; exact hA.above hn'
  have leaf : ∀ b, b < n → Anc (p / 2) (b / 2) → b / 2 = p / 2 := fun b hb hA => by
    by_cases e : p / 2 = b / 2
    · exact e.symm
    · rcases hA.under e with h | h <;> have := h.le <;> omega
  refine ⟨fun b hb hne hR => ?_, fun a ha hne hR => ?_⟩
  · rcases hR with ⟨_, q2, q3⟩ | ⟨q1, _⟩ | ⟨_, q2, q3⟩
    · have := leaf b hb q3
      omega
    · omega
    · by_cases e : b / 2 = p / 2
      · refine .inl ?_
        rcases h4 with e2 | ⟨_, _, _, _⟩ <;> omega
      · refine .inr (.inr (.inl ⟨by omega, q2, ?_⟩))
        rcases q3 with q3 | q3
        · exact absurd (leaf b hb q3) e
        · exact anc _ q3 e
  · rcases hR with ⟨q1, _, q3⟩ | ⟨_, q2, _⟩ | ⟨_, q2, _⟩
    · exact .inr (.inr ⟨q1, by omega, .inl (anc _ q3 (by omega))⟩)
    · omega
    · omega
theorem acr_odd {n p : Nat} (hp : p < n) (hn : 1 < n) (hl : n ≤ 4 * (p / 2) + 2) (h0 : p % 2 = 1) : (∀ b, b < n → b ≠ p → Rel p b → Rel (acr n p) b) ∧ ∀ a, a < n → a ≠ p → Rel a p → a = acr n p ∨ Rel a (acr n p) := by
  obtain ⟨h1, h2, h3, h4, h5⟩ := acr_is hp hn
  have e0 : acr n p / 2 = p / 2 := by rcases h4 with e | ⟨e, _⟩ <;> omega
  have leaf : ∀ b, b < n → Anc (p / 2) (b / 2) → b / 2 = p / 2 := fun b hb hA => by
    by_cases e : p / 2 = b / 2
    · exact e.symm
    · rcases hA.under e with h | h <;> have := h.le <;> omega
  refine ⟨fun b hb hne hR => ?_, fun a ha hne hR => ?_⟩
  · rcases hR with ⟨q1, _⟩ | ⟨_, q2, q3⟩ | ⟨q1, _⟩
    · omega
    · exact .inr (.inr ⟨by omega, q2, .inr (by rw [e0]; exact q3)⟩)
    · omega
  · rcases hR with ⟨_, q2, _⟩ | ⟨q1, _, q3⟩ | ⟨q1, _, q3⟩
    · omega
    · have := leaf a ha q3
      omega
    · by_cases e : a / 2 = p / 2
      · exact .inl (by omega)
      · rcases q3 with q3 | q3
        · exact .inr (.inl ⟨q1, by omega, by rw [e0]; exact q3⟩)
        · exact absurd (leaf a ha q3) e
/-- The first look, where it changes the place. -/
theorem Ord.first {le : Nat → Nat → Prop} (T : Total le) {n : Nat} {f : Nat → Nat} {p x : Nat} (h : Ord le n f p) (hp : p < n) (hn : 1 < n) (hl : n ≤ 4 * (p / 2) + 2) (hb : if acr n p % 2 = 0 then le x (f (acr n p)) else le (f (acr n p)) x) :
    Ord le n (setF f p (f (acr n p))) (acr n p) ∧ Fits le n (setF f p (f (acr n p))) (acr n p) x := by
  obtain ⟨h1, h2, h3, h4, h5⟩ := acr_is hp hn
  refine ⟨fun a b ha hb' hab hah hbh hR => ?_, ?_⟩
  · by_cases ea : a = p
    · subst ea
      rw [setF_eq, setF_ne (Ne.symm hab)]
      refine h _ b h1 hb' (Ne.symm hbh) h2 (Ne.symm hab) ?_
      rcases Nat.mod_two_eq_zero_or_one a with e0 | e0
      · rcases (acr_even hp hn hl e0).1 b hb' (Ne.symm hab) hR with e | e
        · exact absurd e hbh
        · exact e
      · exact (acr_odd hp hn hl e0).1 b hb' (Ne.symm hab) hR
    · by_cases eb : b = p
      · subst eb
        rw [setF_eq, setF_ne ea]
        refine h a _ ha h1 hah ea h2 ?_
        rcases Nat.mod_two_eq_zero_or_one b with e0 | e0
        · exact (acr_even hp hn hl e0).2 a ha ea hR
        · rcases (acr_odd hp hn hl e0).2 a ha ea hR with e | e
          · exact absurd e hah
          · exact e
      · rw [setF_ne ea, setF_ne eb]
        exact h a b ha hb' hab ea eb hR
  · unfold Fits
    split <;> rename_i c
    · rw [if_pos c] at hb
      intro b hbn hbq hR
      by_cases eb : b = p
      · subst eb
        rw [setF_eq]
        exact hb
      · rw [setF_ne eb]
        exact T.trans _ _ _ hb (h _ _ h1 hbn (Ne.symm hbq) h2 eb hR)
    · rw [if_neg c] at hb
      intro a han haq hR
      by_cases ea : a = p
      · subst ea
        rw [setF_eq]
        exact hb
      · rw [setF_ne ea]
        exact T.trans _ _ _ (h _ _ han h1 haq ea h2 hR) hb
/-- The first look, where it leaves it. -/
theorem Ord.stays {le : Nat → Nat → Prop} (T : Total le) {n : Nat} {f : Nat → Nat} {p x : Nat} (h : Ord le n f p) (hp : p < n) (hn : 1 < n) (hl : n ≤ 4 * (p / 2) + 2) (hb : if acr n p % 2 = 0 then le (f (acr n p)) x else le x (f (acr n p))) : Fits le n f p x := by
  obtain ⟨h1, h2, h3, h4, h5⟩ := acr_is hp hn
  unfold Fits
  split <;> rename_i c
  · rw [if_neg (by omega)] at hb
    intro b hbn hbq hR
    rcases (acr_even hp hn hl c).1 b hbn hbq hR with e | e
    · rw [e]; exact hb
    · by_cases e2 : b = acr n p
      · rw [e2]; exact hb
      · exact T.trans _ _ _ hb (h _ _ h1 hbn (Ne.symm e2) h2 hbq e)
  · rw [if_pos (by omega)] at hb
    intro a han haq hR
    rcases (acr_odd hp hn hl (by omega)).2 a han haq hR with e | e
    · rw [e]; exact hb
    · by_cases e2 : a = acr n p
      · rw [e2]; exact hb
      · exact T.trans _ _ _ (h _ _ han h1 e2 haq h2 e) hb
end Go.Proofs.Ytjnfcihichaonaa
