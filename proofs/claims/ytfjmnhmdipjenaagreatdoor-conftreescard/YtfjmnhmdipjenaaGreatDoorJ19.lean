/- Contracts of the program's functions, part 19: own work, joined in build order. -/
import Derived.Test.YtfjmnhmdipjenaaGreatDoorJ18
import Derived.Laws.Bits64b
import Derived.Test.YtfjmnhmdipjenaaGreatDoorRows
import Derived.WalkKit
import Derived.WalkMore
import Derived.ScopeJumps
namespace Go.Proofs.YtfjmnhmdipjenaaGreatDoor
open Go.RowKit
set_option maxRecDepth 100000
set_option linter.unusedVariables false
theorem and3_2047 (x : Nat) (h : x < 18446744073709551616) : bits .and .u64 (x : Int) 2047 = ((x % 2048 : Nat) : Int) := by
  have := bits_and_u64_nat x 2047 h (by omega)
  rw [show (2047 : Nat) = 2 ^ 11 - 1 from rfl, Nat.and_two_pow_sub_one_eq_mod] at this
  exact this
theorem and3_low52 (x : Nat) (h : x < 18446744073709551616) : bits .and .u64 (x : Int) 4503599627370495 = ((x % 4503599627370496 : Nat) : Int) := by
  have := bits_and_u64_nat x 4503599627370495 h (by omega)
  rw [show (4503599627370495 : Nat) = 2 ^ 52 - 1 from rfl, Nat.and_two_pow_sub_one_eq_mod] at this
  exact this
/-- What FromFloat looks at. -/
structure Flk (u x0 E m t s : Nat) : Prop where
  lt : u < 18446744073709551616
  x : x0 = u / 4503599627370496
  e : E = x0 % 2048
  m : m = u % 4503599627370496
  t : t = u / 9223372036854775808
  s : s = u * 2 % 18446744073709551616
structure Frl (u x0 E m t s : Nat) : Prop where
  r2 : (u : Int) / 4503599627370496 = (x0 : Int)
  r3 : bits .and .u64 (x0 : Int) 2047 = (E : Int)
  r5 : bits .and .u64 (u : Int) 4503599627370495 = (m : Int)
  r6 : (u : Int) / 9223372036854775808 = (t : Int)
  r7 : IntKind.u64.wrap ((u : Int) * 2) = (s : Int)
  r8 : wrap64 (E : Int) = (E : Int)
  r9 : IntKind.i64.wrap (E : Int) = (E : Int)
theorem Flk.rules {u x0 E m t s : Nat} (h : Flk u x0 E m t s) : Frl u x0 E m t s := by
  obtain ⟨h0, h1, h2, h3, h4, h5⟩ := h
  have hE : E < 2048 := by rw [h2]; exact Nat.mod_lt _ (by omega)
  refine ⟨by omega, ?_, ?_, by omega, by rw [IntKind.wrap_u64]; omega, IntWalk.wrap64_in _ ⟨by omega, by omega⟩, by rw [IntKind.wrap_i64]; omega⟩
  · rw [h2]; exact and3_2047 x0 (by omega)
  · rw [h3]; exact and3_low52 u h0
/-- What comes of it. -/
structure Fg (u mm : Nat) (z : Int) : Prop where
  mlt : mm < 9007199254740992
  lo : -1074 ≤ z
  hi : z ≤ 971
  eN : fN u = mm * 2 ^ z.toNat
  eD : fD u = 2 ^ (-z).toNat
theorem Fg.sN {u mm : Nat} {z : Int} (h : Fg u mm z) : RS (mm * 2 ^ z.toNat) := ⟨P_up (fN_gen (n := 17) (Nat.lt_of_lt_of_eq h.mlt (by decide)) (by have := h.hi; omega)) (by omega)⟩
theorem Fg.sD {u mm : Nat} {z : Int} (h : Fg u mm z) : RS (2 ^ (-z).toNat) := ⟨P_up (two_P (n := 17) (by have := h.lo; omega)) (by omega)⟩
/-- What FromFloat tells, of all bits. -/
def isFb (u : Nat) : Bool := decide (u = 9223372036854775808) || decide (u < 9218868437227405312)
def ffP (u : Nat) : Nat := if isFb u then fN (nz u) / Nat.gcd (fN (nz u)) (fD (nz u)) else 0
def ffQ (u : Nat) : Nat := if isFb u then fD (nz u) / Nat.gcd (fN (nz u)) (fD (nz u)) else 1
theorem fN_zero : fN 0 = 0 := by unfold fN fm; simp
theorem fD_gcd (u : Nat) (h : fN u = 0) : fN u / Nat.gcd (fN u) (fD u) = 0 ∧ fD u / Nat.gcd (fN u) (fD u) = 1 := by
  rw [h, Nat.gcd_zero_left, Nat.zero_div, Nat.div_self (fD_pos u)]
  exact ⟨rfl, rfl⟩
theorem ff_no {u : Nat} (h : isFb u = false) : ffP u = 0 ∧ ffQ u = 1 := by unfold ffP ffQ; rw [h]; exact ⟨rfl, rfl⟩
theorem ff_zero : ffP 9223372036854775808 = 0 ∧ ffQ 9223372036854775808 = 1 := by
  have h : isFb 9223372036854775808 = true := by decide
  unfold ffP ffQ
  rw [h, if_pos rfl, if_pos rfl]
  have : nz 9223372036854775808 = 0 := by unfold nz; simp
  rw [this]
  exact fD_gcd 0 fN_zero
theorem ff_yes {u : Nat} (h : u < 9218868437227405312) : ffP u = fN u / Nat.gcd (fN u) (fD u) ∧ ffQ u = fD u / Nat.gcd (fN u) (fD u) := by
  have h1 : isFb u = true := by unfold isFb; simp; omega
  have h2 : nz u = u := by unfold nz; rw [if_neg (by omega)]
  unfold ffP ffQ
  rw [h1, h2]
  exact ⟨rfl, rfl⟩
theorem fromFloat_all (u : Nat) (w : World) (hu : u < 18446744073709551616) (hT : Tab w) : Calls Tryz.prog 24 #[.float .f64 u] w (MakesRB w (ffP u) (ffQ u) (isFb u)) := by
  by_cases h1 : u = 9223372036854775808
  · subst h1
    have h : isFb 9223372036854775808 = true := by decide
    rw [ff_zero.1, ff_zero.2, h]
    exact fromFloat_zero w
  · by_cases h2 : u < 9218868437227405312
    · have h : isFb u = true := by unfold isFb; simp; omega
      rw [(ff_yes h2).1, (ff_yes h2).2, h]
      exact fromFloat_yes u w h2 hT
    · have h : isFb u = false := by unfold isFb; simp; omega
      rw [(ff_no h).1, (ff_no h).2, h]
      exact fromFloat_no u w (fun hh => by rcases hh with e | e <;> omega) hu
end Go.Proofs.YtfjmnhmdipjenaaGreatDoor

namespace Go.Proofs.YtfjmnhmdipjenaaGreatDoor
open Go.RowKit
/-- As Q; by a goto to label l: J l. -/
def jumpsL (J : Nat → Act → World → Prop) (Q : Exit → Act → World → Prop) : Exit → Act → World → Prop
  | .goto l, a, w => J l a w
  | e, a, w => Q e a w
theorem jumpsL_ret {J : Nat → Act → World → Prop} {Q : Exit → Act → World → Prop} {a : Act} {w : World} : jumpsL J Q .ret a w = Q .ret a w := rfl
theorem wp_scope_labels {P : Program} {c : Code} {a : Act} {w : World} {Q : Exit → Act → World → Prop} (J : Nat → Act → World → Prop) (m : Nat → Act → World → Nat)
    (first : c.wp P (jumpsL J Q) a w)
    (pass : ∀ l a w, J l a w → ∃ rest, findLabel c l = some rest ∧ rest.wp P (jumpsL (fun l' a' w' => J l' a' w' ∧ m l' a' w' < m l a w) Q) a w) : (Code.scope c).wp P Q a w := by
  intro b k cs
  have key : ∀ n l a w, m l a w = n → J l a w → ∃ k0, gotoIn l (.inScope c :: k) = some k0 ∧ ∃ e a' w', Q e a' w' ∧ Arrives P (lone (b.at a k0) cs w) b k cs e a' w' := by
    intro n
    induction n using Nat.strongRecOn with
    | _ n ih =>
      intro l a w hn hJ
      obtain ⟨rest, hf, hp⟩ := pass l a w hJ
      have hg : gotoIn l (.inScope c :: k) = some (.code rest :: .inScope c :: k) := by simp [gotoIn, hf]
      refine ⟨_, hg, ?_⟩
      obtain ⟨e, a₁, w₁, hq, harr⟩ := hp b (.inScope c :: k) cs
      cases e with
      | normal => exact ⟨.normal, a₁, w₁, hq, Steps.trans harr (.one step_inScope)⟩
      | exit id => exact ⟨.exit id, a₁, w₁, hq, fun k' hk => harr k' (by simp [exitTo, hk])⟩
      | goto l' =>
        obtain ⟨hJ', hlt⟩ := hq
        obtain ⟨k0, hg0, e₂, a₂, w₂, hq₂, harr₂⟩ := ih _ (by omega) l' a₁ w₁ rfl hJ'
        exact ⟨e₂, a₂, w₂, hq₂, .of_steps (harr _ hg0) harr₂⟩
      | ret => exact ⟨_, a₁, w₁, hq, harr⟩
      | panic ch => exact ⟨_, a₁, w₁, hq, harr⟩
      | outgrown => exact ⟨_, a₁, w₁, hq, harr⟩
  obtain ⟨e, a₁, w₁, hq, harr⟩ := first b (.inScope c :: k) cs
  cases e with
  | normal => exact ⟨.normal, a₁, w₁, hq, .head step_scope (Steps.trans harr (.one step_inScope))⟩
  | exit id => exact ⟨.exit id, a₁, w₁, hq, fun k' hk => .head step_scope (harr k' (by simp [exitTo, hk]))⟩
  | goto l' =>
    obtain ⟨k0, hg0, e₂, a₂, w₂, hq₂, harr₂⟩ := key _ l' a₁ w₁ rfl hq
    exact ⟨e₂, a₂, w₂, hq₂, .of_steps (.head step_scope (harr _ hg0)) harr₂⟩
  | ret => exact ⟨_, a₁, w₁, hq, .of_steps (.one step_scope) harr⟩
  | panic ch => exact ⟨_, a₁, w₁, hq, .of_steps (.one step_scope) harr⟩
  | outgrown => exact ⟨_, a₁, w₁, hq, .of_steps (.one step_scope) harr⟩
/-- The scope begins with code ahead of its first label. -/
theorem wp_scope_first {P : Program} {pre body : Code} {a : Act} {w : World} {Q : Exit → Act → World → Prop} (l0 : Nat) (J : Nat → Act → World → Prop) (m : Nat → Act → World → Nat)
    (h0 : findLabel (pre.seq ((Code.label l0).seq body)) l0 = some (Code.skip.seq body))
    (first : pre.wp P (fun e a w => e = .normal ∧ J l0 a w) a w)
    (pass0 : ∀ a w, J l0 a w → body.wp P (jumpsL (fun l' a' w' => J l' a' w' ∧ m l' a' w' < m l0 a w) Q) a w)
    (pass : ∀ l a w, l ≠ l0 → J l a w → ∃ rest, findLabel (pre.seq ((Code.label l0).seq body)) l = some rest ∧ rest.wp P (jumpsL (fun l' a' w' => J l' a' w' ∧ m l' a' w' < m l a w) Q) a w) : (Code.scope (pre.seq ((Code.label l0).seq body))).wp P Q a w := by
  refine wp_scope_labels J m (wp_seq (wp_mono first fun e a w he => ?_)) fun l a w hj => ?_
  · obtain ⟨rfl, hj⟩ := he
    refine wp_seq (wp_label ?_)
    refine wp_mono (pass0 a w hj) fun e a w he => ?_
    cases e <;> first | exact he | exact he.1
  · by_cases e : l = l0
    · subst e
      exact ⟨_, h0, wp_seq (wp_skip (pass0 a w hj))⟩
    · exact pass l a w e hj
end Go.Proofs.YtfjmnhmdipjenaaGreatDoor

