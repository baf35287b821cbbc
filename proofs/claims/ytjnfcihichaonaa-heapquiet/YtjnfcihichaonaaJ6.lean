/- Contracts of the program's functions, part 6: own work, joined in build order. -/
import Derived.Test.YtjnfcihichaonaaJ5
namespace Go.Proofs.Ytjnfcihichaonaa
open Go.RowKit
set_option maxRecDepth 100000
set_option linter.unusedVariables false
theorem MeI.c1 {w : World} {hb ob gp n cap mb : Nat} {pu : Int} {f : Nat → Nat} {B : Nat → Prop} {it ke : Nat → Int} {va : Nat → Int} {hole : Nat} (h : MeI w hb ob gp n cap mb pu f B it ke va hole) : w.cell? ⟨hb, 1, none⟩ = some (.slice (some ⟨gp, 0, none⟩) n cap) := by simp [World.cell?, h.hd]
theorem MeI.at {w : World} {hb ob gp n cap mb : Nat} {pu : Int} {f : Nat → Nat} {B : Nat → Prop} {it ke : Nat → Int} {va : Nat → Int} {hole : Nat} (h : MeI w hb ob gp n cap mb pu f B it ke va hole) {i : Nat} (hi : i < n) : w.cell? ⟨gp, i, none⟩ = some (.pointer (some ⟨f i, 0, none⟩)) := by
  obtain ⟨cs, e, _, hc⟩ := h.row
  simp [World.cell?, e, hc i hi]
set_option maxHeartbeats 1000000 in
theorem overI_any {hb ob gp n cap mb : Nat} {pu : Int} {f : Nat → Nat} {B : Nat → Prop} {it ke : Nat → Int} {va : Nat → Int} {hole : Nat} {lv : Value} {nx mod : Int} {tur : Bool} {lies : Int} {N : Nat} (x y p : Nat) (w : World) (h : MeI w hb ob gp n cap mb pu f B it ke va hole) (ho : Ordr w ob lv nx mod tur lies N) (hN : N < 1000000000000) (hx : B x) (hy : B y) (hp : p < 4611686018427387904) :
    Calls Try.prog 59 #[.pointer (some ⟨hb, 0, none⟩), .pointer (some ⟨x, 0, none⟩), .pointer (some ⟨y, 0, none⟩), .int .i64 (p : Int)] w (Asks w ob lv nx mod tur lies N (OvP (leB mod tur it ke) x y p)) := by
  have A1 : Hid (Calls Try.prog 74 #[.pointer (some ⟨hb, 0, none⟩), .pointer (some ⟨x, 0, none⟩), .pointer (some ⟨y, 0, none⟩)] w (Asks w ob lv nx mod tur lies N (fun t => (t = true → leB mod tur it ke x y) ∧ (t = false → leB mod tur it ke y x)))) := aheadI_any x y w h ho hN hx hy
  have A2 : Hid (Calls Try.prog 74 #[.pointer (some ⟨hb, 0, none⟩), .pointer (some ⟨y, 0, none⟩), .pointer (some ⟨x, 0, none⟩)] w (Asks w ob lv nx mod tur lies N (fun t => (t = true → leB mod tur it ke y x) ∧ (t = false → leB mod tur it ke x y)))) := aheadI_any y x w h ho hN hy hx
  have E : Hid (Calls Try.prog 73 #[.int .i64 (p : Int)] w fun e w' => e = .returned (.bool (decide (p % 2 = 0))) ∧ w' = w) := even_any p hp w
  clear h ho
  rcases Nat.mod_two_eq_zero_or_one p with c | c
  · rw [show decide (p % 2 = 0) = true by simp [c]] at E
    go_enter Try.func59, Try.ntmps59
    go_wp2_with (first | (go_at_call 73; refine Calls.mono E.out ?_; rintro e w1 ⟨rfl, rfl⟩) | (go_at_call 74; refine Calls.mono A1.out ?_; rintro e w2 ⟨t, rfl, hp2, h5, hT⟩))
    go_ret
    exact ⟨t, rfl, fun e => by unfold OvP; rw [if_pos c]; exact hp2 e, h5, hT⟩
  · rw [show decide (p % 2 = 0) = false by simp [c]] at E
    go_enter Try.func59, Try.ntmps59
    go_wp2_with (first | (go_at_call 73; refine Calls.mono E.out ?_; rintro e w1 ⟨rfl, rfl⟩) | (go_at_call 74; refine Calls.mono A2.out ?_; rintro e w2 ⟨t, rfl, hp2, h5, hT⟩))
    go_ret
    exact ⟨t, rfl, fun e => by unfold OvP; rw [if_neg (by omega)]; exact hp2 e, h5, hT⟩
theorem acrossI_any {hb ob gp n cap mb : Nat} {pu : Int} {f : Nat → Nat} {B : Nat → Prop} {it ke : Nat → Int} {va : Nat → Int} {hole : Nat} (p : Nat) (w : World) (h : MeI w hb ob gp n cap mb pu f B it ke va hole) (hp : p < n) (hn : 1 < n) :
    Calls Try.prog 58 #[.pointer (some ⟨hb, 0, none⟩), .int .i64 (p : Int)] w fun e w' => e = .returned (.int .i64 (acr n p : Int)) ∧ w' = w := by
  have hl := h.lim
  have hle := h.le
  have h1 := h.c1
  have hx := bits_twin p (by omega)
  clear h
  go_enter Try.func58, Try.ntmps58
  by_cases c : tw p < n
  · have ea : acr n p = tw p := by unfold acr; rw [if_pos c]
    rw [ea]
    clear ea
    generalize tw p = T at *
    go_wp2_with fail
    go_ret
    exact ⟨rfl, rfl⟩
  · have ea : acr n p = up p + 1 := by unfold acr; rw [if_neg c]
    rw [ea]
    clear ea
    have h2 : 1 < p := by unfold tw at c; split at c <;> omega
    have A : Hid (Calls Try.prog 61 #[.int .i64 (p : Int)] w fun e w' => e = .returned (.int .i64 (up p : Int)) ∧ w' = w) := above_any p h2 (by omega) w
    have hu := up_lt h2
    have hw : IntKind.i64.wrap ((up p : Int) + 1) = ((up p + 1 : Nat) : Int) := by rw [IntKind.wrap_i64]; omega
    have ht : tw p < 4611686018427387904 := by unfold tw; split <;> omega
    generalize tw p = T at *
    generalize up p = U at *
    go_wp2_with (go_at_call 61; refine Calls.mono A.out ?_; rintro e w1 ⟨rfl, rfl⟩)
    go_ret
    exact ⟨by first | rfl | simp, rfl⟩
theorem ofI_any {hb ob gp n cap mb : Nat} {pu : Int} {f : Nat → Nat} {B : Nat → Prop} {it ke : Nat → Int} {va : Nat → Int} {hole : Nat} (pr p : Nat) (w : World) (h : MeI w hb ob gp n cap mb pu f B it ke va hole) (hp : p < 4611686018427387904) (hr : pr < 1152921504606846976) :
    Calls Try.prog 91 #[.pointer (some ⟨hb, 0, none⟩), .int .i64 (pr : Int), .int .i64 (p : Int)] w fun e w' => e = .returned (ofV (ofM n pr p)) ∧ w' = w := by
  have hl := h.lim
  have hle := h.le
  have h1 := h.c1
  have E : Hid (Calls Try.prog 73 #[.int .i64 (p : Int)] w fun e w' => e = .returned (.bool (decide (p % 2 = 0))) ∧ w' = w) := even_any p hp w
  have w1 : IntKind.i64.wrap (2 * (pr : Int)) = ((2 * pr : Nat) : Int) := by rw [IntKind.wrap_i64]; omega
  have w2 : IntKind.i64.wrap (((2 * pr : Nat) : Int) + 1) = ((2 * pr + 1 : Nat) : Int) := by rw [IntKind.wrap_i64]; omega
  clear h
  by_cases c : n ≤ 2 * pr
  · rw [show ofM n pr p = none by unfold ofM; rw [if_pos c]]
    go_enter Try.func91, Try.ntmps91
    go_wp2_with fail
    go_ret2
    exact ⟨rfl, rfl⟩
  · by_cases c2 : p % 2 = 0
    · rw [show ofM n pr p = some (2 * pr) by unfold ofM; rw [if_neg c, if_pos (.inl c2)]]
      rw [show decide (p % 2 = 0) = true by simp [c2]] at E
      go_enter Try.func91, Try.ntmps91
      go_wp2_with (go_at_call 73; refine Calls.mono E.out ?_; rintro e w1 ⟨rfl, rfl⟩)
      go_ret2
      exact ⟨by simp [ofV], rfl⟩
    · rw [show decide (p % 2 = 0) = false by simp [c2]] at E
      by_cases c3 : 2 * pr + 1 = n
      · rw [show ofM n pr p = some (2 * pr) by unfold ofM; rw [if_neg c, if_pos (.inr c3)]]
        go_enter Try.func91, Try.ntmps91
        go_wp2_with (go_at_call 73; refine Calls.mono E.out ?_; rintro e w1 ⟨rfl, rfl⟩)
        go_ret2
        exact ⟨by simp [ofV], rfl⟩
      · rw [show ofM n pr p = some (2 * pr + 1) by unfold ofM; rw [if_neg c, if_neg (by omega)]]
        have c4 : ¬ (2 * (pr : Int) + 1 = (n : Int)) := by omega
        go_enter Try.func91, Try.ntmps91
        go_wp2_with (go_at_call 73; refine Calls.mono E.out ?_; rintro e w1 ⟨rfl, rfl⟩)
        go_ret2
        exact ⟨by simp [ofV], rfl⟩
end Go.Proofs.Ytjnfcihichaonaa
