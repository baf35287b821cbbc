/- Contracts of the program's functions, part 53: own work, joined in build order. -/
import Derived.Test.YtjnfcihichaonaaJ52
namespace Go.Proofs.Ytjnfcihichaonaa
open Go.RowKit
set_option maxRecDepth 100000
set_option linter.unusedVariables false
theorem some1_any {W0 W : World} {hb ob : Nat} {md : Int} {tur : Bool} {lies : Int} {N n : Nat} {T : Int → Option (Int × Int)} {nx : Int} {lv : Value} {L : List Th} (h : Lz W0 W hb ob md tur lies N n nx T nx lv L) (hs : Syn T L n) (hN : N < 999999999) (hn : n ≤ 1000) :
    Calls Try.prog 24 #[.agg #[.pointer (some ⟨hb, 0, none⟩), .pointer (some ⟨ob, 0, none⟩)], .int .i64 1] W fun e w' => e = .returned (.bool true) ∧ Aft W0 W hb ob md tur lies N n nx nx w' := by
  rcases n with _ | n
  · exact some1_none h hs
  · exact some1_some h hs hN (by omega)
theorem some2_any {W0 W : World} {hb ob : Nat} {md : Int} {tur : Bool} {lies : Int} {N n : Nat} {T : Int → Option (Int × Int)} {nx : Int} {lv : Value} {L : List Th} (h : Lz W0 W hb ob md tur lies N n nx T nx lv L) (hs : Syn T L n) (hN : N < 999999999) (hn : n ≤ 1000) :
    Calls Try.prog 24 #[.agg #[.pointer (some ⟨hb, 0, none⟩), .pointer (some ⟨ob, 0, none⟩)], .int .i64 2] W fun e w' => e = .returned (.bool true) ∧ Aft W0 W hb ob md tur lies N n nx nx w' := by
  rcases n with _ | n
  · exact some2_none h hs
  · exact some2_some h hs hN (by omega)
theorem some3_any {W0 W : World} {hb ob : Nat} {md : Int} {tur : Bool} {lies : Int} {N n : Nat} {T : Int → Option (Int × Int)} {nx : Int} {lv : Value} {L : List Th} (h : Lz W0 W hb ob md tur lies N n nx T nx lv L) (hs : Syn T L n) (hN : N < 999999999) (hn : n ≤ 1000) :
    Calls Try.prog 24 #[.agg #[.pointer (some ⟨hb, 0, none⟩), .pointer (some ⟨ob, 0, none⟩)], .int .i64 3] W fun e w' => e = .returned (.bool true) ∧ Aft W0 W hb ob md tur lies N n nx nx w' := by
  rcases n with _ | n
  · exact some3_none h hs
  · exact some3_some h hs hN (by omega)
theorem some4_any {W0 W : World} {hb ob : Nat} {md : Int} {tur : Bool} {lies : Int} {N n : Nat} {T : Int → Option (Int × Int)} {nx : Int} {lv : Value} {L : List Th} (h : Lz W0 W hb ob md tur lies N n nx T nx lv L) (hs : Syn T L n) (hN : N < 999999999) (hn : n ≤ 1000) :
    Calls Try.prog 24 #[.agg #[.pointer (some ⟨hb, 0, none⟩), .pointer (some ⟨ob, 0, none⟩)], .int .i64 4] W fun e w' => e = .returned (.bool true) ∧ Aft W0 W hb ob md tur lies N n nx nx w' := by
  rcases n with _ | n
  · exact some4_none h hs
  · exact some4_some h hs hN (by omega)
theorem one5_any {W0 W : World} {hb ob : Nat} {md : Int} {tur : Bool} {lies : Int} {N n : Nat} {T : Int → Option (Int × Int)} {nx : Int} {lv : Value} {L : List Th} (oj K V It : Int) (h : Lz W0 W hb ob md tur lies N n nx T nx lv L) (hs : Syn T L n) (hN : N < 999999999) (hn : n < 1000) (hx : nx ≤ 100000) (hK : -9223372036854775808 ≤ K ∧ K ≤ 9223372036854775807) (hI1 : -9223372036854775808 ≤ It) (hI2 : It ≤ 9223372036854775807) :
    Calls Try.prog 25 #[.agg #[.pointer (some ⟨hb, 0, none⟩), .pointer (some ⟨ob, 0, none⟩)], .agg #[.int .i64 oj, .int .i64 5, .int .i64 K, .int .i64 V, .int .i64 It]] W fun e w' => e = .returned (.bool true) ∧ Aft W0 W hb ob md tur lies N n nx nx w' := by
  have up : ∀ e w', (e = Ending.returned (.bool true) ∧ ∃ T' lv' L', Lz W0 w' hb ob md tur lies N n nx T' nx lv' L' ∧ Syn T' L' n ∧ Fr W0.heap.size W w') → e = .returned (.bool true) ∧ Aft W0 W hb ob md tur lies N n nx nx w' := by
    rintro e w' ⟨e1, T', lv', L', h1, h2, h3⟩
    exact ⟨e1, N, n, T', lv', L', h1, h2, Nat.le_refl _, Nat.le_refl _, fun d _ => by omega, h3⟩
  rcases Int.lt_or_le It 0 with c | c
  · exact (one5_neg oj K V It h hs hN hn hx hK hI1 hI2 c).mono up
  · have h0 := h.hp.pus.1
    rcases Int.lt_or_le 0 nx with c2 | c2
    · cases e : T (It.tmod (nx + 2)) with
      | none => exact (one5_pos oj K V It h hs hN hn hx hK hI1 hI2 c c2 e).mono up
      | some p => exact (one5_hit oj K V It h hs hN hn hx hK hI1 hI2 c c2 (k := p.1) (v := p.2) e).mono up
    · exact (one5_zero oj K V It h hs hN hn hx hK hI1 hI2 c (by omega)).mono up
theorem one6_any {W0 W : World} {hb ob : Nat} {md : Int} {tur : Bool} {lies : Int} {N n : Nat} {T : Int → Option (Int × Int)} {nx : Int} {lv : Value} {L : List Th} (oj K V It : Int) (h : Lz W0 W hb ob md tur lies N n nx T nx lv L) (hs : Syn T L n) (hN : N < 999999999) (hn : n < 1000) (hx : nx ≤ 100000) (hK : -9223372036854775808 ≤ K ∧ K ≤ 9223372036854775807) (hI1 : -9223372036854775808 ≤ It) (hI2 : It ≤ 9223372036854775807) :
    Calls Try.prog 25 #[.agg #[.pointer (some ⟨hb, 0, none⟩), .pointer (some ⟨ob, 0, none⟩)], .agg #[.int .i64 oj, .int .i64 6, .int .i64 K, .int .i64 V, .int .i64 It]] W fun e w' => e = .returned (.bool true) ∧ Aft W0 W hb ob md tur lies N n nx nx w' := by
  rcases Int.lt_or_le It 0 with c | c
  · exact one6_neg oj K V It h hs hN hn hx hK hI1 hI2 c
  · have h0 := h.hp.pus.1
    rcases Int.lt_or_le 0 nx with c2 | c2
    · cases e : T (It.tmod (nx + 2)) with
      | none => exact one6_pos oj K V It h hs hN hn hx hK hI1 hI2 c c2 e
      | some p =>
        rcases n with _ | n
        · have := h.hp.none' (It.tmod (nx + 2))
          rw [e] at this
          cases this
        · exact one6_hit oj K V It h hs hN (by omega) hx hK hI1 hI2 c c2 (k := p.1) (v := p.2) e
    · exact one6_zero oj K V It h hs hN hn hx hK hI1 hI2 c (by omega)
theorem one7_any {W0 W : World} {hb ob : Nat} {md : Int} {tur : Bool} {lies : Int} {N n : Nat} {T : Int → Option (Int × Int)} {nx : Int} {lv : Value} {L : List Th} (oj K V It : Int) (h : Lz W0 W hb ob md tur lies N n nx T nx lv L) (hs : Syn T L n) (hN : N < 999999999) (hn : n < 1000) (hx : nx ≤ 100000) (hK : -9223372036854775808 ≤ K ∧ K ≤ 9223372036854775807) (hI1 : -9223372036854775808 ≤ It) (hI2 : It ≤ 9223372036854775807) :
    Calls Try.prog 25 #[.agg #[.pointer (some ⟨hb, 0, none⟩), .pointer (some ⟨ob, 0, none⟩)], .agg #[.int .i64 oj, .int .i64 7, .int .i64 K, .int .i64 V, .int .i64 It]] W fun e w' => e = .returned (.bool true) ∧ Aft W0 W hb ob md tur lies N n nx nx w' := by
  rcases Int.lt_or_le It 0 with c | c
  · exact one7_neg oj K V It h hs hN hn hx hK hI1 hI2 c
  · have h0 := h.hp.pus.1
    rcases Int.lt_or_le 0 nx with c2 | c2
    · cases e : T (It.tmod (nx + 2)) with
      | none => exact one7_pos oj K V It h hs hN hn hx hK hI1 hI2 c c2 e
      | some p => exact one7_hit oj K V It h hs hN hn hx hK hI1 hI2 c c2 (k := p.1) (v := p.2) e
    · exact one7_zero oj K V It h hs hN hn hx hK hI1 hI2 c (by omega)
end Go.Proofs.Ytjnfcihichaonaa
