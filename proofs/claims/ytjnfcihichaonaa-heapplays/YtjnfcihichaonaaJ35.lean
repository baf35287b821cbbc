/- Contracts of the program's functions, part 35: own work, joined in build order. -/
import Derived.Test.YtjnfcihichaonaaJ34
import Derived.Deep.Cut
namespace Go.Proofs.Ytjnfcihichaonaa
open Go.RowKit
set_option maxRecDepth 100000
set_option linter.unusedVariables false
theorem some1_any {W0 W : World} {hb ob : Nat} {md : Int} {tur : Bool} {lies : Int} {N n : Nat} {T : Int → Option (Int × Int)} {nx : Int} {lv : Value} {L : List Th} (h : Lz W0 W hb ob md tur lies N n nx T nx lv L) (hs : Syn T L n) (hN : N < 999999999) (hn : n ≤ 1000) :
    Calls Try.prog 24 #[.agg #[.pointer (some ⟨hb, 0, none⟩), .pointer (some ⟨ob, 0, none⟩)], .int .i64 1] W fun e w' => e = .returned (.bool true) ∧ Aft W0 W hb ob md tur lies N n nx nx w' := by
  rcases n with _ | n
  · exact some1_none h hs
  · exact some1_some h hs hN (by omega)
theorem some2_any {W0 W : World} {hb ob : Nat} {md : Int} {tur : Bool} {lies : Int} {N n : Nat} {T : Int → Option (Int × Int)} {nx : Int} {lv : Value} {L : List Th} (h : Lz W0 W hb ob md tur lies N n nx T nx lv L) (hs : Syn T L n) (hN : N < 999999999) (hn : n ≤ 1000) :
    Calls Try.prog 24 #[.agg #[.pointer (some ⟨hb, 0, none⟩), .pointer (some ⟨ob, 0, none⟩)], .int .i64 2] W fun e w' => e = .returned (.bool true) ∧ Aft W0 W hb ob md tur lies N n nx nx w' := by
  rcases n with _ | n
  · exact some2_none h hs
  · exact some2_some h hs hN (by omega)
theorem some3_any {W0 W : World} {hb ob : Nat} {md : Int} {tur : Bool} {lies : Int} {N n : Nat} {T : Int → Option (Int × Int)} {nx : Int} {lv : Value} {L : List Th} (h : Lz W0 W hb ob md tur lies N n nx T nx lv L) (hs : Syn T L n) (hN : N < 999999999) (hn : n ≤ 1000) :
    Calls Try.prog 24 #[.agg #[.pointer (some ⟨hb, 0, none⟩), .pointer (some ⟨ob, 0, none⟩)], .int .i64 3] W fun e w' => e = .returned (.bool true) ∧ Aft W0 W hb ob md tur lies N n nx nx w' := by
  rcases n with _ | n
  · exact some3_none h hs
  · exact some3_some h hs hN (by omega)
theorem some4_any {W0 W : World} {hb ob : Nat} {md : Int} {tur : Bool} {lies : Int} {N n : Nat} {T : Int → Option (Int × Int)} {nx : Int} {lv : Value} {L : List Th} (h : Lz W0 W hb ob md tur lies N n nx T nx lv L) (hs : Syn T L n) (hN : N < 999999999) (hn : n ≤ 1000) :
    Calls Try.prog 24 #[.agg #[.pointer (some ⟨hb, 0, none⟩), .pointer (some ⟨ob, 0, none⟩)], .int .i64 4] W fun e w' => e = .returned (.bool true) ∧ Aft W0 W hb ob md tur lies N n nx nx w' := by
  rcases n with _ | n
  · exact some4_none h hs
  · exact some4_some h hs hN (by omega)
theorem one5_any {W0 W : World} {hb ob : Nat} {md : Int} {tur : Bool} {lies : Int} {N n : Nat} {T : Int → Option (Int × Int)} {nx : Int} {lv : Value} {L : List Th} (oj K V It : Int) (h : Lz W0 W hb ob md tur lies N n nx T nx lv L) (hs : Syn T L n) (hN : N < 999999999) (hn : n < 1000) (hx : nx ≤ 100000) (hK : -9223372036854775808 ≤ K ∧ K ≤ 9223372036854775807) (hI1 : -9223372036854775808 ≤ It) (hI2 : It ≤ 9223372036854775807) :
    Calls Try.prog 25 #[.agg #[.pointer (some ⟨hb, 0, none⟩), .pointer (some ⟨ob, 0, none⟩)], .agg #[.int .i64 oj, .int .i64 5, .int .i64 K, .int .i64 V, .int .i64 It]] W fun e w' => e = .returned (.bool true) ∧ Aft W0 W hb ob md tur lies N n nx nx w' := by
  have up : ∀ e w', (e = Ending.returned (.bool true) ∧ ∃ T' lv' L', Lz W0 w' hb ob md tur lies N n nx T' nx lv' L' ∧ Syn T' L' n ∧ Fr hb ob W0.heap.size W w') → e = .returned (.bool true) ∧ Aft W0 W hb ob md tur lies N n nx nx w' := by
    rintro e w' ⟨e1, T', lv', L', h1, h2, h3⟩
    exact ⟨e1, N, n, T', lv', L', h1, h2, Nat.le_refl _, Nat.le_refl _, fun d _ => by omega, h3⟩
  rcases Int.lt_or_le It 0 with c | c
  · exact (one5_neg oj K V It h hs hN hn hx hK hI1 hI2 c).mono up
  · have h0 := h.hp.pus.1
    rcases Int.lt_or_le 0 nx with c2 | c2
    · cases e : T (It.tmod (nx + 2)) with
      | none => exact (one5_pos oj K V It h hs hN hn hx hK hI1 hI2 c c2 e).mono up
      | some p => exact (one5_hit oj K V It h hs hN hn hx hK hI1 hI2 c c2 (k := p.1) (v := p.2) e).mono up
    · exact (one5_zero oj K V It h hs hN hn hx hK hI1 hI2 c (by omega)).mono up
theorem one6_any {W0 W : World} {hb ob : Nat} {md : Int} {tur : Bool} {lies : Int} {N n : Nat} {T : Int → Option (Int × Int)} {nx : Int} {lv : Value} {L : List Th} (oj K V It : Int) (h : Lz W0 W hb ob md tur lies N n nx T nx lv L) (hs : Syn T L n) (hN : N < 999999999) (hn : n < 1000) (hx : nx ≤ 100000) (hK : -9223372036854775808 ≤ K ∧ K ≤ 9223372036854775807) (hI1 : -9223372036854775808 ≤ It) (hI2 : It ≤ 9223372036854775807) :
    Calls Try.prog 25 #[.agg #[.pointer (some ⟨hb, 0, none⟩), .pointer (some ⟨ob, 0, none⟩)], .agg #[.int .i64 oj, .int .i64 6, .int .i64 K, .int .i64 V, .int .i64 It]] W fun e w' => e = .returned (.bool true) ∧ Aft W0 W hb ob md tur lies N n nx nx w' := by
  rcases Int.lt_or_le It 0 with c | c
  · exact one6_neg oj K V It h hs hN hn hx hK hI1 hI2 c
  · have h0 := h.hp.pus.1
    rcases Int.lt_or_le 0 nx with c2 | c2
    · cases e : T (It.tmod (nx + 2)) with
      | none => exact one6_pos oj K V It h hs hN hn hx hK hI1 hI2 c c2 e
      | some p =>
        rcases n with _ | n
        · have := h.hp.none' (It.tmod (nx + 2))
          rw [e] at this
          cases this
        · exact one6_hit oj K V It h hs hN (by omega) hx hK hI1 hI2 c c2 (k := p.1) (v := p.2) e
    · exact one6_zero oj K V It h hs hN hn hx hK hI1 hI2 c (by omega)
theorem one7_any {W0 W : World} {hb ob : Nat} {md : Int} {tur : Bool} {lies : Int} {N n : Nat} {T : Int → Option (Int × Int)} {nx : Int} {lv : Value} {L : List Th} (oj K V It : Int) (h : Lz W0 W hb ob md tur lies N n nx T nx lv L) (hs : Syn T L n) (hN : N < 999999999) (hn : n < 1000) (hx : nx ≤ 100000) (hK : -9223372036854775808 ≤ K ∧ K ≤ 9223372036854775807) (hI1 : -9223372036854775808 ≤ It) (hI2 : It ≤ 9223372036854775807) :
    Calls Try.prog 25 #[.agg #[.pointer (some ⟨hb, 0, none⟩), .pointer (some ⟨ob, 0, none⟩)], .agg #[.int .i64 oj, .int .i64 7, .int .i64 K, .int .i64 V, .int .i64 It]] W fun e w' => e = .returned (.bool true) ∧ Aft W0 W hb ob md tur lies N n nx nx w' := by
  rcases Int.lt_or_le It 0 with c | c
  · exact one7_neg oj K V It h hs hN hn hx hK hI1 hI2 c
  · have h0 := h.hp.pus.1
    rcases Int.lt_or_le 0 nx with c2 | c2
    · cases e : T (It.tmod (nx + 2)) with
      | none => exact one7_pos oj K V It h hs hN hn hx hK hI1 hI2 c c2 e
      | some p => exact one7_hit oj K V It h hs hN hn hx hK hI1 hI2 c c2 (k := p.1) (v := p.2) e
    · exact one7_zero oj K V It h hs hN hn hx hK hI1 hI2 c (by omega)
end Go.Proofs.Ytjnfcihichaonaa
namespace Go.Proofs.Ytjnfcihichaonaa
open Go.RowKit Go.Sort
set_option maxRecDepth 100000
set_option linter.unusedVariables false
/-- The one comes ahead of the other. -/
def ltT (md : Int) (tur : Bool) (x y : Th) : Prop := rk md tur x.2.1 < rk md tur y.2.1 ∨ (rk md tur x.2.1 = rk md tur y.2.1 ∧ x.1 < y.1)
set_option maxHeartbeats 1000000 in
theorem before_is (lv : Value) (hl : ∃ a n c, lv = .slice a n c) (nx md : Int) (tur : Bool) (x y : Th) (t : Bool) (w : World) (h0 : 0 ≤ md) (h1 : md ≤ 12) (hx : -9223372036854775808 ≤ x.2.1 ∧ x.2.1 ≤ 9223372036854775807) (hy : -9223372036854775808 ≤ y.2.1 ∧ y.2.1 ≤ 9223372036854775807) (ht : t = true ↔ ltT md tur x y) :
    Calls Try.prog 67 #[.agg #[lv, .int .i64 nx, .int .i64 md, .bool tur], .agg #[.int .i64 x.1, .int .i64 x.2.1, .int .i64 x.2.2], .agg #[.int .i64 y.1, .int .i64 y.2.1, .int .i64 y.2.2]] w fun e w' => e = .returned (.bool t) ∧ ∃ q os', w' = grow (w.drewN q) os' := by
  obtain ⟨la, ln, lc, rfl⟩ := hl
  obtain ⟨i, k, v⟩ := x
  obtain ⟨j, l, u⟩ := y
  simp only at hx hy ht ⊢
  obtain ⟨W, hW⟩ : ∃ W, W = ((w.alloc (.cells #[.slice la ln lc, .int .i64 nx, .int .i64 md, .bool tur] 55)).alloc (.cells #[.int .i64 i, .int .i64 k, .int .i64 v] 49)).alloc (.cells #[.int .i64 j, .int .i64 l, .int .i64 u] 49) := ⟨_, rfl⟩
  obtain ⟨s, es⟩ : ∃ s, s = w.heap.size := ⟨_, rfl⟩
  have R0 : W.rowIs s 55 4 (hvF (.slice la ln lc) nx md tur) := by rw [hW, es]; exact ((hv_box w _ _ _ _).alloc _).alloc _
  have R1 : W.rowIs (s + 1) 49 3 (wtF i k v) := by
    have := wt_box (w.alloc (.cells #[.slice la ln lc, .int .i64 nx, .int .i64 md, .bool tur] 55)) i k v
    rw [hW, es]
    exact World.rowIs.alloc (by simpa using this) _
  have R2 : W.rowIs (s + 2) 49 3 (wtF j l u) := by
    have := wt_box ((w.alloc (.cells #[.slice la ln lc, .int .i64 nx, .int .i64 md, .bool tur] 55)).alloc (.cells #[.int .i64 i, .int .i64 k, .int .i64 v] 49)) j l u
    rw [hW, es]
    simpa using this
  have cg : ∀ {b q : Nat} {x : Value}, b < W.heap.size → W.cell? ⟨b, q, none⟩ = some x → ∀ n os, (grow (W.drewN n) os).cell? ⟨b, q, none⟩ = some x := fun hlt hc n os => cell_grown hlt hc n os
  have a0 := cg R0.lt (R0.cell (i := 0) (by omega))
  have a1 := cg R0.lt (R0.cell (i := 1) (by omega))
  have a2 := cg R0.lt (R0.cell (i := 2) (by omega))
  have a3 := cg R0.lt (R0.cell (i := 3) (by omega))
  have b0 := cg R1.lt (R1.cell (i := 0) (by omega))
  have b1 := cg R1.lt (R1.cell (i := 1) (by omega))
  have d0 := cg R2.lt (R2.cell (i := 0) (by omega))
  have d1 := cg R2.lt (R2.cell (i := 1) (by omega))
  have W0e : grow (W.drewN 0) #[] = W := by rw [grow_empty]; rfl
  have A0 := a0 0 #[]
  have A1 := a1 0 #[]
  have A2 := a2 0 #[]
  have A3 := a3 0 #[]
  have B0 := b0 0 #[]
  have B1 := b1 0 #[]
  have D0 := d0 0 #[]
  have D1 := d1 0 #[]
  rw [W0e] at A0 A1 A2 A3 B0 B1 D0 D1
  simp only [hvF, wtF] at a0 a1 a2 a3 b0 b1 d0 d1 A0 A1 A2 A3 B0 B1 D0 D1
  simp at a0 a1 a2 a3 b0 b1 d0 d1 A0 A1 A2 A3 B0 B1 D0 D1
  have AH : Hid (∀ x y n os, -9223372036854775808 ≤ x → x ≤ 9223372036854775807 → -9223372036854775808 ≤ y → y ≤ 9223372036854775807 → Calls Try.prog 20 #[.agg #[.slice la ln lc, .int .i64 nx, .int .i64 md, .bool tur], .int .i64 x, .int .i64 y] (grow (W.drewN n) os) fun e w'' => e = .returned (.bool (decide (rk md tur x < rk md tur y))) ∧ ∃ p : GrownBy, w'' = grow (W.drewN p.n) p.os) := fun x y n os q1 q2 q3 q4 => Calls.grown_of (ahead_is (.slice la ln lc) ⟨_, _, _, rfl⟩ nx md tur x y _ h0 h1 q1 q2 q3 q4)
  have AH0 : Hid (∀ x y, -9223372036854775808 ≤ x → x ≤ 9223372036854775807 → -9223372036854775808 ≤ y → y ≤ 9223372036854775807 → Calls Try.prog 20 #[.agg #[.slice la ln lc, .int .i64 nx, .int .i64 md, .bool tur], .int .i64 x, .int .i64 y] W fun e w'' => e = .returned (.bool (decide (rk md tur x < rk md tur y))) ∧ ∃ p : GrownBy, w'' = grow (W.drewN p.n) p.os) := fun x y q1 q2 q3 q4 => by
    have := AH.out x y 0 #[] q1 q2 q3 q4
    rwa [W0e] at this
  have HE : Hid (∀ n os, ∃ q os', grow (W.drewN n) os = grow (w.drewN q) os') := fun n os => ⟨n, #[.cells #[.slice la ln lc, .int .i64 nx, .int .i64 md, .bool tur] 55, .cells #[.int .i64 i, .int .i64 k, .int .i64 v] 49, .cells #[.int .i64 j, .int .i64 l, .int .i64 u] 49] ++ os, by rw [← grow_grow, hW]; rfl⟩
  have HW : Hid (((w.alloc (.cells #[.slice la ln lc, .int .i64 nx, .int .i64 md, .bool tur] 55)).alloc (.cells #[.int .i64 i, .int .i64 k, .int .i64 v] 49)).alloc (.cells #[.int .i64 j, .int .i64 l, .int .i64 u] 49) = W ∧ w.heap.size = s) := ⟨hW.symm, es.symm⟩
  obtain ⟨x1, x2⟩ := hx
  obtain ⟨y1, y2⟩ := hy
  clear R0 R1 R2 cg hW es W0e
  unfold ltT at ht
  simp only at ht
  by_cases c1 : rk md tur k < rk md tur l
  · have e1 : decide (rk md tur k < rk md tur l) = true := decide_eq_true c1
    obtain rfl : t = true := ht.2 (.inl c1)
    clear ht c1
    go_enter Try.func67, Try.ntmps67
    go_upto_region 1 with fail
    rw [HW.out.1, HW.out.2]
    go_wp2_with fail
    refine Calls.mono (AH0.out k l x1 x2 y1 y2) ?_
    rintro e w5 ⟨rfl, ⟨n5, os5⟩, rfl⟩
    go_wp2_with fail
    go_ret
    exact ⟨rfl, HE.out _ _⟩
  · have e1 : decide (rk md tur k < rk md tur l) = false := decide_eq_false c1
    by_cases c2 : rk md tur l < rk md tur k
    · have e2 : decide (rk md tur l < rk md tur k) = true := decide_eq_true c2
      obtain rfl : t = false := by
        cases t with
        | false => rfl
        | true => exact absurd (ht.1 rfl) (by omega)
      clear ht c1 c2
      go_enter Try.func67, Try.ntmps67
      go_upto_region 1 with fail
      rw [HW.out.1, HW.out.2]
      go_wp2_with fail
      refine Calls.mono (AH0.out k l x1 x2 y1 y2) ?_
      rintro e w5 ⟨rfl, ⟨n5, os5⟩, rfl⟩
      go_wp2_with fail
      refine Calls.mono (AH.out l k n5 os5 y1 y2 x1 x2) ?_
      rintro e w6 ⟨rfl, ⟨n6, os6⟩, rfl⟩
      go_wp2_with fail
      go_ret
      exact ⟨rfl, HE.out _ _⟩
    · have e2 : decide (rk md tur l < rk md tur k) = false := decide_eq_false c2
      have hij : t = decide (i < j) := by
        cases t with
        | false => exact (decide_eq_false (fun h => by have := ht.2 (.inr ⟨by omega, h⟩); cases this)).symm
        | true => exact (decide_eq_true (by have := ht.1 rfl; omega)).symm
      subst hij
      clear ht c1 c2
      go_enter Try.func67, Try.ntmps67
      go_upto_region 1 with fail
      rw [HW.out.1, HW.out.2]
      go_wp2_with fail
      refine Calls.mono (AH0.out k l x1 x2 y1 y2) ?_
      rintro e w5 ⟨rfl, ⟨n5, os5⟩, rfl⟩
      go_wp2_with fail
      refine Calls.mono (AH.out l k n5 os5 y1 y2 x1 x2) ?_
      rintro e w6 ⟨rfl, ⟨n6, os6⟩, rfl⟩
      go_wp2_with fail
      go_ret
      exact ⟨rfl, HE.out _ _⟩
end Go.Proofs.Ytjnfcihichaonaa
