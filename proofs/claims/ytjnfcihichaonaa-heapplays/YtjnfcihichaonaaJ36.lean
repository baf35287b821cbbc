/- Contracts of the program's functions, part 36: own work, joined in build order. -/
import Derived.Test.YtjnfcihichaonaaJ35
namespace Go.Proofs.Ytjnfcihichaonaa
open Go.RowKit Go.Sort
set_option maxRecDepth 100000
set_option linter.unusedVariables false
/-- The one is the other, or comes ahead of it. -/
def leH (md : Int) (tur : Bool) (x y : Th) : Prop := rk md tur x.2.1 < rk md tur y.2.1 ∨ (rk md tur x.2.1 = rk md tur y.2.1 ∧ x.1 ≤ y.1)
/-- The first (the last) of the first m. -/
def Fst (md : Int) (tur last : Bool) (L : List Th) (m p : Nat) : Prop := p < m ∧ ∀ q, q < m → if last then leH md tur (L.getD q th0) (L.getD p th0) else leH md tur (L.getD p th0) (L.getD q th0)
theorem Fst.go {md : Int} {tur last : Bool} {L : List Th} {m p : Nat} (h : Fst md tur last L m p) (t : Bool) (ht : t = true ↔ ltT md tur (L.getD m th0) (L.getD p th0)) : Fst md tur last L (m + 1) (if t = last then p else m) := by
  have tr : ∀ {x y z : Th}, leH md tur x y → leH md tur y z → leH md tur x z := fun {x y z} a b => by unfold leH at *; omega
  have rf : ∀ x : Th, leH md tur x x := fun x => .inr ⟨rfl, Int.le_refl _⟩
  have lt_le : ltT md tur (L.getD m th0) (L.getD p th0) → leH md tur (L.getD m th0) (L.getD p th0) := fun a => by unfold ltT at a; unfold leH; omega
  have ge : ¬ ltT md tur (L.getD m th0) (L.getD p th0) → leH md tur (L.getD p th0) (L.getD m th0) := fun a => by unfold ltT at a; unfold leH; omega
  have hp := h.1
  cases last with
  | false =>
    cases t with
    | false =>
      rw [if_pos rfl]
      refine ⟨by omega, fun q hq => ?_⟩
      rcases Nat.lt_or_ge q m with h1 | h1
      · exact h.2 q h1
      · obtain rfl : q = m := by omega
        exact ge (fun e => by have := ht.2 e; cases this)
    | true =>
      rw [if_neg (by decide)]
      refine ⟨by omega, fun q hq => ?_⟩
      rcases Nat.lt_or_ge q m with h1 | h1
      · exact tr (lt_le (ht.1 rfl)) (h.2 q h1)
      · obtain rfl : q = m := by omega
        exact rf _
  | true =>
    cases t with
    | false =>
      rw [if_neg (by decide)]
      refine ⟨by omega, fun q hq => ?_⟩
      rcases Nat.lt_or_ge q m with h1 | h1
      · exact tr (h.2 q h1) (ge (fun e => by have := ht.2 e; cases this))
      · obtain rfl : q = m := by omega
        exact rf _
    | true =>
      rw [if_pos rfl]
      refine ⟨by omega, fun q hq => ?_⟩
      rcases Nat.lt_or_ge q m with h1 | h1
      · exact h.2 q h1
      · obtain rfl : q = m := by omega
        exact lt_le (ht.1 rfl)
set_option maxHeartbeats 2000000 in
theorem refEnd_any {base : Nat} {lv : Value} {L : List Th} (nx md : Int) (tur last : Bool) (w : World) (h : Tr base w lv L) (hl : L.length ≤ 100000) (h0 : 0 ≤ md) (h1 : md ≤ 12) (hr : ∀ p, p < L.length → -9223372036854775808 ≤ (L.getD p th0).2.1 ∧ (L.getD p th0).2.1 ≤ 9223372036854775807) :
    Calls Try.prog 51 #[.agg #[lv, .int .i64 nx, .int .i64 md, .bool tur], .bool last] w fun e w' => ((L.length = 0 ∧ e = .returned (.int .i64 (-1))) ∨ ∃ p : Nat, e = .returned (.int .i64 (p : Int)) ∧ Fst md tur last L L.length p) ∧ Below w.heap.size w w' := by
  obtain ⟨a, cap, e9, hat, _⟩ := h.sl
  obtain ⟨n, en⟩ : ∃ n, n = L.length := ⟨_, rfl⟩
  rw [← en] at e9 hat hl hr ⊢
  subst e9
  obtain ⟨W1, hW1⟩ : ∃ W1, W1 = w.alloc (.cells #[.slice a n cap, .int .i64 nx, .int .i64 md, .bool tur] 55) := ⟨_, rfl⟩
  obtain ⟨s, es⟩ : ∃ s, s = w.heap.size := ⟨_, rfl⟩
  have B1 : Below w.heap.size w W1 := by rw [hW1]; exact (Below.refl _ _).alloc (Nat.le_refl _) _
  have R1 : W1.rowIs s 55 4 (hvF (.slice a n cap) nx md tur) := by rw [hW1, es]; exact hv_box w _ _ _ _
  have HA : Hid (0 < n → ∃ g, a = some ⟨g, 0, none⟩ ∧ g < W1.heap.size ∧ ∀ i, i < n → W1.cell? ⟨g, i * 3, none⟩ = some (.int .i64 (L.getD i th0).1) ∧ W1.cell? ⟨g, i * 3 + 1, none⟩ = some (.int .i64 (L.getD i th0).2.1) ∧ W1.cell? ⟨g, i * 3 + 2, none⟩ = some (.int .i64 (L.getD i th0).2.2)) := fun hn => by
    obtain ⟨g, e, _, hg, hc⟩ := hat hn
    exact ⟨g, e, Nat.lt_of_lt_of_le hg B1.size, fun i hi => ⟨cell_later B1 (hc i hi).1, cell_later B1 (hc i hi).2.1, cell_later B1 (hc i hi).2.2⟩⟩
  have HW : Hid (w.alloc (.cells #[.slice a n cap, .int .i64 nx, .int .i64 md, .bool tur] 55) = W1 ∧ w.heap.size = s) := ⟨hW1.symm, es.symm⟩
  have HR : Hid (W1.rowIs s 55 4 (hvF (.slice a n cap) nx md tur) ∧ Below w.heap.size w W1 ∧ ∀ p, p < n → -9223372036854775808 ≤ (L.getD p th0).2.1 ∧ (L.getD p th0).2.1 ≤ 9223372036854775807) := ⟨R1, B1, hr⟩
  clear h hat hW1 B1 es en R1 hr
  go_enter Try.func51, Try.ntmps51
  go_upto_region 1 with fail
  rw [HW.out.1, HW.out.2]
  go_wp2_with fail
  go_loopw [5, 6] (fun ta t wr => ∃ (m : Nat) (at' : Int), m ≤ n ∧ t = .int .i64 (m : Int) ∧ ta = .int .i64 at' ∧ Hid (((m = 0 ∧ at' = -1) ∨ ∃ p : Nat, at' = (p : Int) ∧ Fst md tur last L m p) ∧ Below W1.heap.size W1 wr)) (fun _ t _ => n - (intOf t).toNat)
  case atStart => exact ⟨0, -1, by omega, rfl, rfl, .inl ⟨rfl, rfl⟩, Below.refl _ _⟩
  case round =>
    obtain ⟨m, at', hm, rfl, rfl, hS⟩ := hrel
    have R2 : wr.rowIs s 55 4 (hvF (.slice a n cap) nx md tur) := HR.out.1.of_block (hS.out.2.block _ HR.out.1.lt)
    have x0 := R2.cell (i := 0) (by omega)
    have x1 := R2.cell (i := 1) (by omega)
    have x2 := R2.cell (i := 2) (by omega)
    have x3 := R2.cell (i := 3) (by omega)
    simp only [hvF] at x0 x1 x2 x3
    simp at x0 x1 x2 x3
    have slt := R2.lt
    clear R2
    by_cases hmn : m < n
    · have hm' : (m : Int) < (n : Int) := by omega
      have w5 : IntKind.i64.wrap ((m : Int) + 1) = (m : Int) + 1 := by rw [IntKind.wrap_i64]; omega
      rcases hS.out.1 with ⟨rfl, rfl⟩ | ⟨p, rfl, hF⟩
      · have HB : Hid (Below W1.heap.size W1 wr) := hS.out.2
        have HF : Hid (Fst md tur last L (0 + 1) 0) := ⟨by omega, fun q hq => by
          obtain rfl : q = 0 := by omega
          have : leH md tur (L.getD 0 th0) (L.getD 0 th0) := .inr ⟨rfl, Int.le_refl _⟩
          split <;> exact this⟩
        clear hS x1 x2 x3
        go_wp2_with fail
        go_quiet (fail)
        have HB2 : Hid (Below W1.heap.size W1 (wr.drewN nq)) := bel_drewN HB.out _
        go_wp2_with fail
        go_roundw
        case rel => exact ⟨1, 0, by omega, by go_num, by go_num, .inr ⟨0, rfl, HF.out⟩, HB2.out⟩
        case measure => simp [intOf]; omega
      · obtain ⟨g, rfl, hg, hc⟩ := HA.out (by omega)
        have hp : p < m := hF.1
        have cg : ∀ {b q : Nat} {x : Value}, b < W1.heap.size → W1.cell? ⟨b, q, none⟩ = some x → ∀ n os, (grow (wr.drewN n) os).cell? ⟨b, q, none⟩ = some x := fun hlt hcc n os => cell_grown (Nat.lt_of_lt_of_le hlt hS.out.2.size) (cell_later hS.out.2 hcc) n os
        obtain ⟨X, eX⟩ : ∃ X : Th, X = L.getD m th0 := ⟨_, rfl⟩
        obtain ⟨Y, eY⟩ : ∃ Y : Th, Y = L.getD p th0 := ⟨_, rfl⟩
        obtain ⟨k0, k1, k2⟩ := hc m hmn
        obtain ⟨l0, l1, l2⟩ := hc p (by omega)
        have rX := HR.out.2.2 m hmn
        have rY := HR.out.2.2 p (by omega)
        rw [← eX] at k0 k1 k2 rX
        rw [← eY] at l0 l1 l2 rY
        have K0 := cg hg k0
        have K1 := cg hg k1
        have K2 := cg hg k2
        have L0 := cg hg l0
        have L1 := cg hg l1
        have L2 := cg hg l2
        have X0 : ∀ n os, (grow (wr.drewN n) os).cell? ⟨s, 0, none⟩ = _ := fun n os => cell_grown slt x0 n os
        have X1 : ∀ n os, (grow (wr.drewN n) os).cell? ⟨s, 1, none⟩ = _ := fun n os => cell_grown slt x1 n os
        have X2 : ∀ n os, (grow (wr.drewN n) os).cell? ⟨s, 2, none⟩ = _ := fun n os => cell_grown slt x2 n os
        have X3 : ∀ n os, (grow (wr.drewN n) os).cell? ⟨s, 3, none⟩ = _ := fun n os => cell_grown slt x3 n os
        obtain ⟨t, ht⟩ : ∃ t : Bool, t = true ↔ ltT md tur X Y := by
          by_cases c : ltT md tur X Y
          · exact ⟨true, fun _ => c, fun _ => rfl⟩
          · exact ⟨false, fun e => (by cases e), fun e => absurd e c⟩
        have BF : Hid (∀ n' os, Calls Try.prog 67 #[.agg #[.slice (some ⟨g, 0, none⟩) n cap, .int .i64 nx, .int .i64 md, .bool tur], .agg #[.int .i64 X.1, .int .i64 X.2.1, .int .i64 X.2.2], .agg #[.int .i64 Y.1, .int .i64 Y.2.1, .int .i64 Y.2.2]] (grow (wr.drewN n') os) fun e w'' => e = .returned (.bool t) ∧ ∃ p : GrownBy, w'' = grow (wr.drewN p.n) p.os) := fun n' os => Calls.grown_of (before_is _ ⟨_, _, _, rfl⟩ nx md tur X Y t _ h0 h1 rX rY ht)
        have mixed : Try.prog.follows .mixedOrders = true := by kernel_rfl
        have hF' := hF.go t (by rw [← eX, ← eY]; exact ht)
        have hge : decide ((p : Int) < 0) = false := decide_eq_false (by omega)
        have hp' : (p : Int) < (n : Int) := by omega
        have HB : Hid (Below W1.heap.size W1 wr) := hS.out.2
        clear hS hF hc k0 k1 k2 l0 l1 l2 rX rY eX eY ht cg hg slt x1 x2 x3
        cases last <;> cases t
        · have HF : Hid (Fst md tur false L (m + 1) p) := hF'
          clear hF'
          go_wp2_with fail
          go_quiet_grown (first | (go_at_call 67; exact BF.out _ _))
          have HB2 : Hid (Below W1.heap.size W1 (grow (wr.drewN nq) osq)) := HB.out.trans ((bel_grow wr nq osq).mono HB.out.size)
          clear BF K0 K1 K2 L0 L1 L2 X0 X1 X2 X3
          go_wp2_with fail
          go_roundw
          case rel => exact ⟨m + 1, _, by omega, by go_num, rfl, .inr ⟨_, rfl, HF.out⟩, HB2.out⟩
          case measure => simp [intOf]; omega
        · have HF : Hid (Fst md tur false L (m + 1) m) := hF'
          clear hF'
          go_wp2_with fail
          go_quiet_grown (first | (go_at_call 67; exact BF.out _ _))
          have HB2 : Hid (Below W1.heap.size W1 (grow (wr.drewN nq) osq)) := HB.out.trans ((bel_grow wr nq osq).mono HB.out.size)
          clear BF K0 K1 K2 L0 L1 L2 X0 X1 X2 X3
          go_wp2_with fail
          go_roundw
          case rel => exact ⟨m + 1, _, by omega, by go_num, rfl, .inr ⟨_, rfl, HF.out⟩, HB2.out⟩
          case measure => simp [intOf]; omega
        · have HF : Hid (Fst md tur true L (m + 1) m) := hF'
          clear hF'
          go_wp2_with fail
          go_quiet_grown (first | (go_at_call 67; exact BF.out _ _))
          have HB2 : Hid (Below W1.heap.size W1 (grow (wr.drewN nq) osq)) := HB.out.trans ((bel_grow wr nq osq).mono HB.out.size)
          clear BF K0 K1 K2 L0 L1 L2 X0 X1 X2 X3
          go_wp2_with fail
          go_roundw
          case rel => exact ⟨m + 1, _, by omega, by go_num, rfl, .inr ⟨_, rfl, HF.out⟩, HB2.out⟩
          case measure => simp [intOf]; omega
        · have HF : Hid (Fst md tur true L (m + 1) p) := hF'
          clear hF'
          go_wp2_with fail
          go_quiet_grown (first | (go_at_call 67; exact BF.out _ _))
          have HB2 : Hid (Below W1.heap.size W1 (grow (wr.drewN nq) osq)) := HB.out.trans ((bel_grow wr nq osq).mono HB.out.size)
          clear BF K0 K1 K2 L0 L1 L2 X0 X1 X2 X3
          go_wp2_with fail
          go_roundw
          case rel => exact ⟨m + 1, _, by omega, by go_num, rfl, .inr ⟨_, rfl, HF.out⟩, HB2.out⟩
          case measure => simp [intOf]; omega
    · obtain rfl : m = n := by omega
      have HB : Hid (Below w.heap.size w wr) := HR.out.2.1.trans (hS.out.2.mono HR.out.2.1.size)
      have HF : Hid ((m = 0 ∧ at' = -1) ∨ ∃ p : Nat, at' = (p : Int) ∧ Fst md tur last L m p) := hS.out.1
      clear hS x1 x2 x3
      go_wp2_with fail
      go_ret
      refine ⟨?_, HB.out⟩
      rcases HF.out with ⟨e1, e2⟩ | ⟨p, e1, e2⟩
      · exact .inl ⟨e1, by rw [e2]; rfl⟩
      · exact .inr ⟨p, by rw [e1]; rfl, e2⟩
end Go.Proofs.Ytjnfcihichaonaa
namespace Go.Proofs.Ytjnfcihichaonaa
open Go.RowKit Go.Sort
set_option maxRecDepth 100000
set_option linter.unusedVariables false
/-- The first (the last) of a table. -/
def Lea (md : Int) (tur last : Bool) (T : Int → Option (Int × Int)) (i k v : Int) : Prop := T i = some (k, v) ∧ ∀ j l u, T j = some (l, u) → if last then leT md tur j l i k else leT md tur i k j l
theorem Lea.uniq {md : Int} {tur last : Bool} {T : Int → Option (Int × Int)} {i k v i' k' v' : Int} (h : Lea md tur last T i k v) (h' : Lea md tur last T i' k' v') : i' = i ∧ k' = k ∧ v' = v := by
  have e : i' = i := by
    have a := h.2 _ _ _ h'.1
    have b := h'.2 _ _ _ h.1
    cases last <;> (simp [leT] at a b; omega)
  subst e
  have := h.1
  rw [h'.1] at this
  cases this
  exact ⟨rfl, rfl, rfl⟩
section
variable {base : Nat} {W : World} {hb ob : Nat} {lv : Value} {nx md : Int} {tur : Bool} {N n : Nat} {pu : Int} {T : Int → Option (Int × Int)}
theorem Hp.least (h : Hp base W hb ob lv nx md tur 0 N (n + 1) pu T) (last : Bool) : ∃ i k v, Lea md tur last T i k v := by
  obtain ⟨a, cap, mb, nn, f, it, ke, va, h1, h2, h3⟩ := h.ex
  cases last with
  | false =>
    refine ⟨_, _, _, (h3 _ _ _).2 ⟨f 0, ⟨0, by omega, by omega, rfl⟩, rfl, rfl, rfl⟩, fun j l u hj => ?_⟩
    obtain ⟨b, hb', rfl, rfl, rfl⟩ := (h3 _ _ _).1 hj
    exact ord_min (leB_total _ _ _ _) (h2 rfl) hb'
  | true =>
    refine ⟨_, _, _, (h3 _ _ _).2 ⟨f (if n = 0 then 0 else 1), ⟨if n = 0 then 0 else 1, by split <;> omega, by split <;> omega, rfl⟩, rfl, rfl, rfl⟩, fun j l u hj => ?_⟩
    obtain ⟨b, hb', rfl, rfl, rfl⟩ := (h3 _ _ _).1 hj
    exact ord_max (leB_total _ _ _ _) (h2 rfl) hb'
theorem Hp.tellMin (h : Hp base W hb ob lv nx md tur 0 N (n + 1) pu T) {i k v : Int} (hL : Lea md tur false T i k v) :
    Calls Try.prog 46 #[.pointer (some ⟨hb, 0, none⟩)] W fun e w' => e = .returned (.tuple #[.int .i64 i, .int .i64 k, .int .i64 v, .bool true]) ∧ ∃ m, w' = W.drewN m := by
  refine h.min.mono ?_
  rintro e w' ⟨⟨i', k', v', rfl, q1, q2⟩, m⟩
  obtain ⟨rfl, rfl, rfl⟩ := hL.uniq ⟨q1, q2 rfl⟩
  exact ⟨rfl, m⟩
theorem Hp.tellMax (h : Hp base W hb ob lv nx md tur 0 N (n + 1) pu T) {i k v : Int} (hL : Lea md tur true T i k v) :
    Calls Try.prog 47 #[.pointer (some ⟨hb, 0, none⟩)] W fun e w' => e = .returned (.tuple #[.int .i64 i, .int .i64 k, .int .i64 v, .bool true]) ∧ ∃ m, w' = W.drewN m := by
  refine h.max.mono ?_
  rintro e w' ⟨⟨i', k', v', rfl, q1, q2⟩, m⟩
  obtain ⟨rfl, rfl, rfl⟩ := hL.uniq ⟨q1, q2 rfl⟩
  exact ⟨rfl, m⟩
theorem Hp.takeMin (h : Hp base W hb ob lv nx md tur 0 N (n + 1) pu T) (hN : N < 999999999) {i k v : Int} (hL : Lea md tur false T i k v) :
    Calls Try.prog 19 #[.pointer (some ⟨hb, 0, none⟩)] W fun e w' => e = .returned (.tuple #[.int .i64 i, .int .i64 k, .int .i64 v, .bool true]) ∧ ∃ M, Hp base w' hb ob lv nx md tur 0 M n pu (updT T i none) ∧ N ≤ M ∧ 2 ^ (M - N) ≤ 4 * (n + 1) * (n + 1) ∧ Fr hb ob base W w' := by
  refine (h.popMin hN).mono ?_
  rintro e w' ⟨i', k', v', M, rfl, q1, q2, q3, q4, q5, q6⟩
  obtain ⟨rfl, rfl, rfl⟩ := hL.uniq ⟨q1, q6 rfl⟩
  exact ⟨rfl, M, q2, q3, q4, q5⟩
theorem Hp.takeMax (h : Hp base W hb ob lv nx md tur 0 N (n + 1) pu T) (hN : N < 999999999) {i k v : Int} (hL : Lea md tur true T i k v) :
    Calls Try.prog 21 #[.pointer (some ⟨hb, 0, none⟩)] W fun e w' => e = .returned (.tuple #[.int .i64 i, .int .i64 k, .int .i64 v, .bool true]) ∧ ∃ M, Hp base w' hb ob lv nx md tur 0 M n pu (updT T i none) ∧ N ≤ M ∧ 2 ^ (M - N) ≤ 4 * (n + 1) * (n + 1) ∧ Fr hb ob base W w' := by
  refine (h.popMax hN).mono ?_
  rintro e w' ⟨i', k', v', M, rfl, q1, q2, q3, q4, q5, q6⟩
  obtain ⟨rfl, rfl, rfl⟩ := hL.uniq ⟨q1, q6 rfl⟩
  exact ⟨rfl, M, q2, q3, q4, q5⟩
end
theorem Lz.end_is {W0 W : World} {hb ob : Nat} {md : Int} {tur : Bool} {lies : Int} {N n m : Nat} {pu : Int} {T T0 : Int → Option (Int × Int)} {nx : Int} {lv : Value} {L : List Th} (h : Lz W0 W hb ob md tur lies N n pu T nx lv L) (hs : Syn T0 L m) (hm : m ≤ 1000) (hr : ∀ i k v, T0 i = some (k, v) → -9223372036854775808 ≤ k ∧ k ≤ 9223372036854775807) {last : Bool} {i k v : Int} (hL : Lea md tur last T0 i k v) {p : Nat} (hp : p < L.length) (hpe : L.getD p th0 = (i, k, v)) :
    Calls Try.prog 51 #[.agg #[lv, .int .i64 nx, .int .i64 md, .bool tur], .bool last] W fun e w' => e = .returned (.int .i64 (p : Int)) ∧ Below W.heap.size W w' := by
  have mem : ∀ q, q < L.length → T0 (L.getD q th0).1 = some ((L.getD q th0).2.1, (L.getD q th0).2.2) := fun q hq => (hs.iff _ _ _).2 (getD_mem hq)
  refine (refEnd_any nx md tur last W h.tr (by rw [hs.len]; omega) h.hp.od.mod0 h.hp.od.mod1 (fun q hq => hr _ _ _ (mem q hq))).mono ?_
  rintro e w' ⟨h1 | ⟨q, rfl, hF⟩, hB⟩
  · omega
  · refine ⟨?_, hB⟩
    have a := hL.2 _ _ _ (mem q hF.1)
    have b := hF.2 p hp
    rw [hpe] at b
    have e : (L.getD q th0).1 = i := by
      generalize L.getD q th0 = Z at a b ⊢
      cases last <;> (simp [leT] at a; simp [leH] at b; omega)
    have := hs.uq q p hF.1 hp (by rw [e, hpe])
    rw [this]
theorem Lz.end_no {W0 W : World} {hb ob : Nat} {md : Int} {tur : Bool} {lies : Int} {N n : Nat} {pu : Int} {T T0 : Int → Option (Int × Int)} {nx : Int} {lv : Value} {L : List Th} (h : Lz W0 W hb ob md tur lies N n pu T nx lv L) (hs : Syn T0 L 0) (last : Bool) :
    Calls Try.prog 51 #[.agg #[lv, .int .i64 nx, .int .i64 md, .bool tur], .bool last] W fun e w' => e = .returned (.int .i64 (-1)) ∧ Below W.heap.size W w' := by
  refine (refEnd_any nx md tur last W h.tr (by rw [hs.len]; omega) h.hp.od.mod0 h.hp.od.mod1 (fun q hq => by have := hs.len; omega)).mono ?_
  rintro e w' ⟨h1 | ⟨q, rfl, hF⟩, hB⟩
  · exact ⟨h1.2, hB⟩
  · have := hF.1
    have := hs.len
    omega
end Go.Proofs.Ytjnfcihichaonaa
