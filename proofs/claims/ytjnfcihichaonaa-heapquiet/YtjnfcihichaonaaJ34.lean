/- Contracts of the program's functions, part 34: own work, joined in build order. -/
import Derived.Test.YtjnfcihichaonaaJ33
namespace Go.Proofs.Ytjnfcihichaonaa
open Go.RowKit
set_option maxRecDepth 100000
set_option linter.unusedVariables false
theorem num_any (i : Int) (w : World) : Calls Try.prog 35 #[.int .i64 i] w fun e w' => e = .returned (.int .i64 i) ∧ w' = w := by
  go_enter Try.func35, Try.ntmps35
  go_wp2_with fail
  go_ret
  exact ⟨rfl, rfl⟩
theorem rk0 (k : Int) : rk 0 false k = k := by simp [rk, rank]
/-- Three things in a heap of texts. -/
structure St3 (w0 W : World) (hb ob : Nat) (it ke : Nat → Int) (va : Nat → ByteArray) (x1 x2 x3 : Nat) : Prop where
  ex : ∃ a cap mb nn f N, HsS W w0.heap.size hb ob a 3 cap mb nn 3 f it ke va ∧ Ordr W ob (.slice none 0 0) 0 0 false 0 N ∧ N ≤ 1000 ∧ Ord (leB 0 false it ke) 3 f 3 ∧ ∀ b, Img 3 f 3 b ↔ b = x1 ∨ b = x2 ∨ b = x3
  i1 : it x1 = 1 ∧ ke x1 = 5
  i2 : it x2 = 2 ∧ ke x2 = 3 ∧ va x2 = ⟨#[98]⟩
  i3 : it x3 = 3 ∧ ke x3 = 5 ∧ va x3 = ⟨#[99]⟩
  bel : Below w0.heap.size w0 W
theorem tn_below {S : Nat → Prop} {w0 w w' : World} (hB : Below w0.heap.size w0 w) (h : Tn S w w') (hs : ∀ k, S k → w0.heap.size ≤ k) : Below w0.heap.size w0 w' :=
  ⟨h.os.trans hB.os, h.tape.trans hB.tape, h.output.trans hB.output, Nat.le_trans hB.size h.size, fun k hk => (h.block k (Nat.lt_of_lt_of_le hk hB.size) (fun e => by have := hs k e; omega)).trans (hB.block k hk)⟩
theorem pow_le (M N : Nat) (h : 2 ^ (M - N) ≤ 64) (hn : N ≤ M) : M ≤ N + 6 := by
  rcases Nat.lt_or_ge 6 (M - N) with h1 | h1
  · have : 2 ^ 7 ≤ 2 ^ (M - N) := Nat.pow_le_pow_right (by decide) h1
    have : (2 : Nat) ^ 7 = 128 := by decide
    omega
  · omega
theorem push_step {w0 W : World} {hb ob : Nat} {a : Option Addr} {n cap mb nn : Nat} {pu : Int} {f : Nat → Nat} {it ke : Nat → Int} {va : Nat → ByteArray} {N : Nat} (h : HsS W w0.heap.size hb ob a n cap mb nn pu f it ke va) (ho : Ordr W ob (.slice none 0 0) 0 0 false 0 N) (hord : Ord (leB 0 false it ke) n f n) (hB : Below w0.heap.size w0 W) (k : Int) (v : ByteArray) (hn : n ≤ 10) (hN : N ≤ 500) (hp : pu ≤ 100) (hk : -1000 ≤ k) (hk2 : k ≤ 1000) :
    Calls Try.prog 31 #[.pointer (some ⟨hb, 0, none⟩), .int .i64 k, .string v] W fun e w' => e = .returned (.int .i64 (pu + 1)) ∧ ∃ a' cap' f' M, HsS w' w0.heap.size hb ob a' (n + 1) cap' mb (nn + 1) (pu + 1) f' (upN it W.heap.size (pu + 1)) (upN ke W.heap.size k) (upN va W.heap.size v) ∧ Ordr w' ob (.slice none 0 0) 0 0 false 0 M ∧ M ≤ N + 6 ∧ Ord (leB 0 false (upN it W.heap.size (pu + 1)) (upN ke W.heap.size k)) (n + 1) f' (n + 1) ∧ (∀ b, Img (n + 1) f' (n + 1) b ↔ Img n f n b ∨ b = W.heap.size) ∧ Below w0.heap.size w0 w' ∧ W.heap.size < w'.heap.size := by
  refine (pushS_any k v W h ho (by omega) (by omega) (by omega) (by omega) (by omega) hB.size).mono ?_
  rintro e w' ⟨rfl, a', cap', f', M, q1, q2, q3, q4, q5, q6, q7⟩
  refine ⟨rfl, a', cap', f', M, q1, q2, pow_le M N (by omega) q3, q5 rfl hord, q6, tn_below hB q7.toTn ?_, ?_⟩
  · rintro k (e | e | e | e | e)
    · rw [e]; exact h.ge.1
    · rw [e]; exact h.ge.2.2.1
    · rw [e]; exact h.ge.2.1
    · exact (h.own e).1
    · obtain ⟨i, hi, _, rfl⟩ := e
      exact h.ge.2.2.2 i hi
  · obtain ⟨i, hi, _, e⟩ := (q6 W.heap.size).2 (.inr rfl)
    have := (Array.getElem?_eq_some_iff.1 (q1.pl i hi)).1
    rw [e] at this
    exact this
set_option maxHeartbeats 2000000 in
theorem started_any (w : World) : Calls Try.prog 12 #[] w fun e w' => e = .returned (.bool true) ∧ Below w.heap.size w w' := by
  obtain ⟨W1, hW1⟩ : ∃ W1, W1 = w.alloc (.cells #[.slice none 0 0, .int .i64 0, .int .i64 0, .bool false, .int .i64 0, .int .i64 0] 57) := ⟨_, rfl⟩
  have B1 : Below w.heap.size w W1 := by rw [hW1]; exact (Below.refl _ _).alloc (Nat.le_refl _) _
  have s1 : W1.heap.size = w.heap.size + 1 := by rw [hW1]; simp
  have O1 : Ordr W1 w.heap.size (.slice none 0 0) 0 0 false 0 0 := ⟨by rw [hW1]; exact (MapKept.heap_alloc w _).1, ⟨_, _, _, rfl⟩, by omega, by omega, by omega, by omega⟩
  have NW : Hid (Calls Try.prog 30 #[.func (.func 28) #[.pointer (some ⟨w.heap.size, 0, none⟩)] #[]] W1 fun e w' => e = .returned (.pointer (some ⟨W1.heap.size + 1, 0, none⟩)) ∧ HsS w' w.heap.size (W1.heap.size + 1) w.heap.size none 0 0 W1.heap.size 0 0 (fun _ => 0) (fun _ => 0) (fun _ => 0) (fun _ => (⟨#[]⟩ : ByteArray)) ∧ Below W1.heap.size W1 w') := newS_any w.heap.size w.heap.size W1 B1.size (Nat.le_refl _)
  have HW : Hid (w.alloc (.cells #[.slice none 0 0, .int .i64 0, .int .i64 0, .bool false, .int .i64 0, .int .i64 0] 57) = W1) := hW1.symm
  have H1 : Hid (Below w.heap.size w W1 ∧ W1.heap.size = w.heap.size + 1 ∧ Ordr W1 w.heap.size (.slice none 0 0) 0 0 false 0 0) := ⟨B1, s1, O1⟩
  clear hW1 B1 s1 O1
  go_enter Try.func12, Try.ntmps12
  go_wp2_with fail
  rw [HW.out]
  refine Calls.mono NW.out ?_
  rintro e W2 ⟨rfl, S0, hB0⟩
  obtain ⟨hb, ehb⟩ : ∃ hb, hb = W1.heap.size + 1 := ⟨_, rfl⟩
  rw [← ehb] at S0 ⊢
  have B2 := H1.out.1.trans (hB0.mono H1.out.1.size)
  have O2 : Ordr W2 w.heap.size (.slice none 0 0) 0 0 false 0 0 := H1.out.2.2.kept (hB0.block _ H1.out.2.2.lt)
  have P1 : Hid _ := push_step S0 O2 (fun a b ha => by omega) B2 5 ⟨#[97]⟩ (by omega) (by omega) (by omega) (by omega) (by omega)
  clear S0 O2 B2 ehb hB0 NW
  go_wp2_with fail
  refine Calls.mono P1.out ?_
  rintro e W3 ⟨rfl, a3, cap3, f3, N3, S3, O3, hN3, R3, I3, B3, z3⟩
  have P2 : Hid _ := push_step S3 O3 R3 B3 3 ⟨#[98]⟩ (by omega) (by omega) (by omega) (by omega) (by omega)
  have J3 : Hid (∀ b, Img 1 f3 1 b ↔ b = W2.heap.size) := fun b => (I3 b).trans ⟨fun h => h.elim (fun ⟨i, hi, _⟩ => by omega) id, .inr⟩
  clear S3 O3 R3 I3 B3 P1
  go_wp2_with fail
  refine Calls.mono P2.out ?_
  rintro e W4 ⟨rfl, a4, cap4, f4, N4, S4, O4, hN4, R4, I4, B4, z4⟩
  have P3 : Hid _ := push_step S4 O4 R4 B4 5 ⟨#[99]⟩ (by omega) (by omega) (by omega) (by omega) (by omega)
  have J4 : Hid (∀ b, Img 2 f4 2 b ↔ b = W2.heap.size ∨ b = W3.heap.size) := fun b => (I4 b).trans (or_congr (J3.out b) Iff.rfl)
  clear S4 O4 R4 I4 B4 P2 J3
  go_wp2_with fail
  refine Calls.mono P3.out ?_
  rintro e W5 ⟨rfl, a5, cap5, f5, N5, S5, O5, hN5, R5, I5, B5, z5⟩
  have J5 : ∀ b, Img 3 f5 3 b ↔ (b = W2.heap.size ∨ b = W3.heap.size) ∨ b = W4.heap.size := fun b => (I5 b).trans (or_congr (J4.out b) Iff.rfl)
  have zz : W2.heap.size < W3.heap.size ∧ W3.heap.size < W4.heap.size := ⟨z3, z4⟩
  obtain ⟨x1, e1⟩ : ∃ x, x = W2.heap.size := ⟨_, rfl⟩
  obtain ⟨x2, e2⟩ : ∃ x, x = W3.heap.size := ⟨_, rfl⟩
  obtain ⟨x3, e3⟩ : ∃ x, x = W4.heap.size := ⟨_, rfl⟩
  rw [← e1, ← e2, ← e3] at S5 R5 J5
  rw [← e1, ← e2] at zz
  rw [← e3] at zz
  obtain ⟨it, eit⟩ : ∃ it, it = upN (upN (upN (fun _ => (0 : Int)) x1 (0 + 1)) x2 (0 + 1 + 1)) x3 (0 + 1 + 1 + 1) := ⟨_, rfl⟩
  obtain ⟨ke, eke⟩ : ∃ ke, ke = upN (upN (upN (fun _ => (0 : Int)) x1 5) x2 3) x3 5 := ⟨_, rfl⟩
  obtain ⟨va, eva⟩ : ∃ va, va = upN (upN (upN (fun _ => (⟨#[]⟩ : ByteArray)) x1 ⟨#[97]⟩) x2 ⟨#[98]⟩) x3 ⟨#[99]⟩ := ⟨_, rfl⟩
  rw [← eit, ← eke] at R5
  rw [← eit, ← eke, ← eva] at S5
  have n12 : x1 ≠ x2 := by omega
  have n13 : x1 ≠ x3 := by omega
  have n23 : x2 ≠ x3 := by omega
  have v1 : it x1 = 1 ∧ ke x1 = 5 := by rw [eit, eke, upN_ne n13, upN_ne n12, upN_eq, upN_ne n13, upN_ne n12, upN_eq]; exact ⟨rfl, rfl⟩
  have v2 : it x2 = 2 ∧ ke x2 = 3 ∧ va x2 = ⟨#[98]⟩ := by rw [eit, eke, eva, upN_ne n23, upN_eq, upN_ne n23, upN_eq, upN_ne n23, upN_eq]; exact ⟨rfl, rfl, rfl⟩
  have v3 : it x3 = 3 ∧ ke x3 = 5 ∧ va x3 = ⟨#[99]⟩ := by rw [eit, eke, eva, upN_eq, upN_eq, upN_eq]; exact ⟨rfl, rfl, rfl⟩
  clear eit eke eva e1 e2 e3
  -- the last one
  have hx : f5 1 = x3 := by
    have hm := ord_max (leB_total _ _ _ _) R5 ((J5 x3).2 (.inr rfl))
    rw [if_neg (by omega)] at hm
    unfold leB at hm
    rw [rk0, rk0, v3.1, v3.2.1] at hm
    rcases (J5 (f5 1)).1 ⟨1, by omega, by omega, rfl⟩ with (e | e) | e
    · rw [e, v1.1, v1.2] at hm
      omega
    · rw [e, v2.1, v2.2.1] at hm
      omega
    · exact e
  have PX : Hid (Calls Try.prog 32 #[.pointer (some ⟨hb, 0, none⟩)] W5 fun e w' => e = .returned (.tuple #[.int .i64 3, .int .i64 5, .string ⟨#[99]⟩, .bool true]) ∧ ∃ a6 cap6 mb6 nn6 f6, HsS w' w.heap.size hb w.heap.size a6 2 cap6 mb6 nn6 3 f6 it ke va ∧ Ord (leB 0 false it ke) 2 f6 2 ∧ (∀ b, Img 2 f6 2 b ↔ b = x1 ∨ b = x2) ∧ Below w.heap.size w w') := by
    refine (popMaxS_any (n := 2) W5 S5 O5 (by omega) B5.size).mono ?_
    rintro e w' ⟨rfl, q⟩
    rw [if_neg (by omega), hx] at q ⊢
    obtain ⟨a6, cap6, mb6, nn6, f6, M, q1, q2, q3, q4, q5, q6, q7, q8⟩ := q
    refine ⟨by rw [v3.1, v3.2.1, v3.2.2], a6, cap6, mb6, nn6, f6, q1, q5 rfl R5, fun b => (q6 b).trans ⟨fun ⟨h1, h2⟩ => ?_, fun h1 => ⟨(J5 b).2 (.inl h1), ?_⟩⟩, tn_below B5 q7.toTn ?_⟩
    · exact ((J5 b).1 h1).elim id (fun e => absurd e h2)
    · rcases h1 with e | e <;> rw [e]
      · exact n13
      · exact n23
    · rintro k (e | e | e | e | e)
      · rw [e]; exact S5.ge.1
      · rw [e]; exact S5.ge.2.2.1
      · rw [e]; exact S5.ge.2.1
      · exact (S5.own e).1
      · obtain ⟨i, hi, _, rfl⟩ := e
        exact S5.ge.2.2.2 i hi
  have HV : Hid ((it x1 = 1 ∧ ke x1 = 5) ∧ it x2 = 2 ∧ ke x2 = 3 ∧ va x2 = ⟨#[98]⟩) := ⟨v1, v2⟩
  clear S5 O5 R5 I5 B5 J5 J4 P3 v1 v2 v3 hx zz z3 z4 z5 hN3 hN4 hN5
  go_wp2_with fail
  refine Calls.mono PX.out ?_
  rintro e W6 ⟨rfl, a6, cap6, mb6, nn6, f6, S6, R6, I6, B6⟩
  have hy : f6 0 = x2 := by
    have hm := ord_min (leB_total _ _ _ _) R6 ((I6 x2).2 (.inr rfl))
    unfold leB at hm
    obtain ⟨v1, v2⟩ := HV.out
    rw [rk0, rk0, v2.1, v2.2.1] at hm
    rcases (I6 (f6 0)).1 ⟨0, by omega, by omega, rfl⟩ with e | e
    · rw [e, v1.1, v1.2] at hm
      omega
    · exact e
  have MN : Hid (Calls Try.prog 33 #[.pointer (some ⟨hb, 0, none⟩)] W6 fun e w' => e = .returned (.tuple #[.int .i64 2, .int .i64 3, .string ⟨#[98]⟩, .bool true]) ∧ ∃ m, w' = W6.drewN m) := by
    refine (minS_any W6 S6).mono ?_
    rintro e w' ⟨rfl, q⟩
    refine ⟨?_, q⟩
    obtain ⟨_, v2⟩ := HV.out
    rw [show fst? 2 f6 = some (f6 0) from rfl, hy]
    simp only [telS]
    rw [v2.1, v2.2.1, v2.2.2]
  have LN : Hid (∀ m, Calls Try.prog 34 #[.pointer (some ⟨hb, 0, none⟩)] (W6.drewN m) fun e w' => e = .returned (.int .i64 2) ∧ w' = W6.drewN m) := fun m => lenS_any _ (S6.drewN m)
  have UP : Hid (∀ m, Calls Try.prog 36 #[.pointer (some ⟨hb, 0, none⟩), .int .i64 3, .int .i64 9] (W6.drewN m) fun e w' => e = .returned (.int .i64 50) ∧ w' = W6.drewN m) := fun m => updateS_none 3 9 _ (S6.drewN m) (by omega) (by omega) (fun b hb' => by
    obtain ⟨v1, v2⟩ := HV.out
    rcases (I6 b).1 hb' with e | e
    · rw [e, v1.1]; omega
    · rw [e, v2.1]; omega)
  have NM : Hid (∀ m, Calls Try.prog 35 #[.int .i64 50] (W6.drewN m) fun e w' => e = .returned (.int .i64 50) ∧ w' = W6.drewN m) := fun m => num_any 50 _
  have HB : Hid (Below w.heap.size w W6) := B6
  clear S6 R6 I6 B6 hy PX HV
  go_wp2_with (first | (go_at_call 33; refine Calls.mono MN.out ?_; rintro e w7 ⟨rfl, m, rfl⟩) | (go_at_call 34; refine Calls.mono (LN.out m) ?_; rintro e w8 ⟨rfl, rfl⟩) | (go_at_call 36; refine Calls.mono (UP.out m) ?_; rintro e w8 ⟨rfl, rfl⟩) | (go_at_call 35; refine Calls.mono (NM.out m) ?_; rintro e w8 ⟨rfl, rfl⟩))
  go_ret
  exact ⟨rfl, bel_drewN HB.out _⟩
end Go.Proofs.Ytjnfcihichaonaa
