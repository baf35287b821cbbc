/- Contracts of the program's functions, part 21: own work, joined in build order. -/
import Derived.Test.YtjnfcihichaonaaJ20
namespace Go.Proofs.Ytjnfcihichaonaa
open Go.RowKit
set_option maxRecDepth 100000
set_option linter.unusedVariables false
theorem HsS.drewN {w : World} {base hb ob : Nat} {a : Option Addr} {n cap mb nn : Nat} {pu : Int} {f : Nat → Nat} {it ke : Nat → Int} {va : Nat → ByteArray} (h : HsS w base hb ob a n cap mb nn pu f it ke va) (m : Nat) : HsS (w.drewN m) base hb ob a n cap mb nn pu f it ke va :=
  { h with hd := h.hd, row := own_kept h.row fun _ _ => rfl, pl := h.pl, mp := by obtain ⟨g, h1, h2⟩ := h.mp; exact ⟨g, h1.kept rfl, h2⟩ }
theorem TakS.drewN {w w1 : World} {base hb ob : Nat} {a : Option Addr} {n cap mb : Nat} {pu : Int} {f : Nat → Nat} {it ke : Nat → Int} {va : Nat → ByteArray} {lv : Value} {nx mod : Int} {tur : Bool} {lies : Int} {N x : Nat} (h : TakS w base hb ob a n cap mb pu f it ke va lv nx mod tur lies N x w1) (m : Nat) : TakS w base hb ob a n cap mb pu f it ke va lv nx mod tur lies N x (w1.drewN m) := by
  obtain ⟨a', cap', mb', nn', f', M, q1, q2, q3, q4, q5, q6, q7, q8⟩ := h
  exact ⟨a', cap', mb', nn', f', M, q1.drewN m, q2.kept rfl, q3, q4, q5, q6, { q7.toTn.drewN m with new := q7.new }, q8⟩
theorem takeS_none (hb : Nat) (w : World) : Calls Try.prog 53 #[.pointer (some ⟨hb, 0, none⟩), .pointer none] w fun e w' => e = .returned (.pointer none) ∧ w' = w := by
  go_enter Try.func53, Try.ntmps53
  go_wp2_with fail
  go_ret
  exact ⟨rfl, rfl⟩
set_option maxHeartbeats 1000000 in
theorem popMaxS_none {base hb ob : Nat} {a : Option Addr} {cap mb nn : Nat} {pu : Int} {f : Nat → Nat} {it ke : Nat → Int} {va : Nat → ByteArray} (w : World) (h : HsS w base hb ob a 0 cap mb nn pu f it ke va) :
    Calls Try.prog 32 #[.pointer (some ⟨hb, 0, none⟩)] w fun e w' => e = .returned (.tuple #[.int .i64 0, .int .i64 0, .string (⟨#[]⟩ : ByteArray), .bool false]) ∧ ∃ m, w' = w.drewN m := by
  have FI : Hid (Calls Try.prog 54 #[.pointer (some ⟨hb, 0, none⟩)] w fun e w' => e = .returned (.pointer none) ∧ w' = w) := lastS_any w h
  have TA : Hid (Calls Try.prog 53 #[.pointer (some ⟨hb, 0, none⟩), .pointer none] w fun e w' => e = .returned (.pointer none) ∧ w' = w) := takeS_none hb w
  have TE : Hid (Calls Try.prog 55 #[.pointer none] w fun e w' => e = .returned (.tuple #[.int .i64 0, .int .i64 0, .string (⟨#[]⟩ : ByteArray), .bool false]) ∧ ∃ m, w' = w.drewN m) := tellS_any (it := it) (ke := ke) (va := va) none w (fun b e => by cases e)
  clear h
  go_enter Try.func32, Try.ntmps32
  go_wp2_with (first | (go_at_call 54; refine Calls.mono FI.out ?_; rintro e w8 ⟨rfl, rfl⟩) | (go_at_call 53; refine Calls.mono TA.out ?_; rintro e w9 ⟨rfl, rfl⟩) | (go_at_call 55; refine Calls.mono TE.out ?_; rintro e w7 ⟨rfl, m, rfl⟩))
  (try simp only [Exit.inBlock, Exit.then]); refine bodyPost_ret (results_tmp4S rfl _ _ _) rfl ?_
  exact ⟨rfl, _, rfl⟩
set_option maxHeartbeats 1000000 in
theorem popMaxS_any {base hb ob : Nat} {a : Option Addr} {n cap mb nn : Nat} {pu : Int} {f : Nat → Nat} {it ke : Nat → Int} {va : Nat → ByteArray} {lv : Value} {nx mod : Int} {tur : Bool} {lies : Int} {N : Nat} (w : World) (h : HsS w base hb ob a (n + 1) cap mb nn pu f it ke va) (ho : Ordr w ob lv nx mod tur lies N) (hN : N < 999999999700) (hb0 : base ≤ w.heap.size) :
    Calls Try.prog 32 #[.pointer (some ⟨hb, 0, none⟩)] w fun e w' => e = .returned (.tuple #[.int .i64 (it (f (if n = 0 then 0 else 1))), .int .i64 (ke (f (if n = 0 then 0 else 1))), .string (va (f (if n = 0 then 0 else 1))), .bool true]) ∧ TakS w base hb ob a n cap mb pu f it ke va lv nx mod tur lies N (f (if n = 0 then 0 else 1)) w' := by
  obtain ⟨gp, rfl, _⟩ := h.some' (by omega)
  have FI : Hid (Calls Try.prog 54 #[.pointer (some ⟨hb, 0, none⟩)] w fun e w' => e = .returned (.pointer (some ⟨f (if n = 0 then 0 else 1), 0, none⟩)) ∧ w' = w) := by
    have := lastS_any w h
    rw [show lst? (n + 1) f = some (f (if n = 0 then 0 else 1)) by unfold lst?; rw [if_neg (by omega)]; split <;> split <;> first | rfl | omega] at this
    exact this
  have TA : Hid (Calls Try.prog 53 #[.pointer (some ⟨hb, 0, none⟩), .pointer (some ⟨f (if n = 0 then 0 else 1), 0, none⟩)] w fun e w' => e = .returned (.pointer (some ⟨f (if n = 0 then 0 else 1), 0, none⟩)) ∧ TakS w base hb ob (some ⟨gp, 0, none⟩) n cap mb pu f it ke va lv nx mod tur lies N (f (if n = 0 then 0 else 1)) w') := takeS_any (if n = 0 then 0 else 1) w h ho hN (by split <;> omega) hb0
  clear h ho
  generalize f (if n = 0 then 0 else 1) = x at *
  go_enter Try.func32, Try.ntmps32
  go_wp2_with (first | (go_at_call 54; refine Calls.mono FI.out ?_; rintro e w8 ⟨rfl, rfl⟩))
  refine Calls.mono TA.out ?_
  rintro e w9 ⟨rfl, hT⟩
  have TE : Hid (Calls Try.prog 55 #[.pointer (some ⟨x, 0, none⟩)] w9 fun e w' => e = .returned (.tuple #[.int .i64 (it x), .int .i64 (ke x), .string (va x), .bool true]) ∧ ∃ m, w' = w9.drewN m) := tellS_any (some x) w9 (fun b e => by
    cases e
    obtain ⟨a', cap', mb', nn', f', M, _, _, _, _, _, _, _, q8⟩ := hT
    exact q8)
  have HT : Hid _ := hT
  clear hT
  go_wp2_with (first | (go_at_call 55; refine Calls.mono TE.out ?_; rintro e w7 ⟨rfl, m, rfl⟩))
  (try simp only [Exit.inBlock, Exit.then]); refine bodyPost_ret (results_tmp4S rfl _ _ _) rfl ?_
  exact ⟨rfl, TakS.drewN HT.out _⟩
theorem updateS_none {base hb ob : Nat} {a : Option Addr} {n cap mb nn : Nat} {pu : Int} {f : Nat → Nat} {it ke : Nat → Int} {va : Nat → ByteArray} (i k : Int) (w : World) (h : HsS w base hb ob a n cap mb nn pu f it ke va) (h1 : -9223372036854775808 ≤ i) (h2 : i ≤ 9223372036854775807) (hn : ∀ b, Img n f n b → it b ≠ i) :
    Calls Try.prog 36 #[.pointer (some ⟨hb, 0, none⟩), .int .i64 i, .int .i64 k] w fun e w' => e = .returned (.int .i64 50) ∧ w' = w := by
  obtain ⟨c1, c2, c3, c4⟩ := h.cells
  obtain ⟨g, hm, hg⟩ := h.map
  have hr := hm.look Try.underlying92 (by rfl) (i := i) h1 h2
  have e0 : g i = none := by
    cases e : g i with
    | none => rfl
    | some b => exact absurd ((hg i b).1 e).2 (hn b ((hg i b).1 e).1)
  rw [e0] at hr
  simp only [pV] at hr
  clear h hm hg
  go_enter Try.func36, Try.ntmps36
  go_wp2_with fail
  go_ret
  exact ⟨rfl, rfl⟩
theorem fn_nilS (ob : Nat) (w : World) : (binOp .eql 66 (.func (.func 28) #[.pointer (some ⟨ob, 0, none⟩)] #[]) .nilFunc).run Try.prog w = .ok (.bool false) w := by kernel_rfl
theorem newS_any (ob : Nat) (base : Nat) (w : World) (hb : base ≤ w.heap.size) (ho : base ≤ ob) :
    Calls Try.prog 30 #[.func (.func 28) #[.pointer (some ⟨ob, 0, none⟩)] #[]] w fun e w' => e = .returned (.pointer (some ⟨w.heap.size + 1, 0, none⟩)) ∧ HsS w' base (w.heap.size + 1) ob none 0 0 w.heap.size 0 0 (fun _ => 0) (fun _ => 0) (fun _ => 0) (fun _ => (⟨#[]⟩ : ByteArray)) ∧ Below w.heap.size w w' := by
  have hmm := @run_makeMap Try.prog
  have hfn := fn_nilS ob w
  go_enter Try.func30, Try.ntmps30
  go_wp2_with fail
  go_ret
  have s1 : (w.alloc (.map #[] 0)).heap.size = w.heap.size + 1 := by simp
  refine ⟨rfl, ?_, ((Below.refl _ _).alloc (Nat.le_refl _) _).alloc (by simp) _⟩
  have e1 := (MapKept.heap_alloc (w.alloc (.map #[] 0)) (.cells #[.func (.func 28) #[.pointer (some ⟨ob, 0, none⟩)] #[], .slice none 0 0, .map (some w.heap.size), .int .i64 0] 95)).1
  rw [s1] at e1
  refine { hd := e1, row := World.ownsRow_nil _ _ _ _, lim := by omega, pl := fun i hi => by omega, wf := fun i hi => by omega, itr := fun i hi => by omega, iti := fun i j hi => by omega, pu0 := Int.le_refl _, pu1 := by omega, nn1 := by omega, mp := ⟨fun _ => none, (Mp.made w).kept (Below.heap_alloc _ _ _ (by simp)), fun i b => ⟨fun e => (by cases e), fun e => (by obtain ⟨j, hj, _⟩ := e; omega)⟩⟩, ge := ⟨by omega, ho, hb, fun i hi => by omega⟩ }
end Go.Proofs.Ytjnfcihichaonaa
namespace Go.Proofs.Ytjnfcihichaonaa
open Go.RowKit
set_option maxRecDepth 100000
set_option linter.unusedVariables false
theorem num_any (i : Int) (w : World) : Calls Try.prog 35 #[.int .i64 i] w fun e w' => e = .returned (.int .i64 i) ∧ w' = w := by
  go_enter Try.func35, Try.ntmps35
  go_wp2_with fail
  go_ret
  exact ⟨rfl, rfl⟩
theorem rk0 (k : Int) : rk 0 false k = k := by simp [rk, rank]
/-- Three things in a heap of texts. -/
structure St3 (w0 W : World) (hb ob : Nat) (it ke : Nat → Int) (va : Nat → ByteArray) (x1 x2 x3 : Nat) : Prop where
  ex : ∃ a cap mb nn f N, HsS W w0.heap.size hb ob a 3 cap mb nn 3 f it ke va ∧ Ordr W ob (.slice none 0 0) 0 0 false 0 N ∧ N ≤ 1000 ∧ Ord (leB 0 false it ke) 3 f 3 ∧ ∀ b, Img 3 f 3 b ↔ b = x1 ∨ b = x2 ∨ b = x3
  i1 : it x1 = 1 ∧ ke x1 = 5
  i2 : it x2 = 2 ∧ ke x2 = 3 ∧ va x2 = ⟨#[98]⟩
  i3 : it x3 = 3 ∧ ke x3 = 5 ∧ va x3 = ⟨#[99]⟩
  bel : Below w0.heap.size w0 W
theorem tn_below {S : Nat → Prop} {w0 w w' : World} (hB : Below w0.heap.size w0 w) (h : Tn S w w') (hs : ∀ k, S k → w0.heap.size ≤ k) : Below w0.heap.size w0 w' :=
  ⟨h.os.trans hB.os, h.tape.trans hB.tape, h.output.trans hB.output, Nat.le_trans hB.size h.size, fun k hk => (h.block k (Nat.lt_of_lt_of_le hk hB.size) (fun e => by have := hs k e; omega)).trans (hB.block k hk)⟩
theorem pow_le (M N : Nat) (h : 2 ^ (M - N) ≤ 64) (hn : N ≤ M) : M ≤ N + 6 := by
  rcases Nat.lt_or_ge 6 (M - N) with h1 | h1
  · have : 2 ^ 7 ≤ 2 ^ (M - N) := Nat.pow_le_pow_right (by decide) h1
    have : (2 : Nat) ^ 7 = 128 := by decide
    omega
  · omega
theorem push_step {w0 W : World} {hb ob : Nat} {a : Option Addr} {n cap mb nn : Nat} {pu : Int} {f : Nat → Nat} {it ke : Nat → Int} {va : Nat → ByteArray} {N : Nat} (h : HsS W w0.heap.size hb ob a n cap mb nn pu f it ke va) (ho : Ordr W ob (.slice none 0 0) 0 0 false 0 N) (hord : Ord (leB 0 false it ke) n f n) (hB : Below w0.heap.size w0 W) (k : Int) (v : ByteArray) (hn : n ≤ 10) (hN : N ≤ 500) (hp : pu ≤ 100) (hk : -1000 ≤ k) (hk2 : k ≤ 1000) :
    Calls Try.prog 31 #[.pointer (some ⟨hb, 0, none⟩), .int .i64 k, .string v] W fun e w' => e = .returned (.int .i64 (pu + 1)) ∧ ∃ a' cap' f' M, HsS w' w0.heap.size hb ob a' (n + 1) cap' mb (nn + 1) (pu + 1) f' (upN it W.heap.size (pu + 1)) (upN ke W.heap.size k) (upN va W.heap.size v) ∧ Ordr w' ob (.slice none 0 0) 0 0 false 0 M ∧ M ≤ N + 6 ∧ Ord (leB 0 false (upN it W.heap.size (pu + 1)) (upN ke W.heap.size k)) (n + 1) f' (n + 1) ∧ (∀ b, Img (n + 1) f' (n + 1) b ↔ Img n f n b ∨ b = W.heap.size) ∧ Below w0.heap.size w0 w' ∧ W.heap.size < w'.heap.size := by
  refine (pushS_any k v W h ho (by omega) (by omega) (by omega) (by omega) (by omega) hB.size).mono ?_
  rintro e w' ⟨rfl, a', cap', f', M, q1, q2, q3, q4, q5, q6, q7⟩
  refine ⟨rfl, a', cap', f', M, q1, q2, pow_le M N (by omega) q3, q5 rfl hord, q6, tn_below hB q7.toTn ?_, ?_⟩
  · rintro k (e | e | e | e | e)
    · rw [e]; exact h.ge.1
    · rw [e]; exact h.ge.2.2.1
    · rw [e]; exact h.ge.2.1
    · exact (h.own e).1
    · obtain ⟨i, hi, _, rfl⟩ := e
      exact h.ge.2.2.2 i hi
  · obtain ⟨i, hi, _, e⟩ := (q6 W.heap.size).2 (.inr rfl)
    have := (Array.getElem?_eq_some_iff.1 (q1.pl i hi)).1
    rw [e] at this
    exact this
set_option maxHeartbeats 2000000 in
theorem started_any (w : World) : Calls Try.prog 12 #[] w fun e w' => e = .returned (.bool true) ∧ Below w.heap.size w w' := by
  obtain ⟨W1, hW1⟩ : ∃ W1, W1 = w.alloc (.cells #[.slice none 0 0, .int .i64 0, .int .i64 0, .bool false, .int .i64 0, .int .i64 0] 57) := ⟨_, rfl⟩
  have B1 : Below w.heap.size w W1 := by rw [hW1]; exact (Below.refl _ _).alloc (Nat.le_refl _) _
  have s1 : W1.heap.size = w.heap.size + 1 := by rw [hW1]; simp
  have O1 : Ordr W1 w.heap.size (.slice none 0 0) 0 0 false 0 0 := ⟨by rw [hW1]; exact (MapKept.heap_alloc w _).1, ⟨_, _, _, rfl⟩, by omega, by omega, by omega, by omega⟩
  have NW : Hid (Calls Try.prog 30 #[.func (.func 28) #[.pointer (some ⟨w.heap.size, 0, none⟩)] #[]] W1 fun e w' => e = .returned (.pointer (some ⟨W1.heap.size + 1, 0, none⟩)) ∧ HsS w' w.heap.size (W1.heap.size + 1) w.heap.size none 0 0 W1.heap.size 0 0 (fun _ => 0) (fun _ => 0) (fun _ => 0) (fun _ => (⟨#[]⟩ : ByteArray)) ∧ Below W1.heap.size W1 w') := newS_any w.heap.size w.heap.size W1 B1.size (Nat.le_refl _)
  have HW : Hid (w.alloc (.cells #[.slice none 0 0, .int .i64 0, .int .i64 0, .bool false, .int .i64 0, .int .i64 0] 57) = W1) := hW1.symm
  have H1 : Hid (Below w.heap.size w W1 ∧ W1.heap.size = w.heap.size + 1 ∧ Ordr W1 w.heap.size (.slice none 0 0) 0 0 false 0 0) := ⟨B1, s1, O1⟩
  clear hW1 B1 s1 O1
  go_enter Try.func12, Try.ntmps12
  go_wp2_with fail
  rw [HW.out]
  refine Calls.mono NW.out ?_
  rintro e W2 ⟨rfl, S0, hB0⟩
  obtain ⟨hb, ehb⟩ : ∃ hb, hb = W1.heap.size + 1 := ⟨_, rfl⟩
  rw [← ehb] at S0 ⊢
  have B2 := H1.out.1.trans (hB0.mono H1.out.1.size)
  have O2 : Ordr W2 w.heap.size (.slice none 0 0) 0 0 false 0 0 := H1.out.2.2.kept (hB0.block _ H1.out.2.2.lt)
  have P1 : Hid _ := push_step S0 O2 (fun a b ha => by omega) B2 5 ⟨#[97]⟩ (by omega) (by omega) (by omega) (by omega) (by omega)
  clear S0 O2 B2 ehb hB0 NW
  go_wp2_with fail
  refine Calls.mono P1.out ?_
  rintro e W3 ⟨rfl, a3, cap3, f3, N3, S3, O3, hN3, R3, I3, B3, z3⟩
  have P2 : Hid _ := push_step S3 O3 R3 B3 3 ⟨#[98]⟩ (by omega) (by omega) (by omega) (by omega) (by omega)
  have J3 : Hid (∀ b, Img 1 f3 1 b ↔ b = W2.heap.size) := fun b => (I3 b).trans ⟨fun h => h.elim (fun ⟨i, hi, _⟩ => by omega) id, .inr⟩
  clear S3 O3 R3 I3 B3 P1
  go_wp2_with fail
  refine Calls.mono P2.out ?_
  rintro e W4 ⟨rfl, a4, cap4, f4, N4, S4, O4, hN4, R4, I4, B4, z4⟩
  have P3 : Hid _ := push_step S4 O4 R4 B4 5 ⟨#[99]⟩ (by omega) (by omega) (by omega) (by omega) (by omega)
  have J4 : Hid (∀ b, Img 2 f4 2 b ↔ b = W2.heap.size ∨ b = W3.heap.size) := fun b => (I4 b).trans (or_congr (J3.out b) Iff.rfl)
  clear S4 O4 R4 I4 B4 P2 J3
  go_wp2_with fail
  refine Calls.mono P3.out ?_
  rintro e W5 ⟨rfl, a5, cap5, f5, N5, S5, O5, hN5, R5, I5, B5, z5⟩
  have J5 : ∀ b, Img 3 f5 3 b ↔ (b = W2.heap.size ∨ b = W3.heap.size) ∨ b = W4.heap.size := fun b => (I5 b).trans (or_congr (J4.out b) Iff.rfl)
  have zz : W2.heap.size < W3.heap.size ∧ W3.heap.size < W4.heap.size := ⟨z3, z4⟩
  obtain ⟨x1, e1⟩ : ∃ x, x = W2.heap.size := ⟨_, rfl⟩
  obtain ⟨x2, e2⟩ : ∃ x, x = W3.heap.size := ⟨_, rfl⟩
  obtain ⟨x3, e3⟩ : ∃ x, x = W4.heap.size := ⟨_, rfl⟩
  rw [← e1, ← e2, ← e3] at S5 R5 J5
  rw [← e1, ← e2] at zz
  rw [← e3] at zz
  obtain ⟨it, eit⟩ : ∃ it, it = upN (upN (upN (fun _ => (0 : Int)) x1 (0 + 1)) x2 (0 + 1 + 1)) x3 (0 + 1 + 1 + 1) := ⟨_, rfl⟩
  obtain ⟨ke, eke⟩ : ∃ ke, ke = upN (upN (upN (fun _ => (0 : Int)) x1 5) x2 3) x3 5 := ⟨_, rfl⟩
  obtain ⟨va, eva⟩ : ∃ va, va = upN (upN (upN (fun _ => (⟨#[]⟩ : ByteArray)) x1 ⟨#[97]⟩) x2 ⟨#[98]⟩) x3 ⟨#[99]⟩ := ⟨_, rfl⟩
  rw [← eit, ← eke] at R5
  rw [← eit, ← eke, ← eva] at S5
  have n12 : x1 ≠ x2 := by omega
  have n13 : x1 ≠ x3 := by omega
  have n23 : x2 ≠ x3 := by omega
  have v1 : it x1 = 1 ∧ ke x1 = 5 := by rw [eit, eke, upN_ne n13, upN_ne n12, upN_eq, upN_ne n13, upN_ne n12, upN_eq]; exact ⟨rfl, rfl⟩
  have v2 : it x2 = 2 ∧ ke x2 = 3 ∧ va x2 = ⟨#[98]⟩ := by rw [eit, eke, eva, upN_ne n23, upN_eq, upN_ne n23, upN_eq, upN_ne n23, upN_eq]; exact ⟨rfl, rfl, rfl⟩
  have v3 : it x3 = 3 ∧ ke x3 = 5 ∧ va x3 = ⟨#[99]⟩ := by rw [eit, eke, eva, upN_eq, upN_eq, upN_eq]; exact ⟨rfl, rfl, rfl⟩
  clear eit eke eva e1 e2 e3
  -- the last one
  have hx : f5 1 = x3 := by
    have hm := ord_max (leB_total _ _ _ _) R5 ((J5 x3).2 (.inr rfl))
    rw [if_neg (by omega)] at hm
    unfold leB at hm
    rw [rk0, rk0, v3.1, v3.2.1] at hm
    rcases (J5 (f5 1)).1 ⟨1, by omega, by omega, rfl⟩ with (e | e) | e
    · rw [e, v1.1, v1.2] at hm
      omega
    · rw [e, v2.1, v2.2.1] at hm
      omega
    · exact e
  have PX : Hid (Calls Try.prog 32 #[.pointer (some ⟨hb, 0, none⟩)] W5 fun e w' => e = .returned (.tuple #[.int .i64 3, .int .i64 5, .string ⟨#[99]⟩, .bool true]) ∧ ∃ a6 cap6 mb6 nn6 f6, HsS w' w.heap.size hb w.heap.size a6 2 cap6 mb6 nn6 3 f6 it ke va ∧ Ord (leB 0 false it ke) 2 f6 2 ∧ (∀ b, Img 2 f6 2 b ↔ b = x1 ∨ b = x2) ∧ Below w.heap.size w w') := by
    refine (popMaxS_any (n := 2) W5 S5 O5 (by omega) B5.size).mono ?_
    rintro e w' ⟨rfl, q⟩
    rw [if_neg (by omega), hx] at q ⊢
    obtain ⟨a6, cap6, mb6, nn6, f6, M, q1, q2, q3, q4, q5, q6, q7, q8⟩ := q
    refine ⟨by rw [v3.1, v3.2.1, v3.2.2], a6, cap6, mb6, nn6, f6, q1, q5 rfl R5, fun b => (q6 b).trans ⟨fun ⟨h1, h2⟩ => ?_, fun h1 => ⟨(J5 b).2 (.inl h1), ?_⟩⟩, tn_below B5 q7.toTn ?_⟩
    · exact ((J5 b).1 h1).elim id (fun e => absurd e h2)
    · rcases h1 with e | e <;> rw [e]
      · exact n13
      · exact n23
    · rintro k (e | e | e | e | e)
      · rw [e]; exact S5.ge.1
      · rw [e]; exact S5.ge.2.2.1
      · rw [e]; exact S5.ge.2.1
      · exact (S5.own e).1
      · obtain ⟨i, hi, _, rfl⟩ := e
        exact S5.ge.2.2.2 i hi
  have HV : Hid ((it x1 = 1 ∧ ke x1 = 5) ∧ it x2 = 2 ∧ ke x2 = 3 ∧ va x2 = ⟨#[98]⟩) := ⟨v1, v2⟩
  clear S5 O5 R5 I5 B5 J5 J4 P3 v1 v2 v3 hx zz z3 z4 z5 hN3 hN4 hN5
  go_wp2_with fail
  refine Calls.mono PX.out ?_
  rintro e W6 ⟨rfl, a6, cap6, mb6, nn6, f6, S6, R6, I6, B6⟩
  have hy : f6 0 = x2 := by
    have hm := ord_min (leB_total _ _ _ _) R6 ((I6 x2).2 (.inr rfl))
    unfold leB at hm
    obtain ⟨v1, v2⟩ := HV.out
    rw [rk0, rk0, v2.1, v2.2.1] at hm
    rcases (I6 (f6 0)).1 ⟨0, by omega, by omega, rfl⟩ with e | e
    · rw [e, v1.1, v1.2] at hm
      omega
    · exact e
  have MN : Hid (Calls Try.prog 33 #[.pointer (some ⟨hb, 0, none⟩)] W6 fun e w' => e = .returned (.tuple #[.int .i64 2, .int .i64 3, .string ⟨#[98]⟩, .bool true]) ∧ ∃ m, w' = W6.drewN m) := by
    refine (minS_any W6 S6).mono ?_
    rintro e w' ⟨rfl, q⟩
    refine ⟨?_, q⟩
    obtain ⟨_, v2⟩ := HV.out
    rw [show fst? 2 f6 = some (f6 0) from rfl, hy]
    simp only [telS]
    rw [v2.1, v2.2.1, v2.2.2]
  have LN : Hid (∀ m, Calls Try.prog 34 #[.pointer (some ⟨hb, 0, none⟩)] (W6.drewN m) fun e w' => e = .returned (.int .i64 2) ∧ w' = W6.drewN m) := fun m => lenS_any _ (S6.drewN m)
  have UP : Hid (∀ m, Calls Try.prog 36 #[.pointer (some ⟨hb, 0, none⟩), .int .i64 3, .int .i64 9] (W6.drewN m) fun e w' => e = .returned (.int .i64 50) ∧ w' = W6.drewN m) := fun m => updateS_none 3 9 _ (S6.drewN m) (by omega) (by omega) (fun b hb' => by
    obtain ⟨v1, v2⟩ := HV.out
    rcases (I6 b).1 hb' with e | e
    · rw [e, v1.1]; omega
    · rw [e, v2.1]; omega)
  have NM : Hid (∀ m, Calls Try.prog 35 #[.int .i64 50] (W6.drewN m) fun e w' => e = .returned (.int .i64 50) ∧ w' = W6.drewN m) := fun m => num_any 50 _
  have HB : Hid (Below w.heap.size w W6) := B6
  clear S6 R6 I6 B6 hy PX HV
  go_wp2_with (first | (go_at_call 33; refine Calls.mono MN.out ?_; rintro e w7 ⟨rfl, m, rfl⟩) | (go_at_call 34; refine Calls.mono (LN.out m) ?_; rintro e w8 ⟨rfl, rfl⟩) | (go_at_call 36; refine Calls.mono (UP.out m) ?_; rintro e w8 ⟨rfl, rfl⟩) | (go_at_call 35; refine Calls.mono (NM.out m) ?_; rintro e w8 ⟨rfl, rfl⟩))
  go_ret
  exact ⟨rfl, bel_drewN HB.out _⟩
end Go.Proofs.Ytjnfcihichaonaa
namespace Go.Proofs.Ytjnfcihichaonaa
open Go.RowKit
set_option maxRecDepth 100000
set_option linter.unusedVariables false
set_option maxHeartbeats 1000000 in
theorem popMinI_none {base hb ob : Nat} {a : Option Addr} {cap mb nn : Nat} {pu : Int} {f : Nat → Nat} {it ke : Nat → Int} {va : Nat → Int} (w : World) (h : HsI w base hb ob a 0 cap mb nn pu f it ke va) :
    Calls Try.prog 19 #[.pointer (some ⟨hb, 0, none⟩)] w fun e w' => e = .returned (.tuple #[.int .i64 0, .int .i64 0, .int .i64 (0 : Int), .bool false]) ∧ ∃ m, w' = w.drewN m := by
  have FI : Hid (Calls Try.prog 43 #[.pointer (some ⟨hb, 0, none⟩)] w fun e w' => e = .returned (.pointer none) ∧ w' = w) := firstI_any w h
  have TA : Hid (Calls Try.prog 40 #[.pointer (some ⟨hb, 0, none⟩), .pointer none] w fun e w' => e = .returned (.pointer none) ∧ w' = w) := takeI_none hb w
  have TE : Hid (Calls Try.prog 41 #[.pointer none] w fun e w' => e = .returned (.tuple #[.int .i64 0, .int .i64 0, .int .i64 (0 : Int), .bool false]) ∧ ∃ m, w' = w.drewN m) := tellI_any (it := it) (ke := ke) (va := va) none w (fun b e => by cases e)
  clear h
  go_enter Try.func19, Try.ntmps19
  go_wp2_with (first | (go_at_call 43; refine Calls.mono FI.out ?_; rintro e w8 ⟨rfl, rfl⟩) | (go_at_call 40; refine Calls.mono TA.out ?_; rintro e w9 ⟨rfl, rfl⟩) | (go_at_call 41; refine Calls.mono TE.out ?_; rintro e w7 ⟨rfl, m, rfl⟩))
  (try simp only [Exit.inBlock, Exit.then]); refine bodyPost_ret (results_tmp4I rfl _ _ _) rfl ?_
  exact ⟨rfl, _, rfl⟩
set_option maxHeartbeats 1000000 in
theorem popMinI_any {base hb ob : Nat} {a : Option Addr} {n cap mb nn : Nat} {pu : Int} {f : Nat → Nat} {it ke : Nat → Int} {va : Nat → Int} {lv : Value} {nx mod : Int} {tur : Bool} {lies : Int} {N : Nat} (w : World) (h : HsI w base hb ob a (n + 1) cap mb nn pu f it ke va) (ho : Ordr w ob lv nx mod tur lies N) (hN : N < 999999999700) (hb0 : base ≤ w.heap.size) :
    Calls Try.prog 19 #[.pointer (some ⟨hb, 0, none⟩)] w fun e w' => e = .returned (.tuple #[.int .i64 (it (f 0)), .int .i64 (ke (f 0)), .int .i64 (va (f 0)), .bool true]) ∧ TakI w base hb ob a n cap mb pu f it ke va lv nx mod tur lies N (f 0) w' := by
  obtain ⟨gp, rfl, _⟩ := h.some' (by omega)
  have FI : Hid (Calls Try.prog 43 #[.pointer (some ⟨hb, 0, none⟩)] w fun e w' => e = .returned (.pointer (some ⟨f 0, 0, none⟩)) ∧ w' = w) := by
    have := firstI_any w h
    rw [show fst? (n + 1) f = some (f 0) by unfold fst?; rw [if_neg (by omega)]] at this
    exact this
  have TA : Hid (Calls Try.prog 40 #[.pointer (some ⟨hb, 0, none⟩), .pointer (some ⟨f 0, 0, none⟩)] w fun e w' => e = .returned (.pointer (some ⟨f 0, 0, none⟩)) ∧ TakI w base hb ob (some ⟨gp, 0, none⟩) n cap mb pu f it ke va lv nx mod tur lies N (f 0) w') := takeI_any (0) w h ho hN (by omega) hb0
  clear h ho
  generalize f 0 = x at *
  go_enter Try.func19, Try.ntmps19
  go_wp2_with (first | (go_at_call 43; refine Calls.mono FI.out ?_; rintro e w8 ⟨rfl, rfl⟩))
  refine Calls.mono TA.out ?_
  rintro e w9 ⟨rfl, hT⟩
  have TE : Hid (Calls Try.prog 41 #[.pointer (some ⟨x, 0, none⟩)] w9 fun e w' => e = .returned (.tuple #[.int .i64 (it x), .int .i64 (ke x), .int .i64 (va x), .bool true]) ∧ ∃ m, w' = w9.drewN m) := tellI_any (some x) w9 (fun b e => by
    cases e
    obtain ⟨a', cap', mb', nn', f', M, _, _, _, _, _, _, _, q8⟩ := hT
    exact q8)
  have HT : Hid _ := hT
  clear hT
  go_wp2_with (first | (go_at_call 41; refine Calls.mono TE.out ?_; rintro e w7 ⟨rfl, m, rfl⟩))
  (try simp only [Exit.inBlock, Exit.then]); refine bodyPost_ret (results_tmp4I rfl _ _ _) rfl ?_
  exact ⟨rfl, TakI.drewN HT.out _⟩
end Go.Proofs.Ytjnfcihichaonaa
