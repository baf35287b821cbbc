/- Contracts of the program's functions, part 16: own work, joined in build order. -/
import Derived.Test.YtmghkkaoblkmpaaJ15
namespace Go.Proofs.Ytmghkkaoblkmpaa
open Go.RowKit
set_option maxRecDepth 100000
set_option linter.unusedVariables false
/-- Two rings of the call's own, apart from one another, and what lay below n0. -/
def Duo (n0 : Nat) (w0 w : World) (r s : Nat) (xs ys : List Int) : Prop := ∃ g h, Own1 n0 w r g xs ∧ Own1 n0 w s h ys ∧ (r ≠ s ∧ r ≠ h ∧ g ≠ s ∧ g ≠ h) ∧ Below n0 w0 w ∧ n0 ≤ w0.heap.size
theorem Duo.swap {n0 r s : Nat} {w0 w : World} {xs ys : List Int} (h : Duo n0 w0 w r s xs ys) : Duo n0 w0 w s r ys xs := by
  obtain ⟨g, k, h1, h2, ⟨a, b, c, d⟩, h3, h4⟩ := h
  exact ⟨k, g, h2, h1, ⟨Ne.symm a, Ne.symm c, Ne.symm b, Ne.symm d⟩, h3, h4⟩
theorem Duo.drew {n0 r s : Nat} {w0 w : World} {xs ys : List Int} (h : Duo n0 w0 w r s xs ys) (n : Nat) : Duo n0 w0 (w.drewN n) r s xs ys := by
  obtain ⟨g, k, h1, h2, h3, h4, h5⟩ := h
  exact ⟨g, k, h1.of_blocks rfl rfl, h2.of_blocks rfl rfl, h3, ⟨h4.os, h4.tape, h4.output, h4.size, h4.block⟩, h5⟩
theorem Duo.bel {n0 r s : Nat} {w0 w : World} {xs ys : List Int} (h : Duo n0 w0 w r s xs ys) : Below n0 w0 w := by
  obtain ⟨_, _, _, _, _, h4, _⟩ := h
  exact h4
theorem Duo.mono {n0 r s : Nat} {w0 w w' : World} {xs ys : List Int} (h : Duo n0 w0 w r s xs ys) (hb : Below w.heap.size w w') : Duo n0 w0 w' r s xs ys := by
  obtain ⟨g, k, h1, h2, h3, h4, h5⟩ := h
  exact ⟨g, k, h1.mono hb, h2.mono hb, h3, h4.trans (hb.mono (Nat.le_trans h5 h4.size)), h5⟩
theorem Duo.lift {n0 r s : Nat} {w0 w : World} {xs ys xs' : List Int} (h : Duo n0 w0 w r s xs ys) {F : FuncId} {args : Array Value} {E : Ending} (C : ∀ g N f, RI w r g N f xs.length xs → Calls Try.prog F args w fun e w' => e = E ∧ RingsI w r g xs' w') :
    Calls Try.prog F args w fun e w' => e = E ∧ Hid (Duo n0 w0 w' r s xs' ys) := by
  obtain ⟨g, k, h1, h2, ⟨a, b, c, d⟩, h3, h4⟩ := h
  obtain ⟨N, f, hR⟩ := h1.ring
  refine (C g N f hR).mono fun _ _ ⟨he, h5⟩ => ⟨he, ?_⟩
  obtain ⟨g', h6, h7, h8, h9⟩ := h1.go (Nat.le_trans h4 h3.size) h5
  have l2 := h2.lt
  refine ⟨g', k, h6, h2.chg h8 (Ne.symm a) (Ne.symm c) (Ne.symm b) (Ne.symm d), ⟨a, b, ?_, ?_⟩, h3.trans h7, h4⟩
  · rcases h9 with e | e | e
    · rw [e]; exact c
    · rw [e]; exact a
    · omega
  · rcases h9 with e | e | e
    · rw [e]; exact d
    · rw [e]; exact b
    · omega
theorem Duo.lift2 {n0 r s : Nat} {w0 w : World} {xs ys ys' : List Int} (h : Duo n0 w0 w r s xs ys) {F : FuncId} {args : Array Value} {E : Ending} (C : ∀ g N f, RI w s g N f ys.length ys → Calls Try.prog F args w fun e w' => e = E ∧ RingsI w s g ys' w') :
    Calls Try.prog F args w fun e w' => e = E ∧ Hid (Duo n0 w0 w' r s xs ys') :=
  (h.swap.lift C).mono fun _ _ ⟨he, h1⟩ => ⟨he, Duo.swap h1.out⟩
theorem Duo.liftQ {n0 r s : Nat} {w0 w : World} {xs ys : List Int} (h : Duo n0 w0 w r s xs ys) {F : FuncId} {args : Array Value} {E : Ending} (C : ∀ g N f, RI w r g N f xs.length xs → Calls Try.prog F args w fun e w' => e = E ∧ ∃ n, w' = w.drewN n) :
    Calls Try.prog F args w fun e w' => e = E ∧ Hid (Duo n0 w0 w' r s xs ys) := by
  have h' := h
  obtain ⟨g, k, h1, _⟩ := h
  obtain ⟨N, f, hR⟩ := h1.ring
  exact (C g N f hR).mono fun _ _ ⟨he, n, h5⟩ => ⟨he, by rw [h5]; exact h'.drew n⟩
theorem Duo.len2 {n0 r s : Nat} {w0 w : World} {xs ys : List Int} (h : Duo n0 w0 w r s xs ys) : Calls Try.prog 33 #[.pointer (some ⟨s, 0, none⟩)] w fun e w' => e = .returned (.int .i64 (ys.length : Int)) ∧ w' = w := by
  obtain ⟨g, k, _, h1, _⟩ := h
  obtain ⟨N, f, hR⟩ := h1.ring
  exact lenI_any s k N f _ ys w hR
theorem Duo.list {n0 r s : Nat} {w0 w : World} {xs ys : List Int} (h : Duo n0 w0 w r s xs ys) (c : Nat) (hc : xs.length = c) : Calls Try.prog 12 #[.pointer (some ⟨r, 0, none⟩)] w fun e w' => e = .returned (.slice (some ⟨w.heap.size, 0, none⟩) c c) ∧ Hid (w'.rowIs w.heap.size 3 c (fun j => .int .i64 (xs.getD j 0)) ∧ Duo n0 w0 w' r s xs ys) := by
  have h' := h
  obtain ⟨g, k, h1, _⟩ := h
  obtain ⟨N, f, hR⟩ := h1.ring
  exact (listI_any r g N f c xs w (hc ▸ hR) hc).mono fun _ _ ⟨he, h5, h6⟩ => ⟨he, h5, h'.mono h6⟩
section
variable {n0 r s : Nat} {w0 w : World} {xs ys : List Int}
theorem Duo.pushBack1 (h : Duo n0 w0 w r s xs ys) (hx : xs.length ≤ 4294967296) (v : Int) : Calls Try.prog 17 #[.pointer (some ⟨r, 0, none⟩), .int .i64 v] w fun e w' => e = .returned (.tuple #[]) ∧ Hid (Duo n0 w0 w' r s (xs ++ [v]) ys) :=
  h.lift (E := .returned (.tuple #[])) fun g N f kk => pushBackI_any r g N f xs v w kk hx
theorem Duo.pushBack2 (h : Duo n0 w0 w r s xs ys) (hx : ys.length ≤ 4294967296) (v : Int) : Calls Try.prog 17 #[.pointer (some ⟨s, 0, none⟩), .int .i64 v] w fun e w' => e = .returned (.tuple #[]) ∧ Hid (Duo n0 w0 w' r s xs (ys ++ [v])) :=
  h.lift2 (E := .returned (.tuple #[])) fun g N f kk => pushBackI_any s g N f ys v w kk hx
theorem Duo.pushFront1 (h : Duo n0 w0 w r s xs ys) (hx : xs.length ≤ 4294967296) (v : Int) : Calls Try.prog 19 #[.pointer (some ⟨r, 0, none⟩), .int .i64 v] w fun e w' => e = .returned (.tuple #[]) ∧ Hid (Duo n0 w0 w' r s (v :: xs) ys) :=
  h.lift (E := .returned (.tuple #[])) fun g N f kk => pushFrontI_any r g N f xs v w kk hx
theorem Duo.pushFront2 (h : Duo n0 w0 w r s xs ys) (hx : ys.length ≤ 4294967296) (v : Int) : Calls Try.prog 19 #[.pointer (some ⟨s, 0, none⟩), .int .i64 v] w fun e w' => e = .returned (.tuple #[]) ∧ Hid (Duo n0 w0 w' r s xs (v :: ys)) :=
  h.lift2 (E := .returned (.tuple #[])) fun g N f kk => pushFrontI_any s g N f ys v w kk hx
theorem Duo.turn1 (h : Duo n0 w0 w r s xs ys) (hx : xs.length ≤ 4294967296) (n : Int) (hn : -9223372036854775808 ≤ n) (hn2 : n ≤ 9223372036854775807) : Calls Try.prog 29 #[.pointer (some ⟨r, 0, none⟩), .int .i64 n] w fun e w' => e = .returned (.tuple #[]) ∧ Hid (Duo n0 w0 w' r s (rt n xs) ys) :=
  h.lift (E := .returned (.tuple #[])) fun g N f kk => turnI_any r g N f xs n w kk hx hn hn2
theorem Duo.turn2 (h : Duo n0 w0 w r s xs ys) (hx : ys.length ≤ 4294967296) (n : Int) (hn : -9223372036854775808 ≤ n) (hn2 : n ≤ 9223372036854775807) : Calls Try.prog 29 #[.pointer (some ⟨s, 0, none⟩), .int .i64 n] w fun e w' => e = .returned (.tuple #[]) ∧ Hid (Duo n0 w0 w' r s xs (rt n ys)) :=
  h.lift2 (E := .returned (.tuple #[])) fun g N f kk => turnI_any s g N f ys n w kk hx hn hn2
theorem Duo.popBack1 (h : Duo n0 w0 w r s xs ys) (x : Int) (L' : List Int) (hL : xs = L' ++ [x]) : Calls Try.prog 23 #[.pointer (some ⟨r, 0, none⟩)] w fun e w' => e = .returned (.tuple #[.int .i64 x, .bool true]) ∧ Hid (Duo n0 w0 w' r s L' ys) := by
  subst hL
  exact h.lift (E := .returned (.tuple #[.int .i64 x, .bool true])) fun g N f kk => popBackI_yes r g N f x L' w kk
theorem Duo.popBack2 (h : Duo n0 w0 w r s xs ys) (x : Int) (L' : List Int) (hL : ys = L' ++ [x]) : Calls Try.prog 23 #[.pointer (some ⟨s, 0, none⟩)] w fun e w' => e = .returned (.tuple #[.int .i64 x, .bool true]) ∧ Hid (Duo n0 w0 w' r s xs L') := by
  subst hL
  exact h.lift2 (E := .returned (.tuple #[.int .i64 x, .bool true])) fun g N f kk => popBackI_yes s g N f x L' w kk
theorem Duo.popFront1 (h : Duo n0 w0 w r s xs ys) (x : Int) (L' : List Int) (hL : xs = x :: L') : Calls Try.prog 21 #[.pointer (some ⟨r, 0, none⟩)] w fun e w' => e = .returned (.tuple #[.int .i64 x, .bool true]) ∧ Hid (Duo n0 w0 w' r s L' ys) := by
  subst hL
  exact h.lift (E := .returned (.tuple #[.int .i64 x, .bool true])) fun g N f kk => popFrontI_yes r g N f x L' w kk
theorem Duo.popFront2 (h : Duo n0 w0 w r s xs ys) (x : Int) (L' : List Int) (hL : ys = x :: L') : Calls Try.prog 21 #[.pointer (some ⟨s, 0, none⟩)] w fun e w' => e = .returned (.tuple #[.int .i64 x, .bool true]) ∧ Hid (Duo n0 w0 w' r s xs L') := by
  subst hL
  exact h.lift2 (E := .returned (.tuple #[.int .i64 x, .bool true])) fun g N f kk => popFrontI_yes s g N f x L' w kk
end
/-- A slice of numbers. -/
structure ISl (w : World) (a : Option Addr) (n cap : Nat) (xs : List Int) : Prop where
  le : n ≤ cap
  lim : cap ≤ 9223372036854775807
  len : xs.length = n
  at' : n = 0 ∨ ∃ b o, a = some ⟨b, o, none⟩ ∧ ∀ i, i < n → w.cell? ⟨b, o + i, none⟩ = some (.int .i64 (xs.getD i 0))
theorem ISl.at {w : World} {a : Option Addr} {n cap : Nat} {xs : List Int} (h : ISl w a n cap xs) (hn : 0 < n) : ∃ b o, a = some ⟨b, o, none⟩ ∧ ∀ i, i < n → w.cell? ⟨b, o + i, none⟩ = some (.int .i64 (xs.getD i 0)) := by
  rcases h.at' with e | e
  · omega
  · exact e
theorem ISl.mono {w w' : World} {a : Option Addr} {n cap : Nat} {xs : List Int} (h : ISl w a n cap xs) (hb : Below w.heap.size w w') : ISl w' a n cap xs :=
  ⟨h.le, h.lim, h.len, h.at'.imp id fun ⟨b, o, e, hc⟩ => ⟨b, o, e, fun i hi => cell_later hb (hc i hi)⟩⟩
theorem ISl.of_row {w : World} {g n : Nat} {t : TypeId} {xs : List Int} (h : w.rowIs g t n (fun j => .int .i64 (xs.getD j 0))) (hn : n ≤ 9223372036854775807) (hl : xs.length = n) : ISl w (some ⟨g, 0, none⟩) n n xs :=
  ⟨Nat.le_refl _, hn, hl, .inr ⟨g, 0, rfl, fun i hi => by rw [Nat.zero_add]; exact h.cell hi⟩⟩
theorem ISl.take {w : World} {a : Option Addr} {n cap : Nat} {xs : List Int} (h : ISl w a n cap xs) {m : Nat} (hm : m ≤ n) : ISl w a m cap (xs.take m) := by
  refine ⟨Nat.le_trans hm h.le, h.lim, by rw [List.length_take, h.len]; omega, ?_⟩
  rcases Nat.eq_zero_or_pos m with e | e
  · exact .inl e
  · obtain ⟨b, o, ha, hc⟩ := h.at (by omega)
    refine .inr ⟨b, o, ha, fun i hi => ?_⟩
    rw [hc i (by omega)]
    simp [List.getD_eq_getElem?_getD, hi]
set_option maxHeartbeats 1000000 in
theorem same_yes (a b : Option Addr) (n cap cap' : Nat) (xs : List Int) (w : World) (h : ISl w a n cap xs) (k : ISl w b n cap' xs) :
    Calls Try.prog 11 #[.slice a n cap, .slice b n cap'] w fun e w' => e = .returned (.bool true) ∧ ∃ m, w' = w.drewN m := by
  have HH : Hid (ISl w a n cap xs ∧ ISl w b n cap' xs) := ⟨h, k⟩
  have hl := h.lim
  have hle := h.le
  clear h k
  go_enter Try.func11, Try.ntmps11
  go_wp2_with fail
  go_loopw [5] (fun t wr => ∃ (i nd : Nat), i ≤ n ∧ t = .int .i64 (i : Int) ∧ wr = w.drewN nd) (fun t _ => n - (intOf t).toNat)
  case atStart => exact ⟨0, 0, by omega, rfl, rfl⟩
  case round =>
    obtain ⟨i, nd, hi, rfl, rfl⟩ := hrel
    by_cases hin : i < n
    · obtain ⟨b1, o1, rfl, h1⟩ := HH.out.1.at (by omega)
      obtain ⟨b2, o2, rfl, h2⟩ := HH.out.2.at (by omega)
      have c1 := h1 i hin
      have c2 := h2 i hin
      obtain ⟨x, ex⟩ : ∃ x, x = xs.getD i 0 := ⟨_, rfl⟩
      rw [← ex] at c1 c2
      clear h1 h2 ex
      go_wp2_with fail
      go_quiet (fail)
      go_wp2_with fail
      go_roundw
      case rel => exact ⟨i + 1, _, by omega, by go_num, rfl⟩
      case measure => simp [intOf]; omega
    · obtain rfl : i = n := by omega
      go_wp2_with fail
      go_ret
      exact ⟨rfl, nd, rfl⟩
end Go.Proofs.Ytmghkkaoblkmpaa
