/- Contracts of the program's functions, part 24: own work, joined in build order. -/
import Derived.Test.YtmghkkaoblkmpaaJ23
namespace Go.Proofs.Ytmghkkaoblkmpaa
open Go.RowKit
set_option maxRecDepth 100000
set_option linter.unusedVariables false
set_option maxHeartbeats 4000000 in
theorem do_set (r g N0 f0 : Nat) (a : Option Addr) (c cap : Nat) (xs : List Int) (O N V : Int) (w : World) (h : Doing w r g N0 f0 a c cap xs) :
    Calls Try.prog 14 #[.pointer (some ⟨r, 0, none⟩), .slice a c cap, .agg #[.int .i64 5, .int .i64 O, .int .i64 N, .int .i64 V]] w fun e w' => ∃ v, e = .returned (.tuple #[v, .bool true]) ∧ Did w r g (.slice a c cap) xs v w' := by
  obtain ⟨bx, ebx⟩ : ∃ bx, bx = w.heap.size := ⟨_, rfl⟩
  obtain ⟨w0, hw0⟩ : ∃ w0, w0 = w.alloc (.cells #[.int .i64 5, .int .i64 O, .int .i64 N, .int .i64 V] 34) := ⟨_, rfl⟩
  have B0 : Below w.heap.size w w0 := by rw [hw0]; exact (Below.refl _ _).alloc (Nat.le_refl _) _
  have y2 : w0.cell? ⟨bx, 2, none⟩ = some (.int .i64 N) := by rw [hw0, ebx]; simp [go_sem]
  have y3 : w0.cell? ⟨bx, 3, none⟩ = some (.int .i64 V) := by rw [hw0, ebx]; simp [go_sem]
  have hlen := h.lst.sl.len
  have hle := h.lst.sl.le
  have hlim := h.lst.sl.lim
  have hcl := h.lim
  have HD : Hid (Doing w0 r g N0 f0 a c cap xs ∧ Below w.heap.size w w0 ∧ xs.length = c) := ⟨h.alloc B0, B0, hlen⟩
  have hbr : bx ≠ r := by have := h.ring.rlt; omega
  have hbg : bx ≠ g := by have := h.ring.glt; omega
  have HW0 : Hid (w0 = w.alloc (.cells #[.int .i64 5, .int .i64 O, .int .i64 N, .int .i64 V] 34)) := hw0
  have HBX : Hid (bx = w.heap.size) := ebx
  obtain ⟨ok, eok⟩ : ∃ ok, inR N xs.length = ok := ⟨_, rfl⟩
  cases ok with
  | true =>
    have h2 := inR_yes eok
    obtain ⟨j, hj⟩ : ∃ j : Nat, N = (j : Int) := ⟨N.toNat, by omega⟩
    have d1 : decide (N < 0) = false := decide_eq_false (by omega)
    have d2 : decide ((c : Int) ≤ N) = false := decide_eq_false (by omega)
    have HJ : Hid (N = (j : Int) ∧ j < c ∧ j < xs.length ∧ setI N V xs = xs.set j V ∧ inR N xs.length = true) := ⟨hj, by omega, by omega, by unfold setI; rw [if_pos eok, hj, Int.toNat_natCast], eok⟩
    obtain ⟨L, eL⟩ : ∃ L, L = xs.take j ++ xs.drop (j + 1) := ⟨_, rfl⟩
    have HLn : Hid (L.length = c - 1 ∧ L.take j ++ [V] ++ L.drop j = xs.set j V) := by
      refine ⟨?_, by rw [eL]; exact set_list xs j V (by omega)⟩
      rw [eL, List.length_append, List.length_take, List.length_drop]
      omega
    have WO : Hid (∀ w', ISx w' a c cap xs → Calls Try.prog 41 #[.slice a c cap, .int .i64 N] w' (Lists w' L)) := fun w' hx => by
      rw [eL]
      exact without_any a c cap xs j N w' hx hj (by omega) (by omega)
    clear eL
    clear h hw0 B0 ebx hlen eok h2 hj
    go_enter Try.func14, Try.ntmps14
    go_wp2_with fail
    rw [← HW0.out, ← HBX.out]
    refine (setI_u r g N0 f0 xs N V w0 HD.out.1.ring).mono ?_
    rintro e w1 ⟨rfl, h1⟩
    rw [HJ.out.2.2.2.2]
    have H1 : Hid (RingsI w0 r g (setI N V xs) w1) := h1
    have C1 := rings_chg h1
    have z2 := C1.cell y2 hbr hbg
    have z3 := C1.cell y3 hbr hbg
    have HL1 : Hid (ISx w1 a c cap xs) := HD.out.1.lst_at C1
    clear h1 C1
    go_wp2_with fail
    go_region_held3 (fun w' => w'.cell? ⟨bx, 2, none⟩ = some (.int .i64 N) ∧ w'.cell? ⟨bx, 3, none⟩ = some (.int .i64 V)) (first | (simp [go_sem, *]; done) | (trace_state; fail))
      (first
        | (go_at_call 41; refine Calls.mono (WO.out w1.drew (HL1.out.mono (bel_drew (Below.refl _ _)))) ?_; rintro e w2 ⟨v1, rfl, h1a, h1b⟩; obtain ⟨a1, cap1, rfl, hx1, _⟩ := h1a.isx; have B2 : Hid (Below w1.heap.size w1 w2 ∧ ISx w2 a1 L.length cap1 L) := ⟨⟨h1b.os, h1b.tape, h1b.output, h1b.size, h1b.block⟩, hx1⟩; have q2 := cell_later B2.out.1 z2; have q3 := cell_later B2.out.1 z3; clear h1a h1b hx1)
        | (go_at_call 38; refine Calls.mono (with_any a1 L.length cap1 L j N V w2 B2.out.2 HJ.out.1 (by have h8 := HLn.out.1; have h9 := HJ.out.2.1; omega) (by have h8 := HLn.out.1; omega)) ?_; rintro e w3 ⟨v2, rfl, h3a, h3b⟩; have B3 : Hid (Below w1.heap.size w1 w3 ∧ Ow w2.heap.size w3 v2 (setI N V xs)) := ⟨B2.out.1.trans (h3b.mono B2.out.1.size), by rw [HJ.out.2.2.2.1, ← HLn.out.2]; exact h3a⟩; have t2 := cell_later B3.out.1 z2; have t3 := cell_later B3.out.1 z3; clear h3a h3b))
    have FIN : Hid (Did w0 r g (.slice a c cap) xs v2 w3) := by
      refine Did.mk1 H1.out ⟨.inr ?_, B3.out.1⟩ (by rw [setI_len]; omega)
      have o := B3.out.2
      have s2 := B2.out.1.size
      refine ⟨o.1, o.2.imp id ?_⟩
      rintro ⟨gg, cc, cur, e, hb, rest⟩
      exact ⟨gg, cc, cur, e, by omega, rest⟩
    go_wp2_with fail
    exact bodyPost_ret (v := .tuple #[v2, .bool true]) (by simp [results, Try.results14, go_sem]) rfl ⟨v2, rfl, Did.up FIN.out HD.out.2.1⟩
  | false =>
    have h2 := inR_no eok
    have HJ : Hid (setI N V xs = xs ∧ inR N xs.length = false) := ⟨by unfold setI; rw [eok]; rfl, eok⟩
    have ways : decide (N < 0) = true ∨ (decide (N < 0) = false ∧ decide ((c : Int) ≤ N) = true) := by
      simp only [decide_eq_false_iff_not, decide_eq_true_eq]
      omega
    clear h hw0 B0 ebx hlen eok h2
    rcases ways with d1 | ⟨d1, d2⟩
    all_goals (
      go_enter Try.func14, Try.ntmps14
      go_wp2_with fail
      rw [← HW0.out, ← HBX.out]
      refine (setI_u r g N0 f0 xs N V w0 HD.out.1.ring).mono ?_
      rintro e w1 ⟨rfl, h1⟩
      rw [HJ.out.2]
      have C1 := rings_chg h1
      have z2 := C1.cell y2 hbr hbg
      have FIN : Hid (Did w0 r g (.slice a c cap) xs (.slice a c cap) w1) := by
        rw [HJ.out.1] at h1
        exact Did.mk1 h1 ⟨.inl ⟨rfl, rfl⟩, Below.refl _ _⟩ (by omega)
      clear h1 C1
      go_wp2_with fail
      exact bodyPost_ret (v := .tuple #[.slice a c cap, .bool true]) (by simp [results, Try.results14, go_sem]) rfl ⟨_, rfl, Did.up FIN.out HD.out.2.1⟩)
theorem kindsD (K : Int) : K = 0 ∨ K = 1 ∨ K = 2 ∨ K = 3 ∨ K = 5 ∨ K = 6 ∨ K = 7 ∨ ((K == 0) = false ∧ (K == 1) = false ∧ (K == 2) = false ∧ (K == 3) = false ∧ (K == 5) = false ∧ (K == 6) = false ∧ (K == 7) = false) := by
  simp only [beq_eq_false_iff_ne, ne_eq]
  omega
theorem do_any (r g N0 f0 : Nat) (a : Option Addr) (c cap : Nat) (xs : List Int) (K O N V : Int) (w : World) (h : Doing w r g N0 f0 a c cap xs) (hn : -9223372036854775808 ≤ N) (hn2 : N ≤ 9223372036854775807) :
    Calls Try.prog 14 #[.pointer (some ⟨r, 0, none⟩), .slice a c cap, .agg #[.int .i64 K, .int .i64 O, .int .i64 N, .int .i64 V]] w fun e w' => ∃ v, e = .returned (.tuple #[v, .bool true]) ∧ Did w r g (.slice a c cap) xs v w' := by
  rcases kindsD K with hk | hk | hk | hk | hk | hk | hk | hk
  · exact do_back r g N0 f0 a c cap xs K O N V w h hk hn hn2
  · exact do_front r g N0 f0 a c cap xs K O N V w h hk hn hn2
  · exact do_popF r g N0 f0 a c cap xs K O N V w h hk hn hn2
  · exact do_popB r g N0 f0 a c cap xs K O N V w h hk hn hn2
  · subst hk
    exact do_set r g N0 f0 a c cap xs O N V w h
  · exact do_take r g N0 f0 a c cap xs K O N V w h hk hn hn2
  · exact do_turn r g N0 f0 a c cap xs K O N V w h hk hn hn2
  · exact do_look r g N0 f0 a c cap xs K O N V w h hk hn hn2
end Go.Proofs.Ytmghkkaoblkmpaa
