/- Contracts of the program's functions, part 19: own work, joined in build order. -/
import Derived.Test.YtmghkkaoblkmpaaJ18
namespace Go.Proofs.Ytmghkkaoblkmpaa
open Go.RowKit
set_option maxRecDepth 100000
set_option linter.unusedVariables false
theorem isx_one (w : World) (v : Int) : ISx (w.alloc (.cells #[.int .i64 v] 3)) (some ⟨w.heap.size, 0, none⟩) 1 1 [v] :=
  ⟨⟨Nat.le_refl _, by omega, rfl, .inr ⟨_, 0, rfl, fun i hi => by
    obtain rfl : i = 0 := by omega
    simp [go_sem]⟩⟩, fun e => by cases e⟩
/-- A call that makes a list. -/
def Lists (w : World) (xs : List Int) (e : Ending) (w' : World) : Prop := ∃ v, e = .returned v ∧ Ow w.heap.size w' v xs ∧ Below w.heap.size w w'
set_option maxHeartbeats 1000000 in
theorem with_any (a : Option Addr) (n cap : Nat) (xs : List Int) (j : Nat) (i v : Int) (w : World) (h : ISx w a n cap xs) (hi : i = j) (hj : j ≤ n) (hn : n ≤ 1073741824) :
    Calls Try.prog 38 #[.slice a n cap, .int .i64 i, .int .i64 v] w (Lists w (xs.take j ++ [v] ++ xs.drop j)) := by
  subst hi
  obtain ⟨q1, x1, s1⟩ := cut_hi h j hj
  obtain ⟨q2, c2, x2, s2⟩ := cut_lo h j hj
  have hl := h.sl.lim
  have hle := h.sl.le
  have hlen := h.sl.len
  have HX : Hid (ISx w q1 j cap (xs.take j) ∧ ISx w q2 (n - j) c2 (xs.drop j) ∧ (xs.take j).length ≤ 1073741824) := ⟨x1, x2, by rw [List.length_take]; omega⟩
  clear x1 x2 h hlen
  go_enter Try.func38, Try.ntmps38
  go_wp2_with (refine (id ?_ : wpList Try.prog _ _ (⟨some 12, _, _, _, _, _⟩ :: _) _ _); refine wp_app rfl (.tmp 8) (.tmp 11) rfl w.heap.size _ [] rfl (Ow.nil _ _) _ _ _ _ rfl HX.out.1 (by simp; omega) (Nat.le_refl _) ?_)
  intro v1 w1 H1
  have hB1 := H1.out.2.size
  go_wp2_with (refine (id ?_ : wpList Try.prog _ _ (⟨some 16, _, _, _, _, _⟩ :: _) _ _); refine hold ?_)
  intro _
  refine wp_app rfl (.tmp 13) (.tmp 15) rfl w.heap.size v1 _ rfl (H1.out.1.below (b2 := 0) ((Below.refl _ _).alloc (Nat.le_refl _) _)) _ _ _ _ rfl (isx_one w1 v) (by have := HX.out.2.2; first | omega | (simp; omega)) (by simp; omega) ?_
  intro v2 w2 H2
  have B2 : Hid (Below w.heap.size w w2 ∧ Ow w.heap.size w2 v2 (xs.take j ++ [v])) := ⟨(H1.out.2.alloc H1.out.2.size _).trans H2.out.2, by have := H2.out.1; simpa using this⟩
  clear H1 H2 hB1
  go_wp2_with (refine (id ?_ : wpList Try.prog _ _ (⟨some 21, _, _, _, _, _⟩ :: _) _ _); refine wp_app rfl (.tmp 17) (.tmp 20) rfl w.heap.size _ _ rfl B2.out.2 _ _ _ _ rfl (HX.out.2.1.mono B2.out.1) (by have := HX.out.2.2; simp at *; omega) B2.out.1.size ?_)
  intro v3 w3 H3
  go_wp2_with fail
  go_ret
  exact ⟨v3, rfl, by have := H3.out.1; simpa using this, B2.out.1.trans H3.out.2⟩
set_option maxHeartbeats 1000000 in
theorem without_any (a : Option Addr) (n cap : Nat) (xs : List Int) (j : Nat) (i : Int) (w : World) (h : ISx w a n cap xs) (hi : i = j) (hj : j < n) (hn : n ≤ 1073741824) :
    Calls Try.prog 41 #[.slice a n cap, .int .i64 i] w (Lists w (xs.take j ++ xs.drop (j + 1))) := by
  subst hi
  obtain ⟨q1, x1, s1⟩ := cut_hi h j (by omega)
  obtain ⟨q2, c2, x2, s2⟩ := cut_lo h (j + 1) hj
  have s2' : ∀ (w' : World), (Instr.slice 27 (.slice a n cap) (some (.int .i64 ((j : Int) + 1))) none none).run Try.prog w' = .ok (.slice q2 (n - (j + 1)) c2) w' := fun w' => by
    have := s2 w'
    rw [show (((j + 1 : Nat)) : Int) = (j : Int) + 1 by omega] at this
    exact this
  have hl := h.sl.lim
  have hle := h.sl.le
  have hlen := h.sl.len
  have HX : Hid (ISx w q1 j cap (xs.take j) ∧ ISx w q2 (n - (j + 1)) c2 (xs.drop (j + 1)) ∧ (xs.take j).length ≤ 1073741824) := ⟨x1, x2, by rw [List.length_take]; omega⟩
  clear x1 x2 h hlen s2
  go_enter Try.func41, Try.ntmps41
  go_wp2_with (refine (id ?_ : wpList Try.prog _ _ (⟨some 10, _, _, _, _, _⟩ :: _) _ _); refine wp_app rfl (.tmp 6) (.tmp 9) rfl w.heap.size _ [] rfl (Ow.nil _ _) _ _ _ _ rfl HX.out.1 (by simp; omega) (Nat.le_refl _) ?_)
  intro v1 w1 H1
  go_wp2_with (refine (id ?_ : wpList Try.prog _ _ (⟨some 16, _, _, _, _, _⟩ :: _) _ _); refine wp_app rfl (.tmp 11) (.tmp 15) rfl w.heap.size _ _ rfl H1.out.1 _ _ _ _ rfl (HX.out.2.1.mono H1.out.2) (by have := HX.out.2.2; first | omega | (simp; omega)) H1.out.2.size ?_)
  intro v3 w3 H3
  go_wp2_with fail
  go_ret
  exact ⟨v3, rfl, by have := H3.out.1; simpa using this, H1.out.2.trans H3.out.2⟩
end Go.Proofs.Ytmghkkaoblkmpaa
