/- Contracts of the program's functions, part 21: own work, joined in build order. -/
import Derived.Test.YtmghkkaoblkmpaaJ20
namespace Go.Proofs.Ytmghkkaoblkmpaa
open Go.RowKit
set_option maxRecDepth 100000
set_option linter.unusedVariables false
/-- The list v0 as it was, or a new one. -/
def Gl (w : World) (v0 : Value) (xs ys : List Int) (v : Value) (w' : World) : Prop := ((v = v0 ∧ ys = xs) ∨ Ow w.heap.size w' v ys) ∧ Below w.heap.size w w'
theorem erase_take (xs : List Int) (j : Nat) : xs.take j ++ xs.drop (j + 1) = xs.eraseIdx j := (List.eraseIdx_eq_take_drop_succ xs j).symm
set_option maxHeartbeats 1000000 in
theorem gone_any (a : Option Addr) (n cap : Nat) (xs : List Int) (i : Int) (w : World) (h : ISx w a n cap xs) (hn : n ≤ 1073741824) :
    Calls Try.prog 39 #[.slice a n cap, .int .i64 i] w fun e w' => ∃ v, e = .returned v ∧ Gl w (.slice a n cap) xs (delI i xs) v w' := by
  have hlen := h.sl.len
  rcases Bool.eq_false_or_eq_true (inR i xs.length) with e | e
  · have h2 := inR_yes e
    have d1 : decide (i < 0) = false := decide_eq_false (by omega)
    have d2 : decide ((n : Int) ≤ i) = false := decide_eq_false (by omega)
    have HX : Hid (ISx w a n cap xs ∧ i.toNat < n ∧ i = (i.toNat : Int) ∧ delI i xs = xs.take i.toNat ++ xs.drop (i.toNat + 1)) := ⟨h, by omega, by omega, by unfold delI; rw [if_pos e, erase_take]⟩
    clear h hlen e h2
    go_enter Try.func39, Try.ntmps39
    go_wp2_with fail
    refine (without_any a n cap xs i.toNat i w HX.out.1 HX.out.2.2.1 HX.out.2.1 hn).mono ?_
    rintro e w1 ⟨v, rfl, h1, h2⟩
    have H1 : Hid (Ow w.heap.size w1 v (delI i xs) ∧ Below w.heap.size w w1) := ⟨by rw [HX.out.2.2.2]; exact h1, h2⟩
    clear h1 h2
    go_wp2_with fail
    go_ret
    exact ⟨v, rfl, .inr H1.out.1, H1.out.2⟩
  · have h2 := inR_no e
    have HX : Hid (delI i xs = xs) := by show delI i xs = xs; unfold delI; rw [e]; rfl
    rcases Int.lt_or_le i 0 with h3 | h3
    · have d1 : decide (i < 0) = true := decide_eq_true h3
      clear h hlen e h2 h3
      go_enter Try.func39, Try.ntmps39
      go_wp2_with fail
      go_ret
      exact ⟨_, rfl, .inl ⟨rfl, HX.out⟩, Below.refl _ _⟩
    · have d1 : decide (i < 0) = false := decide_eq_false (by omega)
      have d2 : decide ((n : Int) ≤ i) = true := decide_eq_true (by omega)
      clear h hlen e h2 h3
      go_enter Try.func39, Try.ntmps39
      go_wp2_with fail
      go_ret
      exact ⟨_, rfl, .inl ⟨rfl, HX.out⟩, Below.refl _ _⟩
set_option maxHeartbeats 1000000 in
theorem took_any (a : Option Addr) (n cap : Nat) (xs : List Int) (i v : Int) (ok : Bool) (w : World) (h : ISx w a n cap xs) (hv : getI i xs 0 = v) (hok : inR i xs.length = ok) :
    Calls Try.prog 40 #[.int .i64 v, .bool ok, .slice a n cap, .int .i64 i] w fun e w' => e = .returned (.bool true) ∧ w' = w := by
  have hlen := h.sl.len
  have hle := h.sl.le
  have hlim := h.sl.lim
  cases ok with
  | true =>
    have h2 := inR_yes hok
    obtain ⟨j, rfl⟩ : ∃ j : Nat, i = (j : Int) := ⟨i.toNat, by omega⟩
    obtain ⟨b, o, rfl, hc⟩ := h.sl.at (by omega)
    have c1 := hc j (by omega)
    unfold getI at hv
    rw [if_pos hok, Int.toNat_natCast] at hv
    rw [hv] at c1
    have d1 : decide ((j : Int) < 0) = false := decide_eq_false (by omega)
    have d2 : decide ((n : Int) ≤ (j : Int)) = false := decide_eq_false (by omega)
    have d3 : decide (n ≤ j) = false := decide_eq_false (by omega)
    have hjn : j < n := by omega
    clear h hlen hok hv h2 hc
    go_enter Try.func40, Try.ntmps40
    go_wp2_with fail
    go_ret
    exact ⟨rfl, rfl⟩
  | false =>
    have h2 := inR_no hok
    rw [getI_no _ _ _ hok] at hv
    subst hv
    rcases Int.lt_or_le i 0 with h3 | h3
    · have d1 : decide (i < 0) = true := decide_eq_true h3
      clear h hlen hok h2 h3
      go_enter Try.func40, Try.ntmps40
      go_wp2_with fail
      go_ret
      exact ⟨rfl, rfl⟩
    · have d1 : decide (i < 0) = false := decide_eq_false (by omega)
      have d2 : decide ((n : Int) ≤ i) = true := decide_eq_true (by omega)
      clear h hlen hok h2 h3
      go_enter Try.func40, Try.ntmps40
      go_wp2_with fail
      go_ret
      exact ⟨rfl, rfl⟩
theorem atI_q (r g N f : Nat) (xs : List Int) (i : Int) (w : World) (h : RI w r g N f xs.length xs) : Calls Try.prog 31 #[.pointer (some ⟨r, 0, none⟩), .int .i64 i] w fun e w' => e = .returned (.tuple #[.int .i64 (getI i xs 0), .bool (inR i xs.length)]) ∧ ∃ n, w' = w.drewN n := by
  rcases Bool.eq_false_or_eq_true (inR i xs.length) with e | e
  · have h2 := inR_yes e
    unfold getI
    rw [e, if_pos rfl]
    exact atI_yes r g N f _ xs i.toNat i w h (by omega) (by omega)
  · rw [getI_no _ _ _ e, e]
    exact atI_no r g N f _ xs i w h (inR_no e)
theorem frontI_q (r g N f : Nat) (xs : List Int) (w : World) (h : RI w r g N f xs.length xs) : Calls Try.prog 43 #[.pointer (some ⟨r, 0, none⟩)] w fun e w' => e = .returned (.tuple #[.int .i64 (getI 0 xs 0), .bool (inR 0 xs.length)]) ∧ ∃ n, w' = w.drewN n := by
  have HH : Hid (RI w r g N f xs.length xs) := h
  clear h
  go_enter Try.func43, Try.ntmps43
  go_wp2_with fail
  refine (atI_q r g N f xs 0 w HH.out).mono ?_
  rintro e w1 ⟨rfl, nd, rfl⟩
  obtain ⟨v, ev⟩ : ∃ v, v = getI 0 xs 0 := ⟨_, rfl⟩
  obtain ⟨ok, eok⟩ : ∃ ok, ok = inR 0 xs.length := ⟨_, rfl⟩
  have HV : Hid (v = getI 0 xs 0 ∧ ok = inR 0 xs.length) := ⟨ev, eok⟩
  rw [← ev, ← eok]
  clear ev eok
  go_wp2_with fail
  refine bodyPost_ret (v := .tuple #[.int .i64 v, .bool ok]) (by simp [results, Try.results43, go_sem]) rfl ⟨?_, nd, rfl⟩
  rw [HV.out.1, HV.out.2]
theorem backI_q (r g N f : Nat) (xs : List Int) (w : World) (h : RI w r g N f xs.length xs) : Calls Try.prog 44 #[.pointer (some ⟨r, 0, none⟩)] w fun e w' => e = .returned (.tuple #[.int .i64 (getI ((xs.length : Int) - 1) xs 0), .bool (inR ((xs.length : Int) - 1) xs.length)]) ∧ ∃ n, w' = w.drewN n := by
  have HH : Hid (RI w r g N f xs.length xs) := h
  have c2 := h.c2
  have hl := h.lim
  have hc := h.cl
  obtain ⟨c, ec⟩ : ∃ c, c = xs.length := ⟨_, rfl⟩
  have HE : Hid (c = xs.length) := ec
  rw [← ec] at c2 hc
  clear h ec
  go_enter Try.func44, Try.ntmps44
  go_wp2_with fail
  refine (atI_q r g N f xs ((c : Int) - 1) w HH.out).mono ?_
  rintro e w1 ⟨rfl, nd, rfl⟩
  obtain ⟨v, ev⟩ : ∃ v, v = getI ((c : Int) - 1) xs 0 := ⟨_, rfl⟩
  obtain ⟨ok, eok⟩ : ∃ ok, ok = inR ((c : Int) - 1) xs.length := ⟨_, rfl⟩
  have HV : Hid (v = getI ((c : Int) - 1) xs 0 ∧ ok = inR ((c : Int) - 1) xs.length) := ⟨ev, eok⟩
  rw [← ev, ← eok]
  clear ev eok
  go_wp2_with fail
  refine bodyPost_ret (v := .tuple #[.int .i64 v, .bool ok]) (by simp [results, Try.results44, go_sem]) rfl ⟨?_, nd, rfl⟩
  rw [HV.out.1, HV.out.2, HE.out]
end Go.Proofs.Ytmghkkaoblkmpaa
