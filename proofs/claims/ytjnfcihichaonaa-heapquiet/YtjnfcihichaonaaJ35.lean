/- Contracts of the program's functions, part 35: own work, joined in build order. -/
import Derived.Test.YtjnfcihichaonaaJ34
namespace Go.Proofs.Ytjnfcihichaonaa
open Go.RowKit
set_option maxRecDepth 100000
set_option linter.unusedVariables false
set_option maxHeartbeats 1000000 in
theorem popMinI_none {base hb ob : Nat} {a : Option Addr} {cap mb nn : Nat} {pu : Int} {f : Nat → Nat} {it ke : Nat → Int} {va : Nat → Int} (w : World) (h : HsI w base hb ob a 0 cap mb nn pu f it ke va) :
    Calls Try.prog 19 #[.pointer (some ⟨hb, 0, none⟩)] w fun e w' => e = .returned (.tuple #[.int .i64 0, .int .i64 0, .int .i64 (0 : Int), .bool false]) ∧ ∃ m, w' = w.drewN m := by
  have FI : Hid (Calls Try.prog 43 #[.pointer (some ⟨hb, 0, none⟩)] w fun e w' => e = .returned (.pointer none) ∧ w' = w) := firstI_any w h
  have TA : Hid (Calls Try.prog 40 #[.pointer (some ⟨hb, 0, none⟩), .pointer none] w fun e w' => e = .returned (.pointer none) ∧ w' = w) := takeI_none hb w
  have TE : Hid (Calls Try.prog 41 #[.pointer none] w fun e w' => e = .returned (.tuple #[.int .i64 0, .int .i64 0, .int .i64 (0 : Int), .bool false]) ∧ ∃ m, w' = w.drewN m) := tellI_any (it := it) (ke := ke) (va := va) none w (fun b e => by cases e)
  clear h
  go_enter Try.func19, Try.ntmps19
  go_wp2_with (first | (go_at_call 43; refine Calls.mono FI.out ?_; rintro e w8 ⟨rfl, rfl⟩) | (go_at_call 40; refine Calls.mono TA.out ?_; rintro e w9 ⟨rfl, rfl⟩) | (go_at_call 41; refine Calls.mono TE.out ?_; rintro e w7 ⟨rfl, m, rfl⟩))
  (try simp only [Exit.inBlock, Exit.then]); refine bodyPost_ret (results_tmp4I rfl _ _ _) rfl ?_
  exact ⟨rfl, _, rfl⟩
set_option maxHeartbeats 1000000 in
theorem popMinI_any {base hb ob : Nat} {a : Option Addr} {n cap mb nn : Nat} {pu : Int} {f : Nat → Nat} {it ke : Nat → Int} {va : Nat → Int} {lv : Value} {nx mod : Int} {tur : Bool} {lies : Int} {N : Nat} (w : World) (h : HsI w base hb ob a (n + 1) cap mb nn pu f it ke va) (ho : Ordr w ob lv nx mod tur lies N) (hN : N < 999999999700) (hb0 : base ≤ w.heap.size) :
    Calls Try.prog 19 #[.pointer (some ⟨hb, 0, none⟩)] w fun e w' => e = .returned (.tuple #[.int .i64 (it (f 0)), .int .i64 (ke (f 0)), .int .i64 (va (f 0)), .bool true]) ∧ TakI w base hb ob a n cap mb pu f it ke va lv nx mod tur lies N (f 0) w' := by
  obtain ⟨gp, rfl, _⟩ := h.some' (by omega)
  have FI : Hid (Calls Try.prog 43 #[.pointer (some ⟨hb, 0, none⟩)] w fun e w' => e = .returned (.pointer (some ⟨f 0, 0, none⟩)) ∧ w' = w) := by
    have := firstI_any w h
    rw [show fst? (n + 1) f = some (f 0) by unfold fst?; rw [if_neg (by omega)]] at this
    exact this
  have TA : Hid (Calls Try.prog 40 #[.pointer (some ⟨hb, 0, none⟩), .pointer (some ⟨f 0, 0, none⟩)] w fun e w' => e = .returned (.pointer (some ⟨f 0, 0, none⟩)) ∧ TakI w base hb ob (some ⟨gp, 0, none⟩) n cap mb pu f it ke va lv nx mod tur lies N (f 0) w') := takeI_any (0) w h ho hN (by omega) hb0
  clear h ho
  generalize f 0 = x at *
  go_enter Try.func19, Try.ntmps19
  go_wp2_with (first | (go_at_call 43; refine Calls.mono FI.out ?_; rintro e w8 ⟨rfl, rfl⟩))
  refine Calls.mono TA.out ?_
  rintro e w9 ⟨rfl, hT⟩
  have TE : Hid (Calls Try.prog 41 #[.pointer (some ⟨x, 0, none⟩)] w9 fun e w' => e = .returned (.tuple #[.int .i64 (it x), .int .i64 (ke x), .int .i64 (va x), .bool true]) ∧ ∃ m, w' = w9.drewN m) := tellI_any (some x) w9 (fun b e => by
    cases e
    obtain ⟨a', cap', mb', nn', f', M, _, _, _, _, _, _, _, q8⟩ := hT
    exact q8)
  have HT : Hid _ := hT
  clear hT
  go_wp2_with (first | (go_at_call 41; refine Calls.mono TE.out ?_; rintro e w7 ⟨rfl, m, rfl⟩))
  (try simp only [Exit.inBlock, Exit.then]); refine bodyPost_ret (results_tmp4I rfl _ _ _) rfl ?_
  exact ⟨rfl, TakI.drewN HT.out _⟩
end Go.Proofs.Ytjnfcihichaonaa
