/- Contracts of the program's functions, part 22: own work, joined in build order. -/
import Derived.Test.YtjnfcihichaonaaJ21
namespace Go.Proofs.Ytjnfcihichaonaa
open Go.RowKit
set_option maxRecDepth 100000
set_option linter.unusedVariables false
/-- What below tells: none, or the one that goes up. -/
def BelS (w : World) (n : Nat) (f : Nat → Nat) (le : Nat → Nat → Prop) (ob : Nat) (lv : Value) (nx mod : Int) (tur : Bool) (lies : Int) (N p : Nat) (e : Ending) (w' : World) : Prop :=
  (e = .returned (.tuple #[.int .i64 0, .bool false]) ∧ n ≤ 4 * (p / 2) + 2 ∧ Ordr w' ob lv nx mod tur lies N ∧ Tn (fun k => k = ob) w w') ∨
  ∃ c M : Nat, e = .returned (.tuple #[.int .i64 (c : Int), .bool true]) ∧ c < n ∧ (c / 2 = 2 * (p / 2) + 1 ∨ c / 2 = 2 * (p / 2) + 2) ∧ (lies = 0 → Below2 le n f p c) ∧ N ≤ M ∧ M ≤ N + 1 ∧ Ordr w' ob lv nx mod tur lies M ∧ Tn (fun k => k = ob) w w'
set_option maxHeartbeats 2000000 in
theorem belowS_any {hb ob gp n cap mb : Nat} {pu : Int} {f : Nat → Nat} {B : Nat → Prop} {it ke : Nat → Int} {va : Nat → ByteArray} {lv : Value} {nx mod : Int} {tur : Bool} {lies : Int} {N : Nat} (p : Nat) (w : World) (h : MeS w hb ob gp n cap mb pu f B it ke va p) (ho : Ordr w ob lv nx mod tur lies N) (hN : N < 1000000000000) (hp : p < n) :
    Calls Try.prog 80 #[.pointer (some ⟨hb, 0, none⟩), .int .i64 (p : Int)] w (BelS w n f (leB mod tur it ke) ob lv nx mod tur lies N p) := by
  have hl := h.lim
  have hle := h.le
  obtain ⟨k, ek⟩ : ∃ k, k = p / 2 := ⟨_, rfl⟩
  obtain ⟨P1, e1⟩ : ∃ P1, P1 = 2 * k + 1 := ⟨_, rfl⟩
  obtain ⟨P2, e2⟩ : ∃ P2, P2 = 2 * k + 2 := ⟨_, rfl⟩
  have d1 : (p : Int).tdiv 2 = (k : Int) := by rw [Int.tdiv_eq_ediv_of_nonneg (by omega)]; omega
  have d2 : (p : Int) / 2 = (k : Int) := by omega
  have w0 : IntKind.i64.wrap (k : Int) = (k : Int) := by rw [IntKind.wrap_i64]; omega
  have w1 : IntKind.i64.wrap ((k : Int) * 2) = (k : Int) * 2 := by rw [IntKind.wrap_i64]; omega
  have w2 : IntKind.i64.wrap ((k : Int) * 2 + 1) = (P1 : Int) := by rw [IntKind.wrap_i64]; omega
  have w3 : IntKind.i64.wrap ((P1 : Int) + 1) = (P2 : Int) := by rw [IntKind.wrap_i64]; omega
  have O1 := ofS_any P1 p w h (by omega) (by omega)
  have O2 := ofS_any P2 p w h (by omega) (by omega)
  have HO : Hid (Ordr w ob lv nx mod tur lies N) := ho
  have HE : Hid (k = p / 2 ∧ P1 = 2 * k + 1 ∧ P2 = 2 * k + 2) := ⟨ek, e1, e2⟩
  by_cases c1 : n ≤ 2 * P1
  · rw [show ofM n P1 p = none by unfold ofM; rw [if_pos c1]] at O1
    have O1' : Hid (Calls Try.prog 92 #[.pointer (some ⟨hb, 0, none⟩), .int .i64 (P1 : Int), .int .i64 (p : Int)] w fun e w' => e = .returned (.tuple #[.int .i64 0, .bool false]) ∧ w' = w) := O1
    clear O1 O2 h ho ek e1 e2
    go_enter Try.func80, Try.ntmps80
    go_wp2_with (go_at_call 92; refine Calls.mono O1'.out ?_; rintro e w9 ⟨rfl, rfl⟩)
    go_ret2
    exact .inl ⟨rfl, by have := HE.out; omega, HO.out, Tn.refl _ _⟩
  · obtain ⟨l, el⟩ : ∃ l, ofM n P1 p = some l := by unfold ofM; rw [if_neg c1]; split <;> exact ⟨_, rfl⟩
    have fl : l < n ∧ l / 2 = P1 ∧ (l % 2 = p % 2 ∨ (p % 2 = 1 ∧ l % 2 = 0 ∧ l + 1 = n)) ∧ (2 * P1 + 1 < n → l % 2 = p % 2) := by
      unfold ofM at el
      rw [if_neg c1] at el
      split at el <;> cases el <;> omega
    have HL : Hid (l < n ∧ l / 2 = P1 ∧ (l % 2 = p % 2 ∨ (p % 2 = 1 ∧ l % 2 = 0 ∧ l + 1 = n)) ∧ (2 * P1 + 1 < n → l % 2 = p % 2)) := fl
    rw [el] at O1
    have O1' : Hid (Calls Try.prog 92 #[.pointer (some ⟨hb, 0, none⟩), .int .i64 (P1 : Int), .int .i64 (p : Int)] w fun e w' => e = .returned (.tuple #[.int .i64 (l : Int), .bool true]) ∧ w' = w) := O1
    clear O1 el
    by_cases c2 : n ≤ 2 * P2
    · rw [show ofM n P2 p = none by unfold ofM; rw [if_pos c2]] at O2
      have O2' : Hid (Calls Try.prog 92 #[.pointer (some ⟨hb, 0, none⟩), .int .i64 (P2 : Int), .int .i64 (p : Int)] w fun e w' => e = .returned (.tuple #[.int .i64 0, .bool false]) ∧ w' = w) := O2
      clear O2 h ho fl ek e1 e2
      go_enter Try.func80, Try.ntmps80
      go_wp2_with (first | (go_at_call_of 92 (Value.int IntKind.i64 (P1 : Int)); refine Calls.mono O1'.out ?_; rintro e w9 ⟨rfl, rfl⟩) | (go_at_call_of 92 (Value.int IntKind.i64 (P2 : Int)); refine Calls.mono O2'.out ?_; rintro e w9 ⟨rfl, rfl⟩))
      go_quiet (fail)
      go_wp2_with fail
      go_ret2
      refine .inr ⟨l, N, rfl, HL.out.1, by have := HE.out; have := HL.out; omega, fun _ => ⟨HL.out.1, HL.out.2.2.1, by have := HE.out; have := HL.out; omega, fun d hd hne hk hk2 => ?_⟩, Nat.le_refl _, by omega, HO.out.kept rfl, (Tn.refl _ _).drewN _⟩
      have := HE.out
      have := HL.out
      omega
    · obtain ⟨q, eq⟩ : ∃ q, ofM n P2 p = some q := by unfold ofM; rw [if_neg c2]; split <;> exact ⟨_, rfl⟩
      have fq : q < n ∧ q / 2 = P2 ∧ (q % 2 = p % 2 ∨ (p % 2 = 1 ∧ q % 2 = 0 ∧ q + 1 = n)) := by
        unfold ofM at eq
        rw [if_neg c2] at eq
        split at eq <;> cases eq <;> omega
      have HQ : Hid (q < n ∧ q / 2 = P2 ∧ (q % 2 = p % 2 ∨ (p % 2 = 1 ∧ q % 2 = 0 ∧ q + 1 = n))) := fq
      rw [eq] at O2
      have O2' : Hid (Calls Try.prog 92 #[.pointer (some ⟨hb, 0, none⟩), .int .i64 (P2 : Int), .int .i64 (p : Int)] w fun e w' => e = .returned (.tuple #[.int .i64 (q : Int), .bool true]) ∧ w' = w) := O2
      have hln := fl.1
      have hqn := fq.1
      have b1 := h.c1
      have a1 := h.at hln
      have a2 := h.at hqn
      have Bl : B (f l) := h.fB l hln (by omega)
      have Bq : B (f q) := h.fB q hqn (by omega)
      have OV : Hid (Calls Try.prog 69 #[.pointer (some ⟨hb, 0, none⟩), .pointer (some ⟨f q, 0, none⟩), .pointer (some ⟨f l, 0, none⟩), .int .i64 (p : Int)] w.drew (Asks w.drew ob lv nx mod tur lies N (OvP (leB mod tur it ke) (f q) (f l) p))) := overS_any (f q) (f l) p w.drew (h.keep fun _ _ _ _ _ => rfl) (ho.kept rfl) hN Bq Bl (by omega)
      have HM : Hid (MeS w hb ob gp n cap mb pu f B it ke va p) := h
      clear O2 h ho fl fq ek e1 e2 eq Bl Bq
      go_enter Try.func80, Try.ntmps80
      go_wp2_with (first | (go_at_call_of 92 (Value.int IntKind.i64 (P1 : Int)); refine Calls.mono O1'.out ?_; rintro e w9 ⟨rfl, rfl⟩) | (go_at_call_of 92 (Value.int IntKind.i64 (P2 : Int)); refine Calls.mono O2'.out ?_; rintro e w9 ⟨rfl, rfl⟩))
      rename_i hz
      go_region_held3 (fun w8 => w8.cell? ⟨hb, 1, none⟩ = some (.slice (some ⟨gp, 0, none⟩) n cap) ∧ w8.cell? ⟨gp, l, none⟩ = some (.pointer (some ⟨f l, 0, none⟩)) ∧ w8.cell? ⟨gp, q, none⟩ = some (.pointer (some ⟨f q, 0, none⟩))) (first | (simp [go_sem, *]; done) | (trace_state; fail))
        (first
          | (go_at_call 69; refine Calls.mono OV.out ?_; rintro e w5 ⟨t, rfl, hp5, h5, hT⟩; have H5 : Hid ((lies = 0 → OvP (leB mod tur it ke) (f q) (f l) p t) ∧ Ordr w5 ob lv nx mod tur lies (N + 1) ∧ Tn (fun k => k = ob) w9 w5) := ⟨hp5, h5, ⟨hT.os, hT.tape, hT.output, hT.size, hT.block⟩⟩; have HM5 := HM.out.keep (keep_ask HO.out H5.out.2.2); have m0 := HM5.c1; have m1 := HM5.at hln; have m2 := HM5.at hqn; clear hp5 h5 hT HM5))
      refine hz _ _ ?_
      cases t
      · go_wp2_with fail
        go_ret2
        refine .inr ⟨l, N + 1, rfl, HL.out.1, by have := HE.out; have := HL.out; omega, fun e0 => ⟨HL.out.1, HL.out.2.2.1, by have := HE.out; have := HL.out; omega, fun d hd hne hk hk2 => ?_⟩, by omega, by omega, H5.out.2.1, H5.out.2.2⟩
        have h1 := H5.out.1 e0
        have h2 : d = q := by have := HE.out; have := HL.out; have := HQ.out; omega
        subst h2
        unfold OvP at h1
        split <;> rename_i c9
        · rw [if_pos c9] at h1
          exact h1.2 rfl
        · rw [if_neg c9] at h1
          exact h1.2 rfl
      · go_wp2_with fail
        go_ret2
        refine .inr ⟨q, N + 1, rfl, HQ.out.1, by have := HE.out; have := HQ.out; omega, fun e0 => ⟨HQ.out.1, HQ.out.2.2, by have := HE.out; have := HQ.out; omega, fun d hd hne hk hk2 => ?_⟩, by omega, by omega, H5.out.2.1, H5.out.2.2⟩
        have h1 := H5.out.1 e0
        have h2 : d = l := by have := HE.out; have := HL.out; have := HQ.out; omega
        subst h2
        unfold OvP at h1
        split <;> rename_i c9
        · rw [if_pos c9] at h1
          exact h1.1 rfl
        · rw [if_neg c9] at h1
          exact h1.1 rfl
end Go.Proofs.Ytjnfcihichaonaa
