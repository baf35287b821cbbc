/- Contracts of the program's functions, part 13: own work, joined in build order. -/
import Derived.Test.YtjnfcihichaonaaJ12
namespace Go.Proofs.Ytjnfcihichaonaa
open Go.RowKit
set_option maxRecDepth 100000
set_option linter.unusedVariables false
theorem MeS.c1 {w : World} {hb ob gp n cap mb : Nat} {pu : Int} {f : Nat → Nat} {B : Nat → Prop} {it ke : Nat → Int} {va : Nat → ByteArray} {hole : Nat} (h : MeS w hb ob gp n cap mb pu f B it ke va hole) : w.cell? ⟨hb, 1, none⟩ = some (.slice (some ⟨gp, 0, none⟩) n cap) := by simp [World.cell?, h.hd]
theorem MeS.at {w : World} {hb ob gp n cap mb : Nat} {pu : Int} {f : Nat → Nat} {B : Nat → Prop} {it ke : Nat → Int} {va : Nat → ByteArray} {hole : Nat} (h : MeS w hb ob gp n cap mb pu f B it ke va hole) {i : Nat} (hi : i < n) : w.cell? ⟨gp, i, none⟩ = some (.pointer (some ⟨f i, 0, none⟩)) := by
  obtain ⟨cs, e, _, hc⟩ := h.row
  simp [World.cell?, e, hc i hi]
set_option maxHeartbeats 1000000 in
theorem overS_any {hb ob gp n cap mb : Nat} {pu : Int} {f : Nat → Nat} {B : Nat → Prop} {it ke : Nat → Int} {va : Nat → ByteArray} {hole : Nat} {lv : Value} {nx mod : Int} {tur : Bool} {lies : Int} {N : Nat} (x y p : Nat) (w : World) (h : MeS w hb ob gp n cap mb pu f B it ke va hole) (ho : Ordr w ob lv nx mod tur lies N) (hN : N < 1000000000000) (hx : B x) (hy : B y) (hp : p < 4611686018427387904) :
    Calls Try.prog 69 #[.pointer (some ⟨hb, 0, none⟩), .pointer (some ⟨x, 0, none⟩), .pointer (some ⟨y, 0, none⟩), .int .i64 (p : Int)] w (Asks w ob lv nx mod tur lies N (OvP (leB mod tur it ke) x y p)) := by
  have A1 : Hid (Calls Try.prog 79 #[.pointer (some ⟨hb, 0, none⟩), .pointer (some ⟨x, 0, none⟩), .pointer (some ⟨y, 0, none⟩)] w (Asks w ob lv nx mod tur lies N (fun t => (t = true → leB mod tur it ke x y) ∧ (t = false → leB mod tur it ke y x)))) := aheadS_any x y w h ho hN hx hy
  have A2 : Hid (Calls Try.prog 79 #[.pointer (some ⟨hb, 0, none⟩), .pointer (some ⟨y, 0, none⟩), .pointer (some ⟨x, 0, none⟩)] w (Asks w ob lv nx mod tur lies N (fun t => (t = true → leB mod tur it ke y x) ∧ (t = false → leB mod tur it ke x y)))) := aheadS_any y x w h ho hN hy hx
  have E : Hid (Calls Try.prog 73 #[.int .i64 (p : Int)] w fun e w' => e = .returned (.bool (decide (p % 2 = 0))) ∧ w' = w) := even_any p hp w
  clear h ho
  rcases Nat.mod_two_eq_zero_or_one p with c | c
  · rw [show decide (p % 2 = 0) = true by simp [c]] at E
    go_enter Try.func69, Try.ntmps69
    go_wp2_with (first | (go_at_call 73; refine Calls.mono E.out ?_; rintro e w1 ⟨rfl, rfl⟩) | (go_at_call 79; refine Calls.mono A1.out ?_; rintro e w2 ⟨t, rfl, hp2, h5, hT⟩))
    go_ret
    exact ⟨t, rfl, fun e => by unfold OvP; rw [if_pos c]; exact hp2 e, h5, hT⟩
  · rw [show decide (p % 2 = 0) = false by simp [c]] at E
    go_enter Try.func69, Try.ntmps69
    go_wp2_with (first | (go_at_call 73; refine Calls.mono E.out ?_; rintro e w1 ⟨rfl, rfl⟩) | (go_at_call 79; refine Calls.mono A2.out ?_; rintro e w2 ⟨t, rfl, hp2, h5, hT⟩))
    go_ret
    exact ⟨t, rfl, fun e => by unfold OvP; rw [if_neg (by omega)]; exact hp2 e, h5, hT⟩
theorem acrossS_any {hb ob gp n cap mb : Nat} {pu : Int} {f : Nat → Nat} {B : Nat → Prop} {it ke : Nat → Int} {va : Nat → ByteArray} {hole : Nat} (p : Nat) (w : World) (h : MeS w hb ob gp n cap mb pu f B it ke va hole) (hp : p < n) (hn : 1 < n) :
    Calls Try.prog 68 #[.pointer (some ⟨hb, 0, none⟩), .int .i64 (p : Int)] w fun e w' => e = .returned (.int .i64 (acr n p : Int)) ∧ w' = w := by
  have hl := h.lim
  have hle := h.le
  have h1 := h.c1
  have hx := bits_twin p (by omega)
  clear h
  go_enter Try.func68, Try.ntmps68
  by_cases c : tw p < n
  · have ea : acr n p = tw p := by unfold acr; rw [if_pos c]
    rw [ea]
    clear ea
    generalize tw p = T at *
    go_wp2_with fail
    go_ret
    exact ⟨rfl, rfl⟩
  · have ea : acr n p = up p + 1 := by unfold acr; rw [if_neg c]
    rw [ea]
    clear ea
    have h2 : 1 < p := by unfold tw at c; split at c <;> omega
    have A : Hid (Calls Try.prog 61 #[.int .i64 (p : Int)] w fun e w' => e = .returned (.int .i64 (up p : Int)) ∧ w' = w) := above_any p h2 (by omega) w
    have hu := up_lt h2
    have hw : IntKind.i64.wrap ((up p : Int) + 1) = ((up p + 1 : Nat) : Int) := by rw [IntKind.wrap_i64]; omega
    have ht : tw p < 4611686018427387904 := by unfold tw; split <;> omega
    generalize tw p = T at *
    generalize up p = U at *
    go_wp2_with (go_at_call 61; refine Calls.mono A.out ?_; rintro e w1 ⟨rfl, rfl⟩)
    go_ret
    exact ⟨by first | rfl | simp, rfl⟩
theorem ofS_any {hb ob gp n cap mb : Nat} {pu : Int} {f : Nat → Nat} {B : Nat → Prop} {it ke : Nat → Int} {va : Nat → ByteArray} {hole : Nat} (pr p : Nat) (w : World) (h : MeS w hb ob gp n cap mb pu f B it ke va hole) (hp : p < 4611686018427387904) (hr : pr < 1152921504606846976) :
    Calls Try.prog 92 #[.pointer (some ⟨hb, 0, none⟩), .int .i64 (pr : Int), .int .i64 (p : Int)] w fun e w' => e = .returned (ofV (ofM n pr p)) ∧ w' = w := by
  have hl := h.lim
  have hle := h.le
  have h1 := h.c1
  have E : Hid (Calls Try.prog 73 #[.int .i64 (p : Int)] w fun e w' => e = .returned (.bool (decide (p % 2 = 0))) ∧ w' = w) := even_any p hp w
  have w1 : IntKind.i64.wrap (2 * (pr : Int)) = ((2 * pr : Nat) : Int) := by rw [IntKind.wrap_i64]; omega
  have w2 : IntKind.i64.wrap (((2 * pr : Nat) : Int) + 1) = ((2 * pr + 1 : Nat) : Int) := by rw [IntKind.wrap_i64]; omega
  clear h
  by_cases c : n ≤ 2 * pr
  · rw [show ofM n pr p = none by unfold ofM; rw [if_pos c]]
    go_enter Try.func92, Try.ntmps92
    go_wp2_with fail
    go_ret2
    exact ⟨rfl, rfl⟩
  · by_cases c2 : p % 2 = 0
    · rw [show ofM n pr p = some (2 * pr) by unfold ofM; rw [if_neg c, if_pos (.inl c2)]]
      rw [show decide (p % 2 = 0) = true by simp [c2]] at E
      go_enter Try.func92, Try.ntmps92
      go_wp2_with (go_at_call 73; refine Calls.mono E.out ?_; rintro e w1 ⟨rfl, rfl⟩)
      go_ret2
      exact ⟨by simp [ofV], rfl⟩
    · rw [show decide (p % 2 = 0) = false by simp [c2]] at E
      by_cases c3 : 2 * pr + 1 = n
      · rw [show ofM n pr p = some (2 * pr) by unfold ofM; rw [if_neg c, if_pos (.inr c3)]]
        go_enter Try.func92, Try.ntmps92
        go_wp2_with (go_at_call 73; refine Calls.mono E.out ?_; rintro e w1 ⟨rfl, rfl⟩)
        go_ret2
        exact ⟨by simp [ofV], rfl⟩
      · rw [show ofM n pr p = some (2 * pr + 1) by unfold ofM; rw [if_neg c, if_neg (by omega)]]
        have c4 : ¬ (2 * (pr : Int) + 1 = (n : Int)) := by omega
        go_enter Try.func92, Try.ntmps92
        go_wp2_with (go_at_call 73; refine Calls.mono E.out ?_; rintro e w1 ⟨rfl, rfl⟩)
        go_ret2
        exact ⟨by simp [ofV], rfl⟩
end Go.Proofs.Ytjnfcihichaonaa
namespace Go.Proofs.Ytjnfcihichaonaa
open Go.RowKit
set_option maxRecDepth 100000
set_option linter.unusedVariables false
/-- What below tells: none, or the one that goes up. -/
def BelS (w : World) (n : Nat) (f : Nat → Nat) (le : Nat → Nat → Prop) (ob : Nat) (lv : Value) (nx mod : Int) (tur : Bool) (lies : Int) (N p : Nat) (e : Ending) (w' : World) : Prop :=
  (e = .returned (.tuple #[.int .i64 0, .bool false]) ∧ n ≤ 4 * (p / 2) + 2 ∧ Ordr w' ob lv nx mod tur lies N ∧ Tn (fun k => k = ob) w w') ∨
  ∃ c M : Nat, e = .returned (.tuple #[.int .i64 (c : Int), .bool true]) ∧ c < n ∧ (c / 2 = 2 * (p / 2) + 1 ∨ c / 2 = 2 * (p / 2) + 2) ∧ (lies = 0 → Below2 le n f p c) ∧ N ≤ M ∧ M ≤ N + 1 ∧ Ordr w' ob lv nx mod tur lies M ∧ Tn (fun k => k = ob) w w'
set_option maxHeartbeats 2000000 in
theorem belowS_any {hb ob gp n cap mb : Nat} {pu : Int} {f : Nat → Nat} {B : Nat → Prop} {it ke : Nat → Int} {va : Nat → ByteArray} {lv : Value} {nx mod : Int} {tur : Bool} {lies : Int} {N : Nat} (p : Nat) (w : World) (h : MeS w hb ob gp n cap mb pu f B it ke va p) (ho : Ordr w ob lv nx mod tur lies N) (hN : N < 1000000000000) (hp : p < n) :
    Calls Try.prog 80 #[.pointer (some ⟨hb, 0, none⟩), .int .i64 (p : Int)] w (BelS w n f (leB mod tur it ke) ob lv nx mod tur lies N p) := by
  have hl := h.lim
  have hle := h.le
  obtain ⟨k, ek⟩ : ∃ k, k = p / 2 := ⟨_, rfl⟩
  obtain ⟨P1, e1⟩ : ∃ P1, P1 = 2 * k + 1 := ⟨_, rfl⟩
  obtain ⟨P2, e2⟩ : ∃ P2, P2 = 2 * k + 2 := ⟨_, rfl⟩
  have d1 : (p : Int).tdiv 2 = (k : Int) := by rw [Int.tdiv_eq_ediv_of_nonneg (by omega)]; omega
  have d2 : (p : Int) / 2 = (k : Int) := by omega
  have w0 : IntKind.i64.wrap (k : Int) = (k : Int) := by rw [IntKind.wrap_i64]; omega
  have w1 : IntKind.i64.wrap ((k : Int) * 2) = (k : Int) * 2 := by rw [IntKind.wrap_i64]; omega
  have w2 : IntKind.i64.wrap ((k : Int) * 2 + 1) = (P1 : Int) := by rw [IntKind.wrap_i64]; omega
  have w3 : IntKind.i64.wrap ((P1 : Int) + 1) = (P2 : Int) := by rw [IntKind.wrap_i64]; omega
  have O1 := ofS_any P1 p w h (by omega) (by omega)
  have O2 := ofS_any P2 p w h (by omega) (by omega)
  have HO : Hid (Ordr w ob lv nx mod tur lies N) := ho
  have HE : Hid (k = p / 2 ∧ P1 = 2 * k + 1 ∧ P2 = 2 * k + 2) := ⟨ek, e1, e2⟩
  by_cases c1 : n ≤ 2 * P1
  · rw [show ofM n P1 p = none by unfold ofM; rw [if_pos c1]] at O1
    have O1' : Hid (Calls Try.prog 92 #[.pointer (some ⟨hb, 0, none⟩), .int .i64 (P1 : Int), .int .i64 (p : Int)] w fun e w' => e = .returned (.tuple #[.int .i64 0, .bool false]) ∧ w' = w) := O1
    clear O1 O2 h ho ek e1 e2
    go_enter Try.func80, Try.ntmps80
    go_wp2_with (go_at_call 92; refine Calls.mono O1'.out ?_; rintro e w9 ⟨rfl, rfl⟩)
    go_ret2
    exact .inl ⟨rfl, by have := HE.out; omega, HO.out, Tn.refl _ _⟩
  · obtain ⟨l, el⟩ : ∃ l, ofM n P1 p = some l := by unfold ofM; rw [if_neg c1]; split <;> exact ⟨_, rfl⟩
    have fl : l < n ∧ l / 2 = P1 ∧ (l % 2 = p % 2 ∨ (p % 2 = 1 ∧ l % 2 = 0 ∧ l + 1 = n)) ∧ (2 * P1 + 1 < n → l % 2 = p % 2) := by
      unfold ofM at el
      rw [if_neg c1] at el
      split at el <;> cases el <;> omega
    have HL : Hid (l < n ∧ l / 2 = P1 ∧ (l % 2 = p % 2 ∨ (p % 2 = 1 ∧ l % 2 = 0 ∧ l + 1 = n)) ∧ (2 * P1 + 1 < n → l % 2 = p % 2)) := fl
    rw [el] at O1
    have O1' : Hid (Calls Try.prog 92 #[.pointer (some ⟨hb, 0, none⟩), .int .i64 (P1 : Int), .int .i64 (p : Int)] w fun e w' => e = .returned (.tuple #[.int .i64 (l : Int), .bool true]) ∧ w' = w) := O1
    clear O1 el
    by_cases c2 : n ≤ 2 * P2
    · rw [show ofM n P2 p = none by unfold ofM; rw [if_pos c2]] at O2
      have O2' : Hid (Calls Try.prog 92 #[.pointer (some ⟨hb, 0, none⟩), .int .i64 (P2 : Int), .int .i64 (p : Int)] w fun e w' => e = .returned (.tuple #[.int .i64 0, .bool false]) ∧ w' = w) := O2
      clear O2 h ho fl ek e1 e2
      go_enter Try.func80, Try.ntmps80
      go_wp2_with (first | (go_at_call_of 92 (Value.int IntKind.i64 (P1 : Int)); refine Calls.mono O1'.out ?_; rintro e w9 ⟨rfl, rfl⟩) | (go_at_call_of 92 (Value.int IntKind.i64 (P2 : Int)); refine Calls.mono O2'.out ?_; rintro e w9 ⟨rfl, rfl⟩))
      go_quiet (fail)
      go_wp2_with fail
      go_ret2
      refine .inr ⟨l, N, rfl, HL.out.1, by have := HE.out; have := HL.out; omega, fun _ => ⟨HL.out.1, HL.out.2.2.1, by have := HE.out; have := HL.out; omega, fun d hd hne hk hk2 => ?_⟩, Nat.le_refl _, by omega, HO.out.kept rfl, (Tn.refl _ _).drewN _⟩
      have := HE.out
      have := HL.out
      omega
    · obtain ⟨q, eq⟩ : ∃ q, ofM n P2 p = some q := by unfold ofM; rw [if_neg c2]; split <;> exact ⟨_, rfl⟩
      have fq : q < n ∧ q / 2 = P2 ∧ (q % 2 = p % 2 ∨ (p % 2 = 1 ∧ q % 2 = 0 ∧ q + 1 = n)) := by
        unfold ofM at eq
        rw [if_neg c2] at eq
        split at eq <;> cases eq <;> omega
      have HQ : Hid (q < n ∧ q / 2 = P2 ∧ (q % 2 = p % 2 ∨ (p % 2 = 1 ∧ q % 2 = 0 ∧ q + 1 = n))) := fq
      rw [eq] at O2
      have O2' : Hid (Calls Try.prog 92 #[.pointer (some ⟨hb, 0, none⟩), .int .i64 (P2 : Int), .int .i64 (p : Int)] w fun e w' => e = .returned (.tuple #[.int .i64 (q : Int), .bool true]) ∧ w' = w) := O2
      have hln := fl.1
      have hqn := fq.1
      have b1 := h.c1
      have a1 := h.at hln
      have a2 := h.at hqn
      have Bl : B (f l) := h.fB l hln (by omega)
      have Bq : B (f q) := h.fB q hqn (by omega)
      have OV : Hid (Calls Try.prog 69 #[.pointer (some ⟨hb, 0, none⟩), .pointer (some ⟨f q, 0, none⟩), .pointer (some ⟨f l, 0, none⟩), .int .i64 (p : Int)] w.drew (Asks w.drew ob lv nx mod tur lies N (OvP (leB mod tur it ke) (f q) (f l) p))) := overS_any (f q) (f l) p w.drew (h.keep fun _ _ _ _ _ => rfl) (ho.kept rfl) hN Bq Bl (by omega)
      have HM : Hid (MeS w hb ob gp n cap mb pu f B it ke va p) := h
      clear O2 h ho fl fq ek e1 e2 eq Bl Bq
      go_enter Try.func80, Try.ntmps80
      go_wp2_with (first | (go_at_call_of 92 (Value.int IntKind.i64 (P1 : Int)); refine Calls.mono O1'.out ?_; rintro e w9 ⟨rfl, rfl⟩) | (go_at_call_of 92 (Value.int IntKind.i64 (P2 : Int)); refine Calls.mono O2'.out ?_; rintro e w9 ⟨rfl, rfl⟩))
      rename_i hz
      go_region_held3 (fun w8 => w8.cell? ⟨hb, 1, none⟩ = some (.slice (some ⟨gp, 0, none⟩) n cap) ∧ w8.cell? ⟨gp, l, none⟩ = some (.pointer (some ⟨f l, 0, none⟩)) ∧ w8.cell? ⟨gp, q, none⟩ = some (.pointer (some ⟨f q, 0, none⟩))) (first | (simp [go_sem, *]; done) | (trace_state; fail))
        (first
          | (go_at_call 69; refine Calls.mono OV.out ?_; rintro e w5 ⟨t, rfl, hp5, h5, hT⟩; have H5 : Hid ((lies = 0 → OvP (leB mod tur it ke) (f q) (f l) p t) ∧ Ordr w5 ob lv nx mod tur lies (N + 1) ∧ Tn (fun k => k = ob) w9 w5) := ⟨hp5, h5, ⟨hT.os, hT.tape, hT.output, hT.size, hT.block⟩⟩; have HM5 := HM.out.keep (keep_ask HO.out H5.out.2.2); have m0 := HM5.c1; have m1 := HM5.at hln; have m2 := HM5.at hqn; clear hp5 h5 hT HM5))
      refine hz _ _ ?_
      cases t
      · go_wp2_with fail
        go_ret2
        refine .inr ⟨l, N + 1, rfl, HL.out.1, by have := HE.out; have := HL.out; omega, fun e0 => ⟨HL.out.1, HL.out.2.2.1, by have := HE.out; have := HL.out; omega, fun d hd hne hk hk2 => ?_⟩, by omega, by omega, H5.out.2.1, H5.out.2.2⟩
        have h1 := H5.out.1 e0
        have h2 : d = q := by have := HE.out; have := HL.out; have := HQ.out; omega
        subst h2
        unfold OvP at h1
        split <;> rename_i c9
        · rw [if_pos c9] at h1
          exact h1.2 rfl
        · rw [if_neg c9] at h1
          exact h1.2 rfl
      · go_wp2_with fail
        go_ret2
        refine .inr ⟨q, N + 1, rfl, HQ.out.1, by have := HE.out; have := HQ.out; omega, fun e0 => ⟨HQ.out.1, HQ.out.2.2, by have := HE.out; have := HQ.out; omega, fun d hd hne hk hk2 => ?_⟩, by omega, by omega, H5.out.2.1, H5.out.2.2⟩
        have h1 := H5.out.1 e0
        have h2 : d = l := by have := HE.out; have := HL.out; have := HQ.out; omega
        subst h2
        unfold OvP at h1
        split <;> rename_i c9
        · rw [if_pos c9] at h1
          exact h1.1 rfl
        · rw [if_neg c9] at h1
          exact h1.1 rfl
end Go.Proofs.Ytjnfcihichaonaa
namespace Go.Proofs.Ytjnfcihichaonaa
open Go.RowKit
set_option maxRecDepth 100000
set_option linter.unusedVariables false
theorem MeS.inj {W : World} {hb ob gp n cap mb : Nat} {pu : Int} {f : Nat → Nat} {B : Nat → Prop} {it ke : Nat → Int} {va : Nat → ByteArray} {hole : Nat} (h : MeS W hb ob gp n cap mb pu f B it ke va hole) {i j : Nat} (hi : i < n) (hj : j < n) (h1 : i ≠ hole) (h2 : j ≠ hole) (e : f i = f j) : i = j := by
  have a := h.pl i hi h1
  have b := h.pl j hj h2
  rw [e, b] at a
  simp at a
  omega
/-- What lies at from goes to the empty place; from is empty then. -/
theorem MeS.put {W : World} {hb ob gp n cap mb : Nat} {pu : Int} {f : Nat → Nat} {B : Nat → Prop} {it ke : Nat → Int} {va : Nat → ByteArray} {to : Nat} (h : MeS W hb ob gp n cap mb pu f B it ke va to) {frm : Nat} (hf : frm < n) (ht : to < n) (hn : frm ≠ to) :
    MeS ((W.setCell ⟨gp, to, none⟩ (.pointer (some ⟨f frm, 0, none⟩))).setCell ⟨f frm, 3, none⟩ (.int .i64 (to : Int))) hb ob gp n cap mb pu (setF f to (f frm)) B it ke va frm := by
  obtain ⟨cs, ec, hsz, hc⟩ := h.row
  have px := h.pl frm hf hn
  have n1 : gp ≠ f frm := ne_of_type ec px (by decide)
  have n2 : hb ≠ gp := ne_of_type h.hd ec (by decide)
  have n3 : hb ≠ f frm := ne_of_type h.hd px (by decide)
  have kept : ∀ k, k ≠ gp → k ≠ f frm → ((W.setCell ⟨gp, to, none⟩ (.pointer (some ⟨f frm, 0, none⟩))).setCell ⟨f frm, 3, none⟩ (.int .i64 (to : Int))).heap[k]? = W.heap[k]? := fun k h1 h2 => (Below.heap_setCell _ _ _ k h2).trans (Below.heap_setCell _ _ _ k h1)
  have hx : ((W.setCell ⟨gp, to, none⟩ (.pointer (some ⟨f frm, 0, none⟩))).setCell ⟨f frm, 3, none⟩ (.int .i64 (to : Int))).heap[f frm]? = some (.cells #[.int .i64 (it (f frm)), .int .i64 (ke (f frm)), .string (va (f frm)), .int .i64 (to : Int)] 98) :=
    heap_setCell_same _ (f frm) 3 _ _ _ ((Below.heap_setCell _ _ _ _ (Ne.symm n1)).trans px)
  refine { hd := (kept hb n2 n3).trans h.hd, row := ⟨cs.setIfInBounds to (.pointer (some ⟨f frm, 0, none⟩)), ?_, by simpa using hsz, fun i hi => ?_⟩, le := h.le, lim := h.lim, th := fun b hb' => ?_, fB := fun i hi hne => ?_, pl := fun i hi hne => ?_, wf := h.wf }
  · exact (Below.heap_setCell _ _ _ _ n1).trans (heap_setCell_same W gp to cs _ _ ec)
  · have hle := h.le
    by_cases e : i = to
    · subst e
      rw [setF_eq, Array.getElem?_setIfInBounds_self_of_lt (by omega)]
    · rw [setF_ne e, Array.getElem?_setIfInBounds_ne (Ne.symm e)]
      exact hc i hi
  · by_cases e : b = f frm
    · subst e
      exact ⟨_, hx⟩
    · obtain ⟨q, eq⟩ := h.th b hb'
      exact ⟨q, (kept b (Ne.symm (ne_of_type ec eq (by decide))) e).trans eq⟩
  · by_cases e : i = to
    · subst e
      rw [setF_eq]
      exact h.fB frm hf hn
    · rw [setF_ne e]
      exact h.fB i hi e
  · by_cases e : i = to
    · subst e
      rw [setF_eq]
      exact hx
    · rw [setF_ne e]
      have pi := h.pl i hi e
      exact (kept (f i) (Ne.symm (ne_of_type ec pi (by decide))) fun e2 => hne (h.inj hi hf e hn e2)).trans pi
theorem putS_any {hb ob gp n cap mb : Nat} {pu : Int} {f : Nat → Nat} {B : Nat → Prop} {it ke : Nat → Int} {va : Nat → ByteArray} {to : Nat} {lv : Value} {nx mod : Int} {tur : Bool} {lies : Int} {N : Nat} (frm : Nat) (w : World) (h : MeS w hb ob gp n cap mb pu f B it ke va to) (ho : Ordr w ob lv nx mod tur lies N) (hf : frm < n) (ht : to < n) (hn : frm ≠ to) :
    Calls Try.prog 70 #[.pointer (some ⟨hb, 0, none⟩), .int .i64 (frm : Int), .int .i64 (to : Int)] w fun e w' => e = .returned (.tuple #[]) ∧ MeS w' hb ob gp n cap mb pu (setF f to (f frm)) B it ke va frm ∧ Ordr w' ob lv nx mod tur lies N ∧ Tn (fun k => k = gp ∨ B k) w w' := by
  have hl := h.lim
  have hle := h.le
  have b1 := h.c1
  have a1 := h.at hf
  have a2 := h.at ht
  obtain ⟨cs, ec, hsz, hc⟩ := h.row
  have px := h.pl frm hf hn
  have n1 : f frm ≠ gp := ne_of_type px ec (by decide)
  have z1 : w.frozen? ⟨gp, to, none⟩ = false := by simp [World.frozen?, ec]
  have z2 : w.cell? ⟨f frm, 3, none⟩ = some (.int .i64 (frm : Int)) := by simp [World.cell?, px]
  have z3 : w.frozen? ⟨f frm, 3, none⟩ = false := by simp [World.frozen?, px]
  have HP : Hid (MeS ((w.setCell ⟨gp, to, none⟩ (.pointer (some ⟨f frm, 0, none⟩))).setCell ⟨f frm, 3, none⟩ (.int .i64 (to : Int))) hb ob gp n cap mb pu (setF f to (f frm)) B it ke va frm ∧ Ordr ((w.setCell ⟨gp, to, none⟩ (.pointer (some ⟨f frm, 0, none⟩))).setCell ⟨f frm, 3, none⟩ (.int .i64 (to : Int))) ob lv nx mod tur lies N ∧ Tn (fun k => k = gp ∨ B k) w ((w.setCell ⟨gp, to, none⟩ (.pointer (some ⟨f frm, 0, none⟩))).setCell ⟨f frm, 3, none⟩ (.int .i64 (to : Int)))) :=
    ⟨h.put hf ht hn, ho.kept ((Below.heap_setCell _ _ _ _ (ne_of_type ho.at' px (by decide))).trans (Below.heap_setCell _ _ _ _ (ne_of_type ho.at' ec (by decide)))), ((Tn.refl _ _).set (fun _ => .inl rfl) _ _).set (fun _ => .inr (h.fB frm hf hn)) _ _⟩
  clear h ho ec hc px
  generalize f frm = x at *
  go_enter Try.func70, Try.ntmps70
  go_wp2_with fail
  refine bodyPost_end (results_none rfl _ _ _) rfl ?_
  exact ⟨rfl, HP.out⟩
end Go.Proofs.Ytjnfcihichaonaa
