/- Contracts of the program's functions, part 13: own work, joined in build order. -/
import Derived.Test.YtmiiaomdenpceaaGreatDoorJ12
namespace Go.Proofs.YtmiiaomdenpceaaGreatDoor
open Go.RowKit
set_option maxRecDepth 100000
set_option linter.unusedVariables false
set_option maxHeartbeats 2000000 in
theorem rless_any (b N cap j n q cap' : Nat) (a' : Option Addr) (F Y : Nat → Nat) (w : World) (hF : DRow w b cap N F) (dF : Dg F N) (hY : Sl w a' n cap' Y) (dY : Dg Y n) (hj : j + n < N) (hN : N ≤ 1099511627776) (hq : q < 4294967296)
    (hne : ∀ b' o', a' = some ⟨b', o', none⟩ → b' ≠ b) :
    Calls Tryz.prog 110 #[.slice (some ⟨b, 0, none⟩) N cap, .slice a' n cap', .int .i64 (j : Int), .int .u64 (q : Int)] w fun e w' => ∃ (bo c : Nat) (H : Nat → Nat), e = .returned (.int .u64 (bo : Int)) ∧ DRow w' b cap N H ∧ Ls F Y N n j q (n + 1) c bo H ∧ w.grownBy w' (some b) := by
  have HH : Hid (DRow w b cap N F ∧ Dg F N ∧ Sl w a' n cap' Y ∧ Dg Y n ∧ ∀ b' o', a' = some ⟨b', o', none⟩ → b' ≠ b) := ⟨hF, dF, hY, dY, hne⟩
  clear hF dF hY dY hne
  go_enter Tryz.func110, Tryz.ntmps110
  go_wp2_with fail
  go_loopw [10, 11, 12] (fun c bo t wr => ∃ (i cc bb : Nat) (H : Nat → Nat), i ≤ n + 1 ∧ t = .int .i64 (i : Int) ∧ c = .int .u64 (cc : Int) ∧ bo = .int .u64 (bb : Int) ∧ Hid (DRow wr b cap N H ∧ Ls F Y N n j q i cc bb H ∧ w.grownBy wr (some b))) (fun _ _ t _ => n + 1 - (intOf t).toNat)
  case atStart => exact ⟨0, 0, 0, F, by omega, rfl, rfl, rfl, ⟨HH.out.1, ls_start F Y N n j q HH.out.2.1, World.grownBy.refl _ _⟩⟩
  case round =>
    obtain ⟨i, cc, bb, H, hi, rfl, rfl, rfl, hP⟩ := hrel
    by_cases hin : i ≤ n
    · have hle : (i : Int) ≤ n := by omega
      have hcd : wr.cell? ⟨b, j + i, none⟩ = some (.int .u64 (F (j + i) : Nat)) := by
        rw [← hP.out.2.1.out (j + i) (by omega)]
        exact hP.out.1.cell (by omega)
      have hfd : wr.frozen? ⟨b, j + i, none⟩ = false := hP.out.1.frozen _
      have lf := HH.out.2.1 (j + i) (by omega)
      have lc := hP.out.2.1.lc
      have lb := hP.out.2.1.lb
      obtain ⟨d, ed⟩ : ∃ d, d = cutU Y n 0 i := ⟨_, rfl⟩
      have ld : d < 4294967296 := by rw [ed]; exact dg_cut HH.out.2.2.2.1 i
      have ED : Hid (d = cutU Y n 0 i) := ed
      have DG : Hid (Calls Tryz.prog 89 #[.slice a' n cap', .int .i64 (i : Int)] wr fun e w' => e = .returned (.int .u64 (d : Int)) ∧ w' = wr) := by
        rw [ed]
        exact rdigit_any _ _ _ Y i _ (HH.out.2.2.1.apart hP.out.2.2 HH.out.2.2.2.2) (by omega)
      clear ed
      obtain ⟨f, ef⟩ : ∃ f, f = F (j + i) := ⟨_, rfl⟩
      have EF : Hid (f = F (j + i)) := ef
      rw [← ef] at hcd lf
      clear ef
      have pl := (ls_p hq ld lc).1
      have e1 : (q : Int) * (d : Int) = ((q * d : Nat) : Int) := (Int.natCast_mul ..).symm
      obtain ⟨qd, eqd⟩ : ∃ qd, qd = q * d := ⟨_, rfl⟩
      rw [← eqd] at e1 pl
      have m1 : IntKind.u64.wrap ((q : Int) * (d : Int)) = (qd : Int) := by rw [e1, IntKind.wrap_u64]; omega
      obtain ⟨p, ep⟩ : ∃ p, p = qd + cc := ⟨_, rfl⟩
      have m2 : IntKind.u64.wrap ((qd : Int) + (cc : Int)) = (p : Int) := by rw [IntKind.wrap_u64]; omega
      have EP : Hid (p = q * d + cc) := by show _ = _; rw [ep, eqd]
      have r1 : IntKind.u64.wrap (4294967296 + (f : Int)) = 4294967296 + (f : Int) := by rw [IntKind.wrap_u64]; omega
      have r2 : IntKind.u64.wrap (4294967296 + (f : Int) - (p : Int) % 4294967296) = 4294967296 + (f : Int) - (p : Int) % 4294967296 := by rw [IntKind.wrap_u64]; omega
      obtain ⟨s, es⟩ : ∃ s, s = 4294967296 + f - p % 4294967296 - bb := ⟨_, rfl⟩
      have r3 : IntKind.u64.wrap (4294967296 + (f : Int) - (p : Int) % 4294967296 - (bb : Int)) = (s : Int) := by rw [IntKind.wrap_u64]; omega
      have hsl : s < 8589934592 := by omega
      have r4 : IntKind.u64.wrap (1 - (s : Int) / 4294967296) = ((1 - s / 4294967296 : Nat) : Int) := by rw [IntKind.wrap_u64]; omega
      have S : Hid (DRow (wr.setCell ⟨b, j + i, none⟩ (.int .u64 ((s % 4294967296 : Nat) : Int))) b cap N (put H (j + i) (s % 4294967296)) ∧ Ls F Y N n j q (i + 1) (p / 4294967296) (1 - s / 4294967296) (put H (j + i) (s % 4294967296)) ∧ w.grownBy (wr.setCell ⟨b, j + i, none⟩ (.int .u64 ((s % 4294967296 : Nat) : Int))) (some b)) :=
        ⟨hP.out.1.set (j + i) (by omega), hP.out.2.1.step ED.out HH.out.2.2.2.1 hq EP.out (by rw [← EF.out]; exact es) (by rw [← EF.out]; exact lf), grown_set _ hP.out.2.2 _ _⟩
      have hpl : p < 18446744073709551616 := by omega
      clear e1 eqd ep es pl
      go_wp2_with fail
      refine (DG.out).mono ?_
      rintro e w' ⟨rfl, rfl⟩
      go_wp2_with fail
      go_roundw
      case rel => exact ⟨i + 1, _, _, _, by omega, by go_num, by go_num, by go_num, S.out⟩
      case measure => simp [intOf]; omega
    · obtain rfl : i = n + 1 := by omega
      go_wp2_with fail
      go_ret
      exact ⟨bb, cc, H, rfl, hP.out⟩
set_option maxHeartbeats 2000000 in
theorem rback_any (b N cap j n cap' : Nat) (a' : Option Addr) (F Y : Nat → Nat) (w : World) (hF : DRow w b cap N F) (dF : Dg F N) (hY : Sl w a' n cap' Y) (dY : Dg Y n) (hj : j + n < N) (hN : N ≤ 1099511627776)
    (hne : ∀ b' o', a' = some ⟨b', o', none⟩ → b' ≠ b) :
    Calls Tryz.prog 111 #[.slice (some ⟨b, 0, none⟩) N cap, .slice a' n cap', .int .i64 (j : Int)] w fun e w' => ∃ (u : Value) (c : Nat) (H : Nat → Nat), e = .returned u ∧ DRow w' b cap N H ∧ Bk F Y N n j (n + 1) c H ∧ w.grownBy w' (some b) := by
  have HH : Hid (DRow w b cap N F ∧ Dg F N ∧ Sl w a' n cap' Y ∧ Dg Y n ∧ ∀ b' o', a' = some ⟨b', o', none⟩ → b' ≠ b) := ⟨hF, dF, hY, dY, hne⟩
  clear hF dF hY dY hne
  go_enter Tryz.func111, Tryz.ntmps111
  go_wp2_with fail
  go_loopw [6, 7] (fun c t wr => ∃ (i cc : Nat) (H : Nat → Nat), i ≤ n + 1 ∧ t = .int .i64 (i : Int) ∧ c = .int .u64 (cc : Int) ∧ Hid (DRow wr b cap N H ∧ Bk F Y N n j i cc H ∧ w.grownBy wr (some b))) (fun _ t _ => n + 1 - (intOf t).toNat)
  case atStart => exact ⟨0, 0, F, by omega, rfl, rfl, ⟨HH.out.1, bk_start F Y N n j HH.out.2.1, World.grownBy.refl _ _⟩⟩
  case round =>
    obtain ⟨i, cc, H, hi, rfl, rfl, hP⟩ := hrel
    by_cases hin : i ≤ n
    · have hle : (i : Int) ≤ n := by omega
      have hcd : wr.cell? ⟨b, j + i, none⟩ = some (.int .u64 (F (j + i) : Nat)) := by
        rw [← hP.out.2.1.out (j + i) (by omega)]
        exact hP.out.1.cell (by omega)
      have hfd : wr.frozen? ⟨b, j + i, none⟩ = false := hP.out.1.frozen _
      have lf := HH.out.2.1 (j + i) (by omega)
      have lc := hP.out.2.1.lc
      obtain ⟨d, ed⟩ : ∃ d, d = cutU Y n 0 i := ⟨_, rfl⟩
      have ld : d < 4294967296 := by rw [ed]; exact dg_cut HH.out.2.2.2.1 i
      have ED : Hid (d = cutU Y n 0 i) := ed
      have DG : Hid (∀ k, Calls Tryz.prog 89 #[.slice a' n cap', .int .i64 (i : Int)] (wr.drewN k) fun e w' => e = .returned (.int .u64 (d : Int)) ∧ w' = wr.drewN k) := fun k => by
        rw [ed]
        exact rdigit_any _ _ _ Y i _ ((HH.out.2.2.1.apart hP.out.2.2 HH.out.2.2.2.2).mono (bel_drewN (bel_refl wr) k)) (by omega)
      clear ed
      obtain ⟨f, ef⟩ : ∃ f, f = F (j + i) := ⟨_, rfl⟩
      have EF : Hid (f = F (j + i)) := ef
      rw [← ef] at hcd lf
      clear ef
      have m1 : IntKind.u64.wrap ((f : Int) + (d : Int)) = (f : Int) + (d : Int) := by rw [IntKind.wrap_u64]; omega
      obtain ⟨s, es⟩ : ∃ s, s = f + d + cc := ⟨_, rfl⟩
      have m2 : IntKind.u64.wrap ((f : Int) + (d : Int) + (cc : Int)) = (s : Int) := by rw [IntKind.wrap_u64]; omega
      have hsl : s < 18446744073709551616 := by omega
      have S : Hid (∀ nq, DRow ((wr.drewN nq).setCell ⟨b, j + i, none⟩ (.int .u64 ((s % 4294967296 : Nat) : Int))) b cap N (put H (j + i) (s % 4294967296)) ∧ Bk F Y N n j (i + 1) (s / 4294967296) (put H (j + i) (s % 4294967296)) ∧ w.grownBy ((wr.drewN nq).setCell ⟨b, j + i, none⟩ (.int .u64 ((s % 4294967296 : Nat) : Int))) (some b)) := fun nq =>
        ⟨(hP.out.1.drewN nq).set (j + i) (by omega), hP.out.2.1.step ED.out HH.out.2.2.2.1 (by rw [← EF.out]; exact es) (by rw [← EF.out]; exact lf), grown_set _ (w' := wr.drewN nq) ⟨hP.out.2.2.os, hP.out.2.2.tape, hP.out.2.2.output, hP.out.2.2.size, hP.out.2.2.block⟩ _ _⟩
      clear es
      go_wp2_with fail
      go_quiet ((go_at_call 89; exact Calls.quiet_of_same (DG.out _)))
      go_wp2_with fail
      go_roundw
      case rel => exact ⟨i + 1, _, _, by omega, by go_num, by go_num, S.out _⟩
      case measure => simp [intOf]; omega
    · obtain rfl : i = n + 1 := by omega
      go_wp2_with fail
      exact bodyPost_end (v := .tuple #[]) (by simp [results, Tryz.results111, go_sem]) rfl ⟨_, cc, H, rfl, hP.out⟩
end Go.Proofs.YtmiiaomdenpceaaGreatDoor

namespace Go.Proofs.YtmiiaomdenpceaaGreatDoor
open Go.RowKit
set_option linter.unusedVariables false
theorem strOf_size (D : Nat → Nat) (n : Nat) : (strOf D n).size = n := by simp [strOf, strOfNums, ByteArray.size]
theorem text_size (x k : Nat) : (decText x k).size = k := strOf_size _ _
/-- The number of a string's first i bytes. -/
theorem BV_eq {D : Nat → Nat} {x L : Nat} (h : ∀ i, i < L → D i = byteAt x (L - 1 - i)) : ∀ j, j ≤ L → BV D j = x / 256 ^ (L - j) % 256 ^ j
  | 0, _ => by simp [BV, Nat.mod_one]
  | j + 1, hj => by
    have h1 := BV_eq h j (by omega)
    have h2 := h j (by omega)
    rw [BV, h1, h2, byteAt]
    have e1 : L - 1 - j = L - (j + 1) := by omega
    have e2 : L - j = (L - (j + 1)) + 1 := by omega
    rw [e1, e2, Nat.pow_succ, ← Nat.div_div_eq_div_mul]
    generalize x / 256 ^ (L - (j + 1)) = y
    rw [Nat.pow_succ, Nat.mul_comm (256 ^ j) 256, Nat.mod_mul]
    omega
theorem pow_256 (n : Nat) : 256 ^ n = 2 ^ (8 * n) := by rw [show (256 : Nat) = 2 ^ 8 from rfl, ← Nat.pow_mul]
theorem lt_byteLen (x : Nat) : x < 256 ^ byteLen x := by
  rw [pow_256]
  refine Nat.lt_of_lt_of_le (bitLen_lt x) (Nat.pow_le_pow_right (by omega) ?_)
  unfold byteLen
  omega
theorem BV_bytes (x : Nat) : BV (fun i => byteAt x (byteLen x - 1 - i)) (byteLen x) = x := by
  rw [BV_eq (x := x) (fun i _ => rfl) _ (Nat.le_refl _), Nat.sub_self, Nat.pow_zero, Nat.div_one]
  exact Nat.mod_eq_of_lt (lt_byteLen x)
theorem bitLen_le_of {x m : Nat} (h : x < 2 ^ m) : bitLen x ≤ m := by
  rcases Nat.lt_or_ge m (bitLen x) with hh | hh
  · have h1 := (bitLen_spec x).2 (by intro e; subst e; simp [bitLen] at hh)
    have h2 : (2 : Nat) ^ m ≤ 2 ^ (bitLen x - 1) := Nat.pow_le_pow_right (by omega) (by omega)
    omega
  · exact hh
end Go.Proofs.YtmiiaomdenpceaaGreatDoor

namespace Go.Proofs.YtmiiaomdenpceaaGreatDoor
open Go.RowKit
set_option linter.unusedVariables false
theorem U_of_digits {H : Nat → Nat} {Z : Nat} : ∀ {n : Nat}, (∀ j, j < n → H j = Z / B j % 4294967296) → U H n = Z % B n
  | 0, _ => by rw [U_zero, B_zero, Nat.mod_one]
  | n + 1, h => by
    rw [U_succ, U_of_digits fun j hj => h j (by omega), h n (by omega), B_succ, Nat.mod_mul, Nat.mul_comm (B n)]
theorem U_over {F : Nat → Nat} {n q : Nat} (h : Dg F n) (hq : q ≤ n) : U F n / B q = U (fun j => F (q + j)) (n - q) := by
  obtain ⟨t, rfl⟩ : ∃ t, n = q + t := ⟨n - q, by omega⟩
  rw [U_split, Nat.add_mul_div_left _ _ (B_pos q), Nat.div_eq_of_lt (U_lt (h.mono (by omega))), Nat.zero_add, Nat.add_sub_cancel_left]
theorem U_low2 (F : Nat → Nat) (n : Nat) : ∃ T, U (cutU F n 0) (n + 2) = U (cutU F n 0) (n + 2) ∧ U F n = cutU F n 0 0 + 4294967296 * (cutU F n 0 1 + 4294967296 * T) := by
  refine ⟨U (fun j => cutU F n 0 (2 + j)) n, rfl, ?_⟩
  rw [← U_cut (G := F) (show n ≤ 1 + (1 + n) by omega), U_split, U_split, B_one, U_succ, U_zero, U_succ, U_zero, B_zero]
  simp only [Nat.zero_add, Nat.mul_one, Nat.add_zero]
  have : (fun i => cutU F n 0 (1 + (1 + i))) = (fun j => cutU F n 0 (2 + j)) := by funext i; rw [show 1 + (1 + i) = 2 + i by omega]
  rw [this]
theorem shr_low {a b T r : Nat} (hr : r < 32) : (a + 4294967296 * (b + 4294967296 * T)) / 2 ^ r % 4294967296 = (a + b * 4294967296) / 2 ^ r % 4294967296 := by
  have e : (18446744073709551616 : Nat) = 2 ^ r * (4294967296 * 2 ^ (32 - r)) := by
    have h1 : (18446744073709551616 : Nat) = 2 ^ 64 := by decide
    have h2 : (4294967296 : Nat) = 2 ^ 32 := by decide
    rw [h1, h2, ← Nat.pow_add, ← Nat.pow_add]
    congr 1
    omega
  have e2 : a + 4294967296 * (b + 4294967296 * T) = (a + b * 4294967296) + 2 ^ r * (4294967296 * (2 ^ (32 - r) * T)) := by
    have : 18446744073709551616 * T = 2 ^ r * (4294967296 * 2 ^ (32 - r)) * T := by rw [← e]
    grind
  rw [e2, Nat.add_mul_div_left _ _ (Nat.pow_pos (by decide)), Nat.add_mul_mod_self_left]
/-- A digit of a number shifted down. -/
theorem shr_digit {F : Nat → Nat} {n q r j : Nat} (h : Dg F n) (hr : r < 32) (hj : q + j < n) :
    U F n / 2 ^ (32 * q + r) / B j % 4294967296 = (F (q + j) + cutU F n 0 (q + j + 1) * 4294967296) / 2 ^ r % 4294967296 := by
  rw [Nat.pow_add, ← B_two, ← Nat.div_div_eq_div_mul, Nat.div_div_eq_div_mul (U F n / B q), Nat.mul_comm (2 ^ r), ← Nat.div_div_eq_div_mul (U F n / B q), Nat.div_div_eq_div_mul (U F n), ← B_add, U_over h (by omega)]
  obtain ⟨T, _, hT⟩ := U_low2 (fun i => F (q + j + i)) (n - (q + j))
  rw [hT, shr_low hr]
  have e0 : cutU (fun i => F (q + j + i)) (n - (q + j)) 0 0 = F (q + j) := by rw [cutU_in (by omega)]; rfl
  have e1 : cutU (fun i => F (q + j + i)) (n - (q + j)) 0 1 = cutU F n 0 (q + j + 1) := by
    by_cases hh : q + j + 1 < n
    · rw [cutU_in (by omega), cutU_in (by omega)]
      show F (q + j + (0 + 1)) = _
      congr 1
      omega
    · rw [cutU_out (by omega), cutU_out (by omega)]
  rw [e0, e1]
theorem shr_all {F H : Nat → Nat} {n q r : Nat} (h : Dg F n) (hr : r < 32) (hq : q ≤ n) (hH : ∀ j, j < n - q → H j = (F (q + j) + cutU F n 0 (q + j + 1) * 4294967296) / 2 ^ r % 4294967296) :
    U H (n - q) = U F n / 2 ^ (32 * q + r) := by
  rw [U_of_digits (Z := U F n / 2 ^ (32 * q + r)) fun j hj => (hH j hj).trans (shr_digit h hr (by omega)).symm]
  refine Nat.mod_eq_of_lt ?_
  rw [Nat.pow_add, ← B_two, ← Nat.div_div_eq_div_mul, U_over h hq]
  exact Nat.lt_of_le_of_lt (Nat.div_le_self _ _) (U_lt fun j hj => h _ (by omega))
end Go.Proofs.YtmiiaomdenpceaaGreatDoor

namespace Go.Proofs.YtmiiaomdenpceaaGreatDoor
open Go.RowKit
set_option maxRecDepth 100000
set_option linter.unusedVariables false
/-- i digits of a number shifted up are made, behind q noughts; c is carried. -/
structure Le (w0 wr : World) (v : Value) (F : Nat → Nat) (q r i c : Nat) (H : Nat → Nat) : Prop where
  own : OR wr 23 w0.heap.size v (q + i) (wd H)
  dg : Dg H (q + i)
  sum : U H (q + i) + c * B (q + i) = U F i * 2 ^ r * B q
  car : c < 4294967296
  bel : Below w0.heap.size w0 wr
theorem le_lt {f c r : Nat} (hf : f < 4294967296) (hc : c < 4294967296) (hr : r < 32) : f * 2 ^ r + c < 18446744073709551616 := by
  have h1 : 2 ^ r ≤ 2 ^ 31 := Nat.pow_le_pow_right (by decide) (by omega)
  have h2 : f * 2 ^ r ≤ 4294967295 * 2147483648 := Nat.mul_le_mul (by omega) h1
  omega
theorem le_sum {u c b s f t T Bq bi : Nat} (hs : s = f * t + c) (e : u + c * b = T) (hb : b = Bq * bi) : u + s % 4294967296 * b + s / 4294967296 * (b * 4294967296) = T + f * bi * t * Bq := by
  have h1 := Nat.div_add_mod s 4294967296
  have h2 : s * b = (4294967296 * (s / 4294967296) + s % 4294967296) * b := by rw [h1]
  have h3 : s * b = (f * t + c) * b := by rw [hs]
  subst hb
  grind
theorem Le.step {w0 wr w2 : World} {v v2 : Value} {F H : Nat → Nat} {q r i c s : Nat} (h : Le w0 wr v F q r i c H) (hs : s = F i * 2 ^ r + c) (hl : s < 18446744073709551616)
    (ho : OR w2 23 w0.heap.size v2 (q + i + 1) (fun j => if j = q + i then .int .u64 (((s : Nat) : Int) % 4294967296) else wd H j)) (hb : Below w0.heap.size w0 w2) :
    Le w0 w2 v2 F q r (i + 1) (s / 4294967296) (put H (q + i) (s % 4294967296)) := by
  refine ⟨OR.congr ho fun j hj => ?_, fun j hj => ?_, ?_, by omega, hb⟩
  · unfold wd put
    split
    · congr 1
    · rfl
  · unfold put
    split
    · exact Nat.mod_lt _ (by decide)
    · exact h.dg j (by omega)
  · rw [show q + (i + 1) = q + i + 1 by omega, U_succ, put_same, U_congr (F := put H (q + i) _) (G := H) fun j hj => put_other _ _ (by omega), B_succ, U_succ]
    have := le_sum (t := 2 ^ r) hs h.sum (B_add q i)
    rw [this]
    grind
set_option maxHeartbeats 2000000 in
theorem rleft_any (v : Value) (x p : Nat) (w : World) (h : RNat w v x) (hx : RFits x) (hp : p < 1099511627776) :
    Calls Tryz.prog 18 #[v, .int .i64 (p : Int)] w (RMakes w (x * 2 ^ p)) := by
  obtain ⟨ax, n, cap, rfl⟩ := h.isAgg
  obtain ⟨F, hs, hd, h1, hv⟩ := h.open
  have hn : n ≤ 4294967296 := rfits_len (hv.symm ▸ hx) h1
  obtain ⟨q, hq⟩ : ∃ q, q = p / 32 := ⟨_, rfl⟩
  have HH : Hid (Sl w ax n cap F ∧ Dg F n ∧ U F n = x ∧ q = p / 32) := ⟨hs, hd, hv, hq⟩
  have q1 : (p : Int) / 32 = (q : Int) := by omega
  have q2 : q < 34359738368 := by omega
  clear hs hd h1 hv h hx hq
  have mk := make_at (q : Int) (q : Int) q q rfl rfl (Nat.le_refl _) (by omega)
  go_enter Tryz.func18, Tryz.ntmps18
  go_wp2_with fail
  clear mk
  obtain ⟨w0, hw0⟩ : ∃ w0, w0 = (w.alloc (.cells #[.slice ax n cap] 30)).alloc (.cells #[.slice none 0 0] 30) := ⟨_, rfl⟩
  have c1 : w0.cell? ⟨w.heap.size, 0, none⟩ = some (.slice ax n cap) := by rw [hw0]; simp [go_sem]
  have c3 : w0.cell? ⟨w.heap.size + 1, 0, none⟩ = some (.slice none 0 0) := by rw [hw0]; simp [go_sem]
  have f3 : w0.frozen? ⟨w.heap.size + 1, 0, none⟩ = false := by rw [hw0]; simp [go_sem]
  have HB : Hid (Below w.heap.size w w0) := by rw [hw0]; exact bel_alloc2 _ _ _
  have S0 : w0.heap.size = w.heap.size + 1 + 1 := by rw [hw0]; simp
  have R0 : Row (w0.alloc (.cells (zeros q) 23)) (w.heap.size + 1 + 1) q (fun _ => 0) := row_zeros_at _ _ _ S0.symm
  rw [← hw0]
  clear hw0
  have L0 : Hid (Le w0 (w0.alloc (.cells (zeros q) 23)) (.slice (some ⟨w.heap.size + 1 + 1, 0, none⟩) q q) F q (p % 32) 0 0 (fun _ => 0)) := by
    refine ⟨.inr ⟨_, q, _, rfl, by omega, Nat.le_refl _, by simp only [maxLen]; omega, R0.1, fun i hi => rfl⟩, fun j hj => by show 0 < _; omega, ?_, by omega, (Below.refl _ _).alloc (Nat.le_refl _) _⟩
    rw [U_zeros fun _ _ => rfl, U_zero]
    omega
  clear R0 S0
  have CC : Hid _ := And.intro c1 (And.intro c3 f3)
  clear c1 c3 f3
  go_loopw [5, 6, 7] (fun l k t wr => ∃ (i c : Nat) (H : Nat → Nat), i ≤ n ∧ t = .int .i64 (i : Int) ∧ k = .int .u64 (c : Int) ∧ Hid (Le w0 wr l F q (p % 32) i c H)) (fun _ _ t _ => n - (intOf t).toNat)
  case atStart => exact ⟨0, 0, fun _ => 0, by omega, rfl, rfl, L0⟩
  case round =>
    clear L0
    obtain ⟨i, c, H, hi, rfl, rfl, hP⟩ := hrel
    have d1 := cell_later hP.out.bel CC.out.1
    have hs7 : w0.heap.size ≤ wr.heap.size := hP.out.bel.size
    by_cases him : i < n
    · have him' : (i : Int) < n := by omega
      obtain ⟨b, o, rfl, hw⟩ := HH.out.1.at i him
      have e1 : wr.cell? ⟨b, o + i, none⟩ = some (.int .u64 (F i : Nat)) := cell_later (bel_go HB.out hP.out.bel) (hw i him)
      have hl := le_lt (HH.out.2.1 i him) hP.out.car (show p % 32 < 32 by omega)
      obtain ⟨s, hs⟩ : ∃ s, s = F i * 2 ^ (p % 32) + c := ⟨_, rfl⟩
      have ES : Hid (s = F i * 2 ^ (p % 32) + c ∧ s < 18446744073709551616) := ⟨hs, hs ▸ hl⟩
      obtain ⟨z, hz⟩ : ∃ z, z = F i * 2 ^ (p % 32) := ⟨_, rfl⟩
      have r1 : IntKind.u64.wrap (((F i : Nat) : Int) * 2 ^ (p % 32)) = (z : Int) := by
        have e : ((F i : Nat) : Int) * 2 ^ (p % 32) = ((F i * 2 ^ (p % 32) : Nat) : Int) := by rw [Int.natCast_mul, cast_pow2]
        rw [e, ← hz]
        exact wrapU_nat _ (by omega)
      have r2 : IntKind.u64.wrap ((z : Int) + (c : Int)) = (s : Int) := by
        rw [← Int.natCast_add, hz, ← hs]
        exact wrapU_nat _ (by omega)
      clear hw hs hz hl
      have OW : Hid _ := hP.out.own.below (bel_al (bel_refl wr) (o := .cells #[.int .u64 ((s : Int) % 4294967296)] 23))
      have CE : Hid ((wr.alloc (.cells #[.int .u64 ((s : Int) % 4294967296)] 23)).cell? ⟨wr.heap.size, 0, none⟩ = some (.int .u64 ((s : Int) % 4294967296))) := cell_new wr _ _
      have SZ : Hid (w0.heap.size ≤ (wr.alloc (.cells #[.int .u64 ((s : Int) % 4294967296)] 23)).heap.size) := Nat.le_trans hP.out.bel.size (bel_al (bel_refl wr)).size
      go_wp2_with (refine (id ?_ : wpList Tryz.prog _ _ (⟨some 33, _, _, _, _, _⟩ :: _) _ _); refine hold ?_)
      intro _
      refine wpList_append_one rfl (.tmp 29) (.tmp 32) 24 rfl 23 (.int .u64 0) 8 Tryz.underlying24 Tryz.info22b rfl (by omega) w0.heap.size _ (q + i) (wd H) rfl OW.out _ _ rfl _ CE.out rfl (by omega) SZ.out ?_
      intro g2 cap2 w2 ho hg2 _ _
      have S : Hid _ := hP.out.step ES.out.1 ES.out.2 ho ((hP.out.bel.alloc hs7 _).grown hg2 SZ.out hP.out.own.blk)
      clear ho hg2 OW
      go_wp2_with fail
      have hz3 : IntKind.u64.wrap ((s : Int) / 4294967296) = ((s / 4294967296 : Nat) : Int) := by have := ES.out.2; rw [IntKind.wrap_u64]; omega
      rw [hz3]
      go_roundw
      case rel => exact ⟨i + 1, _, _, by omega, by go_num, rfl, S.out⟩
      case measure => simp [intOf]; omega
    · obtain rfl : i = n := by omega
      have B0 : Hid (Below w.heap.size w wr) := bel_go HB.out hP.out.bel
      have OW : Hid _ := hP.out.own.below (bel_al (bel_refl wr) (o := .cells #[.int .u64 (c : Int)] 23))
      have CE : Hid ((wr.alloc (.cells #[.int .u64 (c : Int)] 23)).cell? ⟨wr.heap.size, 0, none⟩ = some (.int .u64 (c : Int))) := cell_new wr _ _
      have SZ : Hid (w0.heap.size ≤ (wr.alloc (.cells #[.int .u64 (c : Int)] 23)).heap.size) := Nat.le_trans hP.out.bel.size (bel_al (bel_refl wr)).size
      go_wp2_with (refine (id ?_ : wpList Tryz.prog _ _ (⟨some 39, _, _, _, _, _⟩ :: _) _ _); refine hold ?_)
      intro _
      refine wpList_append_one rfl (.tmp 36) (.tmp 38) 24 rfl 23 (.int .u64 0) 8 Tryz.underlying24 Tryz.info22b rfl (by omega) w0.heap.size _ (q + i) (wd H) rfl OW.out _ _ rfl _ CE.out rfl (by omega) SZ.out ?_
      intro g2 cap2 w2 ho hg2 _ _
      have hO : OR w2 23 w0.heap.size (.slice (some ⟨g2, 0, none⟩) (q + i + 1) cap2) (q + i + 1) (wd (put H (q + i) c)) := OR.congr ho fun j hj => by
        unfold wd put
        split <;> rfl
      have hdg : Dg (put H (q + i) c) (q + i + 1) := fun j hj => by
        unfold put
        split
        · exact hP.out.car
        · exact hP.out.dg j (by omega)
      have hbw : Below w0.heap.size w0 w2 := (hP.out.bel.alloc hs7 _).grown hg2 SZ.out hP.out.own.blk
      obtain ⟨a, cap1, ea, hsl⟩ := hO.sl (fun t ht => by have := hdg t ht; omega)
      cases ea
      have hcr : w2.cell? ⟨w.heap.size + 1, 0, none⟩ = some (.slice none 0 0) := cell_later hbw CC.out.2.1
      have hfr : w2.frozen? ⟨w.heap.size + 1, 0, none⟩ = false := (hbw.frozen (World.block_lt_of_cell? _ _ CC.out.2.1)).trans CC.out.2.2
      have EV : Hid (U (put H (q + i) c) (q + i + 1) = x * 2 ^ p) := by
        show U _ _ = x * 2 ^ p
        have hqp : p = 32 * q + p % 32 := by have := HH.out.2.2.2; omega
        rw [U_succ, put_same, U_congr (F := put H (q + i) _) (G := H) fun j hj => put_other _ _ (by omega), hP.out.sum, HH.out.2.2.1, B_two, Nat.mul_assoc, ← Nat.pow_add, Nat.add_comm, ← hqp]
      have HS : Hid (Sl w2 (some ⟨g2, 0, none⟩) (q + i + 1) cap2 (put H (q + i) c) ∧ Dg (put H (q + i) c) (q + i + 1) ∧ Below w.heap.size w w2) := ⟨hsl, hdg, bel_go HB.out hbw⟩
      clear hsl hdg hbw hO ho hg2 OW CE SZ
      go_wp2_with fail
      refine (rtrimmed_any _ (q + i + 1) _ (put H (q + i) c) w2 HS.out.1 HS.out.2.1 (by omega) (fun e => absurd e (by omega))).mono ?_
      rintro e w3 ⟨v3, rfl, hv3, hb3⟩
      rw [EV.out] at hv3
      have hcr3 : w3.cell? ⟨w.heap.size + 1, 0, none⟩ = some (.slice none 0 0) := cell_later hb3 hcr
      have hfr3 : w3.frozen? ⟨w.heap.size + 1, 0, none⟩ = false := (hb3.frozen (World.block_lt_of_cell? _ _ hcr)).trans hfr
      obtain ⟨a3, n3, cap3, rfl⟩ := hv3.isAgg
      have HV3 : Hid (RNat w3 (.agg #[.slice a3 n3 cap3]) (x * 2 ^ p)) := hv3
      have B3 : Hid (Below w.heap.size w w3) := bel_go HS.out.2.2 hb3
      clear hv3 hb3 hcr hfr
      go_wp2_with fail
      refine bodyPost_ret (v := .agg #[.slice a3 n3 cap3]) (by simp [results, Tryz.results18, go_sem, hcr3]) rfl ⟨_, rfl, ?_, B3.out.setCell (by show _ ≤ _ + 1; omega) _⟩
      exact HV3.out.setCell (no_int_slice hcr3) _
end Go.Proofs.YtmiiaomdenpceaaGreatDoor

namespace Go.Proofs.YtmiiaomdenpceaaGreatDoor
open Go.RowKit
set_option maxRecDepth 100000
set_option linter.unusedVariables false
/-- j digits of a number shifted down are made. -/
structure Ri (w0 wr : World) (v : Value) (F : Nat → Nat) (n q r j : Nat) (H : Nat → Nat) : Prop where
  own : OR wr 23 w0.heap.size v j (wd H)
  dig : ∀ t, t < j → H t = (F (q + t) + cutU F n 0 (q + t + 1) * 4294967296) / 2 ^ r % 4294967296
  bel : Below w0.heap.size w0 wr
theorem Ri.step {w0 wr w2 : World} {v v2 : Value} {F H : Nat → Nat} {n q r j s : Nat} (h : Ri w0 wr v F n q r j H) (hs : s = F (q + j) + cutU F n 0 (q + j + 1) * 4294967296)
    (ho : OR w2 23 w0.heap.size v2 (j + 1) (fun t => if t = j then .int .u64 (((s : Nat) : Int) / 2 ^ r % 4294967296) else wd H t)) (hb : Below w0.heap.size w0 w2) :
    Ri w0 w2 v2 F n q r (j + 1) (put H j (s / 2 ^ r % 4294967296)) := by
  refine ⟨OR.congr ho fun t ht => ?_, fun t ht => ?_, hb⟩
  · unfold wd put
    split
    · congr 1
    · rfl
  · unfold put
    split
    · next e => rw [e, hs]
    · exact h.dig t (by omega)
set_option maxHeartbeats 2000000 in
theorem rright_any (v : Value) (x p : Nat) (w : World) (h : RNat w v x) (hx : RFits x) (hp : p < 4611686018427387904) :
    Calls Tryz.prog 112 #[v, .int .i64 (p : Int)] w (RMakes w (x / 2 ^ p)) := by
  obtain ⟨ax, n, cap, rfl⟩ := h.isAgg
  obtain ⟨F, hs, hd, h1, hv⟩ := h.open
  have hn : n ≤ 4294967296 := rfits_len (hv.symm ▸ hx) h1
  obtain ⟨q, hq⟩ : ∃ q, q = p / 32 := ⟨_, rfl⟩
  have HH : Hid (Sl w ax n cap F ∧ Dg F n ∧ U F n = x ∧ q = p / 32) := ⟨hs, hd, hv, hq⟩
  have q1 : (p : Int) / 32 = (q : Int) := by omega
  have q2 : q < 4611686018427387904 := by omega
  clear hs hd h1 hv h hx hq
  have HB : Hid (Below w.heap.size w ((w.alloc (.cells #[.slice ax n cap] 30)).alloc (.cells #[.slice none 0 0] 30))) := bel_alloc2 _ _ _
  go_enter Tryz.func112, Tryz.ntmps112
  go_wp2_with fail
  obtain ⟨w0, hw0⟩ : ∃ w0, w0 = (w.alloc (.cells #[.slice ax n cap] 30)).alloc (.cells #[.slice none 0 0] 30) := ⟨_, rfl⟩
  have c1 : w0.cell? ⟨w.heap.size, 0, none⟩ = some (.slice ax n cap) := by rw [hw0]; simp [go_sem]
  have c3 : w0.cell? ⟨w.heap.size + 1, 0, none⟩ = some (.slice none 0 0) := by rw [hw0]; simp [go_sem]
  have f3 : w0.frozen? ⟨w.heap.size + 1, 0, none⟩ = false := by rw [hw0]; simp [go_sem]
  rw [← hw0] at HB ⊢
  clear hw0
  have CC : Hid _ := And.intro c1 (And.intro c3 f3)
  clear c1 c3 f3
  go_loopw [5, 6] (fun l t wr => ∃ (i j : Nat) (H : Nat → Nat), i = q + j ∧ (i ≤ n ∨ j = 0) ∧ t = .int .i64 (i : Int) ∧ Hid (Ri w0 wr l F n q (p % 32) j H) ∧ Hid (j = 0 → l = .slice none 0 0)) (fun _ t _ => n - (intOf t).toNat)
  case atStart => exact ⟨q, 0, fun _ => 0, by omega, .inr rfl, rfl, ⟨OR.nil _ _ _ _, fun i hi => absurd hi (by omega), Below.refl _ _⟩, fun _ => rfl⟩
  case round =>
    obtain ⟨i, j, H, hij, hi, rfl, hP, HZ⟩ := hrel
    have HI : Hid (i = q + j ∧ (i ≤ n ∨ j = 0)) := ⟨hij, hi⟩
    have hi9 : i < 4611686018427387905 := by omega
    have hj9 : i < n → j < 4294967296 := by omega
    clear hij hi
    have d1 := cell_later hP.out.bel CC.out.1
    by_cases him : i < n
    · have him' : (i : Int) < n := by omega
      have hj := hj9 him
      have hf := HH.out.2.1 i him
      have hg := dg_cut HH.out.2.1 (i + 1)
      obtain ⟨g, eg⟩ : ∃ g, g = cutU F n 0 (i + 1) := ⟨_, rfl⟩
      have EG : Hid (g = cutU F n 0 (i + 1)) := eg
      rw [← eg] at hg
      clear eg
      obtain ⟨b, o, rfl, hw⟩ := HH.out.1.at i him
      have e1 : wr.cell? ⟨b, o + i, none⟩ = some (.int .u64 (F i : Nat)) := cell_later (bel_go HB.out hP.out.bel) (hw i him)
      obtain ⟨f, ef⟩ : ∃ f, f = F i := ⟨_, rfl⟩
      have EF : Hid (f = F i) := ef
      rw [← ef] at hf e1
      clear ef hw
      have r1 : IntKind.u64.wrap ((g : Int) * 4294967296) = (g : Int) * 4294967296 := by rw [IntKind.wrap_u64]; omega
      have r2 : IntKind.u64.wrap ((f : Int) + (g : Int) * 4294967296) = ((f + g * 4294967296 : Nat) : Int) := by rw [IntKind.wrap_u64]; omega
      have DG : Hid (∀ k, Calls Tryz.prog 89 #[.slice (some ⟨b, o, none⟩) n cap, .int .i64 ((i : Int) + 1)] (wr.drewN k) fun e w' => e = .returned (.int .u64 (g : Int)) ∧ w' = wr.drewN k) := fun k => by
        rw [EG.out]
        exact rdigit_any _ _ _ F (i + 1) _ (HH.out.1.mono (bel_drewN (bel_go HB.out hP.out.bel) k)) (by omega)
      go_wp2_with fail
      go_quiet ((go_at_call 89; exact Calls.quiet_of_same (DG.out _)))
      obtain ⟨s, hs⟩ : ∃ s, s = f + g * 4294967296 := ⟨_, rfl⟩
      have hsI : (f : Int) + (g : Int) * 4294967296 = (s : Int) := by omega
      have ES : Hid (s = F (q + j) + cutU F n 0 (q + j + 1) * 4294967296) := by
        show s = _
        rw [hs, EF.out, EG.out, HI.out.1]
      rw [hsI]
      clear hs hsI r1 r2
      have OW : Hid _ := hP.out.own.below (bel_al (bel_drewN (bel_refl wr) nq) (o := .cells #[.int .u64 ((s : Int) / 2 ^ (p % 32) % 4294967296)] 23))
      have CE : Hid (((wr.drewN nq).alloc (.cells #[.int .u64 ((s : Int) / 2 ^ (p % 32) % 4294967296)] 23)).cell? ⟨wr.heap.size, 0, none⟩ = some (.int .u64 ((s : Int) / 2 ^ (p % 32) % 4294967296))) := cell_new (wr.drewN nq) _ _
      have SZ : Hid (w0.heap.size ≤ ((wr.drewN nq).alloc (.cells #[.int .u64 ((s : Int) / 2 ^ (p % 32) % 4294967296)] 23)).heap.size) := Nat.le_trans hP.out.bel.size (bel_al (bel_drewN (bel_refl wr) nq)).size
      have hs7 : w0.heap.size ≤ wr.heap.size := hP.out.bel.size
      go_wp2_with (refine (id ?_ : wpList Tryz.prog _ _ (⟨some 36, _, _, _, _, _⟩ :: _) _ _); refine hold ?_)
      intro _
      refine wpList_append_one rfl (.tmp 29) (.tmp 35) 24 rfl 23 (.int .u64 0) 8 Tryz.underlying24 Tryz.info22b rfl (by omega) w0.heap.size _ j (wd H) rfl OW.out _ _ rfl _ CE.out rfl (by omega) SZ.out ?_
      intro g2 cap2 w2 ho hg2 _ _
      have S : Hid _ := hP.out.step ES.out ho (((bel_drewN hP.out.bel nq).alloc hs7 _).grown hg2 SZ.out hP.out.own.blk)
      clear ho hg2 OW
      go_wp2_with fail
      go_roundw
      case rel => exact ⟨i + 1, j + 1, _, by have := HI.out.1; omega, .inl (by omega), by go_num, S.out, fun e => absurd e (by omega)⟩
      case measure => simp [intOf]; omega
    · have B0 : Hid (Below w.heap.size w wr) := bel_go HB.out hP.out.bel
      have hdg : Dg H j := fun t ht => by rw [hP.out.dig t ht]; exact Nat.mod_lt _ (by decide)
      obtain ⟨a, cap1, rfl, hsl⟩ := hP.out.own.sl (fun t ht => by have := hdg t ht; omega)
      have hcr : wr.cell? ⟨w.heap.size + 1, 0, none⟩ = some (.slice none 0 0) := cell_later hP.out.bel CC.out.2.1
      have hfr : wr.frozen? ⟨w.heap.size + 1, 0, none⟩ = false := (hP.out.bel.frozen (World.block_lt_of_cell? _ _ CC.out.2.1)).trans CC.out.2.2
      have H0 : Hid (j = 0 → a = none ∧ cap1 = 0) := fun e => by
        have := HZ.out e
        cases this
        exact ⟨rfl, rfl⟩
      have HS : Hid (Sl wr a j cap1 H ∧ Dg H j) := ⟨hsl, hdg⟩
      have EV : Hid (U H j = x / 2 ^ p) := by
        show U H j = x / 2 ^ p
        have hqp : p = 32 * q + p % 32 := by have := HH.out.2.2.2; omega
        rcases Nat.lt_or_ge n q with hnq | hnq
        · have hj0 : j = 0 := by have := HI.out; omega
          rw [hj0, U_zero, ← HH.out.2.2.1, Nat.div_eq_of_lt]
          refine Nat.lt_of_lt_of_le (U_lt HH.out.2.1) ?_
          rw [B_two]
          exact Nat.pow_le_pow_right (by decide) (by omega)
        · have hjn : j = n - q := by have := HI.out; omega
          rw [← HH.out.2.2.1, hqp, hjn]
          exact shr_all HH.out.2.1 (by omega) hnq fun t ht => hP.out.dig t (by omega)
      have hj8 : j ≤ 1099511627776 := by have := HI.out; omega
      clear hsl hdg
      go_wp2_with fail
      refine (rtrimmed_any _ j _ H wr HS.out.1 HS.out.2 hj8 H0.out).mono ?_
      rintro e w3 ⟨v3, rfl, hv3, hb3⟩
      rw [EV.out] at hv3
      have hcr3 : w3.cell? ⟨w.heap.size + 1, 0, none⟩ = some (.slice none 0 0) := cell_later hb3 hcr
      have hfr3 : w3.frozen? ⟨w.heap.size + 1, 0, none⟩ = false := (hb3.frozen (World.block_lt_of_cell? _ _ hcr)).trans hfr
      obtain ⟨a3, n3, cap3, rfl⟩ := hv3.isAgg
      have HV3 : Hid (RNat w3 (.agg #[.slice a3 n3 cap3]) (x / 2 ^ p)) := hv3
      have B3 : Hid (Below w.heap.size w w3) := bel_go B0.out hb3
      clear hv3 hb3 hcr hfr
      go_wp2_with fail
      refine bodyPost_ret (v := .agg #[.slice a3 n3 cap3]) (by simp [results, Tryz.results112, go_sem, hcr3]) rfl ⟨_, rfl, ?_, B3.out.setCell (by show _ ≤ _ + 1; omega) _⟩
      exact HV3.out.setCell (no_int_slice hcr3) _
end Go.Proofs.YtmiiaomdenpceaaGreatDoor

namespace Go.Proofs.YtmiiaomdenpceaaGreatDoor
open Go.RowKit
set_option maxRecDepth 100000
set_option linter.unusedVariables false
theorem U_lt_at {F G : Nat → Nat} {mx i : Nat} (hi : i < mx) (hF : Dg F mx) (he : ∀ j, i + 1 ≤ j → F j = G j) (h : F i < G i) : U F mx < U G mx := by
  obtain ⟨t, rfl⟩ : ∃ t, mx = i + 1 + t := ⟨mx - (i + 1), by omega⟩
  rw [U_split, U_split G, U_congr (F := fun j => F (i + 1 + j)) (G := fun j => G (i + 1 + j)) fun j hj => he _ (by omega), U_succ, U_succ]
  have h1 := U_lt (hF.mono (show i ≤ i + 1 + t by omega))
  have h2 : (F i + 1) * B i ≤ G i * B i := Nat.mul_le_mul_right _ h
  rw [Nat.add_mul] at h2
  omega
set_option maxHeartbeats 2000000 in
theorem rcmp_any (v u : Value) (x y : Nat) (w : World) (h : RNat w v x) (k : RNat w u y) (hx : RFits x) (hy : RFits y) :
    Calls Tryz.prog 61 #[v, u] w fun e w' => e = .returned (.int .i64 (cmpI x y)) ∧ Below w.heap.size w w' := by
  obtain ⟨ax, n, cap, rfl⟩ := h.isAgg
  obtain ⟨ay, m, cap', rfl⟩ := k.isAgg
  obtain ⟨F, hs, hd, h1, hv⟩ := h.open
  obtain ⟨G, ks, kd, k1, kv⟩ := k.open
  have hn : n ≤ 4294967296 := rfits_len (hv.symm ▸ hx) h1
  have hm : m ≤ 4294967296 := rfits_len (kv.symm ▸ hy) k1
  obtain ⟨mx, hmx⟩ : ∃ mx : Nat, mx = max n m := ⟨_, rfl⟩
  have hm1 : n ≤ mx := by omega
  have hm2 : m ≤ mx := by omega
  have hm3 : mx ≤ 4294967296 := by omega
  have e1 : (if n < m then (m : Int) else (n : Int)) = (mx : Int) := by split <;> omega
  clear hmx
  have HH : Hid (Sl w ax n cap F ∧ Dg F n ∧ U (cutU F n 0) mx = x ∧ Sl w ay m cap' G ∧ Dg G m ∧ U (cutU G m 0) mx = y) := ⟨hs, hd, (U_cut hm1).trans hv, ks, kd, (U_cut hm2).trans kv⟩
  clear hs hd h1 hv ks kd k1 kv h k hx hy
  go_enter Tryz.func61, Tryz.ntmps61
  go_wp2_with fail
  obtain ⟨w0, hw0⟩ : ∃ w0, w0 = (w.alloc (.cells #[.slice ax n cap] 30)).alloc (.cells #[.slice ay m cap'] 30) := ⟨_, rfl⟩
  have c1 : w0.cell? ⟨w.heap.size, 0, none⟩ = some (.slice ax n cap) := by rw [hw0]; simp [go_sem]
  have c2 : w0.cell? ⟨w.heap.size + 1, 0, none⟩ = some (.slice ay m cap') := by rw [hw0]; simp [go_sem]
  have HB : Hid (Below w.heap.size w w0) := by rw [hw0]; exact bel_alloc2 _ _ _
  rw [← hw0]
  clear hw0
  go_loop [5] (fun t => ∃ i : Nat, i ≤ mx ∧ t = .int .i64 ((i : Int) - 1) ∧ Hid (∀ j, i ≤ j → cutU F n 0 j = cutU G m 0 j)) (fun t => (intOf t + 1).toNat)
  case atStart => exact ⟨mx, Nat.le_refl _, rfl, fun j hj => by rw [cutU_out (by omega), cutU_out (by omega)]⟩
  case round =>
    obtain ⟨i, hi, rfl, hE⟩ := hrel
    by_cases h0 : 0 < i
    · obtain ⟨k, rfl⟩ : ∃ k, i = k + 1 := ⟨i - 1, by omega⟩
      have hidx : ((k + 1 : Nat) : Int) - 1 = (k : Int) := by omega
      have dF : Hid (Dg (cutU F n 0) mx) := fun j _ => dg_cut HH.out.2.1 j
      have dG : Hid (Dg (cutU G m 0) mx) := fun j _ => dg_cut HH.out.2.2.2.2.1 j
      obtain ⟨f, ef⟩ : ∃ f, f = cutU F n 0 k := ⟨_, rfl⟩
      obtain ⟨g, eg⟩ : ∃ g, g = cutU G m 0 k := ⟨_, rfl⟩
      have EF : Hid (f = cutU F n 0 k ∧ g = cutU G m 0 k) := ⟨ef, eg⟩
      have DF := rdigit_any _ _ _ F k _ (HH.out.1.mono HB.out) (by omega)
      have DG := rdigit_any _ _ _ G k _ (HH.out.2.2.2.1.mono HB.out) (by omega)
      rw [← ef] at DF
      rw [← eg] at DG
      have D2 : Hid _ := And.intro DF DG
      clear ef eg DF DG
      rw [hidx]
      go_wp2_with fail
      refine D2.out.1.mono ?_
      rintro e w2 ⟨rfl, rfl⟩
      go_wp2_with fail
      refine D2.out.2.mono ?_
      rintro e w2 ⟨rfl, rfl⟩
      rcases Nat.lt_trichotomy f g with hh | hh | hh
      · have t1 : decide (f < g) = true := decide_eq_true hh
        have EX : Hid (x < y) := by
          show x < y
          rw [← HH.out.2.2.1, ← HH.out.2.2.2.2.2]
          exact U_lt_at (by omega) dF.out hE.out (EF.out.1 ▸ EF.out.2 ▸ hh)
        go_wp2_with fail
        go_ret
        exact ⟨by rw [cmpI_lt EX.out]; rfl, HB.out⟩
      · have t1 : decide (f < g) = false := decide_eq_false (by omega)
        have t2 : decide (g < f) = false := decide_eq_false (by omega)
        have EQ : Hid (f = g) := hh
        clear hh
        go_wp2_with fail
        go_round
        case rel =>
          refine ⟨k, by omega, by go_num, fun j hj => ?_⟩
          by_cases e : j = k
          · subst e
            rw [← EF.out.1, ← EF.out.2, EQ.out]
          · exact hE.out j (by omega)
        case measure => simp [intOf]
      · have t1 : decide (f < g) = false := decide_eq_false (by omega)
        have t2 : decide (g < f) = true := decide_eq_true hh
        have EX : Hid (y < x) := by
          show y < x
          rw [← HH.out.2.2.1, ← HH.out.2.2.2.2.2]
          exact U_lt_at (by omega) dG.out (fun j hj => (hE.out j hj).symm) (EF.out.1 ▸ EF.out.2 ▸ hh)
        go_wp2_with fail
        go_ret
        exact ⟨by rw [cmpI_gt EX.out]; rfl, HB.out⟩
    · obtain rfl : i = 0 := by omega
      have EX : Hid (x = y) := by
        show x = y
        rw [← HH.out.2.2.1, ← HH.out.2.2.2.2.2]
        exact U_congr fun j _ => hE.out j (Nat.zero_le _)
      go_wp2_with fail
      go_ret
      exact ⟨by rw [EX.out, cmpI_eq]; rfl, HB.out⟩
end Go.Proofs.YtmiiaomdenpceaaGreatDoor

namespace Go.Proofs.YtmiiaomdenpceaaGreatDoor
open Go.RowKit
set_option maxRecDepth 100000
set_option linter.unusedVariables false
/-- K digits of x are told; what is left is y. -/
structure TD (x K y : Nat) : Prop where
  left : x / 10 ^ K = y
  some : K = 0 ∨ 10 ^ (K - 1) ≤ x
theorem TD.next {x K y : Nat} (h : TD x K y) (hy : y ≠ 0) : TD x (K + 1) (y / 10) ∧ 48 + y % 10 = decAt x K := by
  have h1 : 10 ^ K ≤ x := by
    rcases Nat.lt_or_ge x (10 ^ K) with hh | hh
    · exact absurd (h.left.symm.trans (Nat.div_eq_of_lt hh)) hy
    · exact hh
  refine ⟨⟨?_, .inr (by simpa using h1)⟩, ?_⟩
  · rw [Nat.pow_succ, ← Nat.div_div_eq_div_mul, h.left]
  · rw [decAt, h.left]
theorem TD.short {x K y : Nat} (h : TD x K y) (hx : RFits x) : K ≤ 137438953473 := by
  rcases h.some with rfl | h1
  · omega
  · have h2 : 2 ^ (K - 1) ≤ 10 ^ (K - 1) := Nat.pow_le_pow_left (by decide) _
    have h3 := Nat.lt_of_le_of_lt (Nat.le_trans h2 h1) hx.lt
    rw [B_two] at h3
    have h4 := (Nat.pow_lt_pow_iff_right (show 1 < 2 by decide)).1 h3
    have h5 : lim ≤ 4294967296 := le_lim (Nat.le_refl _)
    omega
theorem TD.done {x K : Nat} (h : TD x K 0) (hx : x ≠ 0) : DecLen x K := by
  have h1 : x < 10 ^ K := by
    have := h.left
    rcases Nat.lt_or_ge x (10 ^ K) with hh | hh
    · exact hh
    · have := Nat.div_pos hh (Nat.pow_pos (show 0 < 10 by decide))
      omega
  have h2 : K ≠ 0 := fun e => by subst e; simp at h1; omega
  refine ⟨by omega, h1, .inr (h.some.resolve_left h2)⟩
theorem split9 {q r k : Nat} (hk : k < 9) : (q * 10 ^ (9 - k) + r) / 10 = q * 10 ^ (9 - (k + 1)) + r / 10 ∧ (q * 10 ^ (9 - k) + r) % 10 = r % 10 := by
  rw [show 9 - k = (9 - (k + 1)) + 1 by omega, Nat.pow_succ]
  generalize 10 ^ (9 - (k + 1)) = t
  have : q * (t * 10) = 10 * (q * t) := by grind
  omega
end Go.Proofs.YtmiiaomdenpceaaGreatDoor

namespace Go.Proofs.YtmiiaomdenpceaaGreatDoor
open Go.RowKit
set_option maxRecDepth 100000
set_option linter.unusedVariables false
/-- Bytes as cells. -/
def bd (D : Nat → Nat) : Nat → Value := fun j => .int .u8 ((D j : Nat) : Int)
/-- A number that lies apart from a row stays, where the row grows. -/
theorem RNat.apart {w w' : World} {b o k c x : Nat} {row : Option Nat} (h : RNat w (.agg #[.slice (some ⟨b, o, none⟩) k c]) x) (hg : w.grownBy w' row) (hne : k ≠ 0 → ∀ g, row = some g → b ≠ g) : RNat w' (.agg #[.slice (some ⟨b, o, none⟩) k c]) x := by
  obtain ⟨F, ⟨s1, s2, s3, s4⟩, hd, h1, hv⟩ := h.open
  refine ⟨_, k, c, F, rfl, ⟨s1, s2, s3, ?_⟩, hd, h1, hv⟩
  rcases s4 with e | ⟨b', o', e, hw⟩
  · exact .inl e
  · cases e
    exact .inr ⟨b, o, rfl, fun i hi => hg.cell (hw i hi) (fun e => hne (by omega) b e.symm rfl)⟩
/-- The outer loop: K digits are told, y is left. -/
structure TO (w wr : World) (x : Nat) (l : Value) (gb o n cap K y : Nat) : Prop where
  cx : wr.cell? ⟨w.heap.size, 0, none⟩ = some (.slice (some ⟨gb, o, none⟩) n cap)
  fx : wr.frozen? ⟨w.heap.size, 0, none⟩ = false
  num : RNat wr (.agg #[.slice (some ⟨gb, o, none⟩) n cap]) y
  td : TD x K y
  own : OR wr 5 (w.heap.size + 1) l K (bd (decAt x))
  bel : Below w.heap.size w wr
/-- The inner loop: k digits more are told; q and r are left. -/
structure TI (w wr : World) (x : Nat) (l : Value) (bq gq nq cq K k q r : Nat) : Prop where
  cx : ∃ (u : Option Addr × Nat × Nat), wr.cell? ⟨w.heap.size, 0, none⟩ = some (.slice u.1 u.2.1 u.2.2)
  fx : wr.frozen? ⟨w.heap.size, 0, none⟩ = false
  cb : wr.cell? ⟨bq, 0, none⟩ = some (.slice (some ⟨gq, 0, none⟩) nq cq)
  num : RNat wr (.agg #[.slice (some ⟨gq, 0, none⟩) nq cq]) q
  td : TD x (K + k) (q * 10 ^ (9 - k) + r)
  lt : r < 10 ^ (9 - k)
  own : OR wr 5 (w.heap.size + 1) l (K + k) (bd (decAt x))
  ne : ∀ g, l.ownBlock = some g → (nq ≠ 0 → gq ≠ g) ∧ bq ≠ g
  bel : Below w.heap.size w wr
theorem TI.go {w wr w' : World} {x : Nat} {l : Value} {bq gq nq cq K k q r : Nat} (h : TI w wr x l bq gq nq cq K k q r) (hb : Below wr.heap.size wr w') : TI w w' x l bq gq nq cq K k q r := by
  obtain ⟨u, hu⟩ := h.cx
  exact ⟨⟨u, cell_later hb hu⟩, (hb.frozen (World.block_lt_of_cell? _ _ hu)).trans h.fx, cell_later hb h.cb, h.num.mono hb, h.td, h.lt, h.own.below hb, h.ne, bel_go h.bel hb⟩
theorem pow9 {k : Nat} (hk : k < 9) : 10 ^ (9 - k) = 10 * 10 ^ (9 - (k + 1)) := by
  rw [show 9 - k = (9 - (k + 1)) + 1 by omega, Nat.pow_succ, Nat.mul_comm]
theorem TI.step {w wr w2 : World} {x : Nat} {l : Value} {bq gq nq cq K k q r g2 cap2 : Nat} (h : TI w wr x l bq gq nq cq K k q r) (hk : k < 9) (h0 : r ≠ 0 ∨ q ≠ 0)
    (ho : OR w2 5 (w.heap.size + 1) (.slice (some ⟨g2, 0, none⟩) (K + k + 1) cap2) (K + k + 1) (fun j => if j = K + k then .int .u8 ((48 + r % 10 : Nat) : Int) else bd (decAt x) j)) (hg : wr.grownBy w2 l.ownBlock) (hw : l.ownBlock = some g2 ∨ wr.heap.size ≤ g2) :
    TI w w2 x (.slice (some ⟨g2, 0, none⟩) (K + k + 1) cap2) bq gq nq cq K (k + 1) q (r / 10) := by
  obtain ⟨u, hu⟩ := h.cx
  have hb := h.own.blk
  have hy : q * 10 ^ (9 - k) + r ≠ 0 := by
    have := Nat.pow_pos (n := 9 - k) (show 0 < 10 by decide)
    rcases h0 with h0 | h0
    · omega
    · have : 1 * 1 ≤ q * 10 ^ (9 - k) := Nat.mul_le_mul (by omega) this
      omega
  obtain ⟨n1, n2⟩ := h.td.next hy
  obtain ⟨s1, s2⟩ := split9 (q := q) (r := r) hk
  rw [s1] at n1
  rw [s2] at n2
  have hlq : gq < wr.heap.size ∨ nq = 0 := by
    obtain ⟨F, ⟨_, _, _, s4⟩, _⟩ := h.num.open
    rcases s4 with e | ⟨b', o', e, hw⟩
    · exact .inr e
    · cases e
      rcases Nat.eq_zero_or_pos nq with e | e
      · exact .inr e
      · exact .inl (World.block_lt_of_cell? _ _ (hw 0 e))
  have hlb : bq < wr.heap.size := World.block_lt_of_cell? _ _ h.cb
  have hbx : ∀ g, l.ownBlock = some g → w.heap.size ≠ g := fun g hg => by have := hb g hg; omega
  refine ⟨⟨u, hg.cell hu fun e => hbx _ e.symm rfl⟩, ?_, hg.cell h.cb fun e => (h.ne _ e.symm).2 rfl, h.num.apart hg fun h0 g e => (h.ne g e).1 h0, n1, ?_, ?_, ?_, ?_⟩
  · exact (World.frozen?_of_block (hg.block _ (World.block_lt_of_cell? _ _ hu) fun e => hbx _ e.symm rfl)).trans h.fx
  · have := h.lt
    rw [pow9 hk] at this
    exact Nat.div_lt_of_lt_mul this
  · refine OR.congr ho fun j hj => ?_
    split
    · rename_i e
      rw [e]
      show _ = Value.int .u8 ((decAt x (K + k) : Nat) : Int)
      rw [n2]
    · rfl
  · intro g e
    have e' : g2 = g := by simpa [Value.ownBlock] using e
    subst e'
    rcases hw with e | e
    · exact h.ne _ e
    · exact ⟨fun h0 => by omega, by omega⟩
  · exact h.bel.grown hg h.bel.size (fun g e => by have := hb g e; omega)
def lenOf (v : Value) : Nat := match v with
  | .slice _ k _ => k
  | _ => 0
theorem OR.len {w : World} {e : TypeId} {base n : Nat} {v : Value} {G : Nat → Value} (h : OR w e base v n G) : lenOf v = n := by
  rcases h with ⟨rfl, rfl⟩ | ⟨g, cap, f, rfl, _⟩
  · rfl
  · rfl
theorem RFits.le {x y : Nat} (h : RFits x) (hy : y ≤ x) : RFits y := ⟨Nat.lt_of_le_of_lt hy h.lt⟩
theorem TD.le {x K y : Nat} (h : TD x K y) : y ≤ x := by rw [← h.left]; exact Nat.div_le_self _ _
theorem TI.size {w wr : World} {x : Nat} {l : Value} {bq gq nq cq K k q r : Nat} (h : TI w wr x l bq gq nq cq K k q r) : w.heap.size + 1 ≤ wr.heap.size := by
  obtain ⟨u, hu⟩ := h.cx
  exact World.block_lt_of_cell? _ _ hu
theorem TI.out {w wr : World} {x : Nat} {l : Value} {bq gq nq cq K k q r : Nat} (h : TI w wr x l bq gq nq cq K k q r) {u1 : Option Addr} {u2 u3 : Nat} (hu : wr.cell? ⟨w.heap.size, 0, none⟩ = some (.slice u1 u2 u3)) (hq : TD x (K + k) q) :
    TO w (wr.setCell ⟨w.heap.size, 0, none⟩ (.slice (some ⟨gq, 0, none⟩) nq cq)) x l gq 0 nq cq (K + k) q := by
  refine ⟨by simp [go_sem, hu], by simp [World.frozen?_setCell, h.fx], h.num.setCell (no_int_slice hu) _, hq, ?_, h.bel.setCell (Nat.le_refl _) _⟩
  refine h.own.kept (grown_set wr (World.grownBy.refl wr _) 0 _) (.inr fun e => ?_)
  have := h.own.blk _ e
  omega
theorem TO.go {w wr w' : World} {x : Nat} {l : Value} {gb o n cap K y : Nat} (h : TO w wr x l gb o n cap K y) (hb : Below wr.heap.size wr w') : TO w w' x l gb o n cap K y :=
  ⟨cell_later hb h.cx, (hb.frozen (World.block_lt_of_cell? _ _ h.cx)).trans h.fx, h.num.mono hb, h.td, h.own.below hb, bel_go h.bel hb⟩
/-- The inner loop begins. -/
theorem TO.start {w w2 w3 : World} {x : Nat} {l : Value} {gb o n cap K y k3 : Nat} (h : TO w w2 x l gb o n cap K y) (hb : Below w2.heap.size w2 w3) (hv : RNat w3 (.agg #[.slice (some ⟨w2.heap.size + 1 + 1, 0, none⟩) k3 n]) (y / 1000000000)) (t : TypeId) :
    TI w (w3.alloc (.cells #[.slice (some ⟨w2.heap.size + 1 + 1, 0, none⟩) k3 n] t)) x l w3.heap.size (w2.heap.size + 1 + 1) k3 n K 0 (y / 1000000000) (y % 1000000000) := by
  have h3 := h.go hb
  have h4 := h3.go (bel_al (bel_refl w3) (o := .cells #[.slice (some ⟨w2.heap.size + 1 + 1, 0, none⟩) k3 n] t))
  have own2 : ∀ g, l.ownBlock = some g → g < w2.heap.size := fun g e => by
    rcases h.own with ⟨rfl, _⟩ | ⟨g', cap', f, rfl, _, _, _, hr, _⟩
    · cases e
    · cases e
      exact hr.lt
  have hs2 := hb.size
  refine ⟨⟨(some ⟨gb, o, none⟩, n, cap), h4.cx⟩, h4.fx, by simp [go_sem], hv.mono (bel_al (bel_refl w3)), ?_, Nat.mod_lt _ (by decide), h4.own, fun g e => ?_, h4.bel⟩
  · show TD x (K + 0) (y / 1000000000 * 10 ^ 9 + y % 1000000000)
    rw [show y / 1000000000 * 10 ^ 9 + y % 1000000000 = y by have := Nat.div_add_mod y 1000000000; omega]
    exact h.td
  · have := own2 g e
    exact ⟨fun _ => by omega, by omega⟩
theorem OR.at {w : World} {e : TypeId} {base n : Nat} {v : Value} {G : Nat → Value} (h : OR w e base v n G) (hn : n ≠ 0) : ∃ g c, v = .slice (some ⟨g, 0, none⟩) n c ∧ ∀ i, i < n → w.cell? ⟨g, i, none⟩ = some (G i) := by
  rcases h with ⟨_, e⟩ | ⟨g, cap, f, rfl, _, hc, _, hr, hf⟩
  · exact absurd e hn
  · exact ⟨g, cap, rfl, fun i hi => by rw [hr.cell (show i < cap by omega), hf i hi]⟩
end Go.Proofs.YtmiiaomdenpceaaGreatDoor


