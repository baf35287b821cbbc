/- math/bits.Div64 over the program. -/
import Derived.Test.YtekigmkepfhdhaaDigM
namespace Go.Proofs.Ytekigmkepfhdhaa
open Go.RowKit
set_option maxRecDepth 100000
set_option linter.unusedVariables false
set_option maxHeartbeats 1000000 in
theorem div64_small (lo y : Nat) (w : World) (hl : lo < 18446744073709551616) (hy : y < 18446744073709551616) (hy0 : 0 < y) :
    Calls Try.prog 68 #[.int .u64 0, .int .u64 (lo : Int), .int .u64 (y : Int)] w fun e w' => e = .returned (.tuple #[.int .u64 ((lo / y : Nat) : Int), .int .u64 ((lo % y : Nat) : Int)]) ∧ ∃ n, w' = w.drewN n := by
  have h0 : ((y : Int) == 0) = false := by simp <;> omega
  have h1 : decide ((y : Int) ≤ 0) = false := decide_eq_false (by omega)
  have h2 : ¬ (y : Int) = 0 := by omega
  go_enter Try.func68, Try.ntmps68
  go_wp2_with fail
  go_region
  go_wp2_with fail
  go_ret2
  have e1 : ((lo / y : Nat) : Int) = (lo : Int) / (y : Int) := by simp
  have e2 : IntKind.u64.wrap ((lo : Int) / (y : Int)) = ((lo / y : Nat) : Int) := by rw [← e1]; exact wrapU_nat _ (Nat.lt_of_le_of_lt (Nat.div_le_self _ _) hl)
  exact ⟨by simp [e2], 1, rfl⟩
theorem lz64_s (y s : Nat) (w : World) (hy : y < 18446744073709551616) (hs : s = 64 - bitLen y) : Calls Try.prog 51 #[.int .u64 (y : Int)] w fun e w' => e = .returned (.int .i64 (s : Int)) ∧ w' = w := by
  rw [hs]
  exact lz64_any y w hy
theorem wrap_quo (A y1 : Nat) (hA : A < 18446744073709551616) : IntKind.u64.wrap ((A : Int) / (y1 : Int)) = ((A / y1 : Nat) : Int) := by
  have e1 : ((A / y1 : Nat) : Int) = (A : Int) / (y1 : Int) := by simp
  rw [← e1]
  exact wrapU_nat _ (Nat.lt_of_le_of_lt (Nat.div_le_self _ _) hA)
theorem wrap_rem (A y1 : Nat) (hA : A < 18446744073709551616) : IntKind.u64.wrap ((A : Int) - IntKind.u64.wrap (((A / y1 : Nat) : Int) * (y1 : Int))) = ((A % y1 : Nat) : Int) := by
  have h1 := Nat.div_add_mod A y1
  rw [Nat.mul_comm] at h1
  have e : ((A / y1 : Nat) : Int) * (y1 : Int) = ((A / y1 * y1 : Nat) : Int) := (Int.natCast_mul ..).symm
  rw [e]
  simp only [IntKind.wrap_u64]
  omega
theorem wrap_mul (a b : Nat) (ha : a < 4294967296) (hb : b < 4294967296) : IntKind.u64.wrap ((a : Int) * (b : Int)) = (a : Int) * (b : Int) := by
  have e : (a : Int) * (b : Int) = ((a * b : Nat) : Int) := (Int.natCast_mul ..).symm
  have h : a * b ≤ 4294967295 * 4294967295 := Nat.mul_le_mul (by omega) (by omega)
  rw [e]
  exact wrapU_nat _ (by omega)
theorem lt_cast {t u g y : Nat} (h : t * 4294967296 + u < g * y) : (4294967296 : Int) * (t : Int) + (u : Int) < (g : Int) * (y : Int) := by
  have e : (g : Int) * (y : Int) = ((g * y : Nat) : Int) := (Int.natCast_mul ..).symm
  rw [e]
  omega
theorem not_lt_cast {t u g y : Nat} (h : ¬ t * 4294967296 + u < g * y) : ¬ (4294967296 : Int) * (t : Int) + (u : Int) < (g : Int) * (y : Int) := by
  have e : (g : Int) * (y : Int) = ((g * y : Nat) : Int) := (Int.natCast_mul ..).symm
  rw [e]
  omega
theorem div_fin {a b d R s x y : Nat} (ha : a = x) (hb : b = y) (hR : R = d) : Ending.returned (.tuple #[.int .u64 ((a : Int) * 4294967296 + (b : Int)), .int .u64 ((R : Int) / 2 ^ s)]) = .returned (.tuple #[.int .u64 ((x * 4294967296 + y : Nat) : Int), .int .u64 ((d / 2 ^ s : Nat) : Int)]) := by
  subst ha hb hR
  rw [div_int, show ((a * 4294967296 + b : Nat) : Int) = (a : Int) * 4294967296 + (b : Int) by omega]
set_option maxHeartbeats 4000000 in
theorem div64_core (hi lo y s Y y1 y0 A L u1 u0 q r A2 q2 r2 : Nat) (w : World) (hh0 : 0 < hi) (hhy : hi < y) (hl : lo < 18446744073709551616) (hy : y < 18446744073709551616) (hs : s = 64 - bitLen y) (hs' : s ≤ 63)
    (e1 : IntKind.u64.wrap ((y : Int) * 2 ^ s) = (Y : Int)) (e2 : (Y : Int) / 4294967296 = (y1 : Int)) (e3 : bits .and .u64 (Y : Int) 4294967295 = (y0 : Int))
    (e4 : bits .or .u64 (IntKind.u64.wrap ((hi : Int) * 2 ^ s)) ((lo : Int) / 2 ^ (64 - s)) = (A : Int)) (e5 : IntKind.u64.wrap ((lo : Int) * 2 ^ s) = (L : Int)) (e6 : (L : Int) / 4294967296 = (u1 : Int)) (e7 : bits .and .u64 (L : Int) 4294967295 = (u0 : Int))
    (e8 : IntKind.u64.wrap ((A : Int) / (y1 : Int)) = (q : Int)) (e9 : IntKind.u64.wrap ((A : Int) - IntKind.u64.wrap ((q : Int) * (y1 : Int))) = (r : Int))
    (hY : Hid (Y = y1 * 4294967296 + y0 ∧ A < Y ∧ Y < 18446744073709551616 ∧ A2 = (A * 4294967296 + u1) % Y ∧ Dig A u1 Y y1 q r ∧ Dig A2 u0 Y y1 q2 r2)) (hy0 : y0 < 4294967296) (hy1 : 0 < y1) (hy1' : y1 < 4294967296) (hu1 : u1 < 4294967296) (hu0 : u0 < 4294967296) (hr : r < 4294967296) (hr2 : r2 < 4294967296) (hqq : q < 18446744073709551616) (hqq2 : q2 < 18446744073709551616)
    (e10 : IntKind.u64.wrap ((A2 : Int) / (y1 : Int)) = (q2 : Int)) (e11 : IntKind.u64.wrap ((A2 : Int) - IntKind.u64.wrap ((q2 : Int) * (y1 : Int))) = (r2 : Int)) :
    Calls Try.prog 68 #[.int .u64 (hi : Int), .int .u64 (lo : Int), .int .u64 (y : Int)] w fun e w' => e = .returned (.tuple #[.int .u64 (((A * 4294967296 + u1) / Y * 4294967296 + (A2 * 4294967296 + u0) / Y : Nat) : Int), .int .u64 (((A2 * 4294967296 + u0) % Y / 2 ^ s : Nat) : Int)]) ∧ w' = w := by
  have h0 : ((y : Int) == 0) = false := by simp <;> omega
  have h1 : decide ((y : Int) ≤ (hi : Int)) = false := decide_eq_false (by omega)
  have h2 : ((hi : Int) == 0) = false := by simp <;> omega
  have hyn : ((y1 : Int) == 0) = false := by simp <;> omega
  have hyn' : ¬ (y1 : Int) = 0 := by omega
  have HS : Hid _ := hs
  clear hs
  go_enter Try.func68, Try.ntmps68
  go_wp2_with fail
  refine (lz64_s y s _ hy HS.out).mono ?_
  rintro e w1 ⟨rfl, rfl⟩
  go_wp2_with fail
  have HA2 : Hid (A2 < Y) := by show A2 < Y; rw [hY.out.2.2.2.1]; exact Nat.mod_lt _ (by have := hY.out.2.1; omega)
  go_loop [15, 16] (fun a c => ∃ (ga ta : Nat), a = .int .u64 ((ga : Nat) : Int) ∧ c = .int .u64 ((ta : Nat) : Int) ∧ ta < 4294967296 ∧ ga < 18446744073709551616 ∧ Hid (Dig A u1 Y y1 ga ta)) (fun a _ => (intOf a).toNat)
  case atStart => exact ⟨q, r, rfl, rfl, hr, hqq, hY.out.2.2.2.2.1⟩
  case round =>
    obtain ⟨ga, ta, rfl, rfl, hta, hga, HDa⟩ := hrel
    by_cases hba : 4294967296 ≤ ga
    · obtain ⟨hpa, HNa⟩ := HDa.out.step hY.out.1 hY.out.2.1 hu1 (.inl hba)
      have dba : decide ((4294967296 : Int) ≤ ((ga : Nat) : Int)) = true := decide_eq_true (by omega)
      obtain ⟨va, hva⟩ : ∃ v, v = ga - 1 := ⟨_, rfl⟩
      have eva : ((ga : Nat) : Int) - 1 = ((va : Nat) : Int) := by omega
      have vla : va < 18446744073709551616 := by omega
      have HMa : Hid (Dig A u1 Y y1 va (ta + y1) ∧ va < ga) := ⟨by rw [hva]; exact HNa, by omega⟩
      clear HNa hva hba
      by_cases hra : 4294967296 ≤ ta + y1
      · have dra : decide ((4294967296 : Int) ≤ ((ta : Nat) : Int) + (y1 : Int)) = true := decide_eq_true (by omega)
        have HQa : Hid (va = (A * 4294967296 + u1) / Y) := HMa.out.1.broke hY.out.1 hY.out.2.1 hy0 hra
        have hqa : (va : Int) < 4294967296 := by have := dig_lt hY.out.2.1 hu1; rw [← HQa.out] at this; omega
        clear hra
        have e12 : IntKind.u64.wrap (IntKind.u64.wrap (IntKind.u64.wrap ((A : Int) * 4294967296) + (u1 : Int)) - IntKind.u64.wrap (((va : Nat) : Int) * (Y : Int))) = (A2 : Int) := by rw [rest_wrap HQa.out hY.out.2.2.1 hY.out.2.1, ← hY.out.2.2.2.1]
        go_wp2_with fail
        go_loop [18, 16] (fun a c => ∃ (gb tb : Nat), a = .int .u64 ((gb : Nat) : Int) ∧ c = .int .u64 ((tb : Nat) : Int) ∧ tb < 4294967296 ∧ gb < 18446744073709551616 ∧ Hid (Dig A2 u0 Y y1 gb tb)) (fun a _ => (intOf a).toNat)
        case atStart => exact ⟨q2, r2, rfl, rfl, hr2, hqq2, hY.out.2.2.2.2.2⟩
        case round =>
          obtain ⟨gb, tb, rfl, rfl, htb, hgb, HDb⟩ := hrel
          by_cases hbb : 4294967296 ≤ gb
          · obtain ⟨hpb, HNb⟩ := HDb.out.step hY.out.1 HA2.out hu0 (.inl hbb)
            have dbb : decide ((4294967296 : Int) ≤ ((gb : Nat) : Int)) = true := decide_eq_true (by omega)
            obtain ⟨vb, hvb⟩ : ∃ v, v = gb - 1 := ⟨_, rfl⟩
            have evb : ((gb : Nat) : Int) - 1 = ((vb : Nat) : Int) := by omega
            have vlb : vb < 18446744073709551616 := by omega
            have HMb : Hid (Dig A2 u0 Y y1 vb (tb + y1) ∧ vb < gb) := ⟨by rw [hvb]; exact HNb, by omega⟩
            clear HNb hvb hbb
            by_cases hrb : 4294967296 ≤ tb + y1
            · have drb : decide ((4294967296 : Int) ≤ ((tb : Nat) : Int) + (y1 : Int)) = true := decide_eq_true (by omega)
              have HQb : Hid (vb = (A2 * 4294967296 + u0) / Y) := HMb.out.1.broke hY.out.1 HA2.out hy0 hrb
              have hqb : (vb : Int) < 4294967296 := by have := dig_lt HA2.out hu0; rw [← HQb.out] at this; omega
              clear hrb
              have e13 : IntKind.u64.wrap (IntKind.u64.wrap (IntKind.u64.wrap ((A2 : Int) * 4294967296) + (u0 : Int)) - IntKind.u64.wrap (((vb : Nat) : Int) * (Y : Int))) = (((A2 * 4294967296 + u0) % Y : Nat) : Int) := rest_wrap HQb.out hY.out.2.2.1 HA2.out
              obtain ⟨R, hR⟩ : ∃ R, R = (A2 * 4294967296 + u0) % Y := ⟨_, rfl⟩
              rw [← hR] at e13
              have HR : Hid _ := hR
              clear hR
              go_wp2_with fail
              go_ret2
              exact ⟨div_fin HQa.out HQb.out HR.out, rfl⟩
            · have drb : decide ((4294967296 : Int) ≤ ((tb : Nat) : Int) + (y1 : Int)) = false := decide_eq_false (by omega)
              have hr'b : tb + y1 < 4294967296 := by omega
              clear hrb
              go_wp2_with fail
              go_round
              case rel => exact ⟨vb, tb + y1, rfl, by go_num, hr'b, by omega, HMb.out.1⟩
              case measure => simp [intOf]; have := HMb.out.2; omega
          · by_cases hcb : tb * 4294967296 + u0 < gb * y0
            · obtain ⟨hpb, HNb⟩ := HDb.out.step hY.out.1 HA2.out hu0 (.inr hcb)
              have dbb : decide ((4294967296 : Int) ≤ ((gb : Nat) : Int)) = false := decide_eq_false (by omega)
              have mmb : IntKind.u64.wrap (((gb : Nat) : Int) * (y0 : Int)) = ((gb : Nat) : Int) * (y0 : Int) := wrap_mul _ _ (by omega) (by omega)
              have dcb : decide ((4294967296 : Int) * ((tb : Nat) : Int) + (u0 : Int) < ((gb : Nat) : Int) * (y0 : Int)) = true := decide_eq_true (lt_cast hcb)
              obtain ⟨vb, hvb⟩ : ∃ v, v = gb - 1 := ⟨_, rfl⟩
              have evb : ((gb : Nat) : Int) - 1 = ((vb : Nat) : Int) := by omega
              have vlb : vb < 18446744073709551616 := by omega
              have HMb : Hid (Dig A2 u0 Y y1 vb (tb + y1) ∧ vb < gb) := ⟨by rw [hvb]; exact HNb, by omega⟩
              clear HNb hvb hbb hcb
              by_cases hrb : 4294967296 ≤ tb + y1
              · have drb : decide ((4294967296 : Int) ≤ ((tb : Nat) : Int) + (y1 : Int)) = true := decide_eq_true (by omega)
                have HQb : Hid (vb = (A2 * 4294967296 + u0) / Y) := HMb.out.1.broke hY.out.1 HA2.out hy0 hrb
                have hqb : (vb : Int) < 4294967296 := by have := dig_lt HA2.out hu0; rw [← HQb.out] at this; omega
                clear hrb
                have e13 : IntKind.u64.wrap (IntKind.u64.wrap (IntKind.u64.wrap ((A2 : Int) * 4294967296) + (u0 : Int)) - IntKind.u64.wrap (((vb : Nat) : Int) * (Y : Int))) = (((A2 * 4294967296 + u0) % Y : Nat) : Int) := rest_wrap HQb.out hY.out.2.2.1 HA2.out
                obtain ⟨R, hR⟩ : ∃ R, R = (A2 * 4294967296 + u0) % Y := ⟨_, rfl⟩
                rw [← hR] at e13
                have HR : Hid _ := hR
                clear hR
                go_wp2_with fail
                go_ret2
                exact ⟨div_fin HQa.out HQb.out HR.out, rfl⟩
              · have drb : decide ((4294967296 : Int) ≤ ((tb : Nat) : Int) + (y1 : Int)) = false := decide_eq_false (by omega)
                have hr'b : tb + y1 < 4294967296 := by omega
                clear hrb
                go_wp2_with fail
                go_round
                case rel => exact ⟨vb, tb + y1, rfl, by go_num, hr'b, by omega, HMb.out.1⟩
                case measure => simp [intOf]; have := HMb.out.2; omega
            · have dbb : decide ((4294967296 : Int) ≤ ((gb : Nat) : Int)) = false := decide_eq_false (by omega)
              have mmb : IntKind.u64.wrap (((gb : Nat) : Int) * (y0 : Int)) = ((gb : Nat) : Int) * (y0 : Int) := wrap_mul _ _ (by omega) (by omega)
              have dcb : decide ((4294967296 : Int) * ((tb : Nat) : Int) + (u0 : Int) < ((gb : Nat) : Int) * (y0 : Int)) = false := decide_eq_false (not_lt_cast hcb)
              have HQb : Hid (gb = (A2 * 4294967296 + u0) / Y) := HDb.out.done hY.out.1 HA2.out (by omega)
              have hqb : (gb : Int) < 4294967296 := by omega
              clear hcb hbb
              have e13 : IntKind.u64.wrap (IntKind.u64.wrap (IntKind.u64.wrap ((A2 : Int) * 4294967296) + (u0 : Int)) - IntKind.u64.wrap (((gb : Nat) : Int) * (Y : Int))) = (((A2 * 4294967296 + u0) % Y : Nat) : Int) := rest_wrap HQb.out hY.out.2.2.1 HA2.out
              obtain ⟨R, hR⟩ : ∃ R, R = (A2 * 4294967296 + u0) % Y := ⟨_, rfl⟩
              rw [← hR] at e13
              have HR : Hid _ := hR
              clear hR
              go_wp2_with fail
              go_ret2
              exact ⟨div_fin HQa.out HQb.out HR.out, rfl⟩
      · have dra : decide ((4294967296 : Int) ≤ ((ta : Nat) : Int) + (y1 : Int)) = false := decide_eq_false (by omega)
        have hr'a : ta + y1 < 4294967296 := by omega
        clear hra
        go_wp2_with fail
        go_round
        case rel => exact ⟨va, ta + y1, rfl, by go_num, hr'a, by omega, HMa.out.1⟩
        case measure => simp [intOf]; have := HMa.out.2; omega
    · by_cases hca : ta * 4294967296 + u1 < ga * y0
      · obtain ⟨hpa, HNa⟩ := HDa.out.step hY.out.1 hY.out.2.1 hu1 (.inr hca)
        have dba : decide ((4294967296 : Int) ≤ ((ga : Nat) : Int)) = false := decide_eq_false (by omega)
        have mma : IntKind.u64.wrap (((ga : Nat) : Int) * (y0 : Int)) = ((ga : Nat) : Int) * (y0 : Int) := wrap_mul _ _ (by omega) (by omega)
        have dca : decide ((4294967296 : Int) * ((ta : Nat) : Int) + (u1 : Int) < ((ga : Nat) : Int) * (y0 : Int)) = true := decide_eq_true (lt_cast hca)
        obtain ⟨va, hva⟩ : ∃ v, v = ga - 1 := ⟨_, rfl⟩
        have eva : ((ga : Nat) : Int) - 1 = ((va : Nat) : Int) := by omega
        have vla : va < 18446744073709551616 := by omega
        have HMa : Hid (Dig A u1 Y y1 va (ta + y1) ∧ va < ga) := ⟨by rw [hva]; exact HNa, by omega⟩
        clear HNa hva hba hca
        by_cases hra : 4294967296 ≤ ta + y1
        · have dra : decide ((4294967296 : Int) ≤ ((ta : Nat) : Int) + (y1 : Int)) = true := decide_eq_true (by omega)
          have HQa : Hid (va = (A * 4294967296 + u1) / Y) := HMa.out.1.broke hY.out.1 hY.out.2.1 hy0 hra
          have hqa : (va : Int) < 4294967296 := by have := dig_lt hY.out.2.1 hu1; rw [← HQa.out] at this; omega
          clear hra
          have e12 : IntKind.u64.wrap (IntKind.u64.wrap (IntKind.u64.wrap ((A : Int) * 4294967296) + (u1 : Int)) - IntKind.u64.wrap (((va : Nat) : Int) * (Y : Int))) = (A2 : Int) := by rw [rest_wrap HQa.out hY.out.2.2.1 hY.out.2.1, ← hY.out.2.2.2.1]
          go_wp2_with fail
          go_loop [18, 16] (fun a c => ∃ (gb tb : Nat), a = .int .u64 ((gb : Nat) : Int) ∧ c = .int .u64 ((tb : Nat) : Int) ∧ tb < 4294967296 ∧ gb < 18446744073709551616 ∧ Hid (Dig A2 u0 Y y1 gb tb)) (fun a _ => (intOf a).toNat)
          case atStart => exact ⟨q2, r2, rfl, rfl, hr2, hqq2, hY.out.2.2.2.2.2⟩
          case round =>
            obtain ⟨gb, tb, rfl, rfl, htb, hgb, HDb⟩ := hrel
            by_cases hbb : 4294967296 ≤ gb
            · obtain ⟨hpb, HNb⟩ := HDb.out.step hY.out.1 HA2.out hu0 (.inl hbb)
              have dbb : decide ((4294967296 : Int) ≤ ((gb : Nat) : Int)) = true := decide_eq_true (by omega)
              obtain ⟨vb, hvb⟩ : ∃ v, v = gb - 1 := ⟨_, rfl⟩
              have evb : ((gb : Nat) : Int) - 1 = ((vb : Nat) : Int) := by omega
              have vlb : vb < 18446744073709551616 := by omega
              have HMb : Hid (Dig A2 u0 Y y1 vb (tb + y1) ∧ vb < gb) := ⟨by rw [hvb]; exact HNb, by omega⟩
              clear HNb hvb hbb
              by_cases hrb : 4294967296 ≤ tb + y1
              · have drb : decide ((4294967296 : Int) ≤ ((tb : Nat) : Int) + (y1 : Int)) = true := decide_eq_true (by omega)
                have HQb : Hid (vb = (A2 * 4294967296 + u0) / Y) := HMb.out.1.broke hY.out.1 HA2.out hy0 hrb
                have hqb : (vb : Int) < 4294967296 := by have := dig_lt HA2.out hu0; rw [← HQb.out] at this; omega
                clear hrb
                have e13 : IntKind.u64.wrap (IntKind.u64.wrap (IntKind.u64.wrap ((A2 : Int) * 4294967296) + (u0 : Int)) - IntKind.u64.wrap (((vb : Nat) : Int) * (Y : Int))) = (((A2 * 4294967296 + u0) % Y : Nat) : Int) := rest_wrap HQb.out hY.out.2.2.1 HA2.out
                obtain ⟨R, hR⟩ : ∃ R, R = (A2 * 4294967296 + u0) % Y := ⟨_, rfl⟩
                rw [← hR] at e13
                have HR : Hid _ := hR
                clear hR
                go_wp2_with fail
                go_ret2
                exact ⟨div_fin HQa.out HQb.out HR.out, rfl⟩
              · have drb : decide ((4294967296 : Int) ≤ ((tb : Nat) : Int) + (y1 : Int)) = false := decide_eq_false (by omega)
                have hr'b : tb + y1 < 4294967296 := by omega
                clear hrb
                go_wp2_with fail
                go_round
                case rel => exact ⟨vb, tb + y1, rfl, by go_num, hr'b, by omega, HMb.out.1⟩
                case measure => simp [intOf]; have := HMb.out.2; omega
            · by_cases hcb : tb * 4294967296 + u0 < gb * y0
              · obtain ⟨hpb, HNb⟩ := HDb.out.step hY.out.1 HA2.out hu0 (.inr hcb)
                have dbb : decide ((4294967296 : Int) ≤ ((gb : Nat) : Int)) = false := decide_eq_false (by omega)
                have mmb : IntKind.u64.wrap (((gb : Nat) : Int) * (y0 : Int)) = ((gb : Nat) : Int) * (y0 : Int) := wrap_mul _ _ (by omega) (by omega)
                have dcb : decide ((4294967296 : Int) * ((tb : Nat) : Int) + (u0 : Int) < ((gb : Nat) : Int) * (y0 : Int)) = true := decide_eq_true (lt_cast hcb)
                obtain ⟨vb, hvb⟩ : ∃ v, v = gb - 1 := ⟨_, rfl⟩
                have evb : ((gb : Nat) : Int) - 1 = ((vb : Nat) : Int) := by omega
                have vlb : vb < 18446744073709551616 := by omega
                have HMb : Hid (Dig A2 u0 Y y1 vb (tb + y1) ∧ vb < gb) := ⟨by rw [hvb]; exact HNb, by omega⟩
                clear HNb hvb hbb hcb
                by_cases hrb : 4294967296 ≤ tb + y1
                · have drb : decide ((4294967296 : Int) ≤ ((tb : Nat) : Int) + (y1 : Int)) = true := decide_eq_true (by omega)
                  have HQb : Hid (vb = (A2 * 4294967296 + u0) / Y) := HMb.out.1.broke hY.out.1 HA2.out hy0 hrb
                  have hqb : (vb : Int) < 4294967296 := by have := dig_lt HA2.out hu0; rw [← HQb.out] at this; omega
                  clear hrb
                  have e13 : IntKind.u64.wrap (IntKind.u64.wrap (IntKind.u64.wrap ((A2 : Int) * 4294967296) + (u0 : Int)) - IntKind.u64.wrap (((vb : Nat) : Int) * (Y : Int))) = (((A2 * 4294967296 + u0) % Y : Nat) : Int) := rest_wrap HQb.out hY.out.2.2.1 HA2.out
                  obtain ⟨R, hR⟩ : ∃ R, R = (A2 * 4294967296 + u0) % Y := ⟨_, rfl⟩
                  rw [← hR] at e13
                  have HR : Hid _ := hR
                  clear hR
                  go_wp2_with fail
                  go_ret2
                  exact ⟨div_fin HQa.out HQb.out HR.out, rfl⟩
                · have drb : decide ((4294967296 : Int) ≤ ((tb : Nat) : Int) + (y1 : Int)) = false := decide_eq_false (by omega)
                  have hr'b : tb + y1 < 4294967296 := by omega
                  clear hrb
                  go_wp2_with fail
                  go_round
                  case rel => exact ⟨vb, tb + y1, rfl, by go_num, hr'b, by omega, HMb.out.1⟩
                  case measure => simp [intOf]; have := HMb.out.2; omega
              · have dbb : decide ((4294967296 : Int) ≤ ((gb : Nat) : Int)) = false := decide_eq_false (by omega)
                have mmb : IntKind.u64.wrap (((gb : Nat) : Int) * (y0 : Int)) = ((gb : Nat) : Int) * (y0 : Int) := wrap_mul _ _ (by omega) (by omega)
                have dcb : decide ((4294967296 : Int) * ((tb : Nat) : Int) + (u0 : Int) < ((gb : Nat) : Int) * (y0 : Int)) = false := decide_eq_false (not_lt_cast hcb)
                have HQb : Hid (gb = (A2 * 4294967296 + u0) / Y) := HDb.out.done hY.out.1 HA2.out (by omega)
                have hqb : (gb : Int) < 4294967296 := by omega
                clear hcb hbb
                have e13 : IntKind.u64.wrap (IntKind.u64.wrap (IntKind.u64.wrap ((A2 : Int) * 4294967296) + (u0 : Int)) - IntKind.u64.wrap (((gb : Nat) : Int) * (Y : Int))) = (((A2 * 4294967296 + u0) % Y : Nat) : Int) := rest_wrap HQb.out hY.out.2.2.1 HA2.out
                obtain ⟨R, hR⟩ : ∃ R, R = (A2 * 4294967296 + u0) % Y := ⟨_, rfl⟩
                rw [← hR] at e13
                have HR : Hid _ := hR
                clear hR
                go_wp2_with fail
                go_ret2
                exact ⟨div_fin HQa.out HQb.out HR.out, rfl⟩
        · have dra : decide ((4294967296 : Int) ≤ ((ta : Nat) : Int) + (y1 : Int)) = false := decide_eq_false (by omega)
          have hr'a : ta + y1 < 4294967296 := by omega
          clear hra
          go_wp2_with fail
          go_round
          case rel => exact ⟨va, ta + y1, rfl, by go_num, hr'a, by omega, HMa.out.1⟩
          case measure => simp [intOf]; have := HMa.out.2; omega
      · have dba : decide ((4294967296 : Int) ≤ ((ga : Nat) : Int)) = false := decide_eq_false (by omega)
        have mma : IntKind.u64.wrap (((ga : Nat) : Int) * (y0 : Int)) = ((ga : Nat) : Int) * (y0 : Int) := wrap_mul _ _ (by omega) (by omega)
        have dca : decide ((4294967296 : Int) * ((ta : Nat) : Int) + (u1 : Int) < ((ga : Nat) : Int) * (y0 : Int)) = false := decide_eq_false (not_lt_cast hca)
        have HQa : Hid (ga = (A * 4294967296 + u1) / Y) := HDa.out.done hY.out.1 hY.out.2.1 (by omega)
        have hqa : (ga : Int) < 4294967296 := by omega
        clear hca hba
        have e12 : IntKind.u64.wrap (IntKind.u64.wrap (IntKind.u64.wrap ((A : Int) * 4294967296) + (u1 : Int)) - IntKind.u64.wrap (((ga : Nat) : Int) * (Y : Int))) = (A2 : Int) := by rw [rest_wrap HQa.out hY.out.2.2.1 hY.out.2.1, ← hY.out.2.2.2.1]
        go_wp2_with fail
        go_loop [18, 16] (fun a c => ∃ (gb tb : Nat), a = .int .u64 ((gb : Nat) : Int) ∧ c = .int .u64 ((tb : Nat) : Int) ∧ tb < 4294967296 ∧ gb < 18446744073709551616 ∧ Hid (Dig A2 u0 Y y1 gb tb)) (fun a _ => (intOf a).toNat)
        case atStart => exact ⟨q2, r2, rfl, rfl, hr2, hqq2, hY.out.2.2.2.2.2⟩
        case round =>
          obtain ⟨gb, tb, rfl, rfl, htb, hgb, HDb⟩ := hrel
          by_cases hbb : 4294967296 ≤ gb
          · obtain ⟨hpb, HNb⟩ := HDb.out.step hY.out.1 HA2.out hu0 (.inl hbb)
            have dbb : decide ((4294967296 : Int) ≤ ((gb : Nat) : Int)) = true := decide_eq_true (by omega)
            obtain ⟨vb, hvb⟩ : ∃ v, v = gb - 1 := ⟨_, rfl⟩
            have evb : ((gb : Nat) : Int) - 1 = ((vb : Nat) : Int) := by omega
            have vlb : vb < 18446744073709551616 := by omega
            have HMb : Hid (Dig A2 u0 Y y1 vb (tb + y1) ∧ vb < gb) := ⟨by rw [hvb]; exact HNb, by omega⟩
            clear HNb hvb hbb
            by_cases hrb : 4294967296 ≤ tb + y1
            · have drb : decide ((4294967296 : Int) ≤ ((tb : Nat) : Int) + (y1 : Int)) = true := decide_eq_true (by omega)
              have HQb : Hid (vb = (A2 * 4294967296 + u0) / Y) := HMb.out.1.broke hY.out.1 HA2.out hy0 hrb
              have hqb : (vb : Int) < 4294967296 := by have := dig_lt HA2.out hu0; rw [← HQb.out] at this; omega
              clear hrb
              have e13 : IntKind.u64.wrap (IntKind.u64.wrap (IntKind.u64.wrap ((A2 : Int) * 4294967296) + (u0 : Int)) - IntKind.u64.wrap (((vb : Nat) : Int) * (Y : Int))) = (((A2 * 4294967296 + u0) % Y : Nat) : Int) := rest_wrap HQb.out hY.out.2.2.1 HA2.out
              obtain ⟨R, hR⟩ : ∃ R, R = (A2 * 4294967296 + u0) % Y := ⟨_, rfl⟩
              rw [← hR] at e13
              have HR : Hid _ := hR
              clear hR
              go_wp2_with fail
              go_ret2
              exact ⟨div_fin HQa.out HQb.out HR.out, rfl⟩
            · have drb : decide ((4294967296 : Int) ≤ ((tb : Nat) : Int) + (y1 : Int)) = false := decide_eq_false (by omega)
              have hr'b : tb + y1 < 4294967296 := by omega
              clear hrb
              go_wp2_with fail
              go_round
              case rel => exact ⟨vb, tb + y1, rfl, by go_num, hr'b, by omega, HMb.out.1⟩
              case measure => simp [intOf]; have := HMb.out.2; omega
          · by_cases hcb : tb * 4294967296 + u0 < gb * y0
            · obtain ⟨hpb, HNb⟩ := HDb.out.step hY.out.1 HA2.out hu0 (.inr hcb)
              have dbb : decide ((4294967296 : Int) ≤ ((gb : Nat) : Int)) = false := decide_eq_false (by omega)
              have mmb : IntKind.u64.wrap (((gb : Nat) : Int) * (y0 : Int)) = ((gb : Nat) : Int) * (y0 : Int) := wrap_mul _ _ (by omega) (by omega)
              have dcb : decide ((4294967296 : Int) * ((tb : Nat) : Int) + (u0 : Int) < ((gb : Nat) : Int) * (y0 : Int)) = true := decide_eq_true (lt_cast hcb)
              obtain ⟨vb, hvb⟩ : ∃ v, v = gb - 1 := ⟨_, rfl⟩
              have evb : ((gb : Nat) : Int) - 1 = ((vb : Nat) : Int) := by omega
              have vlb : vb < 18446744073709551616 := by omega
              have HMb : Hid (Dig A2 u0 Y y1 vb (tb + y1) ∧ vb < gb) := ⟨by rw [hvb]; exact HNb, by omega⟩
              clear HNb hvb hbb hcb
              by_cases hrb : 4294967296 ≤ tb + y1
              · have drb : decide ((4294967296 : Int) ≤ ((tb : Nat) : Int) + (y1 : Int)) = true := decide_eq_true (by omega)
                have HQb : Hid (vb = (A2 * 4294967296 + u0) / Y) := HMb.out.1.broke hY.out.1 HA2.out hy0 hrb
                have hqb : (vb : Int) < 4294967296 := by have := dig_lt HA2.out hu0; rw [← HQb.out] at this; omega
                clear hrb
                have e13 : IntKind.u64.wrap (IntKind.u64.wrap (IntKind.u64.wrap ((A2 : Int) * 4294967296) + (u0 : Int)) - IntKind.u64.wrap (((vb : Nat) : Int) * (Y : Int))) = (((A2 * 4294967296 + u0) % Y : Nat) : Int) := rest_wrap HQb.out hY.out.2.2.1 HA2.out
                obtain ⟨R, hR⟩ : ∃ R, R = (A2 * 4294967296 + u0) % Y := ⟨_, rfl⟩
                rw [← hR] at e13
                have HR : Hid _ := hR
                clear hR
                go_wp2_with fail
                go_ret2
                exact ⟨div_fin HQa.out HQb.out HR.out, rfl⟩
              · have drb : decide ((4294967296 : Int) ≤ ((tb : Nat) : Int) + (y1 : Int)) = false := decide_eq_false (by omega)
                have hr'b : tb + y1 < 4294967296 := by omega
                clear hrb
                go_wp2_with fail
                go_round
                case rel => exact ⟨vb, tb + y1, rfl, by go_num, hr'b, by omega, HMb.out.1⟩
                case measure => simp [intOf]; have := HMb.out.2; omega
            · have dbb : decide ((4294967296 : Int) ≤ ((gb : Nat) : Int)) = false := decide_eq_false (by omega)
              have mmb : IntKind.u64.wrap (((gb : Nat) : Int) * (y0 : Int)) = ((gb : Nat) : Int) * (y0 : Int) := wrap_mul _ _ (by omega) (by omega)
              have dcb : decide ((4294967296 : Int) * ((tb : Nat) : Int) + (u0 : Int) < ((gb : Nat) : Int) * (y0 : Int)) = false := decide_eq_false (not_lt_cast hcb)
              have HQb : Hid (gb = (A2 * 4294967296 + u0) / Y) := HDb.out.done hY.out.1 HA2.out (by omega)
              have hqb : (gb : Int) < 4294967296 := by omega
              clear hcb hbb
              have e13 : IntKind.u64.wrap (IntKind.u64.wrap (IntKind.u64.wrap ((A2 : Int) * 4294967296) + (u0 : Int)) - IntKind.u64.wrap (((gb : Nat) : Int) * (Y : Int))) = (((A2 * 4294967296 + u0) % Y : Nat) : Int) := rest_wrap HQb.out hY.out.2.2.1 HA2.out
              obtain ⟨R, hR⟩ : ∃ R, R = (A2 * 4294967296 + u0) % Y := ⟨_, rfl⟩
              rw [← hR] at e13
              have HR : Hid _ := hR
              clear hR
              go_wp2_with fail
              go_ret2
              exact ⟨div_fin HQa.out HQb.out HR.out, rfl⟩
end Go.Proofs.Ytekigmkepfhdhaa
