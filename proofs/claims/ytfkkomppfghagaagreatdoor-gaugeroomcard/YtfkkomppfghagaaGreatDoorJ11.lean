/- Contracts of the program's functions, part 11: own work, joined in build order. -/
import Derived.Test.YtfkkomppfghagaaGreatDoorJ10
import Derived.ArgAppend
namespace Go.Proofs.YtfkkomppfghagaaGreatDoor
open Go.RowKit
set_option maxRecDepth 100000
set_option linter.unusedVariables false
theorem U_put (H : Nat → Nat) (q N e : Nat) (hq : q < N) : U (put H q e) N + H q * B q = U H N + e * B q := by
  obtain ⟨t, rfl⟩ : ∃ t, N = q + 1 + t := ⟨N - (q + 1), by omega⟩
  rw [U_split _ (q + 1), U_split H (q + 1), U_succ, U_succ, put_same, U_congr (F := put H q e) (G := H) (n := q) fun i hi => put_other _ _ (by omega),
    U_congr (F := fun i => put H q e (q + 1 + i)) (G := fun i => H (q + 1 + i)) fun i hi => put_other _ _ (by omega)]
  omega
theorem tm_le {f g h c : Nat} (hf : f < 4294967296) (hg : g < 4294967296) (hh : h < 4294967296) (hc : c < 4294967296) : f * g + h + c < 18446744073709551616 := by
  have : f * g ≤ 4294967295 * 4294967295 := Nat.mul_le_mul (by omega) (by omega)
  omega
theorem tm_eq {u' u h b s f g c T fb : Nat} (e1 : u' + h * b = u + s % 4294967296 * b) (hs : s = f * g + h + c) (e2 : u + c * b = T) (hfb : f * b * g = fb) : u' + s / 4294967296 * (b * 4294967296) = T + fb := by
  have h1 := Nat.div_add_mod s 4294967296
  have h2 : s * b = (4294967296 * (s / 4294967296) + s % 4294967296) * b := by rw [h1]
  have h3 : s * b = (f * g + h + c) * b := by rw [hs]
  grind
structure Tm (F : Nat → Nat) (n : Nat) (G : Nat → Nat) (m i k c : Nat) (H : Nat → Nat) : Prop where
  eq : U H (n + m) + c * B (i + k) = U F i * U G m + F i * B i * U G k
  dg : Dg H (n + m)
  top : ∀ j, i + m ≤ j → H j = 0
  car : c < 4294967296
theorem Tm.step {F G H : Nat → Nat} {n m i k c : Nat} (h : Tm F n G m i k c H) (hi : i < n) (hk : k < m) (hf : F i < 4294967296) (hg : G k < 4294967296) :
    Tm F n G m i (k + 1) ((F i * G k + H (i + k) + c) / 4294967296) (put H (i + k) ((F i * G k + H (i + k) + c) % 4294967296)) := by
  have hl := tm_le hf hg (h.dg (i + k) (by omega)) h.car
  refine ⟨?_, fun j hj => ?_, fun j hj => ?_, by omega⟩
  · rw [show i + (k + 1) = i + k + 1 by omega, B_succ, U_succ, Nat.mul_add, ← Nat.add_assoc]
    refine tm_eq (U_put H (i + k) (n + m) _ (by omega)) rfl h.eq ?_
    rw [B_add]
    grind
  · unfold put
    split
    · exact Nat.mod_lt _ (by decide)
    exact h.dg j hj
  rw [put_other _ _ (by omega)]
  exact h.top j hj
theorem Tm.next {F G H : Nat → Nat} {n m i c : Nat} (h : Tm F n G m i m c H) (hi : i < n) : Tm F n G m (i + 1) 0 0 (put H (i + m) c) := by
  refine ⟨?_, fun j hj => ?_, fun j hj => ?_, by omega⟩
  · have h1 := U_put H (i + m) (n + m) c (by omega)
    rw [h.top (i + m) (by omega)] at h1
    have h2 := h.eq
    rw [U_succ, U_zero]
    grind
  · unfold put
    split
    · exact h.car
    exact h.dg j hj
  rw [put_other _ _ (by omega)]
  exact h.top j (by omega)
set_option maxHeartbeats 2000000 in
theorem rtimes_any (v u : Value) (x y : Nat) (w : World) (h : RNat w v x) (k : RNat w u y) (hx : RFits x) (hy : RFits y) :
    Calls Tryz.prog 61 #[v, u] w (RMakes w (x * y)) := by
  obtain ⟨ax, n, cap, rfl⟩ := h.isAgg
  obtain ⟨ay, m, cap', rfl⟩ := k.isAgg
  obtain ⟨F, hs, hd, h1, hv⟩ := h.open
  obtain ⟨G, ks, kd, k1, kv⟩ := k.open
  have hn : n ≤ 4294967296 := rfits_len (hv.symm ▸ hx) h1
  have hm : m ≤ 4294967296 := rfits_len (kv.symm ▸ hy) k1
  have HH : Hid (Sl w ax n cap F ∧ Dg F n ∧ U F n = x ∧ Sl w ay m cap' G ∧ Dg G m ∧ U G m = y) := ⟨hs, hd, hv, ks, kd, kv⟩
  clear hs hd h1 hv ks kd k1 kv h k hx hy
  have mk := make_at ((n : Int) + (m : Int)) ((n : Int) + (m : Int)) (n + m) (n + m) (by omega) (by omega) (Nat.le_refl _) (by omega)
  go_enter Tryz.func61, Tryz.ntmps61
  go_wp2_with fail
  clear mk
  obtain ⟨w0, hw0⟩ : ∃ w0, w0 = (((w.alloc (.cells #[.slice ax n cap] 51)).alloc (.cells #[.slice ay m cap'] 51)).alloc (.cells #[.slice none 0 0] 51)).alloc (.cells (zeros (n + m)) 82) := ⟨_, rfl⟩
  have c1 : w0.cell? ⟨w.heap.size, 0, none⟩ = some (.slice ax n cap) := by rw [hw0]; simp [go_sem]
  have c2 : w0.cell? ⟨w.heap.size + 1, 0, none⟩ = some (.slice ay m cap') := by rw [hw0]; simp [go_sem]
  have c3 : w0.cell? ⟨w.heap.size + 1 + 1, 0, none⟩ = some (.slice none 0 0) := by rw [hw0]; simp [go_sem]
  have f3 : w0.frozen? ⟨w.heap.size + 1 + 1, 0, none⟩ = false := by rw [hw0]; simp [go_sem]
  have R0 : Row w0 (w.heap.size + 1 + 1 + 1) (n + m) (fun _ => 0) := by rw [hw0]; exact row_zeros_at _ _ _ (by simp)
  have HB : Hid (Below w.heap.size w w0) := by rw [hw0]; exact ((bel_alloc2 _ _ _).alloc (by simp <;> omega) _).alloc (by simp <;> omega) _
  rw [← hw0]
  clear hw0
  have CC : Hid _ := And.intro c1 (And.intro c2 (And.intro c3 f3))
  clear c1 c2 c3 f3
  go_loopw [6] (fun t wr => ∃ (i : Nat) (H : Nat → Nat), i ≤ n ∧ t = .int .i64 (i : Int) ∧ Hid (Row wr (w.heap.size + 1 + 1 + 1) (n + m) H ∧ Tm F n G m i 0 0 H ∧ w0.grownBy wr (some (w.heap.size + 1 + 1 + 1)))) (fun t _ => n - (intOf t).toNat)
  case atStart => exact ⟨0, fun _ => 0, by omega, rfl, ⟨R0, ⟨by rw [U_zeros fun _ _ => rfl, U_zero, U_zero]; omega, fun j _ => by show 0 < _; omega, fun _ _ => rfl, by omega⟩, World.grownBy.refl _ _⟩⟩
  case round =>
    clear R0
    obtain ⟨i, H0, hi, rfl, hP0⟩ := hrel
    have d1 : wr.cell? ⟨w.heap.size, 0, none⟩ = some (.slice ax n cap) := hP0.out.2.2.cell CC.out.1 (by simp only [ne_eq, Option.some.injEq]; omega)
    by_cases him : i < n
    · have him' : (i : Int) < n := by omega
      have P0 : Hid _ := hP0.out
      go_wp2_with fail
      clear d1 hP0
      go_loopw [7, 8] (fun q t wq => ∃ (k c : Nat) (H : Nat → Nat), k ≤ m ∧ t = .int .i64 (k : Int) ∧ q = .int .u64 (c : Int) ∧ Hid (Row wq (w.heap.size + 1 + 1 + 1) (n + m) H ∧ Tm F n G m i k c H ∧ w0.grownBy wq (some (w.heap.size + 1 + 1 + 1)))) (fun _ t _ => m - (intOf t).toNat)
      case atStart => exact ⟨0, 0, H0, by omega, rfl, rfl, P0.out⟩
      case round =>
        clear P0
        obtain ⟨k, c, H, hk, rfl, rfl, hP⟩ := hrel
        have hcx : wr.cell? ⟨w.heap.size, 0, none⟩ = some (.slice ax n cap) := hP.out.2.2.cell CC.out.1 (by simp only [ne_eq, Option.some.injEq]; omega)
        have hcy : wr.cell? ⟨w.heap.size + 1, 0, none⟩ = some (.slice ay m cap') := hP.out.2.2.cell CC.out.2.1 (by simp only [ne_eq, Option.some.injEq]; omega)
        by_cases hkm : k < m
        · have hkm' : (k : Int) < m := by omega
          obtain ⟨b, o, rfl, hw⟩ := HH.out.1.at i him
          obtain ⟨b', o', rfl, hw'⟩ := HH.out.2.2.2.1.at k hkm
          have hc0 := hw i him
          have hc0' := hw' k hkm
          have hb : b < w.heap.size := World.block_lt_of_cell? _ _ hc0
          have hb' : b' < w.heap.size := World.block_lt_of_cell? _ _ hc0'
          have e1 : wr.cell? ⟨b, o + i, none⟩ = some (.int .u64 (F i : Nat)) := hP.out.2.2.cell (cell_later HB.out hc0) (by simp only [ne_eq, Option.some.injEq]; omega)
          have e2 : wr.cell? ⟨b', o' + k, none⟩ = some (.int .u64 (G k : Nat)) := hP.out.2.2.cell (cell_later HB.out hc0') (by simp only [ne_eq, Option.some.injEq]; omega)
          have e3 : wr.cell? ⟨w.heap.size + 1 + 1 + 1, i + k, none⟩ = some (.int .u64 (H (i + k) : Nat)) := hP.out.1.cell (by omega)
          have e4 : wr.frozen? ⟨w.heap.size + 1 + 1 + 1, i + k, none⟩ = false := hP.out.1.frozen _
          have wr1 : IntKind.i64.wrap ((i : Int) + (k : Int)) = (i : Int) + (k : Int) := by rw [IntKind.wrap_i64]; omega
          have hik : i + k < n + m := by omega
          have hF := HH.out.2.1 i him
          have hG := HH.out.2.2.2.2.1 k hkm
          have hl := tm_le hF hG (hP.out.2.1.dg (i + k) hik) hP.out.2.1.car
          have S : Hid _ := And.intro (hP.out.1.set (i + k) (show (F i * G k + H (i + k) + c) % 4294967296 < 18446744073709551616 by omega)) (And.intro (hP.out.2.1.step him hkm hF hG) (grown_set _ hP.out.2.2 (i + k) (.int .u64 (((F i * G k + H (i + k) + c) % 4294967296 : Nat) : Int))))
          obtain ⟨p, hp⟩ : ∃ p, p = F i * G k := ⟨_, rfl⟩
          have m1 : IntKind.u64.wrap (((F i : Nat) : Int) * ((G k : Nat) : Int)) = (p : Int) := by rw [← Int.natCast_mul, ← hp]; exact wrapU_nat _ (by omega)
          rw [← hp] at S hl
          have hh : H (i + k) ≤ p + H (i + k) + c := by omega
          obtain ⟨z, hz⟩ : ∃ z, z = H (i + k) := ⟨_, rfl⟩
          rw [← hz] at S hl hh e3
          have m2 : IntKind.u64.wrap ((p : Int) + (z : Int)) = (p : Int) + (z : Int) := by rw [IntKind.wrap_u64]; omega
          have m3 : IntKind.u64.wrap ((p : Int) + (z : Int) + (c : Int)) = (p : Int) + (z : Int) + (c : Int) := by rw [IntKind.wrap_u64]; omega
          clear hw hw' hc0 hc0' hp hz hP hh
          go_wp2_with fail
          go_region
          go_wp2_with fail
          have hz1 : ((p : Int) + (z : Int) + (c : Int)) % 4294967296 = (((p + z + c) % 4294967296 : Nat) : Int) := by omega
          have hz2 : ((p : Int) + (z : Int) + (c : Int)) / 4294967296 = (((p + z + c) / 4294967296 : Nat) : Int) := by omega
          rw [hz1, hz2]
          go_roundw
          case rel => exact ⟨k + 1, _, _, by omega, by go_num, rfl, ⟨S.out.1, S.out.2.1, grown_drew S.out.2.2 1⟩⟩
          case measure => simp [intOf]; omega
        obtain rfl : k = m := by omega
        have e3 : wr.cell? ⟨w.heap.size + 1 + 1 + 1, i + k, none⟩ = some (.int .u64 (H (i + k) : Nat)) := hP.out.1.cell (by omega)
        have e4 : wr.frozen? ⟨w.heap.size + 1 + 1 + 1, i + k, none⟩ = false := hP.out.1.frozen _
        have wr1 : IntKind.i64.wrap ((i : Int) + (k : Int)) = (i : Int) + (k : Int) := by rw [IntKind.wrap_i64]; omega
        have hik : i + k < n + k := by omega
        have S : Hid _ := And.intro (hP.out.1.set (i + k) (show c < 18446744073709551616 by have := hP.out.2.1.car; omega)) (And.intro (hP.out.2.1.next him) (grown_set _ hP.out.2.2 (i + k) (.int .u64 ((c : Nat) : Int))))
        clear hP
        go_wp2_with fail
        go_roundw
        case rel => exact ⟨i + 1, _, by omega, by go_num, S.out⟩
        case measure => simp [intOf]; omega
    obtain rfl : i = n := by omega
    have B0 : Hid (Below w.heap.size w wr) := HB.out.grown hP0.out.2.2 HB.out.size (fun k hk => by cases hk; omega)
    have hcr : wr.cell? ⟨w.heap.size + 1 + 1, 0, none⟩ = some (.slice none 0 0) := hP0.out.2.2.cell CC.out.2.2.1 (by simp)
    have hfr : wr.frozen? ⟨w.heap.size + 1 + 1, 0, none⟩ = false := (World.frozen?_of_block (hP0.out.2.2.block _ (World.block_lt_of_cell? _ _ CC.out.2.2.1) (by simp))).trans CC.out.2.2.2
    go_wp2_with fail
    refine (rtrimmed_row _ 0 (i + m) H0 wr (by have := hP0.out.1.sl (o := 0) (n := i + m) (cap := i + m) (by omega) (Nat.le_refl _) (by omega); rw [fro_zero] at this; exact this) hP0.out.2.1.dg (by omega)).mono ?_
    rintro e w3 ⟨v3, rfl, hv3, hb3⟩
    have he := hP0.out.2.1.eq
    rw [HH.out.2.2.1, HH.out.2.2.2.2.2, U_zero, Nat.mul_zero, Nat.zero_mul, Nat.add_zero, Nat.add_zero] at he
    rw [he] at hv3
    have hcr3 : w3.cell? ⟨w.heap.size + 1 + 1, 0, none⟩ = some (.slice none 0 0) := cell_later hb3 hcr
    have hfr3 : w3.frozen? ⟨w.heap.size + 1 + 1, 0, none⟩ = false := (hb3.frozen (World.block_lt_of_cell? _ _ hcr)).trans hfr
    obtain ⟨a3, n3, cap3, rfl⟩ := hv3.isAgg
    have HV3 : Hid (RNat w3 (.agg #[.slice a3 n3 cap3]) (x * y)) := hv3
    have B3 : Hid (Below w.heap.size w w3) := bel_go B0.out hb3
    clear hv3 hb3 hcr hfr he
    go_wp2_with fail
    refine bodyPost_ret (v := .agg #[.slice a3 n3 cap3]) (by simp [results, Tryz.results61, go_sem, hcr3]) rfl ⟨_, rfl, ?_, B3.out.setCell (by show _ ≤ _ + 1 + 1; omega) _⟩
    exact HV3.out.setCell (no_int_slice hcr3) _
theorem U_top2 (Y : Nat → Nat) (k : Nat) : U Y (k + 2) = (Y (k + 1) * 4294967296 + Y k) * B k + U Y k := by
  rw [U_succ, U_succ, B_succ]
  grind
theorem U_top3 (R : Nat → Nat) (k : Nat) : U R (k + 3) = ((R (k + 2) * 4294967296 + R (k + 1)) * 4294967296 + R k) * B k + U R k := by
  rw [U_succ, U_top2, B_succ, B_succ]
  grind
structure RgD (A u y1 y0 Q : Nat) : Prop where
  hi : Q < 4294967296
  le3 : Q ≤ (A * 4294967296 + u) / (y1 * 4294967296 + y0)
  top : A ≤ y1 * 4294967296 + y0
  norm : 2147483648 ≤ y1
  near : ∀ q, q * (y1 * 4294967296 + y0) ≤ A * 4294967296 + u → q < 4294967296 → q ≤ Q + 1
  lu : u < 4294967296
  l1 : y1 < 4294967296
  l0 : y0 < 4294967296
structure Gs (A y1 Q q r : Nat) : Prop where
  eq : q * y1 + r = A
  ge : Q ≤ q
theorem gs_start {A u y1 y0 Q : Nat} (g : RgD A u y1 y0 Q) : Gs A y1 Q (A / y1) (A % y1) := by
  have h := dig_start (A := A) (u := u) (y0 := y0) (y1 := y1) rfl g.lu (by have := g.norm; omega)
  exact ⟨h.1, Nat.le_trans g.le3 h.2⟩
theorem Gs.step {A u y1 y0 Q q r : Nat} (h : Gs A y1 Q q r) (g : RgD A u y1 y0 Q) (hc : 4294967296 ≤ q ∨ r * 4294967296 + u < q * y0) : 0 < q ∧ Gs A y1 Q (q - 1) (r + y1) := by
  have hT : 0 < y1 * 4294967296 + y0 := by have := g.norm; omega
  have hlt : Q < q := by
    rcases hc with hc | hc
    · have := g.hi
      omega
    refine Nat.lt_of_le_of_lt g.le3 ?_
    rw [Nat.div_lt_iff_lt_mul hT]
    have e := dig_id y1 y0 q r u
    rw [h.eq] at e
    exact lin_lt e hc
  refine ⟨by omega, ?_, by omega⟩
  have h1 := h.eq
  obtain ⟨t, rfl⟩ : ∃ t, q = t + 1 := ⟨q - 1, by omega⟩
  rw [Nat.add_mul] at h1
  simp only [Nat.add_sub_cancel]
  omega
theorem Gs.done {A u y1 y0 Q q r : Nat} (h : Gs A y1 Q q r) (g : RgD A u y1 y0 Q) (hq : q < 4294967296) (hc : q * y0 ≤ r * 4294967296 + u) : q ≤ Q + 1 := by
  refine g.near q ?_ hq
  have e := dig_id y1 y0 q r u
  rw [h.eq] at e
  exact lin_le e hc
theorem Gs.broke {A u y1 y0 Q q r : Nat} (h : Gs A y1 Q q r) (g : RgD A u y1 y0 Q) (hr : 4294967296 ≤ r) : q < 4294967296 ∧ q ≤ Q + 1 := by
  have h0 := g.l0
  have hq : q < 4294967296 := by
    rcases Nat.lt_or_ge q 4294967296 with hq | hq
    · exact hq
    have h1 : 4294967296 * y1 ≤ q * y1 := Nat.mul_le_mul_right _ hq
    have h2 := h.eq
    have h3 := g.top
    omega
  refine ⟨hq, h.done g hq ?_⟩
  have h4 : q * y0 ≤ 4294967296 * 4294967296 := Nat.mul_le_mul (by omega) (by omega)
  have h5 : 4294967296 * 4294967296 ≤ r * 4294967296 := Nat.mul_le_mul_right _ hr
  omega
theorem gd_top {A u T R p low Yv yl : Nat} (hR : R = (A * 4294967296 + u) * p + low) (hY : Yv = T * p + yl) (hyl : yl < p) (hlt : R < Yv * 4294967296) : A ≤ T := by
  have e1 : (A * 4294967296 + u) * p = (A * 4294967296) * p + u * p := Nat.add_mul ..
  have e2 : ((T + 1) * 4294967296) * p = (T * p + p) * 4294967296 := by grind
  have h3 : (T * p + yl) * 4294967296 ≤ (T * p + p) * 4294967296 := Nat.mul_le_mul_right _ (by omega)
  have h1 : (A * 4294967296) * p < ((T + 1) * 4294967296) * p := by
    rw [e2]
    rw [hY, hR, e1] at hlt
    exact Nat.lt_of_le_of_lt (Nat.le_trans (Nat.le_add_right _ _) (Nat.le_add_right _ _)) (Nat.lt_of_lt_of_le hlt h3)
  have h2 := Nat.lt_of_mul_lt_mul_right h1
  omega
theorem gd_near {R3 T R p low Yv yl q : Nat} (hR : R = R3 * p + low) (hY : Yv = T * p + yl) (hyl : yl < p) (hYpos : 0 < Yv) (hT : 4294967296 ≤ T) (h1 : q * T ≤ R3) (h2 : q < 4294967296) : q ≤ R / Yv + 1 := by
  rcases Nat.eq_zero_or_pos q with h0 | h0
  · rw [h0]; exact Nat.zero_le _
  obtain ⟨t, rfl⟩ : ∃ t, q = t + 1 := ⟨q - 1, by omega⟩
  have h3 : t ≤ R / Yv := by
    rw [Nat.le_div_iff_mul_le hYpos]
    have h4 : t * Yv ≤ t * ((T + 1) * p) := Nat.mul_le_mul_left _ (by rw [hY, Nat.add_mul]; omega)
    have h5 : t * (T + 1) ≤ R3 := by rw [Nat.add_mul] at h1; rw [Nat.mul_add]; omega
    have h6 : t * ((T + 1) * p) ≤ R3 * p := by rw [← Nat.mul_assoc]; exact Nat.mul_le_mul_right _ h5
    omega
  exact Nat.succ_le_succ h3
theorem gd_of {R Y : Nat → Nat} {k : Nat} (hR : Dg R (k + 3)) (hY : Dg Y (k + 2)) (htop : 2147483648 ≤ Y (k + 1)) (hlt : U R (k + 3) < U Y (k + 2) * 4294967296) :
    RgD (R (k + 2) * 4294967296 + R (k + 1)) (R k) (Y (k + 1)) (Y k) (U R (k + 3) / U Y (k + 2)) := by
  have hT := U_top2 Y k
  have hR3 := U_top3 R k
  have hp := B_pos k
  have hyl := U_lt (hY.mono (show k ≤ k + 2 by omega))
  have hrl := U_lt (hR.mono (show k ≤ k + 3 by omega))
  have hT0 : 0 < Y (k + 1) * 4294967296 + Y k := by omega
  have hYpos : 0 < U Y (k + 2) := by
    have : 1 * B k ≤ (Y (k + 1) * 4294967296 + Y k) * B k := Nat.mul_le_mul_right _ (by omega)
    omega
  have l2 := hR (k + 1) (by omega)
  have lu := hR k (by omega)
  have l1 := hY (k + 1) (by omega)
  have l0 := hY k (by omega)
  refine ⟨?_, guess_ge hR3 hrl hT hT0 rfl, ?_, htop, fun q h1 h2 => ?_, lu, l1, l0⟩
  · rw [Nat.div_lt_iff_lt_mul hYpos, Nat.mul_comm]
    exact hlt
  · exact gd_top hR3 hT hyl hlt
  exact gd_near hR3 hT hyl hYpos (by omega) h1 h2
structure Ls (F Y : Nat → Nat) (N n j q i c b : Nat) (H : Nat → Nat) : Prop where
  eq : U (fro H j) i + q * U (cutU Y n 0) i = U (fro F j) i + (c + b) * B i
  out : ∀ t, t < j ∨ j + i ≤ t → H t = F t
  dg : Dg H N
  lc : c < 4294967296
  lb : b ≤ 1
  fin : n < i → c = 0
theorem ls_start (F Y : Nat → Nat) (N n j q : Nat) (hF : Dg F N) : Ls F Y N n j q 0 0 0 F :=
  ⟨by simp [U_zero], fun _ _ => rfl, hF, by omega, by omega, fun h => absurd h (by omega)⟩
theorem ls_p {q d c : Nat} (hq : q < 4294967296) (hd : d < 4294967296) (hc : c < 4294967296) : q * d + c < 18446744073709551616 ∧ (q * d + c) / 4294967296 < 4294967296 := by
  have h : q * d ≤ 4294967295 * 4294967295 := Nat.mul_le_mul (by omega) (by omega)
  omega
theorem ls_id {h q u f cb i s p qd c b : Nat} {Bi : Nat} (e : h + q * u = f + (c + b) * Bi) (hp : p = qd + c) (hs : s + p % 4294967296 + b = 4294967296 + i) (hl : s < 8589934592) :
    h + s % 4294967296 * Bi + (q * u + qd * Bi) = f + i * Bi + (p / 4294967296 + (1 - s / 4294967296)) * (Bi * 4294967296) := by
  have hd := Nat.div_add_mod p 4294967296
  generalize p / 4294967296 = pd at *
  generalize p % 4294967296 = pm at *
  have hc : c + qd = 4294967296 * pd + pm := by omega
  rcases Nat.lt_or_ge s 4294967296 with h1 | h1
  · rw [Nat.mod_eq_of_lt h1, Nat.div_eq_of_lt h1]
    have h2 : (c + qd) * Bi = (4294967296 * pd + pm) * Bi := by rw [hc]
    have h3 : (s + pm + b) * Bi = (4294967296 + i) * Bi := by rw [hs]
    grind
  obtain ⟨z, rfl⟩ : ∃ z, s = 4294967296 + z := ⟨s - 4294967296, by omega⟩
  rw [show (4294967296 + z) % 4294967296 = z by omega, show (4294967296 + z) / 4294967296 = 1 by omega]
  have h2 : (c + qd) * Bi = (4294967296 * pd + pm) * Bi := by rw [hc]
  have h3 : (4294967296 + z + pm + b) * Bi = (4294967296 + i) * Bi := by rw [hs]
  grind
theorem fro_put_lt (H : Nat → Nat) (j i v : Nat) : U (fro (put H (j + i) v) j) (i + 1) = U (fro H j) i + v * B i := by
  rw [U_succ]
  congr 1
  · exact U_congr fun t ht => put_other _ _ (by omega)
  show put H (j + i) v (j + i) * B i = _
  rw [put_same]
theorem Ls.step {F Y H : Nat → Nat} {N n j q i c b d p s : Nat} (h : Ls F Y N n j q i c b H) (hd : d = cutU Y n 0 i) (hY : Dg Y n) (hq : q < 4294967296) (hp : p = q * d + c) (hs : s = 4294967296 + F (j + i) - p % 4294967296 - b) (hF : F (j + i) < 4294967296) :
    Ls F Y N n j q (i + 1) (p / 4294967296) (1 - s / 4294967296) (put H (j + i) (s % 4294967296)) := by
  have ld := dg_cut hY i
  rw [← hd] at ld
  have lb := h.lb
  have hsl : s < 8589934592 := by omega
  have hse : s + p % 4294967296 + b = 4294967296 + F (j + i) := by omega
  refine ⟨?_, fun t ht => ?_, fun t ht => ?_, ?_, by omega, fun hn => ?_⟩
  · rw [fro_put_lt, U_succ, U_succ, Nat.mul_add, B_succ, ← hd, ← Nat.mul_assoc]
    exact ls_id (cb := 0) h.eq hp hse hsl
  · rw [put_other _ _ (by omega)]
    exact h.out t (by omega)
  · unfold put
    split
    · exact Nat.mod_lt _ (by decide)
    exact h.dg t ht
  · rw [hp]
    exact (ls_p hq ld h.lc).2
  rw [hp, hd, cutU_out (by omega), Nat.mul_zero, Nat.zero_add]
  exact Nat.div_eq_of_lt h.lc
theorem Ls.done {F Y H : Nat → Nat} {N n j q c b : Nat} (h : Ls F Y N n j q (n + 1) c b H) : U (fro H j) (n + 1) + U Y n * q = U (fro F j) (n + 1) + b * B (n + 1) := by
  have e := h.eq
  rw [h.fin (by omega), U_cut (by omega), Nat.zero_add, Nat.mul_comm q] at e
  exact e
structure Bk (F Y : Nat → Nat) (N n j i c : Nat) (H : Nat → Nat) : Prop where
  eq : U (fro H j) i + c * B i = U (fro F j) i + U (cutU Y n 0) i
  out : ∀ t, t < j ∨ j + i ≤ t → H t = F t
  dg : Dg H N
  lc : c ≤ 1
theorem bk_start (F Y : Nat → Nat) (N n j : Nat) (hF : Dg F N) : Bk F Y N n j 0 0 F :=
  ⟨by simp [U_zero], fun _ _ => rfl, hF, by omega⟩
theorem bk_id {h c f u Bi s a d : Nat} (e : h + c * Bi = f + u) (hs : s = a + d + c) : h + s % 4294967296 * Bi + s / 4294967296 * (Bi * 4294967296) = f + a * Bi + (u + d * Bi) := by
  have hd := Nat.div_add_mod s 4294967296
  generalize s / 4294967296 = sd at *
  generalize s % 4294967296 = sm at *
  have h2 : (4294967296 * sd + sm) * Bi = (a + d + c) * Bi := by rw [hd, hs]
  grind
theorem Bk.step {F Y H : Nat → Nat} {N n j i c d s : Nat} (h : Bk F Y N n j i c H) (hd : d = cutU Y n 0 i) (hY : Dg Y n) (hs : s = F (j + i) + d + c) (hF : F (j + i) < 4294967296) :
    Bk F Y N n j (i + 1) (s / 4294967296) (put H (j + i) (s % 4294967296)) := by
  have ld := dg_cut hY i
  rw [← hd] at ld
  have lc := h.lc
  refine ⟨?_, fun t ht => ?_, fun t ht => ?_, by omega⟩
  · rw [fro_put_lt, U_succ, U_succ, B_succ, ← hd]
    exact bk_id h.eq hs
  · rw [put_other _ _ (by omega)]
    exact h.out t (by omega)
  unfold put
  split
  · exact Nat.mod_lt _ (by decide)
  exact h.dg t ht
theorem Bk.done {F Y H : Nat → Nat} {N n j c : Nat} (h : Bk F Y N n j (n + 1) c H) : U (fro H j) (n + 1) + c * B (n + 1) = U (fro F j) (n + 1) + U Y n := by
  have e := h.eq
  rw [U_cut (by omega)] at e
  exact e
structure RvD (X Yv : Nat) (N n jj : Nat) (F Q : Nat → Nat) : Prop where
  eq : X = Yv * U Q (N - n) + U F N
  lt : U (fro F jj) n < Yv
  zero : ∀ t, jj + n ≤ t → t < N → F t = 0
  none : ∀ t, t < jj → Q t = 0
  dF : Dg F N
  dQ : Dg Q (N - n)
theorem dv_start {X Yv N n : Nat} {F : Nat → Nat} (hX : X = U F N) (dF : Dg F N) (hn : 0 < n) (hN : n ≤ N) (hY : B (n - 1) ≤ Yv) (hz : F (N - 1) = 0) : RvD X Yv N n (N - n) F (fun _ => 0) := by
  refine ⟨by rw [U_zeros fun _ _ => rfl, Nat.mul_zero, Nat.zero_add]; exact hX, ?_, fun t h1 h2 => absurd h1 (by omega), fun _ _ => rfl, dF, fun _ _ => by omega⟩
  obtain ⟨m, rfl⟩ : ∃ m, n = m + 1 := ⟨n - 1, by omega⟩
  rw [U_succ]
  have e : fro F (N - (m + 1)) m = 0 := by
    show F (N - (m + 1) + m) = 0
    rw [show N - (m + 1) + m = N - 1 by omega]
    exact hz
  rw [e, Nat.zero_mul, Nat.add_zero]
  have h1 : U (fro F (N - (m + 1))) m < B m := U_lt fun t ht => dF _ (by omega)
  simp only [Nat.add_sub_cancel] at hY
  omega
theorem fro_cons (F : Nat → Nat) (j n : Nat) : U (fro F j) (n + 1) = F j + 4294967296 * U (fro F (j + 1)) n := by
  rw [show n + 1 = 1 + n by omega, U_split, B_one, U_succ, U_zero, B_zero, Nat.zero_add, Nat.mul_one]
  congr 2
  exact U_congr fun t ht => by show F (j + (1 + t)) = F (j + 1 + t); rw [show j + (1 + t) = j + 1 + t by omega]
theorem RvD.small {X Yv N n j : Nat} {F Q : Nat → Nat} (h : RvD X Yv N n (j + 1) F Q) (hj : j < N) : U (fro F j) (n + 1) < Yv * 4294967296 := by
  rw [fro_cons]
  have h1 := h.lt
  have h2 := h.dF j hj
  have h3 : (U (fro F (j + 1)) n + 1) * 4294967296 ≤ Yv * 4294967296 := Nat.mul_le_mul_right _ h1
  omega
theorem U_mid {F : Nat → Nat} {N j m : Nat} (h : j + m ≤ N) (hz : ∀ t, j + m ≤ t → t < N → F t = 0) : U F N = U F j + B j * U (fro F j) m := by
  rw [U_top h hz, U_split]
  rfl
theorem RvD.step {X Yv N n j d : Nat} {F Q H : Nat → Nat} (h : RvD X Yv N n (j + 1) F Q) (hj : j + n < N) (hd : d = U (fro F j) (n + 1) / Yv) (hr : U (fro H j) (n + 1) = U (fro F j) (n + 1) % Yv) (hYn : Yv < B n)
    (hout : ∀ t, t < j ∨ j + n + 1 ≤ t → H t = F t) (dH : Dg H N) (ld : d < 4294967296) : RvD X Yv N n j H (put Q j d) := by
  have hYv : 0 < Yv := Nat.lt_of_le_of_lt (Nat.zero_le _) h.lt
  have hrl : U (fro H j) (n + 1) < Yv := by rw [hr]; exact Nat.mod_lt _ hYv
  have htop : H (j + n) = 0 := by
    rcases Nat.eq_zero_or_pos (H (j + n)) with h0 | h0
    · exact h0
    have h1 : 1 * B n ≤ H (j + n) * B n := Nat.mul_le_mul_right _ h0
    have h2 : U (fro H j) (n + 1) = U (fro H j) n + H (j + n) * B n := U_succ ..
    omega
  have eF := U_mid (F := F) (N := N) (j := j) (m := n + 1) (by omega) fun t h1 h2 => h.zero t (by omega) h2
  have eH := U_mid (F := H) (N := N) (j := j) (m := n + 1) (by omega) fun t h1 h2 => by rw [hout t (by omega)]; exact h.zero t (by omega) h2
  have eL : U H j = U F j := U_congr fun t ht => hout t (by omega)
  have eQ := U_put Q j (N - n) d (by omega)
  rw [h.none j (by omega), Nat.zero_mul, Nat.add_zero] at eQ
  have hdm := Nat.div_add_mod (U (fro F j) (n + 1)) Yv
  rw [← hd, ← hr] at hdm
  refine ⟨?_, ?_, fun t h1 h2 => ?_, fun t ht => ?_, dH, fun t ht => ?_⟩
  · rw [h.eq, eQ, eF, eH, eL, ← hdm]
    grind
  · have h2 : U (fro H j) (n + 1) = U (fro H j) n + H (j + n) * B n := U_succ ..
    rw [htop] at h2
    omega
  · by_cases e : t = j + n
    · rw [e]; exact htop
    rw [hout t (by omega)]
    exact h.zero t (by omega) h2
  · rw [put_other _ _ (by omega)]
    exact h.none t (by omega)
  unfold put
  split
  · exact ld
  exact h.dQ t ht
theorem RvD.done {X Yv N n : Nat} {F Q : Nat → Nat} (h : RvD X Yv N n 0 F Q) (hn : n ≤ N) : U Q (N - n) = X / Yv ∧ U F N = X % Yv := by
  have h1 := h.lt
  rw [fro_zero] at h1
  have h2 : U F N = U F n := U_top hn fun t a b => h.zero t (by omega) b
  have h3 := h.eq
  rw [h2] at h3
  rw [h2, h3]
  have hY : 0 < Yv := by omega
  constructor
  · rw [Nat.mul_add_div hY, Nat.div_eq_of_lt h1, Nat.add_zero]
  rw [Nat.mul_add_mod, Nat.mod_eq_of_lt h1]
theorem dv_exact {R Yv d V' p : Nat} (h : V' + Yv * d = R) (hV : V' < p) (hYp : Yv ≤ p) (hY : 0 < Yv) (hlo : R / Yv ≤ d) : d = R / Yv ∧ V' = R % Yv := by
  have := take_exact (F := R) (Y := Yv) (d := d) (bor := 0) (top := 0) (p := p) (V' := V') (by omega) hV hYp hY (by rw [Nat.zero_mul, Nat.add_zero]; exact hlo) (Nat.le_refl _)
  rw [Nat.zero_mul, Nat.add_zero] at this
  exact this
theorem dv_mend {R Yv d V' V'' c p : Nat} (h : V' + Yv * d = R + p) (hV : V' < p) (hV2 : V'' < p) (hYp : Yv ≤ p) (hY : 0 < Yv) (hhi : d ≤ R / Yv + 1) (h2 : V'' + c * p = V' + Yv) (hc : c ≤ 1) (hR : R < Yv * p) : 0 < d ∧ d - 1 = R / Yv ∧ V'' = R % Yv := by
  have := take_mend (F := R) (Y := Yv) (d := d) (bor := 1) (top := 0) (p := p) (V' := V') (V'' := V'') (c := c) (by omega) hV hV2 hYp hY (by rw [Nat.zero_mul, Nat.add_zero]; exact hhi) (by omega) h2 hc (by rw [Nat.zero_mul, Nat.add_zero]; exact hR)
  rw [Nat.zero_mul, Nat.add_zero] at this
  exact this
theorem dv_shift (x y s : Nat) : x * 2 ^ s / (y * 2 ^ s) = x / y ∧ x * 2 ^ s % (y * 2 ^ s) / 2 ^ s = x % y := by
  have hp : 0 < 2 ^ s := Nat.pow_pos (by decide)
  refine ⟨Nat.mul_div_mul_right _ _ hp, ?_⟩
  rw [Nat.mul_mod_mul_right, Nat.mul_div_cancel _ hp]
def DRow (w : World) (g c n : Nat) (F : Nat → Nat) : Prop := (∃ f, w.rowIs g 82 c f ∧ ∀ i, i < n → f i = wd F i) ∧ n ≤ c ∧ c ≤ 9223372036854775807 ∧ Ok F n
theorem DRow.cell {w : World} {g c n : Nat} {F : Nat → Nat} (h : DRow w g c n F) {i : Nat} (hi : i < n) : w.cell? ⟨g, i, none⟩ = some (.int .u64 (F i : Nat)) := by
  obtain ⟨⟨f, h1, h2⟩, h3, _⟩ := h
  rw [h1.cell (show i < c by omega), h2 i hi]
  rfl
theorem DRow.frozen {w : World} {g c n : Nat} {F : Nat → Nat} (h : DRow w g c n F) (i : Nat) : w.frozen? ⟨g, i, none⟩ = false := by
  obtain ⟨⟨f, h1, h2⟩, h3⟩ := h
  exact h1.frozen i
theorem DRow.lt {w : World} {g c n : Nat} {F : Nat → Nat} (h : DRow w g c n F) : g < w.heap.size := by
  obtain ⟨⟨f, h1, h2⟩, h3⟩ := h
  exact h1.lt
theorem DRow.set {w : World} {g c n : Nat} {F : Nat → Nat} (h : DRow w g c n F) (i : Nat) {d : Nat} (hd : d < 18446744073709551616) : DRow (w.setCell ⟨g, i, none⟩ (.int .u64 (d : Int))) g c n (put F i d) := by
  obtain ⟨⟨f, h1, h2⟩, h3, h4, h5⟩ := h
  refine ⟨⟨_, h1.set i _, fun j hj => ?_⟩, h3, h4, fun j hj => ?_⟩
  · show (if j = i then _ else f j) = Value.int .u64 ((put F i d j : Nat) : Int)
    by_cases e : j = i
    · subst e
      rw [if_pos rfl, put_same]
    rw [if_neg e, put_other _ _ e, h2 j hj]
    rfl
  unfold put
  split
  · exact hd
  exact h5 j hj
theorem DRow.below {w w' : World} {g c n : Nat} {F : Nat → Nat} (h : DRow w g c n F) (hb : Below w.heap.size w w') : DRow w' g c n F := by
  obtain ⟨⟨f, h1, h2⟩, h3⟩ := h
  exact ⟨⟨f, h1.of_block (hb.block g h1.lt), h2⟩, h3⟩
theorem DRow.drewN {w : World} {g c n : Nat} {F : Nat → Nat} (h : DRow w g c n F) (k : Nat) : DRow (w.drewN k) g c n F := h.below (bel_drewN (bel_refl w) k)
theorem DRow.apart {w w' : World} {g c n b : Nat} {F : Nat → Nat} (h : DRow w g c n F) (hg : w.grownBy w' (some b)) (hne : g ≠ b) : DRow w' g c n F := by
  obtain ⟨⟨f, h1, h2⟩, h3⟩ := h
  exact ⟨⟨f, h1.of_block (hg.block g h1.lt (by simpa using hne)), h2⟩, h3⟩
theorem DRow.sl {w : World} {g c n : Nat} {F : Nat → Nat} (h : DRow w g c n F) : Sl w (some ⟨g, 0, none⟩) n c F :=
  ⟨h.2.1, h.2.2.1, h.2.2.2, .inr ⟨g, 0, rfl, fun i hi => by rw [Nat.zero_add]; exact h.cell hi⟩⟩
theorem Row.drow {w : World} {b N : Nat} {F : Nat → Nat} (h : Row w b N F) (hN : N ≤ 9223372036854775807) : DRow w b N N F := ⟨⟨_, h.1, fun i hi => rfl⟩, Nat.le_refl _, hN, h.2⟩
theorem Sl.apart {w w' : World} {a : Option Addr} {n cap b : Nat} {F : Nat → Nat} (h : Sl w a n cap F) (hg : w.grownBy w' (some b)) (hne : ∀ b' o', a = some ⟨b', o', none⟩ → b' ≠ b) : Sl w' a n cap F := by
  obtain ⟨s1, s2, s3, s4⟩ := h
  refine ⟨s1, s2, s3, s4.imp id ?_⟩
  rintro ⟨b', o', rfl, hw⟩
  exact ⟨b', o', rfl, hw.kept hg (by simpa using hne b' o' rfl)⟩
theorem wcells_list {w : World} {ad : Addr} {m : Nat} {N : Nat → Nat} (h : ∀ j, j < m → w.cell? (ad.add j) = some (wd N j)) : ∀ j u, ((List.range m).map (wd N))[j]? = some u → w.cell? (ad.add j) = some u := by
  intro j u hj
  have hjm : j < m := by
    have := (List.getElem?_eq_some_iff.1 hj).1
    simpa using this
  rw [List.getElem?_map, List.getElem?_range hjm] at hj
  rw [h j hjm]
  exact hj
theorem wpList_append_ws {w : World} {ops : Array Oper} {rest : List Oper} {o : Oper} {ac : Act} {Q : Exit → Act → World → Prop} (hgd : o.guard = none) (s x : Operand)
    (ho : o.op = .call { callee := .builtin .append, args := #[s, x], argTypes := #[43, 43] }) (base : Nat) (v : Value) (hs : ac.eval s = v) (hv : v = .slice none 0 0)
    (ad : Addr) (m c : Nat) (N : Nat → Nat) (hx : ac.eval x = .slice (some ad) m c) (hc : ∀ j, j < m → w.cell? (ad.add j) = some (wd N j)) (hn : m ≤ 1099511627776) (hbase : base ≤ w.heap.size)
    (h : ∀ v' w', OR w' 82 base v' m (wd N) → w.grownBy w' none → wpList Tryz.prog ops Q rest (ac.put o.dst v') w') : wpList Tryz.prog ops Q (o :: rest) ac w := by
  subst hv
  obtain ⟨i, hi, hzz, hsz, hb⟩ := info_parts Tryz.info22b
  refine wpList_append_own w hgd s x 43 ho base 82 i _ 1 8 Tryz.underlying43 hi hzz hsz hb rfl (by omega) _ 0 _ hs (OR.nil w 82 base (wd N)).owns ad m c ((List.range m).map (wd N)) hx (by simp) (wcells_list hc) (fun u hu => by simp at hu; obtain ⟨j, _, rfl⟩ := hu; rfl) (by simp only [maxLen]; omega) (by omega) hbase (fun v' w' k1 k2 _ => h v' w' ?_ k2)
  have e : 0 + m = m := by omega
  rw [e] at k1
  refine OR.of_owns k1 fun i hi => ?_
  simp [hi]
structure Near (Q G : Nat) : Prop where
  ge : Q ≤ G
  le : G ≤ Q + 1
  lt : G < 4294967296
set_option maxHeartbeats 2000000 in
theorem rguess_any (b N cap b' o' cap' j k : Nat) (F Y : Nat → Nat) (w : World) (hF : DRow w b cap N F) (dF : Dg F N) (hY : Sl w (some ⟨b', o', none⟩) (k + 2) cap' Y) (dY : Dg Y (k + 2)) (hj : j + k + 2 < N) (hN : N ≤ 1099511627776)
    (htop : 2147483648 ≤ Y (k + 1)) (hlt : U (fro F j) (k + 3) < U Y (k + 2) * 4294967296) :
    Calls Tryz.prog 115 #[.slice (some ⟨b, 0, none⟩) N cap, .slice (some ⟨b', o', none⟩) (k + 2) cap', .int .i64 (j : Int)] w fun e w' => ∃ G : Nat, e = .returned (.int .u64 (G : Int)) ∧ Near (U (fro F j) (k + 3) / U Y (k + 2)) G ∧ ∃ n, w' = w.drewN n := by
  obtain ⟨b2, o2, eb, hw⟩ := hY.at 0 (by omega)
  cases eb
  have g := gd_of (R := fro F j) (fun i hi => dF _ (by omega)) dY htop hlt
  have cu2 : w.cell? ⟨b, j + (k + 2), none⟩ = some (.int .u64 (fro F j (k + 2) : Nat)) := hF.cell (by omega)
  have cu1 : w.cell? ⟨b, j + (k + 1), none⟩ = some (.int .u64 (fro F j (k + 1) : Nat)) := hF.cell (by omega)
  have cu0 : w.cell? ⟨b, j + k, none⟩ = some (.int .u64 (fro F j k : Nat)) := hF.cell (by omega)
  have cy0 : w.cell? ⟨b', o' + k, none⟩ = some (.int .u64 (Y k : Nat)) := hw k (by omega)
  have cy1 : w.cell? ⟨b', o' + (k + 1), none⟩ = some (.int .u64 (Y (k + 1) : Nat)) := hw (k + 1) (by omega)
  have l2 : fro F j (k + 2) < 4294967296 := dF _ (by omega)
  have l1 : fro F j (k + 1) < 4294967296 := dF _ (by omega)
  have l0 : fro F j k < 4294967296 := dF _ (by omega)
  generalize fro F j (k + 2) = u2 at *
  generalize fro F j (k + 1) = u1 at *
  generalize fro F j k = u0 at *
  have m1 := dY (k + 1) (by omega)
  have m0 := dY k (by omega)
  generalize Y (k + 1) = y1 at *
  generalize Y k = y0 at *
  generalize U (fro F j) (k + 3) / U Y (k + 2) = Q at *
  have HG : Hid (RgD (u2 * 4294967296 + u1) u0 y1 y0 Q) := g
  clear hF dF hY dY hw g hlt
  obtain ⟨A, hA⟩ : ∃ A, A = u2 * 4294967296 + u1 := ⟨_, rfl⟩
  have hAl : A < 18446744073709551616 := by omega
  have n1 : IntKind.u64.wrap ((u2 : Int) * 4294967296) = ((u2 * 4294967296 : Nat) : Int) := by rw [IntKind.wrap_u64]; omega
  have n2 : IntKind.u64.wrap (((u2 * 4294967296 : Nat) : Int) + (u1 : Int)) = (A : Int) := by rw [IntKind.wrap_u64]; omega
  rw [← hA] at HG
  have E1 : Hid (((u2 : Int) * 4294967296 + (u1 : Int)) / (y1 : Int) = ((A / y1 : Nat) : Int) ∧ ((u2 : Int) * 4294967296 + (u1 : Int)) % (y1 : Int) = ((A % y1 : Nat) : Int)) := ⟨by rw [hA]; simp, by rw [hA]; simp⟩
  clear hA
  have hy1 : ((y1 : Int) == 0) = false := by simp; omega
  have D0 : Hid (Gs A y1 Q (A / y1) (A % y1)) := gs_start HG.out
  have hq0 : A / y1 < 18446744073709551616 := Nat.lt_of_le_of_lt (Nat.div_le_self _ _) hAl
  have hr0 : A % y1 < 4294967296 := Nat.lt_trans (Nat.mod_lt _ (by omega)) m1
  go_enter Tryz.func115, Tryz.ntmps115
  go_wp2_with fail
  go_region
  go_wp2_with fail
  go_loopw [9, 10] (fun a c wr => ∃ (q r nd : Nat), a = .int .u64 (q : Int) ∧ c = .int .u64 (r : Int) ∧ wr = w.drewN nd ∧ r < 4294967296 ∧ q < 18446744073709551616 ∧ Hid (Gs A y1 Q q r)) (fun a _ _ => (intOf a).toNat)
  case atStart => exact ⟨A / y1, A % y1, 1, by rw [E1.out.1], by rw [E1.out.2], rfl, hr0, hq0, D0⟩
  case round =>
    obtain ⟨q, r, nd, rfl, rfl, rfl, hr, hq, HS⟩ := hrel
    clear hr0 hq0 D0 n1 n2 hAl
    by_cases hge : 4294967296 ≤ q
    · have d1 : decide (4294967296 ≤ (q : Int)) = true := decide_eq_true (by omega)
      have d1' : decide (4294967296 ≤ q) = true := decide_eq_true hge
      obtain ⟨hq1, HN⟩ := HS.out.step HG.out (.inl hge)
      obtain ⟨v, hv⟩ : ∃ v, v = q - 1 := ⟨_, rfl⟩
      have ev : (q : Int) - 1 = (v : Int) := by omega
      have vl : v < 18446744073709551616 := by omega
      obtain ⟨t, ht⟩ : ∃ t, t = r + y1 := ⟨_, rfl⟩
      have et : (r : Int) + (y1 : Int) = (t : Int) := by omega
      have tl : t < 18446744073709551616 := by omega
      have HM : Hid (Gs A y1 Q v t ∧ v < q) := ⟨by rw [hv, ht]; exact HN, by omega⟩
      clear HN hv ht hge
      by_cases hb : 4294967296 ≤ t
      · have d2 : decide (4294967296 ≤ (t : Int)) = true := decide_eq_true (by omega)
        have d2' : decide (4294967296 ≤ t) = true := decide_eq_true hb
        have HE : Hid _ := HM.out.1.broke HG.out hb
        clear hb
        go_wp2_with fail
        go_quiet (fail)
        go_wp2_with fail
        go_ret
        exact ⟨v, rfl, ⟨HM.out.1.ge, HE.out.2, HE.out.1⟩, _, rfl⟩
      have d2 : decide (4294967296 ≤ (t : Int)) = false := decide_eq_false (by omega)
      have d2' : decide (4294967296 ≤ t) = false := decide_eq_false hb
      go_wp2_with fail
      go_quiet (fail)
      go_wp2_with fail
      go_roundw
      case rel => exact ⟨v, t, _, rfl, rfl, rfl, by omega, vl, HM.out.1⟩
      case measure => simp [intOf]; have := HM.out.2; omega
    have d1 : decide (4294967296 ≤ (q : Int)) = false := decide_eq_false (by omega)
    have d1' : decide (4294967296 ≤ q) = false := decide_eq_false hge
    have ql : q < 4294967296 := by omega
    have pl := (ls_p ql m0 (show 0 < 4294967296 by omega)).1
    rw [Nat.add_zero] at pl
    have e1 : (q : Int) * (y0 : Int) = ((q * y0 : Nat) : Int) := (Int.natCast_mul ..).symm
    obtain ⟨qy, eq⟩ : ∃ qy, qy = q * y0 := ⟨_, rfl⟩
    rw [← eq] at e1 pl
    have w1 : IntKind.u64.wrap ((q : Int) * (y0 : Int)) = (qy : Int) := by rw [e1, IntKind.wrap_u64]; omega
    have w2 : IntKind.u64.wrap ((r : Int) * 4294967296) = (r : Int) * 4294967296 := by rw [IntKind.wrap_u64]; omega
    obtain ⟨ru, er⟩ : ∃ ru, ru = r * 4294967296 + u0 := ⟨_, rfl⟩
    have w3 : IntKind.u64.wrap ((r : Int) * 4294967296 + (u0 : Int)) = (ru : Int) := by rw [IntKind.wrap_u64]; omega
    have EQ : Hid (qy = q * y0 ∧ ru = r * 4294967296 + u0) := ⟨eq, er⟩
    clear e1 eq er
    have x1 : (k : Int) + 2 - 2 = (k : Int) := by omega
    have x2 : (j : Int) + ((k : Int) + 2) - 2 = ((j + k : Nat) : Int) := by omega
    have x3 : (k : Int) < (k : Int) + 2 := by omega
    have x4 : k < k + 2 := by omega
    have x5 : j + k < N := by omega
    obtain ⟨bb, d3⟩ : ∃ bb, decide (ru < qy) = bb := ⟨_, rfl⟩
    have d4 : decide ((r : Int) * 4294967296 + (u0 : Int) < (qy : Int)) = bb := by
      rw [← d3]
      exact decide_eq_decide.2 (by have := EQ.out.2; omega)
    have d5 : decide (r * 4294967296 + u0 < qy) = bb := by rw [← d3, EQ.out.2]
    have DB : Hid (decide (ru < qy) = bb) := d3
    go_wp2_with fail
    go_quiet (fail)
    clear d3 d4 d5 w1 w2 w3 x1 x2 x3 x4 x5 pl
    cases bb
    · have hgt := of_decide_eq_false DB.out
      have HE : Hid (q ≤ Q + 1) := HS.out.done HG.out ql (by rw [← EQ.out.1, ← EQ.out.2]; omega)
      clear hgt DB EQ
      go_wp2_with fail
      go_ret
      exact ⟨q, rfl, ⟨HS.out.ge, HE.out, ql⟩, _, World.drewN_drewN ..⟩
    have hgt := of_decide_eq_true DB.out
    obtain ⟨hq1, HN⟩ := HS.out.step HG.out (.inr (by rw [← EQ.out.1, ← EQ.out.2]; exact hgt))
    obtain ⟨v, hv⟩ : ∃ v, v = q - 1 := ⟨_, rfl⟩
    have ev : (q : Int) - 1 = (v : Int) := by omega
    have vl : v < 18446744073709551616 := by omega
    obtain ⟨t, ht⟩ : ∃ t, t = r + y1 := ⟨_, rfl⟩
    have et : (r : Int) + (y1 : Int) = (t : Int) := by omega
    have tl : t < 18446744073709551616 := by omega
    have HM : Hid (Gs A y1 Q v t ∧ v < q) := ⟨by rw [hv, ht]; exact HN, by omega⟩
    clear HN hv ht hgt DB EQ
    by_cases hb : 4294967296 ≤ t
    · have d2 : decide (4294967296 ≤ (t : Int)) = true := decide_eq_true (by omega)
      have d2' : decide (4294967296 ≤ t) = true := decide_eq_true hb
      have HE : Hid _ := HM.out.1.broke HG.out hb
      clear hb
      go_wp2_with fail
      go_ret
      exact ⟨v, rfl, ⟨HM.out.1.ge, HE.out.2, HE.out.1⟩, _, rfl⟩
    have d2 : decide (4294967296 ≤ (t : Int)) = false := decide_eq_false (by omega)
    have d2' : decide (4294967296 ≤ t) = false := decide_eq_false hb
    go_wp2_with fail
    go_roundw
    case rel => exact ⟨v, t, _, rfl, rfl, rfl, by omega, vl, HM.out.1⟩
    case measure => simp [intOf]; have := HM.out.2; omega
set_option maxHeartbeats 2000000 in
theorem rless_any (b N cap j n q cap' : Nat) (a' : Option Addr) (F Y : Nat → Nat) (w : World) (hF : DRow w b cap N F) (dF : Dg F N) (hY : Sl w a' n cap' Y) (dY : Dg Y n) (hj : j + n < N) (hN : N ≤ 1099511627776) (hq : q < 4294967296)
    (hne : ∀ b' o', a' = some ⟨b', o', none⟩ → b' ≠ b) :
    Calls Tryz.prog 116 #[.slice (some ⟨b, 0, none⟩) N cap, .slice a' n cap', .int .i64 (j : Int), .int .u64 (q : Int)] w fun e w' => ∃ (bo c : Nat) (H : Nat → Nat), e = .returned (.int .u64 (bo : Int)) ∧ DRow w' b cap N H ∧ Ls F Y N n j q (n + 1) c bo H ∧ w.grownBy w' (some b) := by
  have HH : Hid (DRow w b cap N F ∧ Dg F N ∧ Sl w a' n cap' Y ∧ Dg Y n ∧ ∀ b' o', a' = some ⟨b', o', none⟩ → b' ≠ b) := ⟨hF, dF, hY, dY, hne⟩
  clear hF dF hY dY hne
  go_enter Tryz.func116, Tryz.ntmps116
  go_wp2_with fail
  go_loopw [10, 11, 12] (fun c bo t wr => ∃ (i cc bb : Nat) (H : Nat → Nat), i ≤ n + 1 ∧ t = .int .i64 (i : Int) ∧ c = .int .u64 (cc : Int) ∧ bo = .int .u64 (bb : Int) ∧ Hid (DRow wr b cap N H ∧ Ls F Y N n j q i cc bb H ∧ w.grownBy wr (some b))) (fun _ _ t _ => n + 1 - (intOf t).toNat)
  case atStart => exact ⟨0, 0, 0, F, by omega, rfl, rfl, rfl, ⟨HH.out.1, ls_start F Y N n j q HH.out.2.1, World.grownBy.refl _ _⟩⟩
  case round =>
    obtain ⟨i, cc, bb, H, hi, rfl, rfl, rfl, hP⟩ := hrel
    by_cases hin : i ≤ n
    · have hle : (i : Int) ≤ n := by omega
      have hcd : wr.cell? ⟨b, j + i, none⟩ = some (.int .u64 (F (j + i) : Nat)) := by
        rw [← hP.out.2.1.out (j + i) (by omega)]
        exact hP.out.1.cell (by omega)
      have hfd : wr.frozen? ⟨b, j + i, none⟩ = false := hP.out.1.frozen _
      have lf := HH.out.2.1 (j + i) (by omega)
      have lc := hP.out.2.1.lc
      have lb := hP.out.2.1.lb
      obtain ⟨d, ed⟩ : ∃ d, d = cutU Y n 0 i := ⟨_, rfl⟩
      have ld : d < 4294967296 := by rw [ed]; exact dg_cut HH.out.2.2.2.1 i
      have ED : Hid (d = cutU Y n 0 i) := ed
      have DG : Hid (Calls Tryz.prog 92 #[.slice a' n cap', .int .i64 (i : Int)] wr fun e w' => e = .returned (.int .u64 (d : Int)) ∧ w' = wr) := by
        rw [ed]
        exact rdigit_any _ _ _ Y i _ (HH.out.2.2.1.apart hP.out.2.2 HH.out.2.2.2.2) (by omega)
      clear ed
      obtain ⟨f, ef⟩ : ∃ f, f = F (j + i) := ⟨_, rfl⟩
      have EF : Hid (f = F (j + i)) := ef
      rw [← ef] at hcd lf
      clear ef
      have pl := (ls_p hq ld lc).1
      have e1 : (q : Int) * (d : Int) = ((q * d : Nat) : Int) := (Int.natCast_mul ..).symm
      obtain ⟨qd, eqd⟩ : ∃ qd, qd = q * d := ⟨_, rfl⟩
      rw [← eqd] at e1 pl
      have m1 : IntKind.u64.wrap ((q : Int) * (d : Int)) = (qd : Int) := by rw [e1, IntKind.wrap_u64]; omega
      obtain ⟨p, ep⟩ : ∃ p, p = qd + cc := ⟨_, rfl⟩
      have m2 : IntKind.u64.wrap ((qd : Int) + (cc : Int)) = (p : Int) := by rw [IntKind.wrap_u64]; omega
      have EP : Hid (p = q * d + cc) := by show _ = _; rw [ep, eqd]
      have r1 : IntKind.u64.wrap (4294967296 + (f : Int)) = 4294967296 + (f : Int) := by rw [IntKind.wrap_u64]; omega
      have r2 : IntKind.u64.wrap (4294967296 + (f : Int) - (p : Int) % 4294967296) = 4294967296 + (f : Int) - (p : Int) % 4294967296 := by rw [IntKind.wrap_u64]; omega
      obtain ⟨s, es⟩ : ∃ s, s = 4294967296 + f - p % 4294967296 - bb := ⟨_, rfl⟩
      have r3 : IntKind.u64.wrap (4294967296 + (f : Int) - (p : Int) % 4294967296 - (bb : Int)) = (s : Int) := by rw [IntKind.wrap_u64]; omega
      have hsl : s < 8589934592 := by omega
      have r4 : IntKind.u64.wrap (1 - (s : Int) / 4294967296) = ((1 - s / 4294967296 : Nat) : Int) := by rw [IntKind.wrap_u64]; omega
      have S : Hid (DRow (wr.setCell ⟨b, j + i, none⟩ (.int .u64 ((s % 4294967296 : Nat) : Int))) b cap N (put H (j + i) (s % 4294967296)) ∧ Ls F Y N n j q (i + 1) (p / 4294967296) (1 - s / 4294967296) (put H (j + i) (s % 4294967296)) ∧ w.grownBy (wr.setCell ⟨b, j + i, none⟩ (.int .u64 ((s % 4294967296 : Nat) : Int))) (some b)) :=
        ⟨hP.out.1.set (j + i) (by omega), hP.out.2.1.step ED.out HH.out.2.2.2.1 hq EP.out (by rw [← EF.out]; exact es) (by rw [← EF.out]; exact lf), grown_set _ hP.out.2.2 _ _⟩
      have hpl : p < 18446744073709551616 := by omega
      clear e1 eqd ep es pl
      go_wp2_with fail
      refine (DG.out).mono ?_
      rintro e w' ⟨rfl, rfl⟩
      go_wp2_with fail
      go_roundw
      case rel => exact ⟨i + 1, _, _, _, by omega, by go_num, by go_num, by go_num, S.out⟩
      case measure => simp [intOf]; omega
    obtain rfl : i = n + 1 := by omega
    go_wp2_with fail
    go_ret
    exact ⟨bb, cc, H, rfl, hP.out⟩
set_option maxHeartbeats 2000000 in
theorem rback_any (b N cap j n cap' : Nat) (a' : Option Addr) (F Y : Nat → Nat) (w : World) (hF : DRow w b cap N F) (dF : Dg F N) (hY : Sl w a' n cap' Y) (dY : Dg Y n) (hj : j + n < N) (hN : N ≤ 1099511627776)
    (hne : ∀ b' o', a' = some ⟨b', o', none⟩ → b' ≠ b) :
    Calls Tryz.prog 117 #[.slice (some ⟨b, 0, none⟩) N cap, .slice a' n cap', .int .i64 (j : Int)] w fun e w' => ∃ (u : Value) (c : Nat) (H : Nat → Nat), e = .returned u ∧ DRow w' b cap N H ∧ Bk F Y N n j (n + 1) c H ∧ w.grownBy w' (some b) := by
  have HH : Hid (DRow w b cap N F ∧ Dg F N ∧ Sl w a' n cap' Y ∧ Dg Y n ∧ ∀ b' o', a' = some ⟨b', o', none⟩ → b' ≠ b) := ⟨hF, dF, hY, dY, hne⟩
  clear hF dF hY dY hne
  go_enter Tryz.func117, Tryz.ntmps117
  go_wp2_with fail
  go_loopw [6, 7] (fun c t wr => ∃ (i cc : Nat) (H : Nat → Nat), i ≤ n + 1 ∧ t = .int .i64 (i : Int) ∧ c = .int .u64 (cc : Int) ∧ Hid (DRow wr b cap N H ∧ Bk F Y N n j i cc H ∧ w.grownBy wr (some b))) (fun _ t _ => n + 1 - (intOf t).toNat)
  case atStart => exact ⟨0, 0, F, by omega, rfl, rfl, ⟨HH.out.1, bk_start F Y N n j HH.out.2.1, World.grownBy.refl _ _⟩⟩
  case round =>
    obtain ⟨i, cc, H, hi, rfl, rfl, hP⟩ := hrel
    by_cases hin : i ≤ n
    · have hle : (i : Int) ≤ n := by omega
      have hcd : wr.cell? ⟨b, j + i, none⟩ = some (.int .u64 (F (j + i) : Nat)) := by
        rw [← hP.out.2.1.out (j + i) (by omega)]
        exact hP.out.1.cell (by omega)
      have hfd : wr.frozen? ⟨b, j + i, none⟩ = false := hP.out.1.frozen _
      have lf := HH.out.2.1 (j + i) (by omega)
      have lc := hP.out.2.1.lc
      obtain ⟨d, ed⟩ : ∃ d, d = cutU Y n 0 i := ⟨_, rfl⟩
      have ld : d < 4294967296 := by rw [ed]; exact dg_cut HH.out.2.2.2.1 i
      have ED : Hid (d = cutU Y n 0 i) := ed
      have DG : Hid (∀ k, Calls Tryz.prog 92 #[.slice a' n cap', .int .i64 (i : Int)] (wr.drewN k) fun e w' => e = .returned (.int .u64 (d : Int)) ∧ w' = wr.drewN k) := fun k => by
        rw [ed]
        exact rdigit_any _ _ _ Y i _ ((HH.out.2.2.1.apart hP.out.2.2 HH.out.2.2.2.2).mono (bel_drewN (bel_refl wr) k)) (by omega)
      clear ed
      obtain ⟨f, ef⟩ : ∃ f, f = F (j + i) := ⟨_, rfl⟩
      have EF : Hid (f = F (j + i)) := ef
      rw [← ef] at hcd lf
      clear ef
      have m1 : IntKind.u64.wrap ((f : Int) + (d : Int)) = (f : Int) + (d : Int) := by rw [IntKind.wrap_u64]; omega
      obtain ⟨s, es⟩ : ∃ s, s = f + d + cc := ⟨_, rfl⟩
      have m2 : IntKind.u64.wrap ((f : Int) + (d : Int) + (cc : Int)) = (s : Int) := by rw [IntKind.wrap_u64]; omega
      have hsl : s < 18446744073709551616 := by omega
      have S : Hid (∀ nq, DRow ((wr.drewN nq).setCell ⟨b, j + i, none⟩ (.int .u64 ((s % 4294967296 : Nat) : Int))) b cap N (put H (j + i) (s % 4294967296)) ∧ Bk F Y N n j (i + 1) (s / 4294967296) (put H (j + i) (s % 4294967296)) ∧ w.grownBy ((wr.drewN nq).setCell ⟨b, j + i, none⟩ (.int .u64 ((s % 4294967296 : Nat) : Int))) (some b)) := fun nq =>
        ⟨(hP.out.1.drewN nq).set (j + i) (by omega), hP.out.2.1.step ED.out HH.out.2.2.2.1 (by rw [← EF.out]; exact es) (by rw [← EF.out]; exact lf), grown_set _ (w' := wr.drewN nq) ⟨hP.out.2.2.os, hP.out.2.2.tape, hP.out.2.2.output, hP.out.2.2.size, hP.out.2.2.block⟩ _ _⟩
      clear es
      go_wp2_with fail
      go_quiet ((go_at_call 92; exact Calls.quiet_of_same (DG.out _)))
      go_wp2_with fail
      go_roundw
      case rel => exact ⟨i + 1, _, _, by omega, by go_num, by go_num, S.out _⟩
      case measure => simp [intOf]; omega
    obtain rfl : i = n + 1 := by omega
    go_wp2_with fail
    exact bodyPost_end (v := .tuple #[]) (by simp [results, Tryz.results117, go_sem]) rfl ⟨_, cc, H, rfl, hP.out⟩
theorem bitLen_le_of {x m : Nat} (h : x < 2 ^ m) : bitLen x ≤ m := by
  rcases Nat.lt_or_ge m (bitLen x) with hh | hh
  · have h1 := (bitLen_spec x).2 (by intro e; subst e; simp [bitLen] at hh)
    have h2 : (2 : Nat) ^ m ≤ 2 ^ (bitLen x - 1) := Nat.pow_le_pow_right (by omega) (by omega)
    omega
  exact hh
theorem U_of_digits {H : Nat → Nat} {Z : Nat} : ∀ {n : Nat}, (∀ j, j < n → H j = Z / B j % 4294967296) → U H n = Z % B n
  | 0, _ => by rw [U_zero, B_zero, Nat.mod_one]
  | n + 1, h => by
    rw [U_succ, U_of_digits fun j hj => h j (by omega), h n (by omega), B_succ, Nat.mod_mul, Nat.mul_comm (B n)]
theorem U_over {F : Nat → Nat} {n q : Nat} (h : Dg F n) (hq : q ≤ n) : U F n / B q = U (fun j => F (q + j)) (n - q) := by
  obtain ⟨t, rfl⟩ : ∃ t, n = q + t := ⟨n - q, by omega⟩
  rw [U_split, Nat.add_mul_div_left _ _ (B_pos q), Nat.div_eq_of_lt (U_lt (h.mono (by omega))), Nat.zero_add, Nat.add_sub_cancel_left]
theorem U_low2 (F : Nat → Nat) (n : Nat) : ∃ T, U (cutU F n 0) (n + 2) = U (cutU F n 0) (n + 2) ∧ U F n = cutU F n 0 0 + 4294967296 * (cutU F n 0 1 + 4294967296 * T) := by
  refine ⟨U (fun j => cutU F n 0 (2 + j)) n, rfl, ?_⟩
  rw [← U_cut (G := F) (show n ≤ 1 + (1 + n) by omega), U_split, U_split, B_one, U_succ, U_zero, U_succ, U_zero, B_zero]
  simp only [Nat.zero_add, Nat.mul_one, Nat.add_zero]
  have : (fun i => cutU F n 0 (1 + (1 + i))) = (fun j => cutU F n 0 (2 + j)) := by funext i; rw [show 1 + (1 + i) = 2 + i by omega]
  rw [this]
theorem shr_low {a b T r : Nat} (hr : r < 32) : (a + 4294967296 * (b + 4294967296 * T)) / 2 ^ r % 4294967296 = (a + b * 4294967296) / 2 ^ r % 4294967296 := by
  have e : (18446744073709551616 : Nat) = 2 ^ r * (4294967296 * 2 ^ (32 - r)) := by
    have h1 : (18446744073709551616 : Nat) = 2 ^ 64 := by decide
    have h2 : (4294967296 : Nat) = 2 ^ 32 := by decide
    rw [h1, h2, ← Nat.pow_add, ← Nat.pow_add]
    congr 1
    omega
  have e2 : a + 4294967296 * (b + 4294967296 * T) = (a + b * 4294967296) + 2 ^ r * (4294967296 * (2 ^ (32 - r) * T)) := by
    have : 18446744073709551616 * T = 2 ^ r * (4294967296 * 2 ^ (32 - r)) * T := by rw [← e]
    grind
  rw [e2, Nat.add_mul_div_left _ _ (Nat.pow_pos (by decide)), Nat.add_mul_mod_self_left]
theorem shr_digit {F : Nat → Nat} {n q r j : Nat} (h : Dg F n) (hr : r < 32) (hj : q + j < n) :
    U F n / 2 ^ (32 * q + r) / B j % 4294967296 = (F (q + j) + cutU F n 0 (q + j + 1) * 4294967296) / 2 ^ r % 4294967296 := by
  rw [Nat.pow_add, ← B_two, ← Nat.div_div_eq_div_mul, Nat.div_div_eq_div_mul (U F n / B q), Nat.mul_comm (2 ^ r), ← Nat.div_div_eq_div_mul (U F n / B q), Nat.div_div_eq_div_mul (U F n), ← B_add, U_over h (by omega)]
  obtain ⟨T, _, hT⟩ := U_low2 (fun i => F (q + j + i)) (n - (q + j))
  rw [hT, shr_low hr]
  have e0 : cutU (fun i => F (q + j + i)) (n - (q + j)) 0 0 = F (q + j) := by rw [cutU_in (by omega)]; rfl
  have e1 : cutU (fun i => F (q + j + i)) (n - (q + j)) 0 1 = cutU F n 0 (q + j + 1) := by
    by_cases hh : q + j + 1 < n
    · rw [cutU_in (by omega), cutU_in (by omega)]
      show F (q + j + (0 + 1)) = _
      congr 1
      omega
    rw [cutU_out (by omega), cutU_out (by omega)]
  rw [e0, e1]
theorem shr_all {F H : Nat → Nat} {n q r : Nat} (h : Dg F n) (hr : r < 32) (hq : q ≤ n) (hH : ∀ j, j < n - q → H j = (F (q + j) + cutU F n 0 (q + j + 1) * 4294967296) / 2 ^ r % 4294967296) :
    U H (n - q) = U F n / 2 ^ (32 * q + r) := by
  rw [U_of_digits (Z := U F n / 2 ^ (32 * q + r)) fun j hj => (hH j hj).trans (shr_digit h hr (by omega)).symm]
  refine Nat.mod_eq_of_lt ?_
  rw [Nat.pow_add, ← B_two, ← Nat.div_div_eq_div_mul, U_over h hq]
  exact Nat.lt_of_le_of_lt (Nat.div_le_self _ _) (U_lt fun j hj => h _ (by omega))
end Go.Proofs.YtfkkomppfghagaaGreatDoor
