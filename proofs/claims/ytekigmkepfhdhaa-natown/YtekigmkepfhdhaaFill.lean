/- fill: a number's digits, by halving. -/
import Derived.Test.YtekigmkepfhdhaaChunkP
namespace Go.Proofs.Ytekigmkepfhdhaa
open Go.RowKit
set_option maxRecDepth 100000
set_option linter.unusedVariables false
theorem cnt_full {M : Nat → Nat} {x : Nat} : ∀ {K : Nat}, (∀ i, i < K → M i ≤ x) → cnt M x K = K
  | 0, _ => rfl
  | K + 1, h => by
    unfold cnt
    rw [cnt_full fun i hi => h i (by omega), if_pos (h K (by omega))]
theorem cnt_pw {x : Nat} : ∀ {K t : Nat}, cnt pw x K = t + 1 → t < K ∧ pw t ≤ x
  | 0, t, h => by
    unfold cnt at h
    omega
  | K + 1, t, h => by
    by_cases hk : pw K ≤ x
    · rw [cnt_full fun i hi => Nat.le_trans (pw_le (show i ≤ K by omega)) hk] at h
      obtain rfl : t = K := by omega
      exact ⟨by omega, hk⟩
    · unfold cnt at h
      rw [if_neg hk, Nat.add_zero] at h
      obtain ⟨h1, h2⟩ := cnt_pw h
      exact ⟨by omega, h2⟩
theorem cnt_one {x : Nat} (h : pw 0 ≤ x) : ∀ {K : Nat}, 0 < K → 0 < cnt pw x K
  | 0, hk => absurd hk (by omega)
  | 1, _ => by
    unfold cnt cnt
    rw [if_pos h]
    omega
  | K + 2, _ => by
    have := cnt_one h (show 0 < K + 1 by omega)
    rw [cnt]
    omega
theorem BRow.noword {w : World} {b N : Nat} {D : Nat → Nat} (h : BRow w b N D) : ∀ i z, w.cell? ⟨b, i, none⟩ ≠ some (.int .u64 z) := rowIs_noword h.1 fun i hi z => by simp
theorem PowsAt.bytes {w w' : World} {base b N K : Nat} {v : Value} {D : Nat → Nat} (h : PowsAt w base v K) (hD : BRow w b N D) (hg : w.grownBy w' (some b)) : PowsAt w' base v K := by
  obtain ⟨G, ⟨g, cap, f, rfl, k1, k2, k3, k4, k5, k6⟩, h2⟩ := h
  refine ⟨G, ⟨g, cap, f, rfl, k1, k2, k3, k4.of_block (hg.block g k4.lt ?_), k5, k6⟩, fun i hi => (h2 i hi).keep hg hD.noword⟩
  intro e
  cases e
  obtain ⟨c1, e1, _⟩ := k4
  obtain ⟨c2, e2, _⟩ := hD.1
  rw [e1] at e2
  simp at e2
/-- The digits of two parts are those of the whole. -/
theorem DecFill.join {D D' D'' : Nat → Nat} {o n cut x m : Nat} (hc : n = cut + m) (h : DecFill D D' o cut 0 (x / 10 ^ m)) (k : DecFill D' D'' (o + cut) m 0 (x % 10 ^ m)) : DecFill D D'' o n 0 x := by
  subst hc
  refine ⟨fun i _ hi => ?_, fun j hj => ?_⟩
  · rcases Nat.lt_or_ge i cut with hh | hh
    · rw [k.2 _ (by omega), h.1 i (by omega) hh, decAt_div]
      congr 1
      omega
    · have := k.1 (i - cut) (by omega) (by omega)
      rw [show o + cut + (i - cut) = o + i by omega] at this
      rw [this, decAt_mod _ _ _ (by omega)]
      congr 1
      omega
  · rw [k.2 _ (by omega), h.2 _ (by omega)]
theorem slice_bh (g o len cap c : Nat) (hc : c ≤ cap) (w : World) :
    (Instr.slice 23 (.slice (some ⟨g, o, none⟩) len cap) none (some (.int .i64 (c : Int))) none).run Try.prog w = .ok (.slice (some ⟨g, o, none⟩) c cap) w := by
  rw [run_slice_h (P := Try.prog) (kh := .i64) (h := (c : Int)) (ht := by kernel_rfl) (h0 := by omega) (h2 := by omega)]
  have hz : (sizeOf (Try.prog.elem 23)).run Try.prog w = .ok 1 w := by kernel_rfl
  rw [hz]
  simp [Result.andThen, sliced]
  intro _
  simp [Addr.add]
theorem slice_bl (g o len cap c : Nat) (hc : c < cap) (hl : c ≤ len) (w : World) :
    (Instr.slice 23 (.slice (some ⟨g, o, none⟩) len cap) (some (.int .i64 (c : Int))) none none).run Try.prog w = .ok (.slice (some ⟨g, o + c, none⟩) (len - c) (cap - c)) w := by
  rw [run_slice_l (P := Try.prog) (kl := .i64) (l := (c : Int)) (ht := by kernel_rfl) (h0 := by omega) (h1 := by omega)]
  have hz : (sizeOf (Try.prog.elem 23)).run Try.prog w = .ok 1 w := by kernel_rfl
  have hne : ¬ cap = c := by omega
  rw [hz]
  simp only [Result.andThen, sliced, Int.toNat_natCast, Nat.mul_one, if_neg hne, Option.map_some]
  congr 3
  unfold Addr.add
  split <;> simp_all
theorem gb_undrew {w w' : World} {r : Option Nat} (h : w.drew.grownBy w' r) : w.grownBy w' r := ⟨h.os, h.tape, h.output, h.size, h.block⟩
/-- What fill makes. -/
def Fills (w : World) (b N o n x : Nat) (D : Nat → Nat) (e : Ending) (w' : World) : Prop := e = .returned (.tuple #[]) ∧ ∃ D', BRow w' b N D' ∧ DecFill D D' o n 0 x ∧ w.grownBy w' (some b)
set_option maxHeartbeats 1000000 in
theorem fill_short (b N o n cap : Nat) (v pv : Value) (x : Nat) (D : Nat → Nat) (w : World) (hD : BRow w b N D) (ho : o + n ≤ N) (hn : n ≤ 1099511627776) (hcap : n ≤ cap) (hcap2 : cap ≤ 1099511627776) (h : IsNat w v x) (hx : x < P 40) :
    Calls Try.prog 55 #[.slice (some ⟨b, o, none⟩) n cap, v, pv] w (Fills w b N o n x D) := by
  obtain ⟨a, m, c, rfl⟩ := h.isAgg
  obtain ⟨F, hs, h0, h1, hv⟩ := id h.fits
  have hm : m ≤ 40 := len_le_of (hv.symm ▸ hx) h1
  have HH : Hid (BRow w b N D ∧ IsNat w (.agg #[.slice a m c]) x) := ⟨hD, h⟩
  have HX : Hid (Fits x) := ⟨Nat.lt_trans hx (P_lt (show 40 < lim by decide))⟩
  clear hD h hs h0 h1 hv hx
  go_enter Try.func55, Try.ntmps55
  go_wp2_with fail
  have ba : Below w.heap.size w (w.alloc (Obj.cells #[Value.slice a m c] 27)) := (Below.refl _ _).alloc (Nat.le_refl _) _
  refine (fillPlain_any b N o n cap _ x D _ (HH.out.1.below ba) ho hn hcap hcap2 (HH.out.2.mono ba) HX.out).mono ?_
  rintro e w2 ⟨rfl, D', hb, hf, hg⟩
  have I2 : Hid (_ ∧ _ ∧ _) := ⟨hb, hf, gb_go (gb_of_below ba (some b)) hg (fun j hj => .inr hj)⟩
  clear hb hf hg ba
  go_wp2_with fail
  exact bodyPost_end (v := .tuple #[]) (by simp [results, Try.results55, go_sem]) rfl ⟨rfl, D', I2.out⟩
set_option maxHeartbeats 2000000 in
theorem fill_step (b N o n cap : Nat) (v pv : Value) (x base K : Nat) (D : Nat → Nat) (w : World) (hD : BRow w b N D) (ho : o + n ≤ N) (hn : n ≤ 1099511627776) (hcap : n ≤ cap) (hcap2 : cap ≤ 1099511627776) (h : IsNat w v x) (hx : P 40 ≤ x) (ht : Tx x) (hxn : x < 10 ^ n) (hP : PowsAt w base pv K) (hK : 0 < K) (hK2 : K ≤ 8)
    (ih : ∀ y, y < x → ∀ (o n cap : Nat) (v : Value) (D : Nat → Nat) (w : World), BRow w b N D → o + n ≤ N → n ≤ 1099511627776 → n ≤ cap → cap ≤ 1099511627776 → IsNat w v y → y < 10 ^ n → PowsAt w base pv K → Calls Try.prog 55 #[.slice (some ⟨b, o, none⟩) n cap, v, pv] w (Fills w b N o n y D)) :
    Calls Try.prog 55 #[.slice (some ⟨b, o, none⟩) n cap, v, pv] w (Fills w b N o n x D) := by
  obtain ⟨a, m, c, rfl⟩ := h.isAgg
  obtain ⟨F, hs, h0, h1, hv⟩ := id h.fits
  have hm : 40 < m := by
    rcases Nat.lt_or_ge 40 m with hh | hh
    · exact hh
    · have := V_lt (hs.2.2.1)
      have := P_le hh
      omega
  have hm2 : m ≤ 225 := len_le_of (hv.symm ▸ ht.lt) h1
  have hp0 : pw 0 ≤ x := Nat.le_trans (show pw 0 ≤ P 40 by decide +kernel) hx
  obtain ⟨t, ht1⟩ : ∃ t, cnt pw x K = t + 1 := ⟨cnt pw x K - 1, by have := cnt_one hp0 hK; omega⟩
  obtain ⟨ht2, ht3⟩ := cnt_pw ht1
  obtain ⟨g, gc, rfl, hg1, hg2, hg3⟩ := id hP.nrow
  obtain ⟨ap, np, cp, e1, e2⟩ := hg3 t ht2
  rw [Nat.zero_add] at e1
  have ba : Below w.heap.size w (w.alloc (Obj.cells #[Value.slice a m c] 27)) := (Below.refl _ _).alloc (Nat.le_refl _) _
  have HH : Hid (BRow w b N D ∧ IsNat w (.agg #[.slice a m c]) x ∧ PowsAt w base (.slice (some ⟨g, 0, none⟩) K gc) K ∧ IsNat w (.agg #[.slice ap np cp]) (pw t) ∧ w.cell? ⟨g, t, none⟩ = some (.slice ap np cp) ∧ NRow w g 0 K pw) := ⟨hD, h, hP, e2, e1, hg3⟩
  have HT : Hid (Tx x ∧ pw t ≤ x ∧ x < 10 ^ n ∧ cnt pw x K = t + 1) := ⟨ht, ht3, hxn, ht1⟩
  have IH : Hid _ := ih
  clear hD h hs h0 h1 hv hx ht hxn hP hp0 e1 e2 hg3 ih ht1 ht3 hg1
  go_enter Try.func55, Try.ntmps55
  go_wp2_with fail
  refine (reached_any _ x g 0 K gc pw _ (HH.out.2.1.mono ba) HT.out.1.fits (HH.out.2.2.2.2.2.mono ba) (fun i hi => (pw_tx (show i ≤ 7 by omega)).fits) (by omega)).mono ?_
  rintro e w2 ⟨rfl, hb2⟩
  rw [HT.out.2.2.2, show (((t + 1 : Nat) : Nat) : Int) = (t : Int) + 1 from rfl]
  have B2 : Hid (Below w.heap.size w w2) := bel_go ba hb2
  have c0 : w2.cell? ⟨w.heap.size, 0, none⟩ = some (.slice a m c) := cell_later hb2 (by simp [go_sem])
  have c1 : w2.cell? ⟨g, t, none⟩ = some (.slice ap np cp) := cell_later B2.out HH.out.2.2.2.2.1
  have hl0 : w.heap.size < w2.heap.size := World.block_lt_of_cell? _ _ c0
  have hl1 : g < w2.heap.size := World.block_lt_of_cell? _ _ c1
  have hl2 : w.heap.size < w2.heap.size + 1 := by omega
  have hl3 : g < w2.heap.size + 1 := by omega
  have hl4 : w.heap.size < w2.heap.size + 1 + 1 := by omega
  have hl5 : g < w2.heap.size + 1 + 1 := by omega
  have hwr : IntKind.i64.wrap ((t : Int) + 1 - 1) = (t : Int) := by rw [IntKind.wrap_i64]; omega
  have hwr2 : IntKind.i64.wrap (t : Int) = (t : Int) := by rw [IntKind.wrap_i64]; omega
  have hti : (0 : Int) ≤ (t : Int) := by omega
  have hti2 : (t : Int) < (K : Int) := by omega
  have I2 : Hid (IsNat w2 (.agg #[.slice a m c]) x ∧ IsNat w2 (.agg #[.slice ap np cp]) (pw t) ∧ BRow w2 b N D ∧ PowsAt w2 base (.slice (some ⟨g, 0, none⟩) K gc) K ∧ w.grownBy w2 (some b)) := ⟨HH.out.2.1.mono B2.out, HH.out.2.2.2.1.mono B2.out, HH.out.1.below B2.out, HH.out.2.2.1.below B2.out, gb_of_below B2.out _⟩
  clear hb2 ba HH hg2
  go_wp2_with fail
  go_cut [7, 8] (fun p q wx => TwoVars w2 wx (x / pw t) (x % pw t) p q)
  case first =>
    go_region_held3 (fun w' => w'.cell? ⟨w.heap.size, 0, none⟩ = some (.slice a m c) ∧ w'.cell? ⟨g, t, none⟩ = some (.slice ap np cp)) (first | (simp [go_sem, *]; done) | (trace_state; fail))
      (first
        | (go_at_call 24; refine Calls.mono (divMod_any _ _ x (pw t) _ ?_ ?_ HT.out.1.small (HT.out.1.le HT.out.2.1).small (pw_pos t) ((pw_cond HT.out.1 HT.out.2.1).imp .inl id)) ?_; (refine IsNat.mono I2.out.1 ?_; repeat (first | exact Below.refl _ _ | refine bel_al ?_ | refine bel_dr ?_)); (refine IsNat.mono I2.out.2.1 ?_; repeat (first | exact Below.refl _ _ | refine bel_al ?_ | refine bel_dr ?_)); rintro e w3 ⟨v3, u3, rfl, hv3, hu3, hb3⟩; obtain ⟨a5, n5, cap5, rfl⟩ := hv3.isAgg; obtain ⟨a6, n6, cap6, rfl⟩ := hu3.isAgg; (first | have ⟨p1, p2, p3, p4, p5, p6, p7, p8, p9⟩ := bel_rules_dr hb3 | have ⟨p1, p2, p3, p4, p5, p6, p7, p8, p9⟩ := bel_rules hb3); have X5 : Hid (IsNat w3 (.agg #[.slice a5 n5 cap5]) (x / pw t) ∧ IsNat w3 (.agg #[.slice a6 n6 cap6]) (x % pw t)) := ⟨hv3, hu3⟩; (have B3 : Hid (Below w2.heap.size w2 w3) := bel_go (by repeat (first | exact Below.refl _ _ | refine bel_al ?_ | refine bel_dr ?_)) hb3); have z3 := B3.out.size; have g0 := Nat.lt_of_lt_of_le hl0 z3; have g1 := Nat.lt_of_lt_of_le hl1 z3; (first | have e0 : w2.heap.size < w3.heap.size := lt_al p3 | (have e0 : w2.heap.size < w3.heap.size := lt_al2 p3; have e1 : w2.heap.size + 1 < w3.heap.size := lt_al3 p3) | skip); clear hv3 hu3 hb3 z3))
    all_goals (have y3 := B3.out.size)
    all_goals go_wp2_with fail
    all_goals go_meet
    all_goals go_light
    all_goals clear HT I2 IH B2 c0 c1 hwr hwr2 hti hti2 ho hn hcap hcap2 hK hK2 hm hm2 ht2
    all_goals (have BB := B3.out)
    all_goals (have X6 := X5.out.1)
    all_goals (have X7 := X5.out.2)
    all_goals clear X5 B3
    all_goals refine ⟨_, _, a5, n5, cap5, a6, n6, cap6, rfl, rfl, ?_, ?_, ?_, ?_, ?_, ?_, ?_⟩
    all_goals try (simp (config := { maxDischargeDepth := 9 }) [go_sem, *]; done)
    all_goals try (repeat (first | exact BB | refine bel_al ?_ | refine bel_st ?_ (Nat.le_trans ?_ (Nat.le_refl _))))
    all_goals try (repeat (first | exact X6 | exact X7 | refine IsNat.mono ?_ (bel_al (Below.refl _ _)) | refine IsNat.setCell ?_ (no_int_slice (a := none) (n := 0) (c := 0) ?_) _))
    all_goals try omega
    all_goals try (simp (config := { maxDischargeDepth := 9 }) [go_sem, *]; done)
    all_goals (dsimp only; omega)
  case rest =>
    obtain ⟨bp, bq, a5, n5, c5, a6, n6, c6, rfl, rfl, d0, d1, hv5, hu5, hB, lp, lq⟩ := hcut
    have I3 : Hid (IsNat wc (.agg #[.slice a5 n5 c5]) (x / pw t) ∧ IsNat wc (.agg #[.slice a6 n6 c6]) (x % pw t) ∧ BRow wc b N D ∧ PowsAt wc base (.slice (some ⟨g, 0, none⟩) K gc) K ∧ w.grownBy wc (some b)) := ⟨hv5, hu5, I2.out.2.2.1.below hB, I2.out.2.2.2.1.below hB, gb_go I2.out.2.2.2.2 (gb_of_below hB (some b)) (fun j hj => .inr hj)⟩
    have hbb : b < w2.heap.size := I2.out.2.2.1.1.lt
    have hpb : b ≠ bp := by omega
    have hqb : b ≠ bq := by omega
    clear hv5 hu5 hB I2 B2 c0 c1 hl0 hl1 hl2 hl3 hl4 hl5 lp lq hbb
    go_wp2_with fail
    obtain ⟨M, hM⟩ : ∃ M, M = 19 * 2 ^ t := ⟨_, rfl⟩
    have hpw : pw t = 10 ^ M := by rw [hM]; rfl
    have hMn : M < n := (Nat.pow_lt_pow_iff_right (show 1 < 10 by decide)).1 (hpw ▸ Nat.lt_of_le_of_lt HT.out.2.1 HT.out.2.2.1)
    have hM0 : 0 < M := by rw [hM]; exact Nat.mul_pos (by decide) (Nat.two_pow_pos t)
    have hMi : (19 : Int) * 2 ^ t = (M : Int) := by rw [hM]; simp
    rw [hMi]
    have J : Hid (pw t = 10 ^ M ∧ x / pw t < x ∧ x % pw t < x ∧ x / pw t < 10 ^ (n - M) ∧ x % pw t < 10 ^ M) := by
      have h0 := HT.out.2.1
      have h1 := pw_two t
      have h2 : 0 < x := Nat.lt_of_lt_of_le (pw_pos t) h0
      refine ⟨hpw, Nat.div_lt_self h2 h1, Nat.lt_of_lt_of_le (Nat.mod_lt _ (pw_pos t)) h0, ?_, hpw ▸ Nat.mod_lt _ (pw_pos t)⟩
      refine Nat.div_lt_of_lt_mul ?_
      rw [hpw, ← Nat.pow_add, Nat.add_sub_cancel' (Nat.le_of_lt hMn)]
      exact HT.out.2.2.1
    clear hM hpw hMi hwr hwr2 hti hti2 HT
    obtain ⟨k, rfl⟩ : ∃ k, n = k + M := ⟨n - M, by omega⟩
    rw [Nat.add_sub_cancel] at J
    have hk0 : 0 < k := by omega
    have hw1 : wrap64 (((k + M : Nat) : Int) - wrap64 (M : Int)) = (k : Int) := by
      have : wrap64 (M : Int) = (M : Int) := by simp only [wrap64]; omega
      rw [this]
      simp only [wrap64]
      omega
    rw [hw1]
    have sl1 := slice_bh b o (k + M) cap k (by omega)
    have sl2 := slice_bl b o (k + M) cap k (by omega) (by omega)
    rw [Nat.add_sub_cancel_left] at sl2
    have hbp : some bp ≠ some b := fun e => hpb (Option.some.inj e).symm
    have hbq : some bq ≠ some b := fun e => hqb (Option.some.inj e).symm
    clear hw1
    go_region_held3 (fun w' => w'.cell? ⟨bp, 0, none⟩ = some (.slice a5 n5 c5)) (first | (simp [go_sem, *]; done) | (trace_state; fail))
      (first
        | (go_at_call 55; refine Calls.mono (IH.out (x / pw t) J.out.2.1 o k cap _ D _ ?_ ?_ ?_ ?_ ?_ ?_ ?_ ?_) ?_; exact I3.out.2.2.1; omega; omega; omega; omega; exact I3.out.1; exact J.out.2.2.2.1; exact I3.out.2.2.2.1; rintro e w4 ⟨rfl, D4, hb4, hf4, hg4⟩; have d2 : w4.cell? ⟨bp, 0, none⟩ = some (.slice a5 n5 c5) := hg4.cell d0 hbp; have d3 : w4.cell? ⟨bq, 0, none⟩ = some (.slice a6 n6 c6) := hg4.cell d1 hbq; have I4 : Hid (BRow w4 b N D4 ∧ DecFill D D4 o k 0 (x / pw t) ∧ wc.grownBy w4 (some b)) := ⟨hb4, hf4, (by first | exact hg4 | exact gb_undrew hg4)⟩; clear hb4 hf4 hg4))
    have I5 : Hid (IsNat w4 (.agg #[.slice a6 n6 c6]) (x % pw t) ∧ PowsAt w4 base (.slice (some ⟨g, 0, none⟩) K gc) K ∧ w.grownBy w4 (some b)) := ⟨I3.out.2.1.keep I4.out.2.2 I3.out.2.2.1.noword, I3.out.2.2.2.1.bytes I3.out.2.2.1 I4.out.2.2, gb_go I3.out.2.2.2.2 I4.out.2.2 (fun j hj => .inr hj)⟩
    clear d0 d1 d2 I3
    go_wp2_with fail
    go_region_held3 (fun w' => w'.cell? ⟨bq, 0, none⟩ = some (.slice a6 n6 c6)) (first | (simp [go_sem, *]; done) | (trace_state; fail))
      (first
        | (go_at_call 55; refine Calls.mono (IH.out (x % pw t) J.out.2.2.1 (o + k) M (cap - k) _ D4 _ ?_ ?_ ?_ ?_ ?_ ?_ ?_ ?_) ?_; exact I4.out.1; omega; omega; omega; omega; exact I5.out.1; exact J.out.2.2.2.2; exact I5.out.2.1; rintro e w6 ⟨rfl, D6, hb6, hf6, hg6⟩; have d4 : w6.cell? ⟨bq, 0, none⟩ = some (.slice a6 n6 c6) := hg6.cell d3 hbq; have I6 : Hid (BRow w6 b N D6 ∧ DecFill D4 D6 (o + k) M 0 (x % pw t) ∧ w4.grownBy w6 (some b)) := ⟨hb6, hf6, (by first | exact hg6 | exact gb_undrew hg6)⟩; clear hb6 hf6 hg6))
    go_wp2_with fail
    refine bodyPost_end (v := .tuple #[]) (by simp [results, Try.results55, go_sem]) rfl ⟨rfl, D6, I6.out.1, ?_, gb_go I5.out.2.2 I6.out.2.2 (fun j hj => .inr hj)⟩
    have h1 := I4.out.2.1
    have h2 := I6.out.2.1
    rw [J.out.1] at h1 h2
    exact h1.join rfl h2
theorem fill_any (b N : Nat) (pv : Value) (base K : Nat) (hK : 0 < K) (hK2 : K ≤ 8) : ∀ (x : Nat), Tx x → ∀ (o n cap : Nat) (v : Value) (D : Nat → Nat) (w : World), BRow w b N D → o + n ≤ N → n ≤ 1099511627776 → n ≤ cap → cap ≤ 1099511627776 → IsNat w v x → x < 10 ^ n → PowsAt w base pv K → Calls Try.prog 55 #[.slice (some ⟨b, o, none⟩) n cap, v, pv] w (Fills w b N o n x D) := by
  intro x
  induction x using Nat.strongRecOn with
  | ind x ih =>
    intro ht o n cap v D w hD ho hn hcap hcap2 h hxn hP
    rcases Nat.lt_or_ge x (P 40) with hx | hx
    · exact fill_short b N o n cap v pv x D w hD ho hn hcap hcap2 h hx
    · exact fill_step b N o n cap v pv x base K D w hD ho hn hcap hcap2 h hx ht hxn hP hK hK2 fun y hy => ih y hy (ht.le (Nat.le_of_lt hy))
end Go.Proofs.Ytekigmkepfhdhaa
