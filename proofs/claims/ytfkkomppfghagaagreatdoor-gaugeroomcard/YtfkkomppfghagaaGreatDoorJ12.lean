/- Contracts of the program's functions, part 12: own work, joined in build order. -/
import Derived.Test.YtfkkomppfghagaaGreatDoorJ11
namespace Go.Proofs.YtfkkomppfghagaaGreatDoor
open Go.RowKit
set_option maxRecDepth 100000
set_option linter.unusedVariables false
structure Le (w0 wr : World) (v : Value) (F : Nat → Nat) (q r i c : Nat) (H : Nat → Nat) : Prop where
  own : OR wr 82 w0.heap.size v (q + i) (wd H)
  dg : Dg H (q + i)
  sum : U H (q + i) + c * B (q + i) = U F i * 2 ^ r * B q
  car : c < 4294967296
  bel : Below w0.heap.size w0 wr
theorem le_lt {f c r : Nat} (hf : f < 4294967296) (hc : c < 4294967296) (hr : r < 32) : f * 2 ^ r + c < 18446744073709551616 := by
  have h1 : 2 ^ r ≤ 2 ^ 31 := Nat.pow_le_pow_right (by decide) (by omega)
  have h2 : f * 2 ^ r ≤ 4294967295 * 2147483648 := Nat.mul_le_mul (by omega) h1
  omega
theorem le_sum {u c b s f t T Bq bi : Nat} (hs : s = f * t + c) (e : u + c * b = T) (hb : b = Bq * bi) : u + s % 4294967296 * b + s / 4294967296 * (b * 4294967296) = T + f * bi * t * Bq := by
  have h1 := Nat.div_add_mod s 4294967296
  have h2 : s * b = (4294967296 * (s / 4294967296) + s % 4294967296) * b := by rw [h1]
  have h3 : s * b = (f * t + c) * b := by rw [hs]
  subst hb
  grind
theorem Le.step {w0 wr w2 : World} {v v2 : Value} {F H : Nat → Nat} {q r i c s : Nat} (h : Le w0 wr v F q r i c H) (hs : s = F i * 2 ^ r + c) (hl : s < 18446744073709551616)
    (ho : OR w2 82 w0.heap.size v2 (q + i + 1) (fun j => if j = q + i then .int .u64 (((s : Nat) : Int) % 4294967296) else wd H j)) (hb : Below w0.heap.size w0 w2) :
    Le w0 w2 v2 F q r (i + 1) (s / 4294967296) (put H (q + i) (s % 4294967296)) := by
  refine ⟨OR.congr ho fun j hj => ?_, fun j hj => ?_, ?_, by omega, hb⟩
  · unfold wd put
    split
    · congr 1
    rfl
  · unfold put
    split
    · exact Nat.mod_lt _ (by decide)
    exact h.dg j (by omega)
  rw [show q + (i + 1) = q + i + 1 by omega, U_succ, put_same, U_congr (F := put H (q + i) _) (G := H) fun j hj => put_other _ _ (by omega), B_succ, U_succ]
  have := le_sum (t := 2 ^ r) hs h.sum (B_add q i)
  rw [this]
  grind
set_option maxHeartbeats 2000000 in
theorem rleft_any (v : Value) (x p : Nat) (w : World) (h : RNat w v x) (hx : RFits x) (hp : p < 1099511627776) :
    Calls Tryz.prog 114 #[v, .int .i64 (p : Int)] w (RMakes w (x * 2 ^ p)) := by
  obtain ⟨ax, n, cap, rfl⟩ := h.isAgg
  obtain ⟨F, hs, hd, h1, hv⟩ := h.open
  have hn : n ≤ 4294967296 := rfits_len (hv.symm ▸ hx) h1
  obtain ⟨q, hq⟩ : ∃ q, q = p / 32 := ⟨_, rfl⟩
  have HH : Hid (Sl w ax n cap F ∧ Dg F n ∧ U F n = x ∧ q = p / 32) := ⟨hs, hd, hv, hq⟩
  have q1 : (p : Int) / 32 = (q : Int) := by omega
  have q2 : q < 34359738368 := by omega
  clear hs hd h1 hv h hx hq
  have mk := make_at (q : Int) (q : Int) q q rfl rfl (Nat.le_refl _) (by omega)
  go_enter Tryz.func114, Tryz.ntmps114
  go_wp2_with fail
  clear mk
  obtain ⟨w0, hw0⟩ : ∃ w0, w0 = (w.alloc (.cells #[.slice ax n cap] 51)).alloc (.cells #[.slice none 0 0] 51) := ⟨_, rfl⟩
  have c1 : w0.cell? ⟨w.heap.size, 0, none⟩ = some (.slice ax n cap) := by rw [hw0]; simp [go_sem]
  have c3 : w0.cell? ⟨w.heap.size + 1, 0, none⟩ = some (.slice none 0 0) := by rw [hw0]; simp [go_sem]
  have f3 : w0.frozen? ⟨w.heap.size + 1, 0, none⟩ = false := by rw [hw0]; simp [go_sem]
  have HB : Hid (Below w.heap.size w w0) := by rw [hw0]; exact bel_alloc2 _ _ _
  have S0 : w0.heap.size = w.heap.size + 1 + 1 := by rw [hw0]; simp
  have R0 : Row (w0.alloc (.cells (zeros q) 82)) (w.heap.size + 1 + 1) q (fun _ => 0) := row_zeros_at _ _ _ S0.symm
  rw [← hw0]
  clear hw0
  have L0 : Hid (Le w0 (w0.alloc (.cells (zeros q) 82)) (.slice (some ⟨w.heap.size + 1 + 1, 0, none⟩) q q) F q (p % 32) 0 0 (fun _ => 0)) := by
    refine ⟨.inr ⟨_, q, _, rfl, by omega, Nat.le_refl _, by simp only [maxLen]; omega, R0.1, fun i hi => rfl⟩, fun j hj => by show 0 < _; omega, ?_, by omega, (Below.refl _ _).alloc (Nat.le_refl _) _⟩
    rw [U_zeros fun _ _ => rfl, U_zero]
    omega
  clear R0 S0
  have CC : Hid _ := And.intro c1 (And.intro c3 f3)
  clear c1 c3 f3
  go_loopw [5, 6, 7] (fun l k t wr => ∃ (i c : Nat) (H : Nat → Nat), i ≤ n ∧ t = .int .i64 (i : Int) ∧ k = .int .u64 (c : Int) ∧ Hid (Le w0 wr l F q (p % 32) i c H)) (fun _ _ t _ => n - (intOf t).toNat)
  case atStart => exact ⟨0, 0, fun _ => 0, by omega, rfl, rfl, L0⟩
  case round =>
    clear L0
    obtain ⟨i, c, H, hi, rfl, rfl, hP⟩ := hrel
    have d1 := cell_later hP.out.bel CC.out.1
    have hs7 : w0.heap.size ≤ wr.heap.size := hP.out.bel.size
    by_cases him : i < n
    · have him' : (i : Int) < n := by omega
      obtain ⟨b, o, rfl, hw⟩ := HH.out.1.at i him
      have e1 : wr.cell? ⟨b, o + i, none⟩ = some (.int .u64 (F i : Nat)) := cell_later (bel_go HB.out hP.out.bel) (hw i him)
      have hl := le_lt (HH.out.2.1 i him) hP.out.car (show p % 32 < 32 by omega)
      obtain ⟨s, hs⟩ : ∃ s, s = F i * 2 ^ (p % 32) + c := ⟨_, rfl⟩
      have ES : Hid (s = F i * 2 ^ (p % 32) + c ∧ s < 18446744073709551616) := ⟨hs, hs ▸ hl⟩
      obtain ⟨z, hz⟩ : ∃ z, z = F i * 2 ^ (p % 32) := ⟨_, rfl⟩
      have r1 : IntKind.u64.wrap (((F i : Nat) : Int) * 2 ^ (p % 32)) = (z : Int) := by
        have e : ((F i : Nat) : Int) * 2 ^ (p % 32) = ((F i * 2 ^ (p % 32) : Nat) : Int) := by rw [Int.natCast_mul, cast_pow2]
        rw [e, ← hz]
        exact wrapU_nat _ (by omega)
      have r2 : IntKind.u64.wrap ((z : Int) + (c : Int)) = (s : Int) := by
        rw [← Int.natCast_add, hz, ← hs]
        exact wrapU_nat _ (by omega)
      clear hw hs hz hl
      have OW : Hid _ := hP.out.own.below (bel_al (bel_refl wr) (o := .cells #[.int .u64 ((s : Int) % 4294967296)] 82))
      have CE : Hid ((wr.alloc (.cells #[.int .u64 ((s : Int) % 4294967296)] 82)).cell? ⟨wr.heap.size, 0, none⟩ = some (.int .u64 ((s : Int) % 4294967296))) := cell_new wr _ _
      have SZ : Hid (w0.heap.size ≤ (wr.alloc (.cells #[.int .u64 ((s : Int) % 4294967296)] 82)).heap.size) := Nat.le_trans hP.out.bel.size (bel_al (bel_refl wr)).size
      go_wp2_with (refine (id ?_ : wpList Tryz.prog _ _ (⟨some 33, _, _, _, _, _⟩ :: _) _ _); refine hold ?_)
      intro _
      refine wpList_append_one rfl (.tmp 29) (.tmp 32) 43 rfl 82 (.int .u64 0) 8 Tryz.underlying43 Tryz.info22b rfl (by omega) w0.heap.size _ (q + i) (wd H) rfl OW.out _ _ rfl _ CE.out rfl (by omega) SZ.out ?_
      intro g2 cap2 w2 ho hg2 _ _
      have S : Hid _ := hP.out.step ES.out.1 ES.out.2 ho ((hP.out.bel.alloc hs7 _).grown hg2 SZ.out hP.out.own.blk)
      clear ho hg2 OW
      go_wp2_with fail
      have hz3 : IntKind.u64.wrap ((s : Int) / 4294967296) = ((s / 4294967296 : Nat) : Int) := by have := ES.out.2; rw [IntKind.wrap_u64]; omega
      rw [hz3]
      go_roundw
      case rel => exact ⟨i + 1, _, _, by omega, by go_num, rfl, S.out⟩
      case measure => simp [intOf]; omega
    obtain rfl : i = n := by omega
    have B0 : Hid (Below w.heap.size w wr) := bel_go HB.out hP.out.bel
    have OW : Hid _ := hP.out.own.below (bel_al (bel_refl wr) (o := .cells #[.int .u64 (c : Int)] 82))
    have CE : Hid ((wr.alloc (.cells #[.int .u64 (c : Int)] 82)).cell? ⟨wr.heap.size, 0, none⟩ = some (.int .u64 (c : Int))) := cell_new wr _ _
    have SZ : Hid (w0.heap.size ≤ (wr.alloc (.cells #[.int .u64 (c : Int)] 82)).heap.size) := Nat.le_trans hP.out.bel.size (bel_al (bel_refl wr)).size
    go_wp2_with (refine (id ?_ : wpList Tryz.prog _ _ (⟨some 39, _, _, _, _, _⟩ :: _) _ _); refine hold ?_)
    intro _
    refine wpList_append_one rfl (.tmp 36) (.tmp 38) 43 rfl 82 (.int .u64 0) 8 Tryz.underlying43 Tryz.info22b rfl (by omega) w0.heap.size _ (q + i) (wd H) rfl OW.out _ _ rfl _ CE.out rfl (by omega) SZ.out ?_
    intro g2 cap2 w2 ho hg2 _ _
    have hO : OR w2 82 w0.heap.size (.slice (some ⟨g2, 0, none⟩) (q + i + 1) cap2) (q + i + 1) (wd (put H (q + i) c)) := OR.congr ho fun j hj => by
      unfold wd put
      split <;> rfl
    have hdg : Dg (put H (q + i) c) (q + i + 1) := fun j hj => by
      unfold put
      split
      · exact hP.out.car
      exact hP.out.dg j (by omega)
    have hbw : Below w0.heap.size w0 w2 := (hP.out.bel.alloc hs7 _).grown hg2 SZ.out hP.out.own.blk
    obtain ⟨a, cap1, ea, hsl⟩ := hO.sl (fun t ht => by have := hdg t ht; omega)
    cases ea
    have hcr : w2.cell? ⟨w.heap.size + 1, 0, none⟩ = some (.slice none 0 0) := cell_later hbw CC.out.2.1
    have hfr : w2.frozen? ⟨w.heap.size + 1, 0, none⟩ = false := (hbw.frozen (World.block_lt_of_cell? _ _ CC.out.2.1)).trans CC.out.2.2
    have EV : Hid (U (put H (q + i) c) (q + i + 1) = x * 2 ^ p) := by
      show U _ _ = x * 2 ^ p
      have hqp : p = 32 * q + p % 32 := by have := HH.out.2.2.2; omega
      rw [U_succ, put_same, U_congr (F := put H (q + i) _) (G := H) fun j hj => put_other _ _ (by omega), hP.out.sum, HH.out.2.2.1, B_two, Nat.mul_assoc, ← Nat.pow_add, Nat.add_comm, ← hqp]
    have HS : Hid (Sl w2 (some ⟨g2, 0, none⟩) (q + i + 1) cap2 (put H (q + i) c) ∧ Dg (put H (q + i) c) (q + i + 1) ∧ Below w.heap.size w w2) := ⟨hsl, hdg, bel_go HB.out hbw⟩
    clear hsl hdg hbw hO ho hg2 OW CE SZ
    go_wp2_with fail
    refine (rtrimmed_any _ (q + i + 1) _ (put H (q + i) c) w2 HS.out.1 HS.out.2.1 (by omega) (fun e => absurd e (by omega))).mono ?_
    rintro e w3 ⟨v3, rfl, hv3, hb3⟩
    rw [EV.out] at hv3
    have hcr3 : w3.cell? ⟨w.heap.size + 1, 0, none⟩ = some (.slice none 0 0) := cell_later hb3 hcr
    have hfr3 : w3.frozen? ⟨w.heap.size + 1, 0, none⟩ = false := (hb3.frozen (World.block_lt_of_cell? _ _ hcr)).trans hfr
    obtain ⟨a3, n3, cap3, rfl⟩ := hv3.isAgg
    have HV3 : Hid (RNat w3 (.agg #[.slice a3 n3 cap3]) (x * 2 ^ p)) := hv3
    have B3 : Hid (Below w.heap.size w w3) := bel_go HS.out.2.2 hb3
    clear hv3 hb3 hcr hfr
    go_wp2_with fail
    refine bodyPost_ret (v := .agg #[.slice a3 n3 cap3]) (by simp [results, Tryz.results114, go_sem, hcr3]) rfl ⟨_, rfl, ?_, B3.out.setCell (by show _ ≤ _ + 1; omega) _⟩
    exact HV3.out.setCell (no_int_slice hcr3) _
structure Ri (w0 wr : World) (v : Value) (F : Nat → Nat) (n q r j : Nat) (H : Nat → Nat) : Prop where
  own : OR wr 82 w0.heap.size v j (wd H)
  dig : ∀ t, t < j → H t = (F (q + t) + cutU F n 0 (q + t + 1) * 4294967296) / 2 ^ r % 4294967296
  bel : Below w0.heap.size w0 wr
theorem Ri.step {w0 wr w2 : World} {v v2 : Value} {F H : Nat → Nat} {n q r j s : Nat} (h : Ri w0 wr v F n q r j H) (hs : s = F (q + j) + cutU F n 0 (q + j + 1) * 4294967296)
    (ho : OR w2 82 w0.heap.size v2 (j + 1) (fun t => if t = j then .int .u64 (((s : Nat) : Int) / 2 ^ r % 4294967296) else wd H t)) (hb : Below w0.heap.size w0 w2) :
    Ri w0 w2 v2 F n q r (j + 1) (put H j (s / 2 ^ r % 4294967296)) := by
  refine ⟨OR.congr ho fun t ht => ?_, fun t ht => ?_, hb⟩
  · unfold wd put
    split
    · congr 1
    rfl
  unfold put
  split
  · next e => rw [e, hs]
  exact h.dig t (by omega)
set_option maxHeartbeats 2000000 in
theorem rright_any (v : Value) (x p : Nat) (w : World) (h : RNat w v x) (hx : RFits x) (hp : p < 4611686018427387904) :
    Calls Tryz.prog 118 #[v, .int .i64 (p : Int)] w (RMakes w (x / 2 ^ p)) := by
  obtain ⟨ax, n, cap, rfl⟩ := h.isAgg
  obtain ⟨F, hs, hd, h1, hv⟩ := h.open
  have hn : n ≤ 4294967296 := rfits_len (hv.symm ▸ hx) h1
  obtain ⟨q, hq⟩ : ∃ q, q = p / 32 := ⟨_, rfl⟩
  have HH : Hid (Sl w ax n cap F ∧ Dg F n ∧ U F n = x ∧ q = p / 32) := ⟨hs, hd, hv, hq⟩
  have q1 : (p : Int) / 32 = (q : Int) := by omega
  have q2 : q < 4611686018427387904 := by omega
  clear hs hd h1 hv h hx hq
  have HB : Hid (Below w.heap.size w ((w.alloc (.cells #[.slice ax n cap] 51)).alloc (.cells #[.slice none 0 0] 51))) := bel_alloc2 _ _ _
  go_enter Tryz.func118, Tryz.ntmps118
  go_wp2_with fail
  obtain ⟨w0, hw0⟩ : ∃ w0, w0 = (w.alloc (.cells #[.slice ax n cap] 51)).alloc (.cells #[.slice none 0 0] 51) := ⟨_, rfl⟩
  have c1 : w0.cell? ⟨w.heap.size, 0, none⟩ = some (.slice ax n cap) := by rw [hw0]; simp [go_sem]
  have c3 : w0.cell? ⟨w.heap.size + 1, 0, none⟩ = some (.slice none 0 0) := by rw [hw0]; simp [go_sem]
  have f3 : w0.frozen? ⟨w.heap.size + 1, 0, none⟩ = false := by rw [hw0]; simp [go_sem]
  rw [← hw0] at HB ⊢
  clear hw0
  have CC : Hid _ := And.intro c1 (And.intro c3 f3)
  clear c1 c3 f3
  go_loopw [5, 6] (fun l t wr => ∃ (i j : Nat) (H : Nat → Nat), i = q + j ∧ (i ≤ n ∨ j = 0) ∧ t = .int .i64 (i : Int) ∧ Hid (Ri w0 wr l F n q (p % 32) j H) ∧ Hid (j = 0 → l = .slice none 0 0)) (fun _ t _ => n - (intOf t).toNat)
  case atStart => exact ⟨q, 0, fun _ => 0, by omega, .inr rfl, rfl, ⟨OR.nil _ _ _ _, fun i hi => absurd hi (by omega), Below.refl _ _⟩, fun _ => rfl⟩
  case round =>
    obtain ⟨i, j, H, hij, hi, rfl, hP, HZ⟩ := hrel
    have HI : Hid (i = q + j ∧ (i ≤ n ∨ j = 0)) := ⟨hij, hi⟩
    have hi9 : i < 4611686018427387905 := by omega
    have hj9 : i < n → j < 4294967296 := by omega
    clear hij hi
    have d1 := cell_later hP.out.bel CC.out.1
    by_cases him : i < n
    · have him' : (i : Int) < n := by omega
      have hj := hj9 him
      have hf := HH.out.2.1 i him
      have hg := dg_cut HH.out.2.1 (i + 1)
      obtain ⟨g, eg⟩ : ∃ g, g = cutU F n 0 (i + 1) := ⟨_, rfl⟩
      have EG : Hid (g = cutU F n 0 (i + 1)) := eg
      rw [← eg] at hg
      clear eg
      obtain ⟨b, o, rfl, hw⟩ := HH.out.1.at i him
      have e1 : wr.cell? ⟨b, o + i, none⟩ = some (.int .u64 (F i : Nat)) := cell_later (bel_go HB.out hP.out.bel) (hw i him)
      obtain ⟨f, ef⟩ : ∃ f, f = F i := ⟨_, rfl⟩
      have EF : Hid (f = F i) := ef
      rw [← ef] at hf e1
      clear ef hw
      have r1 : IntKind.u64.wrap ((g : Int) * 4294967296) = (g : Int) * 4294967296 := by rw [IntKind.wrap_u64]; omega
      have r2 : IntKind.u64.wrap ((f : Int) + (g : Int) * 4294967296) = ((f + g * 4294967296 : Nat) : Int) := by rw [IntKind.wrap_u64]; omega
      have DG : Hid (∀ k, Calls Tryz.prog 92 #[.slice (some ⟨b, o, none⟩) n cap, .int .i64 ((i : Int) + 1)] (wr.drewN k) fun e w' => e = .returned (.int .u64 (g : Int)) ∧ w' = wr.drewN k) := fun k => by
        rw [EG.out]
        exact rdigit_any _ _ _ F (i + 1) _ (HH.out.1.mono (bel_drewN (bel_go HB.out hP.out.bel) k)) (by omega)
      go_wp2_with fail
      go_quiet ((go_at_call 92; exact Calls.quiet_of_same (DG.out _)))
      obtain ⟨s, hs⟩ : ∃ s, s = f + g * 4294967296 := ⟨_, rfl⟩
      have hsI : (f : Int) + (g : Int) * 4294967296 = (s : Int) := by omega
      have ES : Hid (s = F (q + j) + cutU F n 0 (q + j + 1) * 4294967296) := by
        show s = _
        rw [hs, EF.out, EG.out, HI.out.1]
      rw [hsI]
      clear hs hsI r1 r2
      have OW : Hid _ := hP.out.own.below (bel_al (bel_drewN (bel_refl wr) nq) (o := .cells #[.int .u64 ((s : Int) / 2 ^ (p % 32) % 4294967296)] 82))
      have CE : Hid (((wr.drewN nq).alloc (.cells #[.int .u64 ((s : Int) / 2 ^ (p % 32) % 4294967296)] 82)).cell? ⟨wr.heap.size, 0, none⟩ = some (.int .u64 ((s : Int) / 2 ^ (p % 32) % 4294967296))) := cell_new (wr.drewN nq) _ _
      have SZ : Hid (w0.heap.size ≤ ((wr.drewN nq).alloc (.cells #[.int .u64 ((s : Int) / 2 ^ (p % 32) % 4294967296)] 82)).heap.size) := Nat.le_trans hP.out.bel.size (bel_al (bel_drewN (bel_refl wr) nq)).size
      have hs7 : w0.heap.size ≤ wr.heap.size := hP.out.bel.size
      go_wp2_with (refine (id ?_ : wpList Tryz.prog _ _ (⟨some 36, _, _, _, _, _⟩ :: _) _ _); refine hold ?_)
      intro _
      refine wpList_append_one rfl (.tmp 29) (.tmp 35) 43 rfl 82 (.int .u64 0) 8 Tryz.underlying43 Tryz.info22b rfl (by omega) w0.heap.size _ j (wd H) rfl OW.out _ _ rfl _ CE.out rfl (by omega) SZ.out ?_
      intro g2 cap2 w2 ho hg2 _ _
      have S : Hid _ := hP.out.step ES.out ho (((bel_drewN hP.out.bel nq).alloc hs7 _).grown hg2 SZ.out hP.out.own.blk)
      clear ho hg2 OW
      go_wp2_with fail
      go_roundw
      case rel => exact ⟨i + 1, j + 1, _, by have := HI.out.1; omega, .inl (by omega), by go_num, S.out, fun e => absurd e (by omega)⟩
      case measure => simp [intOf]; omega
    have B0 : Hid (Below w.heap.size w wr) := bel_go HB.out hP.out.bel
    have hdg : Dg H j := fun t ht => by rw [hP.out.dig t ht]; exact Nat.mod_lt _ (by decide)
    obtain ⟨a, cap1, rfl, hsl⟩ := hP.out.own.sl (fun t ht => by have := hdg t ht; omega)
    have hcr : wr.cell? ⟨w.heap.size + 1, 0, none⟩ = some (.slice none 0 0) := cell_later hP.out.bel CC.out.2.1
    have hfr : wr.frozen? ⟨w.heap.size + 1, 0, none⟩ = false := (hP.out.bel.frozen (World.block_lt_of_cell? _ _ CC.out.2.1)).trans CC.out.2.2
    have H0 : Hid (j = 0 → a = none ∧ cap1 = 0) := fun e => by
      have := HZ.out e
      cases this
      exact ⟨rfl, rfl⟩
    have HS : Hid (Sl wr a j cap1 H ∧ Dg H j) := ⟨hsl, hdg⟩
    have EV : Hid (U H j = x / 2 ^ p) := by
      show U H j = x / 2 ^ p
      have hqp : p = 32 * q + p % 32 := by have := HH.out.2.2.2; omega
      rcases Nat.lt_or_ge n q with hnq | hnq
      · have hj0 : j = 0 := by have := HI.out; omega
        rw [hj0, U_zero, ← HH.out.2.2.1, Nat.div_eq_of_lt]
        refine Nat.lt_of_lt_of_le (U_lt HH.out.2.1) ?_
        rw [B_two]
        exact Nat.pow_le_pow_right (by decide) (by omega)
      have hjn : j = n - q := by have := HI.out; omega
      rw [← HH.out.2.2.1, hqp, hjn]
      exact shr_all HH.out.2.1 (by omega) hnq fun t ht => hP.out.dig t (by omega)
    have hj8 : j ≤ 1099511627776 := by have := HI.out; omega
    clear hsl hdg
    go_wp2_with fail
    refine (rtrimmed_any _ j _ H wr HS.out.1 HS.out.2 hj8 H0.out).mono ?_
    rintro e w3 ⟨v3, rfl, hv3, hb3⟩
    rw [EV.out] at hv3
    have hcr3 : w3.cell? ⟨w.heap.size + 1, 0, none⟩ = some (.slice none 0 0) := cell_later hb3 hcr
    have hfr3 : w3.frozen? ⟨w.heap.size + 1, 0, none⟩ = false := (hb3.frozen (World.block_lt_of_cell? _ _ hcr)).trans hfr
    obtain ⟨a3, n3, cap3, rfl⟩ := hv3.isAgg
    have HV3 : Hid (RNat w3 (.agg #[.slice a3 n3 cap3]) (x / 2 ^ p)) := hv3
    have B3 : Hid (Below w.heap.size w w3) := bel_go B0.out hb3
    clear hv3 hb3 hcr hfr
    go_wp2_with fail
    refine bodyPost_ret (v := .agg #[.slice a3 n3 cap3]) (by simp [results, Tryz.results118, go_sem, hcr3]) rfl ⟨_, rfl, ?_, B3.out.setCell (by show _ ≤ _ + 1; omega) _⟩
    exact HV3.out.setCell (no_int_slice hcr3) _
theorem U_lt_at {F G : Nat → Nat} {mx i : Nat} (hi : i < mx) (hF : Dg F mx) (he : ∀ j, i + 1 ≤ j → F j = G j) (h : F i < G i) : U F mx < U G mx := by
  obtain ⟨t, rfl⟩ : ∃ t, mx = i + 1 + t := ⟨mx - (i + 1), by omega⟩
  rw [U_split, U_split G, U_congr (F := fun j => F (i + 1 + j)) (G := fun j => G (i + 1 + j)) fun j hj => he _ (by omega), U_succ, U_succ]
  have h1 := U_lt (hF.mono (show i ≤ i + 1 + t by omega))
  have h2 : (F i + 1) * B i ≤ G i * B i := Nat.mul_le_mul_right _ h
  rw [Nat.add_mul] at h2
  omega
set_option maxHeartbeats 2000000 in
theorem rcmp_any (v u : Value) (x y : Nat) (w : World) (h : RNat w v x) (k : RNat w u y) (hx : RFits x) (hy : RFits y) :
    Calls Tryz.prog 112 #[v, u] w fun e w' => e = .returned (.int .i64 (cmpI x y)) ∧ Below w.heap.size w w' := by
  obtain ⟨ax, n, cap, rfl⟩ := h.isAgg
  obtain ⟨ay, m, cap', rfl⟩ := k.isAgg
  obtain ⟨F, hs, hd, h1, hv⟩ := h.open
  obtain ⟨G, ks, kd, k1, kv⟩ := k.open
  have hn : n ≤ 4294967296 := rfits_len (hv.symm ▸ hx) h1
  have hm : m ≤ 4294967296 := rfits_len (kv.symm ▸ hy) k1
  obtain ⟨mx, hmx⟩ : ∃ mx : Nat, mx = max n m := ⟨_, rfl⟩
  have hm1 : n ≤ mx := by omega
  have hm2 : m ≤ mx := by omega
  have hm3 : mx ≤ 4294967296 := by omega
  have e1 : (if n < m then (m : Int) else (n : Int)) = (mx : Int) := by split <;> omega
  clear hmx
  have HH : Hid (Sl w ax n cap F ∧ Dg F n ∧ U (cutU F n 0) mx = x ∧ Sl w ay m cap' G ∧ Dg G m ∧ U (cutU G m 0) mx = y) := ⟨hs, hd, (U_cut hm1).trans hv, ks, kd, (U_cut hm2).trans kv⟩
  clear hs hd h1 hv ks kd k1 kv h k hx hy
  go_enter Tryz.func112, Tryz.ntmps112
  go_wp2_with fail
  obtain ⟨w0, hw0⟩ : ∃ w0, w0 = (w.alloc (.cells #[.slice ax n cap] 51)).alloc (.cells #[.slice ay m cap'] 51) := ⟨_, rfl⟩
  have c1 : w0.cell? ⟨w.heap.size, 0, none⟩ = some (.slice ax n cap) := by rw [hw0]; simp [go_sem]
  have c2 : w0.cell? ⟨w.heap.size + 1, 0, none⟩ = some (.slice ay m cap') := by rw [hw0]; simp [go_sem]
  have HB : Hid (Below w.heap.size w w0) := by rw [hw0]; exact bel_alloc2 _ _ _
  rw [← hw0]
  clear hw0
  go_loop [5] (fun t => ∃ i : Nat, i ≤ mx ∧ t = .int .i64 ((i : Int) - 1) ∧ Hid (∀ j, i ≤ j → cutU F n 0 j = cutU G m 0 j)) (fun t => (intOf t + 1).toNat)
  case atStart => exact ⟨mx, Nat.le_refl _, rfl, fun j hj => by rw [cutU_out (by omega), cutU_out (by omega)]⟩
  case round =>
    obtain ⟨i, hi, rfl, hE⟩ := hrel
    by_cases h0 : 0 < i
    · obtain ⟨k, rfl⟩ : ∃ k, i = k + 1 := ⟨i - 1, by omega⟩
      have hidx : ((k + 1 : Nat) : Int) - 1 = (k : Int) := by omega
      have dF : Hid (Dg (cutU F n 0) mx) := fun j _ => dg_cut HH.out.2.1 j
      have dG : Hid (Dg (cutU G m 0) mx) := fun j _ => dg_cut HH.out.2.2.2.2.1 j
      obtain ⟨f, ef⟩ : ∃ f, f = cutU F n 0 k := ⟨_, rfl⟩
      obtain ⟨g, eg⟩ : ∃ g, g = cutU G m 0 k := ⟨_, rfl⟩
      have EF : Hid (f = cutU F n 0 k ∧ g = cutU G m 0 k) := ⟨ef, eg⟩
      have DF := rdigit_any _ _ _ F k _ (HH.out.1.mono HB.out) (by omega)
      have DG := rdigit_any _ _ _ G k _ (HH.out.2.2.2.1.mono HB.out) (by omega)
      rw [← ef] at DF
      rw [← eg] at DG
      have D2 : Hid _ := And.intro DF DG
      clear ef eg DF DG
      rw [hidx]
      go_wp2_with fail
      refine D2.out.1.mono ?_
      rintro e w2 ⟨rfl, rfl⟩
      go_wp2_with fail
      refine D2.out.2.mono ?_
      rintro e w2 ⟨rfl, rfl⟩
      rcases Nat.lt_trichotomy f g with hh | hh | hh
      · have t1 : decide (f < g) = true := decide_eq_true hh
        have EX : Hid (x < y) := by
          show x < y
          rw [← HH.out.2.2.1, ← HH.out.2.2.2.2.2]
          exact U_lt_at (by omega) dF.out hE.out (EF.out.1 ▸ EF.out.2 ▸ hh)
        go_wp2_with fail
        go_ret
        exact ⟨by rw [cmpI_lt EX.out]; rfl, HB.out⟩
      · have t1 : decide (f < g) = false := decide_eq_false (by omega)
        have t2 : decide (g < f) = false := decide_eq_false (by omega)
        have EQ : Hid (f = g) := hh
        clear hh
        go_wp2_with fail
        go_round
        case rel =>
          refine ⟨k, by omega, by go_num, fun j hj => ?_⟩
          by_cases e : j = k
          · subst e
            rw [← EF.out.1, ← EF.out.2, EQ.out]
          exact hE.out j (by omega)
        case measure => simp [intOf]
      have t1 : decide (f < g) = false := decide_eq_false (by omega)
      have t2 : decide (g < f) = true := decide_eq_true hh
      have EX : Hid (y < x) := by
        show y < x
        rw [← HH.out.2.2.1, ← HH.out.2.2.2.2.2]
        exact U_lt_at (by omega) dG.out (fun j hj => (hE.out j hj).symm) (EF.out.1 ▸ EF.out.2 ▸ hh)
      go_wp2_with fail
      go_ret
      exact ⟨by rw [cmpI_gt EX.out]; rfl, HB.out⟩
    obtain rfl : i = 0 := by omega
    have EX : Hid (x = y) := by
      show x = y
      rw [← HH.out.2.2.1, ← HH.out.2.2.2.2.2]
      exact U_congr fun j _ => hE.out j (Nat.zero_le _)
    go_wp2_with fail
    go_ret
    exact ⟨by rw [EX.out, cmpI_eq]; rfl, HB.out⟩
def bd (D : Nat → Nat) : Nat → Value := fun j => .int .u8 ((D j : Nat) : Int)
theorem RNat.apart {w w' : World} {b o k c x : Nat} {row : Option Nat} (h : RNat w (.agg #[.slice (some ⟨b, o, none⟩) k c]) x) (hg : w.grownBy w' row) (hne : k ≠ 0 → ∀ g, row = some g → b ≠ g) : RNat w' (.agg #[.slice (some ⟨b, o, none⟩) k c]) x := by
  obtain ⟨F, ⟨s1, s2, s3, s4⟩, hd, h1, hv⟩ := h.open
  refine ⟨_, k, c, F, rfl, ⟨s1, s2, s3, ?_⟩, hd, h1, hv⟩
  rcases s4 with e | ⟨b', o', e, hw⟩
  · exact .inl e
  cases e
  exact .inr ⟨b, o, rfl, fun i hi => hg.cell (hw i hi) (fun e => hne (by omega) b e.symm rfl)⟩
def lenOf (v : Value) : Nat := match v with
  | .slice _ k _ => k
  | _ => 0
theorem OR.len {w : World} {e : TypeId} {base n : Nat} {v : Value} {G : Nat → Value} (h : OR w e base v n G) : lenOf v = n := by
  rcases h with ⟨rfl, rfl⟩ | ⟨g, cap, f, rfl, _⟩
  · rfl
  rfl
theorem RFits.le {x y : Nat} (h : RFits x) (hy : y ≤ x) : RFits y := ⟨Nat.lt_of_le_of_lt hy h.lt⟩
theorem OR.at {w : World} {e : TypeId} {base n : Nat} {v : Value} {G : Nat → Value} (h : OR w e base v n G) (hn : n ≠ 0) : ∃ g c, v = .slice (some ⟨g, 0, none⟩) n c ∧ ∀ i, i < n → w.cell? ⟨g, i, none⟩ = some (G i) := by
  rcases h with ⟨_, e⟩ | ⟨g, cap, f, rfl, _, hc, _, hr, hf⟩
  · exact absurd e hn
  exact ⟨g, cap, rfl, fun i hi => by rw [hr.cell (show i < cap by omega), hf i hi]⟩
structure RSome (x : Nat) : Prop where
  lt : x < B 1000000
theorem RSome.fits {x : Nat} (h : RSome x) : RFits x := rfits_of h.lt (by omega)
theorem RSome.len {F : Nat → Nat} {n : Nat} (h : RSome (U F n)) (h1 : 0 < n → F (n - 1) ≠ 0) : n ≤ 1000000 := U_len_le h.lt h1
theorem rnorm {y k s nv : Nat} {Y F : Nat → Nat} (dF : Dg F (k + 1)) (hF0 : F k ≠ 0) (hy : U F (k + 1) = y) (hs : s = 32 * (k + 1) - bitLen y) (dY : Dg Y nv) (h1 : 0 < nv → Y (nv - 1) ≠ 0) (hv : U Y nv = y * 2 ^ s) :
    s < 32 ∧ nv = k + 1 ∧ 2147483648 ≤ Y k ∧ bitLen y ≤ 32 * (k + 1) := by
  have hb := bitLen_U dF hF0
  rw [hy] at hb
  have hy0 : y ≠ 0 := fun e => by
    have h3 := U_ge F (k + 1) (by omega)
    rw [hy, e, Nat.add_sub_cancel] at h3
    have h4 : 1 * 1 ≤ F k * B k := Nat.mul_le_mul (by omega) (B_pos k)
    omega
  obtain ⟨p1, p2⟩ := bitLen_spec y
  have p3 := p2 hy0
  have hbk : 0 < bitLen (F k) := by
    rcases Nat.eq_zero_or_pos (bitLen (F k)) with e | e
    · have := (bitLen_spec (F k)).1
      rw [e, Nat.pow_zero] at this
      omega
    exact e
  have hbl : bitLen (F k) ≤ 32 := by
    rcases Nat.lt_or_ge 32 (bitLen (F k)) with e | e
    · have h5 := (bitLen_spec (F k)).2 hF0
      have h6 : 2 ^ 32 ≤ 2 ^ (bitLen (F k) - 1) := Nat.pow_le_pow_right (by decide) (by omega)
      have h7 := dF k (by omega)
      omega
    exact e
  have q1 : y * 2 ^ s < B (k + 1) := by
    rw [B_two]
    have := Nat.mul_lt_mul_of_pos_right p1 (Nat.two_pow_pos s)
    rw [← Nat.pow_add, show bitLen y + s = 32 * (k + 1) by omega] at this
    exact this
  have q2 : 2147483648 * B k ≤ y * 2 ^ s := by
    have := Nat.mul_le_mul_right (2 ^ s) p3
    rw [← Nat.pow_add, show bitLen y - 1 + s = 32 * k + 31 by omega, Nat.pow_add, ← B_two, Nat.mul_comm] at this
    exact this
  have n1 : nv ≤ k + 1 := U_len_le (by rw [hv]; exact q1) h1
  have n2 : k < nv := by
    rcases Nat.lt_or_ge k nv with e | e
    · exact e
    have h5 := U_lt dY
    have h6 := B_le e
    have h7 : 1 * B k ≤ 2147483648 * B k := Nat.mul_le_mul_right _ (by omega)
    omega
  obtain rfl : nv = k + 1 := by omega
  refine ⟨by omega, rfl, ?_, by omega⟩
  rcases Nat.lt_or_ge (Y k) 2147483648 with e | e
  · exfalso
    rw [U_succ] at hv
    have h5 := U_lt (dY.mono (Nat.le_succ k))
    have h6 : (Y k + 1) * B k ≤ 2147483648 * B k := Nat.mul_le_mul_right _ e
    rw [Nat.add_mul] at h6
    omega
  exact e
def RQR (w : World) (q r : Nat) (e : Ending) (w' : World) : Prop := ∃ v u, e = .returned (.tuple #[v, u]) ∧ RNat w' v q ∧ RNat w' u r ∧ Below w.heap.size w w'
theorem rfield (a : Option Addr) (n c : Nat) (w : World) : (Instr.field 51 (.agg #[.slice a n c]) 0).run Tryz.prog w = .ok (.slice a n c) w := by kernel_rfl
structure DS (w wr : World) (ax : Option Addr) (lx cap : Nat) (ay : Option Addr) (n cap' : Nat) : Prop where
  cx : wr.cell? ⟨w.heap.size, 0, none⟩ = some (.slice ax lx cap)
  cy : wr.cell? ⟨w.heap.size + 1, 0, none⟩ = some (.slice ay n cap')
  c3 : wr.cell? ⟨w.heap.size + 1 + 1, 0, none⟩ = some (.slice none 0 0)
  c4 : wr.cell? ⟨w.heap.size + 1 + 1 + 1, 0, none⟩ = some (.slice none 0 0)
  f3 : wr.frozen? ⟨w.heap.size + 1 + 1, 0, none⟩ = false
  f4 : wr.frozen? ⟨w.heap.size + 1 + 1 + 1, 0, none⟩ = false
  bel : Below w.heap.size w wr
theorem DS.go {w wr w' : World} {ax : Option Addr} {lx cap : Nat} {ay : Option Addr} {n cap' : Nat} (h : DS w wr ax lx cap ay n cap') (hb : Below wr.heap.size wr w') : DS w w' ax lx cap ay n cap' :=
  ⟨cell_later hb h.cx, cell_later hb h.cy, cell_later hb h.c3, cell_later hb h.c4, (hb.frozen (World.block_lt_of_cell? _ _ h.c3)).trans h.f3, (hb.frozen (World.block_lt_of_cell? _ _ h.c4)).trans h.f4, bel_go h.bel hb⟩
theorem DS.lt {w wr : World} {ax : Option Addr} {lx cap : Nat} {ay : Option Addr} {n cap' : Nat} (h : DS w wr ax lx cap ay n cap') : w.heap.size + 4 ≤ wr.heap.size := by
  have : w.heap.size + 1 + 1 + 1 < wr.heap.size := World.block_lt_of_cell? _ _ h.c4
  omega
theorem DS.grown {w wr w' : World} {ax : Option Addr} {lx cap : Nat} {ay : Option Addr} {n cap' : Nat} {row : Option Nat} (h : DS w wr ax lx cap ay n cap') (hg : wr.grownBy w' row) (hr : ∀ g, row = some g → w.heap.size + 4 ≤ g) : DS w w' ax lx cap ay n cap' := by
  have ne : ∀ i, i < w.heap.size + 4 → some i ≠ row := fun i hi e => by
    have := hr i e.symm
    omega
  exact ⟨hg.cell h.cx (ne _ (by show w.heap.size < _; omega)), hg.cell h.cy (ne _ (by show w.heap.size + 1 < _; omega)), hg.cell h.c3 (ne _ (by show w.heap.size + 1 + 1 < _; omega)), hg.cell h.c4 (ne _ (by show w.heap.size + 1 + 1 + 1 < _; omega)), (World.frozen?_of_block (hg.block _ (World.block_lt_of_cell? _ _ h.c3) (ne _ (by show w.heap.size + 1 + 1 < _; omega)))).trans h.f3, (World.frozen?_of_block (hg.block _ (World.block_lt_of_cell? _ _ h.c4) (ne _ (by show w.heap.size + 1 + 1 + 1 < _; omega)))).trans h.f4, h.bel.grown hg h.bel.size (fun g e => by have := hr g e; omega)⟩
theorem DS.put2 {w w3 : World} {ax : Option Addr} {lx cap : Nat} {ay : Option Addr} {n cap' : Nat} (h : DS w w3 ax lx cap ay n cap') {a1 a2 : Option Addr} {n1 c1 n2 c2 q r : Nat} (h1 : RNat w3 (.agg #[.slice a1 n1 c1]) q) (h2 : RNat w3 (.agg #[.slice a2 n2 c2]) r) :
    RNat ((w3.setCell ⟨w.heap.size + 1 + 1, 0, none⟩ (.slice a1 n1 c1)).setCell ⟨w.heap.size + 1 + 1 + 1, 0, none⟩ (.slice a2 n2 c2)) (.agg #[.slice a1 n1 c1]) q ∧ RNat ((w3.setCell ⟨w.heap.size + 1 + 1, 0, none⟩ (.slice a1 n1 c1)).setCell ⟨w.heap.size + 1 + 1 + 1, 0, none⟩ (.slice a2 n2 c2)) (.agg #[.slice a2 n2 c2]) r ∧ Below w.heap.size w ((w3.setCell ⟨w.heap.size + 1 + 1, 0, none⟩ (.slice a1 n1 c1)).setCell ⟨w.heap.size + 1 + 1 + 1, 0, none⟩ (.slice a2 n2 c2)) := by
  have n3 := no_int_slice h.c3
  have k4 : (w3.setCell ⟨w.heap.size + 1 + 1, 0, none⟩ (.slice a1 n1 c1)).cell? ⟨w.heap.size + 1 + 1 + 1, 0, none⟩ = some (.slice none 0 0) := (World.cell?_setCell_far _ _ _ _ (by show w.heap.size + 1 + 1 ≠ w.heap.size + 1 + 1 + 1; omega)).trans h.c4
  have n4 := no_int_slice k4
  exact ⟨(h1.setCell n3 _).setCell n4 _, (h2.setCell n3 _).setCell n4 _, (h.bel.setCell (by show _ ≤ _ + 1 + 1; omega) _).setCell (by show _ ≤ _ + 1 + 1 + 1; omega) _⟩
theorem ds_start (w : World) (ax : Option Addr) (lx cap : Nat) (ay : Option Addr) (n cap' : Nat) (t : TypeId) : DS w ((((w.alloc (.cells #[.slice ax lx cap] t)).alloc (.cells #[.slice ay n cap'] t)).alloc (.cells #[.slice none 0 0] t)).alloc (.cells #[.slice none 0 0] t)) ax lx cap ay n cap' :=
  ⟨by simp [go_sem], by simp [go_sem], by simp [go_sem], by simp [go_sem], by simp [go_sem], by simp [go_sem], bel_al (bel_al (bel_al (bel_al (bel_refl w))))⟩
structure DI (w wr : World) (C : Option Addr × Nat × Nat × Option Addr × Nat) (k g c t gq M b3 o3 cap3 : Nat) (Y : Nat → Nat) (X jj : Nat) (F Q : Nat → Nat) : Prop where
  u : DRow wr g c t F
  q : DRow wr gq M M Q
  dv : RvD X (U Y (k + 2)) t (k + 2) jj F Q
  v : Sl wr (some ⟨b3, o3, none⟩) (k + 2) cap3 Y
  ds : DS w wr C.1 C.2.1 C.2.2.1 C.2.2.2.1 (k + 2) C.2.2.2.2
  dY : Dg Y (k + 2)
  top : 2147483648 ≤ Y (k + 1)
  ht : t = M + (k + 2)
  n1 : g ≠ gq
  n2 : b3 ≠ g
  n3 : b3 ≠ gq
  n4 : w.heap.size + 4 ≤ g
  n5 : w.heap.size + 4 ≤ gq
theorem DI.sep {w wr : World} {C : Option Addr × Nat × Nat × Option Addr × Nat} {k g c t gq M b3 o3 cap3 : Nat} {Y : Nat → Nat} {X jj : Nat} {F Q : Nat → Nat} (h : DI w wr C k g c t gq M b3 o3 cap3 Y X jj F Q) : ∀ b' o', some (⟨b3, o3, none⟩ : Addr) = some ⟨b', o', none⟩ → b' ≠ g := fun b' o' e => by cases e; exact h.n2
structure DL (w w8 : World) (C : Option Addr × Nat × Nat × Option Addr × Nat) (k g c t gq M b3 o3 cap3 : Nat) (Y : Nat → Nat) (X j : Nat) (F Q : Nat → Nat) (G bo : Nat) (H : Nat → Nat) : Prop where
  di : ∃ wr, DI w wr C k g c t gq M b3 o3 cap3 Y X (j + 1) F Q
  u : DRow w8 g c t H
  q : DRow w8 gq M M Q
  v : Sl w8 (some ⟨b3, o3, none⟩) (k + 2) cap3 Y
  ds : DS w w8 C.1 C.2.1 C.2.2.1 C.2.2.2.1 (k + 2) C.2.2.2.2
  near : Near (U (fro F j) (k + 3) / U Y (k + 2)) G
  ls : ∃ cc, Ls F Y t (k + 2) j G (k + 3) cc bo H
  hj : j + k + 2 < t
theorem DI.less {w wr w8 : World} {C : Option Addr × Nat × Nat × Option Addr × Nat} {k g c t gq M b3 o3 cap3 : Nat} {Y : Nat → Nat} {X j : Nat} {F Q H : Nat → Nat} {G bo cc nd : Nat} (h : DI w wr C k g c t gq M b3 o3 cap3 Y X (j + 1) F Q) (hj : j + k + 2 < t) (hG : Near (U (fro F j) (k + 3) / U Y (k + 2)) G) (hH : DRow w8 g c t H) (hL : Ls F Y t (k + 2) j G (k + 2 + 1) cc bo H) (hg : (wr.drewN nd).grownBy w8 (some g)) :
    DL w w8 C k g c t gq M b3 o3 cap3 Y X j F Q G bo H :=
  ⟨⟨wr, h⟩, hH, (h.q.drewN nd).apart hg (Ne.symm h.n1), (h.v.mono (bel_drewN (bel_refl wr) nd)).apart hg h.sep, (h.ds.go (bel_drewN (bel_refl wr) nd)).grown hg (fun g' e => by cases e; exact h.n4), hG, ⟨cc, hL⟩, hj⟩
theorem DL.nums {w w8 : World} {C : Option Addr × Nat × Nat × Option Addr × Nat} {k g c t gq M b3 o3 cap3 : Nat} {Y : Nat → Nat} {X j : Nat} {F Q H : Nat → Nat} {G bo : Nat} (h : DL w w8 C k g c t gq M b3 o3 cap3 Y X j F Q G bo H) :
    U (fro H j) (k + 3) + U Y (k + 2) * G = U (fro F j) (k + 3) + bo * B (k + 3) ∧ U (fro H j) (k + 3) < B (k + 3) ∧ U (fro F j) (k + 3) < U Y (k + 2) * B (k + 3) ∧ U Y (k + 2) < B (k + 2) ∧ U Y (k + 2) ≤ B (k + 3) ∧ 0 < U Y (k + 2) ∧ bo ≤ 1 := by
  obtain ⟨wr, hI⟩ := h.di
  obtain ⟨cc, hL⟩ := h.ls
  have hj := h.hj
  have h1 := hI.dv.small (show j < t by omega)
  have h2 : U Y (k + 2) < B (k + 2) := U_lt hI.dY
  refine ⟨hL.done, U_lt fun i hi => hL.dg _ (by omega), Nat.lt_of_lt_of_le h1 (Nat.mul_le_mul_left _ (by rw [← B_one]; exact B_le (by omega))), h2, Nat.le_trans (Nat.le_of_lt h2) (B_le (by omega)), Nat.lt_of_le_of_lt (Nat.zero_le _) hI.dv.lt, hL.lb⟩
theorem DI.put {w w9 wr : World} {C : Option Addr × Nat × Nat × Option Addr × Nat} {k g c t gq M b3 o3 cap3 : Nat} {Y : Nat → Nat} {X jj j d : Nat} {Q F0 Q0 H : Nat → Nat} (h : DI w wr C k g c t gq M b3 o3 cap3 Y X jj F0 Q0) (h1 : DRow w9 g c t H) (h2 : DRow w9 gq M M Q) (h3 : Sl w9 (some ⟨b3, o3, none⟩) (k + 2) cap3 Y) (h4 : DS w w9 C.1 C.2.1 C.2.2.1 C.2.2.2.1 (k + 2) C.2.2.2.2) (hd : d < 18446744073709551616) (hdv : RvD X (U Y (k + 2)) t (k + 2) j H (put Q j d)) :
    DI w (w9.setCell ⟨gq, j, none⟩ (.int .u64 (d : Int))) C k g c t gq M b3 o3 cap3 Y X j H (put Q j d) := by
  have hg : w9.grownBy (w9.setCell ⟨gq, j, none⟩ (.int .u64 (d : Int))) (some gq) := grown_set w9 (World.grownBy.refl w9 _) j _
  exact ⟨h1.apart hg h.n1, h2.set j hd, hdv, h3.apart hg (fun b' o' e => by cases e; exact h.n3), h4.grown hg (fun g' e => by cases e; exact h.n5), h.dY, h.top, h.ht, h.n1, h.n2, h.n3, h.n4, h.n5⟩
theorem DL.keep {w w8 : World} {C : Option Addr × Nat × Nat × Option Addr × Nat} {k g c t gq M b3 o3 cap3 : Nat} {Y : Nat → Nat} {X j : Nat} {F Q H : Nat → Nat} {G bo : Nat} (h : DL w w8 C k g c t gq M b3 o3 cap3 Y X j F Q G bo H) (hb : bo = 0) :
    DI w (w8.setCell ⟨gq, j, none⟩ (.int .u64 (G : Int))) C k g c t gq M b3 o3 cap3 Y X j H (put Q j G) := by
  obtain ⟨n1, n2, n3, n4, n5, n6, n7⟩ := h.nums
  obtain ⟨wr, hI⟩ := h.di
  obtain ⟨cc, hL⟩ := h.ls
  have hj := h.hj
  have n0 : U (fro H j) (k + 3) + U Y (k + 2) * G = U (fro F j) (k + 3) := by
    rw [hb] at n1
    omega
  obtain ⟨q1, q2⟩ := dv_exact n0 n2 n5 n6 h.near.ge
  have hl := h.near.lt
  clear n1
  exact hI.put h.u h.q h.v h.ds (Nat.lt_trans hl (by decide)) (hI.dv.step (show j + (k + 2) < t by omega) q1 q2 n4 (fun t' ht' => hL.out t' ht') hL.dg h.near.lt)
theorem DL.pos {w w8 : World} {C : Option Addr × Nat × Nat × Option Addr × Nat} {k g c t gq M b3 o3 cap3 : Nat} {Y : Nat → Nat} {X j : Nat} {F Q H : Nat → Nat} {G : Nat} (h : DL w w8 C k g c t gq M b3 o3 cap3 Y X j F Q G 1 H) : 0 < G := by
  obtain ⟨n1, n2, n3, n4, n5, n6, n7⟩ := h.nums
  rcases Nat.eq_zero_or_pos G with e | e
  · exfalso
    rw [e, Nat.mul_zero] at n1
    omega
  exact e
theorem DL.back {w w8 w9 : World} {C : Option Addr × Nat × Nat × Option Addr × Nat} {k g c t gq M b3 o3 cap3 : Nat} {Y : Nat → Nat} {X j : Nat} {F Q H H2 : Nat → Nat} {G d c2 : Nat} (h : DL w w8 C k g c t gq M b3 o3 cap3 Y X j F Q G 1 H) (hd : G = d + 1) (hH2 : DRow w9 g c t H2) (hB : Bk H Y t (k + 2) j (k + 2 + 1) c2 H2) (hg : w8.grownBy w9 (some g)) :
    DI w (w9.setCell ⟨gq, j, none⟩ (.int .u64 (d : Int))) C k g c t gq M b3 o3 cap3 Y X j H2 (put Q j d) ∧ DRow w9 gq M M Q := by
  obtain ⟨n1, n2, n3, n4, n5, n6, n7⟩ := h.nums
  obtain ⟨wr, hI⟩ := h.di
  obtain ⟨cc, hL⟩ := h.ls
  have hj := h.hj
  have hl := h.near.lt
  have hH2l : U (fro H2 j) (k + 3) < B (k + 3) := U_lt fun i hi => hB.dg _ (by omega)
  obtain ⟨q1, q2, q3⟩ := dv_mend (p := B (k + 3)) (by rw [Nat.one_mul] at n1; exact n1) n2 hH2l n5 n6 h.near.le hB.done hB.lc n3
  have hq9 := h.q.apart hg (Ne.symm hI.n1)
  refine ⟨hI.put hH2 hq9 (h.v.apart hg hI.sep) (h.ds.grown hg (fun g' e => by cases e; exact hI.n4)) (by omega) (hI.dv.step (show j + (k + 2) < t by omega) (by rw [← q2, hd]; rfl) q3 n4 (fun t' ht' => by rw [hB.out t' ht', hL.out t' ht']) hB.dg (by omega)), hq9⟩
theorem DI.fin {w wr : World} {C : Option Addr × Nat × Nat × Option Addr × Nat} {k g c t gq M b3 o3 cap3 : Nat} {Y : Nat → Nat} {x y s : Nat} {F Q : Nat → Nat} (h : DI w wr C k g c t gq M b3 o3 cap3 Y (x * 2 ^ s) 0 F Q) (hY : U Y (k + 2) = y * 2 ^ s) (hk : k ≤ 1000000) : U Q M = x / y ∧ U F t / 2 ^ s = x % y ∧ RFits (U F t) ∧ Dg Q M ∧ Dg F t := by
  have ht := h.ht
  have hM : t - (k + 2) = M := by omega
  obtain ⟨z1, z2⟩ := h.dv.done (by omega)
  have dQ := h.dv.dQ
  have hl := h.dv.lt
  rw [hM] at z1 dQ
  have hb : U Y (k + 2) < B (k + 2) := U_lt h.dY
  obtain ⟨y1, y2⟩ := dv_shift x y s
  refine ⟨by rw [z1, hY, y1], by rw [z2, hY, y2], rfits_of (n := k + 2) (by rw [z2]; exact Nat.lt_trans (Nat.mod_lt _ (by omega)) hb) (by omega), dQ, h.dv.dF⟩
set_option maxHeartbeats 2000000 in
theorem rdiv_less (v u : Value) (x y : Nat) (w : World) (h : RNat w v x) (k : RNat w u y) (hx : RFits x) (hy : RFits y) (hlt : x < y) :
    Calls Tryz.prog 89 #[v, u] w (RQR w 0 x) := by
  obtain ⟨ax, n, cap, rfl⟩ := h.isAgg
  obtain ⟨ay, m, cap', rfl⟩ := k.isAgg
  have HH : Hid (RNat w (.agg #[.slice ax n cap]) x ∧ RNat w (.agg #[.slice ay m cap']) y ∧ RFits x ∧ RFits y) := ⟨h, k, hx, hy⟩
  have D0 : Hid _ := ds_start w ax n cap ay m cap' 51
  clear h k hx hy
  go_enter Tryz.func89, Tryz.ntmps89
  go_wp2_with fail
  refine (rcmp_any _ _ x y _ (HH.out.1.mono D0.out.bel) (HH.out.2.1.mono D0.out.bel) HH.out.2.2.1 HH.out.2.2.2).mono ?_
  rintro e w1 ⟨rfl, hb1⟩
  rw [cmpI_lt hlt]
  have D1 : Hid (DS w w1 ax n cap ay m cap') := D0.out.go hb1
  have d1 := D1.out.cx
  have d3 := D1.out.c3
  have d4 := D1.out.c4
  have e3 := D1.out.f3
  have e4 := D1.out.f4
  clear hb1 D0
  go_wp2_with fail
  go_region
  go_wp2_with fail
  have n3 := no_int_slice d3
  have n4 : ∀ k q, (w1.setCell ⟨w.heap.size + 1 + 1, 0, none⟩ (.slice none 0 0)).cell? ⟨w.heap.size + 1 + 1 + 1, 0, none⟩ ≠ some (.int k q) := by
    rw [World.cell?_setCell_far _ _ _ _ (by show w.heap.size + 1 + 1 ≠ w.heap.size + 1 + 1 + 1; omega), d4]
    intro k q e
    cases e
  refine bodyPost_ret (v := .tuple #[.agg #[.slice none 0 0], .agg #[.slice ax n cap]]) (by simp [results, Tryz.results89, go_sem, d3, d4]) rfl ⟨_, _, rfl, rnat_zero _, ?_, ?_⟩
  · exact (((HH.out.1.mono D1.out.bel).setCell n3 _).setCell n4 _).mono (bel_dr (bel_refl _))
  exact bel_dr ((D1.out.bel.setCell (by show _ ≤ _ + 1 + 1; omega) _).setCell (by show _ ≤ _ + 1 + 1 + 1; omega) _)
set_option maxHeartbeats 4000000 in
theorem rdiv_long (ax : Option Addr) (lx cap : Nat) (ay : Option Addr) (k cap' : Nat) (x y : Nat) (w : World) (h : RNat w (.agg #[.slice ax lx cap]) x) (kk : RNat w (.agg #[.slice ay (k + 2) cap']) y) (hx : RSome x) (hy : RSome y) (hle : y ≤ x) :
    Calls Tryz.prog 89 #[.agg #[.slice ax lx cap], .agg #[.slice ay (k + 2) cap']] w (RQR w (x / y) (x % y)) := by
  obtain ⟨Fy, hys, dy, hy1, hyv⟩ := kk.open
  obtain ⟨Fx, hxs, dx, hx1, hxv⟩ := h.open
  have hlx : lx ≤ 1000000 := RSome.len (hxv.symm ▸ hx) hx1
  have hyB : B (k + 1) ≤ y := by rw [← hyv]; exact U_long (by omega) (hy1 (by omega))
  have hkl : k + 2 ≤ lx := by
    rcases Nat.lt_or_ge (k + 1) lx with e | e
    · exact e
    have h1 := U_lt dx
    have h2 := B_le e
    omega
  have hx0 : x ≠ 0 := by have := B_pos (k + 1); omega
  have hxB : x < B lx := by rw [← hxv]; exact U_lt dx
  obtain ⟨s, hs⟩ : ∃ s, s = 32 * (k + 2) - bitLen y := ⟨_, rfl⟩
  have HH : Hid (RNat w (.agg #[.slice ax lx cap]) x ∧ RNat w (.agg #[.slice ay (k + 2) cap']) y ∧ RSome x ∧ RSome y ∧ B (k + 1) ≤ y ∧ x < B lx ∧ s = 32 * (k + 2) - bitLen y ∧ y ≤ x ∧ x ≠ 0) := ⟨h, kk, hx, hy, hyB, hxB, hs, hle, hx0⟩
  have HF : Hid (Dg Fy (k + 2) ∧ Fy (k + 1) ≠ 0 ∧ U Fy (k + 2) = y) := ⟨dy, hy1 (by omega), hyv⟩
  have D0 : Hid _ := ds_start w ax lx cap ay (k + 2) cap' 51
  have hL : bitLen y ≤ 32 * (k + 2) := by
    refine bitLen_le_of ?_
    rw [← B_two, ← hyv]
    exact U_lt dy
  obtain ⟨L, eL⟩ : ∃ L, L = bitLen y := ⟨_, rfl⟩
  have EL : Hid (L = bitLen y) := eL
  rw [← eL] at hs hL
  clear eL h kk hx hy hys dy hy1 hyv hxs dx hx1 hxv hyB hle hx0 hxB
  go_enter Tryz.func89, Tryz.ntmps89
  go_wp2_with fail
  refine (rcmp_any _ _ x y _ (HH.out.1.mono D0.out.bel) (HH.out.2.1.mono D0.out.bel) HH.out.2.2.1.fits HH.out.2.2.2.1.fits).mono ?_
  rintro e w1 ⟨rfl, hb1⟩
  obtain ⟨z, ez⟩ : ∃ z, z = cmpI x y := ⟨_, rfl⟩
  have hz : decide (z < 0) = false := by
    refine decide_eq_false ?_
    rw [ez]
    rcases Nat.lt_or_ge y x with e | e
    · rw [cmpI_gt e]; omega
    rw [Nat.le_antisymm e HH.out.2.2.2.2.2.2.2.1, cmpI_eq]; omega
  rw [← ez]
  have D1 : Hid (DS w w1 ax lx cap ay (k + 2) cap') := D0.out.go hb1
  have d1 := D1.out.cx
  have d2 := D1.out.cy
  clear hb1 D0 ez
  have hk1 : (((k : Int) + 2) == 1) = false := by simp; omega
  go_wp2_with fail
  refine (rlen_any _ y _ (HH.out.2.1.mono D1.out.bel) HH.out.2.2.2.1.fits).mono ?_
  rintro e w2 ⟨rfl, hb2⟩
  rw [← EL.out]
  have D2 : Hid (DS w w2 ax lx cap ay (k + 2) cap') := D1.out.go hb2
  have d1 := D2.out.cx
  have d2 := D2.out.cy
  clear hb2 D1
  have m1 : IntKind.i64.wrap (32 * ((k : Int) + 2)) = 32 * ((k : Int) + 2) := by rw [IntKind.wrap_i64]; omega
  have m2 : IntKind.i64.wrap (32 * ((k : Int) + 2) - (L : Int)) = (s : Int) := by rw [IntKind.wrap_i64]; omega
  have m3 : 32 * ((k : Int) + 2) - (L : Int) = (s : Int) := by omega
  have HSL : Hid (s = 32 * (k + 2) - L ∧ L ≤ 32 * (k + 2)) := ⟨hs, hL⟩
  clear hs hL
  have hsB : s < 1099511627776 := by have := HSL.out.1; omega
  go_wp2_with fail
  refine (rleft_any _ y s _ (HH.out.2.1.mono D2.out.bel) HH.out.2.2.2.1.fits hsB).mono ?_
  rintro e w3 ⟨v3, rfl, hv3, hb3⟩
  obtain ⟨a3, n3, cap3, rfl⟩ := hv3.isAgg
  have D3 : Hid (DS w w3 ax lx cap ay (k + 2) cap') := D2.out.go hb3
  obtain ⟨Y, sY, dY, tY, vY⟩ := hv3.open
  obtain ⟨hs32, hn3, hYtop, _⟩ := rnorm HF.out.1 HF.out.2.1 HF.out.2.2 HH.out.2.2.2.2.2.2.1 dY tY vY
  have hn3' : n3 = k + 2 := hn3
  subst hn3'
  obtain ⟨b3, o3, rfl, hw3⟩ := sY.at 0 (by omega)
  have lb3 : b3 < w3.heap.size := World.block_lt_of_cell? _ _ (hw3 0 (by omega))
  have HY : Hid (Sl w3 (some ⟨b3, o3, none⟩) (k + 2) cap3 Y ∧ Dg Y (k + 2) ∧ 2147483648 ≤ Y (k + 1) ∧ U Y (k + 2) = y * 2 ^ s) := ⟨sY, dY, hYtop, vY⟩
  clear hv3 hb3 D2 sY dY tY vY hYtop hn3 hw3 d1 d2 m1 m2 m3
  have d1 := D3.out.cx
  have fd := rfield (some ⟨b3, o3, none⟩) (k + 2) cap3
  go_wp2_with fail
  refine (rleft_any _ x s _ (HH.out.1.mono D3.out.bel) HH.out.2.2.1.fits hsB).mono ?_
  rintro e w4 ⟨v4, rfl, hv4, hb4⟩
  obtain ⟨a4, m, cap4, rfl⟩ := hv4.isAgg
  have D4 : Hid (DS w w4 ax lx cap ay (k + 2) cap') := D3.out.go hb4
  obtain ⟨X, sX, dX, tX, vX⟩ := hv4.open
  have hm0 : m ≠ 0 := fun e => by
    have := (rnat_len0 hv4).1 e
    have h2 := Nat.two_pow_pos s
    rcases Nat.mul_eq_zero.1 this with h3 | h3
    · exact HH.out.2.2.2.2.2.2.2.2 h3
    omega
  have hmx : m ≤ lx + 1 := by
    refine U_len_le (m := lx + 1) ?_ tX
    rw [vX, B_succ]
    have h2 : 2 ^ s ≤ 2 ^ 32 := Nat.pow_le_pow_right (by decide) (by omega)
    exact Nat.lt_of_lt_of_le (Nat.mul_lt_mul_of_pos_right HH.out.2.2.2.2.2.1 (Nat.two_pow_pos s)) (Nat.mul_le_mul_left _ h2)
  obtain ⟨b4, o4, rfl, hw4⟩ := sX.at 0 (by omega)
  have HX : Hid ((∀ j, j < m → w4.cell? ((⟨b4, o4, none⟩ : Addr).add j) = some (wd X j)) ∧ Dg X m ∧ U X m = x * 2 ^ s) := ⟨fun j hj => by
    have h3 : (⟨b4, o4, none⟩ : Addr).add j = ⟨b4, o4 + j, none⟩ := by unfold Addr.add; split <;> simp_all
    rw [h3]
    exact hw4 j hj, dX, vX⟩
  have HY4 : Hid (Sl w4 (some ⟨b3, o3, none⟩) (k + 2) cap3 Y) := HY.out.1.mono hb4
  have lb4 : b3 < w4.heap.size := Nat.lt_of_lt_of_le lb3 hb4.size
  clear hv4 hb4 D3 sX dX tX vX hw4 d1 lb3 fd
  have fd := rfield (some ⟨b4, o4, none⟩) m cap4
  go_wp2_with (refine (id ?_ : wpList Tryz.prog _ _ (⟨some 52, _, _, _, _, _⟩ :: _) _ _); refine hold ?_)
  intro _
  refine wpList_append_ws rfl (.tmp 47) (.tmp 51) rfl w4.heap.size _ rfl rfl ⟨b4, o4, none⟩ m cap4 X rfl HX.out.1 (by omega) (Nat.le_refl _) ?_
  intro v5 w5 ho5 hg5
  have L0 : Hid (OR w5 82 w4.heap.size v5 m (wd (cutU X m 0)) ∧ DS w w5 ax lx cap ay (k + 2) cap' ∧ Below w4.heap.size w4 w5) := ⟨ho5.congr fun j hj => by show Value.int .u64 _ = Value.int .u64 _; rw [cutU_in (by omega), Nat.zero_add], D4.out.grown hg5 (fun g e => by cases e), (Below.refl _ _).grown hg5 (Nat.le_refl _) (fun g e => by cases e)⟩
  have hsz4 : w.heap.size + 4 ≤ w4.heap.size := D4.out.lt
  clear ho5 hg5 D4
  go_wp2_with fail
  go_loopw [11] (fun l wr => ∃ (t : Nat), m ≤ t ∧ t ≤ lx + 2 ∧ Hid (OR wr 82 w4.heap.size l t (wd (cutU X m 0)) ∧ DS w wr ax lx cap ay (k + 2) cap' ∧ Below w4.heap.size w4 wr)) (fun l _ => lx + 2 - lenOf l)
  case atStart => exact ⟨m, Nat.le_refl _, by omega, L0⟩
  case round =>
    clear L0
    obtain ⟨t, ht1, ht2, hL⟩ := hrel
    obtain ⟨g, c, rfl, hcg⟩ := hL.out.1.at (by omega)
    clear hcg
    have d1 := hL.out.2.1.cx
    by_cases htl : t ≤ lx + 1
    · have hle : (t : Int) ≤ (lx : Int) + 1 := by omega
      have d3 : decide ((t : Int) ≤ (lx : Int) + 1) = true := decide_eq_true hle
      go_wp2_with (refine (id ?_ : wpList Tryz.prog _ _ (⟨some 62, _, _, _, _, _⟩ :: _) _ _); refine hold ?_)
      intro _
      refine wpList_append_one rfl (.tmp 60) (.tmp 61) 43 rfl 82 (.int .u64 0) 8 Tryz.underlying43 Tryz.info22b rfl (by omega) w4.heap.size _ t (wd (cutU X m 0)) rfl (hL.out.1.below (bel_al (bel_refl wr))) _ _ rfl _ (cell_new wr (.int .u64 0) 82) rfl (by omega) (Nat.le_trans hL.out.2.2.size (bel_al (bel_refl wr) (o := .cells #[.int .u64 0] 82)).size) ?_
      intro g2 cap2 w9 ho hg2 _ _
      have S : Hid (OR w9 82 w4.heap.size (.slice (some ⟨g2, 0, none⟩) (t + 1) cap2) (t + 1) (wd (cutU X m 0)) ∧ DS w w9 ax lx cap ay (k + 2) cap' ∧ Below w4.heap.size w4 w9) := by
        refine ⟨OR.congr ho fun j hj => ?_, (hL.out.2.1.go (bel_al (bel_refl wr))).grown hg2 (fun g e => by have := hL.out.1.blk g e; omega), (hL.out.2.2.alloc hL.out.2.2.size _).grown hg2 (Nat.le_trans hL.out.2.2.size (bel_al (bel_refl wr)).size) hL.out.1.blk⟩
        split
        · rename_i e
          rw [e]
          show Value.int .u64 0 = Value.int .u64 ((cutU X m 0 t : Nat) : Int)
          rw [cutU_out (by omega)]
          rfl
        rfl
      clear ho hg2
      go_wp2_with fail
      go_roundw
      case rel => exact ⟨t + 1, by omega, by omega, S⟩
      case measure => show lx + 2 - (t + 1) < lx + 2 - t; omega
    have d3 : decide ((t : Int) ≤ (lx : Int) + 1) = false := decide_eq_false (by omega)
    obtain ⟨M, hM⟩ : ∃ M, t = M + (k + 2) := ⟨t - (k + 2), by omega⟩
    have HMT : Hid (t = M + (k + 2)) := hM
    have m4 : (t : Int) - ((k : Int) + 2) = (M : Int) := by omega
    have m5 : IntKind.i64.wrap ((M : Int) - 1) = (M : Int) - 1 := by rw [IntKind.wrap_i64]; omega
    have mk := make_at (M : Int) (M : Int) M M rfl rfl (Nat.le_refl _) (by omega)
    have hMb : M ≤ 1000000 := by omega
    have hM0 : M ≠ 0 := by omega
    have htB : t ≤ 1000002 := by omega
    have hgl : g < wr.heap.size := by
      obtain ⟨g', c', e1, e2⟩ := hL.out.1.at (by omega)
      cases e1
      exact World.block_lt_of_cell? _ _ (e2 0 (by omega))
    have R0 : DRow wr g c t (cutU X m 0) := by
      rcases hL.out.1 with ⟨e, _⟩ | ⟨g', c', f, e1, _, h2, h3, h4, h5⟩
      · cases e
      cases e1
      refine ⟨⟨f, h4, h5⟩, h2, by simp only [maxLen] at h3; omega, fun j hj => ?_⟩
      have := dg_cut HX.out.2.1 j
      omega
    have hgw : w4.heap.size ≤ g := hL.out.1.blk g rfl
    have HR : Hid (DRow wr g c t (cutU X m 0) ∧ DS w wr ax lx cap ay (k + 2) cap' ∧ Below w4.heap.size w4 wr ∧ w4.heap.size ≤ g ∧ m ≤ t ∧ ¬ t ≤ lx + 1) := ⟨R0, hL.out.2.1, hL.out.2.2, hgw, ht1, htl⟩
    clear R0 hM hL ht1 ht2 htl hgw fd
    go_wp2_with fail
    clear mk m4
    obtain ⟨w6, hw6⟩ : ∃ w6, w6 = wr.alloc (.cells (zeros M) 82) := ⟨_, rfl⟩
    obtain ⟨gq, hgq⟩ : ∃ gq, gq = wr.heap.size := ⟨_, rfl⟩
    have ba : Below wr.heap.size wr w6 := by rw [hw6]; exact bel_al (bel_refl wr)
    have Q0 : DRow w6 gq M M (fun _ => 0) := by rw [hw6, hgq]; exact Row.drow (row_zeros_at _ _ _ rfl) (by omega)
    have M0 : Hid (DI w w6 (ax, lx, cap, ay, cap') k g c t gq M b3 o3 cap3 Y (x * 2 ^ s) M (cutU X m 0) (fun _ => 0)) := by
      have h1 := HR.out.2.2.2.1
      have h2 := HR.out.2.2.1.size
      refine ⟨HR.out.1.below ba, Q0, ?_, HY4.out.mono (bel_go HR.out.2.2.1 ba), HR.out.2.1.go ba, HY.out.2.1, HY.out.2.2.1, HMT.out, by omega, by omega, by omega, by omega, by omega⟩
      have hst := dv_start (X := x * 2 ^ s) (Yv := U Y (k + 2)) (N := t) (n := k + 2) (F := cutU X m 0) (by rw [U_cut HR.out.2.2.2.2.1, HX.out.2.2]) (fun j _ => dg_cut HX.out.2.1 j) (by omega) (by have := HMT.out; omega) (by
        show B (k + 1) ≤ _
        rw [HY.out.2.2.2]
        have h1 := HH.out.2.2.2.2.1
        have h2 := Nat.mul_le_mul h1 (Nat.two_pow_pos s)
        rw [Nat.mul_one] at h2
        exact h2) (cutU_out (by have := HR.out.2.2.2.2.2; omega))
      rw [show t - (k + 2) = M by have := HMT.out; omega] at hst
      exact hst
    have HYV : Hid (U Y (k + 2) = y * 2 ^ s) := HY.out.2.2.2
    have hkB : k ≤ 1000000 := by omega
    have hMt : M + k + 2 ≤ t := by have := HMT.out; omega
    rw [← hw6]
    simp only [← hgq]
    clear hw6 hgq ba Q0 HR hgl d1 d3 d2 HH HF HX HY HY4 HMT HSL EL hsz4 hm0 hmx hkl hlx hsB lb4 hz hk1
    go_loopw [13] (fun tt wr => ∃ (jj : Nat) (F Q : Nat → Nat), jj ≤ M ∧ tt = .int .i64 ((jj : Int) - 1) ∧ Hid (DI w wr (ax, lx, cap, ay, cap') k g c t gq M b3 o3 cap3 Y (x * 2 ^ s) jj F Q)) (fun tt _ => (intOf tt + 1).toNat)
    case atStart => exact ⟨M, cutU X m 0, fun _ => 0, Nat.le_refl _, rfl, M0⟩
    case round =>
      clear M0 m5
      obtain ⟨jj, F, Q, hjj, rfl, hI⟩ := hrel
      by_cases hj0 : 0 < jj
      · obtain ⟨j, rfl⟩ : ∃ j, jj = j + 1 := ⟨jj - 1, by omega⟩
        have hidx : ((j + 1 : Nat) : Int) - 1 = (j : Int) := by omega
        rw [hidx]
        have hjt : j + k + 2 < t := by omega
        have m6 : IntKind.i64.wrap ((j : Int) - 1) = (j : Int) - 1 := by rw [IntKind.wrap_i64]; omega
        clear hidx hj0
        go_wp2_with fail
        refine (rguess_any g t c b3 o3 cap3 j k F Y wr hI.out.u hI.out.dv.dF hI.out.v hI.out.dY hjt (by omega) hI.out.top (hI.out.dv.small (show j < t by omega))).mono ?_
        rintro e w7 ⟨G, rfl, hG, nd, hw7⟩
        rw [hw7]
        clear hw7 w7
        have HG : Hid _ := hG
        have hGl := hG.lt
        clear hG
        go_wp2_with fail
        refine (rless_any g t c j (k + 2) G cap3 (some ⟨b3, o3, none⟩) F Y (wr.drewN nd) (hI.out.u.drewN nd) hI.out.dv.dF (hI.out.v.mono (bel_drewN (bel_refl wr) nd)) hI.out.dY (by omega) (by omega) hGl hI.out.sep).mono ?_
        rintro e w8 ⟨bo, cc, H, rfl, hH, hLs, hg8⟩
        have hbl := hLs.lb
        have I8 : Hid (DL w w8 (ax, lx, cap, ay, cap') k g c t gq M b3 o3 cap3 Y (x * 2 ^ s) j F Q G bo H) := hI.out.less hjt HG.out hH hLs hg8
        have DH : Hid (Dg H t) := hLs.dg
        have SP : Hid _ := hI.out.sep
        have DYY : Hid _ := hI.out.dY
        have hcq : w8.cell? ⟨gq, j, none⟩ = some (.int .u64 (Q j : Nat)) := I8.out.q.cell (by omega)
        have hfq : w8.frozen? ⟨gq, j, none⟩ = false := I8.out.q.frozen _
        clear hH hLs hg8 hI HG
        by_cases hbo : bo = 1
        · subst hbo
          obtain ⟨d, hd⟩ : ∃ d, G = d + 1 := ⟨G - 1, by have := I8.out.pos; omega⟩
          have hdw : (G : Int) - 1 = (d : Int) := by omega
          have hdl : d < 18446744073709551616 := by omega
          have HD : Hid (G = d + 1) := hd
          clear hd hcq hfq hbl
          go_wp2_with fail
          refine (rback_any g t c j (k + 2) cap3 (some ⟨b3, o3, none⟩) H Y w8 I8.out.u DH.out I8.out.v DYY.out (by omega) (by omega) SP.out).mono ?_
          rintro e w9 ⟨uu, c2, H2, rfl, hH2, hBk, hg9⟩
          have S9 : Hid _ := I8.out.back HD.out hH2 hBk hg9
          have hcq : w9.cell? ⟨gq, j, none⟩ = some (.int .u64 (Q j : Nat)) := S9.out.2.cell (by omega)
          have hfq : w9.frozen? ⟨gq, j, none⟩ = false := S9.out.2.frozen _
          clear hH2 hBk hg9
          go_wp2_with fail
          go_roundw
          case rel => exact ⟨j, H2, put Q j d, by omega, rfl, S9.out.1⟩
          case measure => simp [intOf]
        have hb0 : ((bo : Int) == 1) = false := by simp; omega
        have S9 : Hid _ := I8.out.keep (by omega)
        clear hbo hbl
        go_wp2_with fail
        go_roundw
        case rel => exact ⟨j, H, put Q j G, by omega, rfl, S9⟩
        case measure => simp [intOf]
      obtain rfl : jj = 0 := by omega
      have hneg : ((0 : Nat) : Int) - 1 = -1 := by omega
      rw [hneg]
      have HE : Hid _ := hI.out.fin HYV.out hkB
      clear hneg hj0
      go_wp2_with fail
      refine (rtrimmed_at (some ⟨gq, 0, none⟩) M M Q wr hI.out.q.sl HE.out.2.2.2.1 (by omega) hM0).mono ?_
      rintro e w7 ⟨k7, rfl, hv7, hb7⟩
      rw [HE.out.1] at hv7
      have I7 : Hid (RNat w7 (.agg #[.slice (some ⟨gq, 0, none⟩) k7 M]) (x / y) ∧ DRow w7 g c t F ∧ DS w w7 ax lx cap ay (k + 2) cap') := ⟨hv7, hI.out.u.below hb7, hI.out.ds.go hb7⟩
      clear hv7 hb7 hI
      go_wp2_with fail
      refine (rtrimmed_at (some ⟨g, 0, none⟩) t c F w7 I7.out.2.1.sl HE.out.2.2.2.2 (by omega) (by omega)).mono ?_
      rintro e w8 ⟨k8, rfl, hv8, hb8⟩
      have I8 : Hid (RNat w8 (.agg #[.slice (some ⟨gq, 0, none⟩) k7 M]) (x / y) ∧ RNat w8 (.agg #[.slice (some ⟨g, 0, none⟩) k8 c]) (U F t) ∧ DS w w8 ax lx cap ay (k + 2) cap') := ⟨I7.out.1.mono hb8, hv8, I7.out.2.2.go hb8⟩
      clear hv8 hb8 I7
      go_wp2_with fail
      refine (rright_any _ (U F t) s _ I8.out.2.1 HE.out.2.2.1 (by omega)).mono ?_
      rintro e w9 ⟨v9, rfl, hv9, hb9⟩
      obtain ⟨a9, n9, c9, rfl⟩ := hv9.isAgg
      rw [HE.out.2.1] at hv9
      have D9 : Hid (DS w w9 ax lx cap ay (k + 2) cap') := I8.out.2.2.go hb9
      have I9 : Hid (RNat w9 (.agg #[.slice (some ⟨gq, 0, none⟩) k7 M]) (x / y) ∧ RNat w9 (.agg #[.slice a9 n9 c9]) (x % y)) := ⟨I8.out.1.mono hb9, hv9⟩
      have d3 := D9.out.c3
      have d4 := D9.out.c4
      have e3 := D9.out.f3
      have e4 := D9.out.f4
      clear hv9 hb9 I8
      go_wp2_with fail
      have n3 := no_int_slice d3
      have n4 : ∀ k q, (w9.setCell ⟨w.heap.size + 1 + 1, 0, none⟩ (.slice (some ⟨gq, 0, none⟩) k7 M)).cell? ⟨w.heap.size + 1 + 1 + 1, 0, none⟩ ≠ some (.int k q) := by
        rw [World.cell?_setCell_far _ _ _ _ (by show w.heap.size + 1 + 1 ≠ w.heap.size + 1 + 1 + 1; omega), d4]
        intro k q e
        cases e
      refine bodyPost_ret (v := .tuple #[.agg #[.slice (some ⟨gq, 0, none⟩) k7 M], .agg #[.slice a9 n9 c9]]) (by simp [results, Tryz.results89, go_sem, d3, d4]) rfl ⟨_, _, rfl, (I9.out.1.setCell n3 _).setCell n4 _, (I9.out.2.setCell n3 _).setCell n4 _, ?_⟩
      exact (D9.out.bel.setCell (by show _ ≤ _ + 1 + 1; omega) _).setCell (by show _ ≤ _ + 1 + 1 + 1; omega) _
end Go.Proofs.YtfkkomppfghagaaGreatDoor
