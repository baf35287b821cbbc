/- Contracts of the program's functions, part 7: own work, joined in build order. -/
import Derived.Test.YtajkjfblpomdpaaJ6
import Derived.ArgAppend
namespace Go.Proofs.Ytajkjfblpomdpaa
open Go.RowKit
set_option maxRecDepth 100000
set_option linter.unusedVariables false
theorem U_cut {G : Nat → Nat} {m n : Nat} (h : m ≤ n) : U (cutU G m 0) n = U G m := by
  rw [U_top h fun i h1 h2 => cutU_out (by omega)]
  exact U_congr fun i hi => by rw [cutU_in (by omega), Nat.zero_add]
theorem dg_cut {G : Nat → Nat} {m : Nat} (hG : Dg G m) (i : Nat) : cutU G m 0 i < 4294967296 := by
  by_cases h : 0 + i < m
  · rw [cutU_in h]; exact hG _ h
  · rw [cutU_out h]; omega
/-- i digits of a sum are made, c is carried. -/
structure Pl (w0 wr : World) (v : Value) (F : Nat → Nat) (n : Nat) (G : Nat → Nat) (m i c : Nat) (H : Nat → Nat) : Prop where
  own : OR wr 22 w0.heap.size v i (wd H)
  dg : Dg H i
  sum : U H i + c * B i = U (cutU F n 0) i + U (cutU G m 0) i
  car : c ≤ 1
  bel : Below w0.heap.size w0 wr
theorem cell_new (w : World) (u : Value) (t : TypeId) : (w.alloc (.cells #[u] t)).cell? ⟨w.heap.size, 0, none⟩ = some u := by simp [go_sem]
/-- A call is asked of one of two. -/
def TwoD (a : Value) (f : Nat) (b : Value) (g : Nat) (s : Value) (z : Nat) : Prop := (s = a ∧ z = f) ∨ (s = b ∧ z = g)
theorem pl_sum {H : Nat → Nat} {F G i c s f g b : Nat} (hs : s = f + g + c) (h : H i = s % 4294967296) (e : F + c * b = G) : F + s % 4294967296 * b + s / 4294967296 * (b * 4294967296) = G + f * b + g * b := by
  have h1 := Nat.div_add_mod s 4294967296
  have h2 : s * b = (4294967296 * (s / 4294967296) + s % 4294967296) * b := by rw [h1]
  rw [hs] at h2 ⊢
  grind
theorem OR.blk {w : World} {e : TypeId} {base n : Nat} {v : Value} {G : Nat → Value} (h : OR w e base v n G) : ∀ j, v.ownBlock = some j → base ≤ j := by
  intro j hj
  rcases h with ⟨rfl, rfl⟩ | ⟨g, cap, f, rfl, h1, _⟩
  · simp [Value.ownBlock] at hj
  · simp only [Value.ownBlock, Option.some.injEq] at hj
    omega
theorem Pl.step {w0 wr w2 : World} {v v2 : Value} {F G H : Nat → Nat} {n m i c f g : Nat} (h : Pl w0 wr v F n G m i c H) (hf : f = cutU F n 0 i ∧ g = cutU G m 0 i) (lf : f < 4294967296) (lg : g < 4294967296)
    (ho : OR w2 22 w0.heap.size v2 (i + 1) (fun j => if j = i then .int .u64 (((f : Int) + g + c) % 4294967296) else wd H j)) (hb : Below w0.heap.size w0 w2) :
    Pl w0 w2 v2 F n G m (i + 1) ((f + g + c) / 4294967296) (put H i ((f + g + c) % 4294967296)) := by
  refine ⟨OR.congr ho fun j hj => ?_, fun j hj => ?_, ?_, ?_, hb⟩
  · unfold wd put
    split
    · congr 1
    · rfl
  · unfold put
    split
    · exact Nat.mod_lt _ (by decide)
    · exact h.dg j (by omega)
  · rw [U_succ, U_succ, U_succ, put_same, U_congr (F := put H i _) (G := H) fun j hj => put_other _ _ (by omega), ← hf.1, ← hf.2, B_succ]
    have := pl_sum (H := fun _ => (f + g + c) % 4294967296) (i := 0) (s := f + g + c) (f := f) (g := g) rfl rfl h.sum
    omega
  · have := h.car
    omega
theorem Pl.done {w0 wr : World} {v : Value} {F G H : Nat → Nat} {n m mx c : Nat} (h : Pl w0 wr v F n G m (mx + 1) c H) (hn : n ≤ mx) (hm : m ≤ mx) (dF : Dg F n) (dG : Dg G m) : U H (mx + 1) = U F n + U G m := by
  have h1 := h.sum
  rw [U_cut (by omega), U_cut (by omega)] at h1
  have h2 := Nat.lt_of_lt_of_le (U_lt dF) (B_le hn)
  have h3 := Nat.lt_of_lt_of_le (U_lt dG) (B_le hm)
  have h4 := B_succ mx
  have h5 : c = 0 ∨ c = 1 := by have := h.car; omega
  rcases h5 with rfl | rfl <;> omega
set_option maxHeartbeats 2000000 in
theorem rplus_any (v u : Value) (x y : Nat) (w : World) (h : RNat w v x) (k : RNat w u y) (hx : RFits x) (hy : RFits y) :
    Calls Try.prog 17 #[v, u] w (RMakes w (x + y)) := by
  obtain ⟨ax, n, cap, rfl⟩ := h.isAgg
  obtain ⟨ay, m, cap', rfl⟩ := k.isAgg
  obtain ⟨F, hs, hd, h1, hv⟩ := h.open
  obtain ⟨G, ks, kd, k1, kv⟩ := k.open
  have hn : n ≤ 4294967296 := rfits_len (hv.symm ▸ hx) h1
  have hm : m ≤ 4294967296 := rfits_len (kv.symm ▸ hy) k1
  have HH : Hid (Sl w ax n cap F ∧ Dg F n ∧ U F n = x ∧ Sl w ay m cap' G ∧ Dg G m ∧ U G m = y) := ⟨hs, hd, hv, ks, kd, kv⟩
  clear hs hd h1 hv ks kd k1 kv h k hx hy
  obtain ⟨mx, hmx⟩ : ∃ mx : Nat, mx = max n m := ⟨_, rfl⟩
  have hm1 : n ≤ mx := by omega
  have hm2 : m ≤ mx := by omega
  have hm3 : mx ≤ 4294967296 := by omega
  have e1 : (if n < m then (m : Int) else (n : Int)) = (mx : Int) := by split <;> omega
  clear hmx
  have HB : Hid (Below w.heap.size w (((w.alloc (.cells #[.slice ax n cap] 31)).alloc (.cells #[.slice ay m cap'] 31)).alloc (.cells #[.slice none 0 0] 31))) := (bel_alloc2 _ _ _).alloc (by simp <;> omega) _
  go_enter Try.func17, Try.ntmps17
  go_wp2_with fail
  obtain ⟨w0, hw0⟩ : ∃ w0, w0 = ((w.alloc (.cells #[.slice ax n cap] 31)).alloc (.cells #[.slice ay m cap'] 31)).alloc (.cells #[.slice none 0 0] 31) := ⟨_, rfl⟩
  have c1 : w0.cell? ⟨w.heap.size, 0, none⟩ = some (.slice ax n cap) := by rw [hw0]; simp [go_sem]
  have c2 : w0.cell? ⟨w.heap.size + 1, 0, none⟩ = some (.slice ay m cap') := by rw [hw0]; simp [go_sem]
  have c3 : w0.cell? ⟨w.heap.size + 1 + 1, 0, none⟩ = some (.slice none 0 0) := by rw [hw0]; simp [go_sem]
  have f3 : w0.frozen? ⟨w.heap.size + 1 + 1, 0, none⟩ = false := by rw [hw0]; simp [go_sem]
  rw [← hw0] at HB ⊢
  clear hw0
  have CC : Hid _ := And.intro c1 (And.intro c2 (And.intro c3 f3))
  clear c1 c2 c3 f3
  go_loopw [5, 6, 7] (fun l q t wr => ∃ (i c : Nat) (H : Nat → Nat), i ≤ mx + 1 ∧ t = .int .i64 (i : Int) ∧ q = .int .u64 (c : Int) ∧ Hid (Pl w0 wr l F n G m i c H)) (fun _ _ t _ => mx + 1 - (intOf t).toNat)
  case atStart => exact ⟨0, 0, fun _ => 0, by omega, rfl, rfl, ⟨OR.nil _ _ _ _, fun i hi => absurd hi (by omega), by simp [U_zero], by omega, Below.refl _ _⟩⟩
  case round =>
    obtain ⟨i, c, H, hi, rfl, rfl, hP⟩ := hrel
    have d1 := cell_later hP.out.bel CC.out.1
    have d2 := cell_later hP.out.bel CC.out.2.1
    by_cases him : i ≤ mx
    · have ht : decide (i ≤ mx) = true := decide_eq_true him
      have hc1 := hP.out.car
      have hf := dg_cut HH.out.2.1 i
      have hg := dg_cut HH.out.2.2.2.2.1 i
      obtain ⟨f, ef⟩ : ∃ f, f = cutU F n 0 i := ⟨_, rfl⟩
      obtain ⟨g, eg⟩ : ∃ g, g = cutU G m 0 i := ⟨_, rfl⟩
      have EF : Hid (f = cutU F n 0 i ∧ g = cutU G m 0 i) := ⟨ef, eg⟩
      rw [← ef] at hf
      rw [← eg] at hg
      clear ef eg
      have r1 : IntKind.u64.wrap ((f : Int) + (g : Int)) = ((f + g : Nat) : Int) := by rw [IntKind.wrap_u64]; omega
      have r2 : IntKind.u64.wrap (((f + g : Nat) : Int) + (c : Int)) = ((f + g + c : Nat) : Int) := by rw [IntKind.wrap_u64]; omega
      have DD : Hid (∀ (k : Nat) (s : Value) (z : Nat), TwoD (.slice ax n cap) f (.slice ay m cap') g s z → Calls Try.prog 34 #[s, .int .i64 (i : Int)] (wr.drewN k) fun e w' => e = .returned (.int .u64 (z : Int)) ∧ w' = wr.drewN k) := fun k s z hz => by
        rcases hz with ⟨rfl, rfl⟩ | ⟨rfl, rfl⟩
        · rw [EF.out.1]
          exact rdigit_any _ _ _ F i _ (HH.out.1.mono (bel_drewN (bel_go HB.out hP.out.bel) k)) (by omega)
        · rw [EF.out.2]
          exact rdigit_any _ _ _ G i _ (HH.out.2.2.2.1.mono (bel_drewN (bel_go HB.out hP.out.bel) k)) (by omega)
      go_wp2_with fail
      go_quiet ((go_at_call 34; exact Calls.quiet_of_same (DD.out _ _ _ (by first | exact .inl ⟨rfl, rfl⟩ | exact .inr ⟨rfl, rfl⟩))))
      have hs6 := HB.out.size
      have OW : Hid _ := hP.out.own.below (bel_al (bel_drewN (bel_refl wr) nq) (o := .cells #[.int .u64 (((f : Int) + (g : Int) + (c : Int)) % 4294967296)] 22))
      have CE : Hid (((wr.drewN nq).alloc (.cells #[.int .u64 (((f : Int) + (g : Int) + (c : Int)) % 4294967296)] 22)).cell? ⟨wr.heap.size, 0, none⟩ = some (.int .u64 (((f : Int) + (g : Int) + (c : Int)) % 4294967296))) := cell_new (wr.drewN nq) _ _
      have SZ : Hid (w0.heap.size ≤ ((wr.drewN nq).alloc (.cells #[.int .u64 (((f : Int) + (g : Int) + (c : Int)) % 4294967296)] 22)).heap.size) := Nat.le_trans hP.out.bel.size (bel_al (bel_drewN (bel_refl wr) nq)).size
      have hs7 : w0.heap.size ≤ wr.heap.size := hP.out.bel.size
      go_wp2_with (refine (id ?_ : wpList Try.prog _ _ (⟨some 35, _, _, _, _, _⟩ :: _) _ _); refine hold ?_)
      intro _
      refine wpList_append_one rfl (.tmp 31) (.tmp 34) 25 rfl 22 (.int .u64 0) 8 Try.underlying25 Try.info22b rfl (by omega) w0.heap.size _ i (wd H) rfl OW.out _ _ rfl _ CE.out rfl (by omega) SZ.out ?_
      intro g2 cap2 w2 ho hg2 _ _
      have S : Hid _ := hP.out.step EF.out hf hg ho (((bel_drewN hP.out.bel nq).alloc hs7 _).grown hg2 SZ.out hP.out.own.blk)
      clear ho hg2 OW
      go_wp2_with fail
      go_roundw
      case rel => exact ⟨i + 1, _, _, by omega, by go_num, by go_num, S.out⟩
      case measure => simp [intOf]; omega
    · obtain rfl : i = mx + 1 := by omega
      have B0 : Hid (Below w.heap.size w wr) := bel_go HB.out hP.out.bel
      have ht : decide (mx + 1 ≤ mx) = false := decide_eq_false him
      obtain ⟨a, cap1, rfl, hsl⟩ := hP.out.own.sl (fun j hj => by have := hP.out.dg j hj; omega)
      have hcr : wr.cell? ⟨w.heap.size + 1 + 1, 0, none⟩ = some (.slice none 0 0) := cell_later hP.out.bel CC.out.2.2.1
      have hfr : wr.frozen? ⟨w.heap.size + 1 + 1, 0, none⟩ = false := (hP.out.bel.frozen (World.block_lt_of_cell? _ _ CC.out.2.2.1)).trans CC.out.2.2.2
      have HS : Hid (Sl wr a (mx + 1) cap1 H) := hsl
      clear hsl
      go_wp2_with fail
      refine (rtrimmed_any _ (mx + 1) _ H wr HS.out hP.out.dg (by omega) (fun e => absurd e (by omega))).mono ?_
      rintro e w3 ⟨v3, rfl, hv3, hb3⟩
      rw [hP.out.done hm1 hm2 HH.out.2.1 HH.out.2.2.2.2.1, HH.out.2.2.1, HH.out.2.2.2.2.2] at hv3
      have hcr3 : w3.cell? ⟨w.heap.size + 1 + 1, 0, none⟩ = some (.slice none 0 0) := cell_later hb3 hcr
      have hfr3 : w3.frozen? ⟨w.heap.size + 1 + 1, 0, none⟩ = false := (hb3.frozen (World.block_lt_of_cell? _ _ hcr)).trans hfr
      obtain ⟨a3, n3, cap3, rfl⟩ := hv3.isAgg
      have HV3 : Hid (RNat w3 (.agg #[.slice a3 n3 cap3]) (x + y)) := hv3
      have B3 : Hid (Below w.heap.size w w3) := bel_go B0.out hb3
      clear hv3 hb3 hcr hfr
      go_wp2_with fail
      refine bodyPost_ret (v := .agg #[.slice a3 n3 cap3]) (by simp [results, Try.results17, go_sem, hcr3]) rfl ⟨_, rfl, ?_, B3.out.setCell (by show _ ≤ _ + 1 + 1; omega) _⟩
      exact HV3.out.setCell (no_int_slice hcr3) _
end Go.Proofs.Ytajkjfblpomdpaa
namespace Go.Proofs.Ytajkjfblpomdpaa
open Go.RowKit
set_option maxRecDepth 100000
set_option linter.unusedVariables false
/-- A number stays where another block is written. -/
theorem RNat.stay {w w' : World} {b o k c x g : Nat} (h : RNat w (.agg #[.slice (some ⟨b, o, none⟩) k c]) x) (hg : w.grownBy w' (some g)) (hne : b ≠ g) : RNat w' (.agg #[.slice (some ⟨b, o, none⟩) k c]) x := by
  obtain ⟨F, ⟨s1, s2, s3, s4⟩, hd, h1, hv⟩ := h.open
  refine ⟨_, k, c, F, rfl, ⟨s1, s2, s3, ?_⟩, hd, h1, hv⟩
  rcases s4 with e | ⟨b', o', e, hw⟩
  · exact .inl e
  · cases e
    exact .inr ⟨b, o, rfl, fun i hi => hg.cell (hw i hi) (by simp only [ne_eq, Option.some.injEq]; exact hne)⟩
set_option maxHeartbeats 1000000 in
theorem rtrimmed_at (a : Option Addr) (n cap : Nat) (F : Nat → Nat) (w : World) (h : Sl w a n cap F) (hd : Dg F n) (hn : n ≤ 1099511627776) (hn0 : n ≠ 0) :
    Calls Try.prog 26 #[.slice a n cap] w fun e w' => ∃ k, e = .returned (.agg #[.slice a k cap]) ∧ RNat w' (.agg #[.slice a k cap]) (U F n) ∧ Below w.heap.size w w' := by
  have HD : Hid (Dg F n ∧ True) := ⟨hd, trivial⟩
  clear hd
  go_enter Try.func26, Try.ntmps26
  go_wp2_with fail
  go_loop [3] (fun t => ∃ k : Nat, k ≤ n ∧ t = .int .i64 k ∧ Hid (∀ i, k ≤ i → i < n → F i = 0)) (fun t => (intOf t).toNat)
  case atStart => exact ⟨n, Nat.le_refl _, rfl, fun i h1 h2 => absurd h1 (by omega)⟩
  case round =>
    obtain ⟨k, hk, rfl, hz⟩ := hrel
    have HH : Hid (Sl w a n cap F) := h
    clear h
    by_cases h0 : k = 0
    · subst h0
      obtain ⟨b, o, rfl, hw⟩ := HH.out.at 0 (by omega)
      have hcap : (0 : Int) ≤ cap := by omega
      have hcz : ¬ cap = 0 := by have := HH.out.1; omega
      clear hw
      go_wp2_with fail
      refine bodyPost_ret (v := .agg #[.slice (some ⟨b, o, none⟩) 0 cap]) (by simp [results, Try.results26, go_sem]) rfl ⟨_, rfl, ⟨_, 0, cap, F, rfl, ⟨Nat.zero_le _, HH.out.2.1, fun i hi => absurd hi (by omega), .inl rfl⟩, fun i hi => absurd hi (by omega), fun e => absurd e (by omega), ?_⟩, ?_⟩
      · rw [U_zero, U_zeros fun i hi => hz.out i (Nat.zero_le _) hi]
      · exact (Below.refl _ _).alloc (Nat.le_refl _) _
    · obtain ⟨b, o, rfl, hw⟩ := HH.out.at (k - 1) (by omega)
      have hc : (w.alloc (.cells #[.slice none 0 0] 31)).cell? ⟨b, o + (k - 1), none⟩ = some (.int .u64 (F (k - 1) : Nat)) := cell_later ((Below.refl _ _).alloc (Nat.le_refl _) _) (hw (k - 1) (by omega))
      have h0' : (0 : Int) < k := by omega
      clear hw
      by_cases hf : F (k - 1) = 0
      · rw [hf] at hc
        go_wp2_with fail
        go_round
        case rel =>
          refine ⟨k - 1, by omega, by go_num, fun i h1 h2 => ?_⟩
          by_cases e : i = k - 1
          · rw [e, hf]
          · exact hz.out i (by omega) h2
        case measure => simp [intOf]; omega
      · have hne : (((F (k - 1) : Nat) : Int) == 0) = false := by simp; omega
        have hk0 : ((k : Int) == 0) = false := by simp; omega
        have hcap : (k : Int) ≤ cap := by have := HH.out.1; omega
        go_wp2_with fail
        have rn : RNat w (.agg #[.slice (some ⟨b, o, none⟩) k cap]) (U F n) := by
          obtain ⟨s1, s2, s3, s4⟩ := HH.out
          obtain ⟨b2, o2, e2, hw2⟩ : ∃ b2 o2, some (⟨b, o, none⟩ : Addr) = some ⟨b2, o2, none⟩ ∧ Words w b2 o2 n F := s4.resolve_left (by omega)
          exact ⟨_, k, cap, F, rfl, ⟨by omega, s2, s3.mono hk, .inr ⟨b2, o2, e2, fun i hi => hw2 i (by omega)⟩⟩, HD.out.1.mono hk, fun _ => hf, (U_top hk hz.out).symm⟩
        refine bodyPost_ret (v := .agg #[.slice (some ⟨b, o, none⟩) k cap]) (by simp [results, Try.results26, go_sem]) rfl ⟨_, rfl, rn.mono ((Below.refl _ _).alloc (Nat.le_refl _) _), (Below.refl _ _).alloc (Nat.le_refl _) _⟩
end Go.Proofs.Ytajkjfblpomdpaa
namespace Go.Proofs.Ytajkjfblpomdpaa
open Go.RowKit
set_option maxRecDepth 100000
set_option linter.unusedVariables false
/-- The number of the digits from the i-th on. -/
def Tp (F : Nat → Nat) (n i : Nat) : Nat := U (fun j => F (i + j)) (n - i)
theorem Tp_top (F : Nat → Nat) (n : Nat) : Tp F n n = 0 := by rw [Tp, Nat.sub_self, U_zero]
theorem Tp_all (F : Nat → Nat) (n : Nat) : Tp F n 0 = U F n := by
  rw [Tp, Nat.sub_zero]
  exact U_congr fun j hj => by rw [Nat.zero_add]
theorem Tp_step (F : Nat → Nat) {n i : Nat} (h : i < n) : Tp F n i = F i + 4294967296 * Tp F n (i + 1) := by
  unfold Tp
  rw [show n - i = 1 + (n - (i + 1)) by omega, U_split, B_one, U_succ, U_zero, B_zero, Nat.zero_add, Nat.mul_one, Nat.add_zero]
  congr 2
  exact U_congr fun j hj => by rw [show i + (1 + j) = i + 1 + j by omega]
theorem Tp_congr {F G : Nat → Nat} {n i : Nat} (h : ∀ j, i ≤ j → j < n → F j = G j) : Tp F n i = Tp G n i := U_congr fun j hj => h _ (by omega) (by omega)
theorem small_lt {r f d : Nat} (hr : r < d) (hf : f < 4294967296) : (r * 4294967296 + f) / d < 4294967296 := by
  refine (Nat.div_lt_iff_lt_mul (by omega)).2 ?_
  have : (r + 1) * 4294967296 ≤ d * 4294967296 := Nat.mul_le_mul_right _ hr
  omega
theorem small_eq {f T Q r d s : Nat} (h : T = Q * d + r) (hs : s = r * 4294967296 + f) : f + 4294967296 * T = (s / d + 4294967296 * Q) * d + s % d := by
  have h1 := Nat.div_add_mod s d
  have h2 : 4294967296 * T = 4294967296 * (Q * d + r) := by rw [h]
  grind
/-- The digits from the i-th on are divided. -/
structure Sm (F : Nat → Nat) (n d i r : Nat) (H : Nat → Nat) : Prop where
  eq : Tp F n i = Tp H n i * d + r
  lt : r < d
  dg : ∀ j, i ≤ j → j < n → H j < 4294967296
theorem Sm.step {F H : Nat → Nat} {n d i r : Nat} (h : Sm F n d (i + 1) r H) (hi : i < n) (hf : F i < 4294967296) : Sm F n d i ((r * 4294967296 + F i) % d) (put H i ((r * 4294967296 + F i) / d)) := by
  refine ⟨?_, Nat.mod_lt _ (Nat.lt_of_le_of_lt (Nat.zero_le _) h.lt), fun j h1 h2 => ?_⟩
  · rw [Tp_step F hi, Tp_step _ hi, put_same, Tp_congr (F := put H i _) (G := H) fun j h1 h2 => put_other _ _ (by omega)]
    exact small_eq h.eq rfl
  · unfold put
    split
    · exact small_lt h.lt hf
    · exact h.dg j (by omega) h2
theorem Sm.done {F H : Nat → Nat} {n d r : Nat} (h : Sm F n d 0 r H) : U H n = U F n / d ∧ r = U F n % d := by
  have h1 := h.eq
  rw [Tp_all, Tp_all] at h1
  have h2 := h.lt
  have h3 : 0 < d := by omega
  rw [h1, Nat.mul_comm (U H n) d]
  constructor
  · rw [Nat.mul_add_div h3, Nat.div_eq_of_lt h2, Nat.add_zero]
  · rw [Nat.mul_add_mod, Nat.mod_eq_of_lt h2]
set_option maxHeartbeats 2000000 in
theorem rsmall_at (ax : Option Addr) (n cap x d : Nat) (w : World) (h : RNat w (.agg #[.slice ax n cap]) x) (hx : RFits x) (hd0 : 0 < d) (hd1 : d < 4294967296) (hx0 : x ≠ 0) :
    Calls Try.prog 40 #[.agg #[.slice ax n cap], .int .u64 (d : Int)] w fun e w' => ∃ k, e = .returned (.tuple #[.agg #[.slice (some ⟨w.heap.size + 1 + 1, 0, none⟩) k n], .int .u64 ((x % d : Nat) : Int)]) ∧ RNat w' (.agg #[.slice (some ⟨w.heap.size + 1 + 1, 0, none⟩) k n]) (x / d) ∧ Below w.heap.size w w' := by
  have hn0 : n ≠ 0 := fun e => hx0 ((rnat_len0 h).1 e)
  obtain ⟨F, hs, hd, h1, hv⟩ := h.open
  have hn : n ≤ 4294967296 := rfits_len (hv.symm ▸ hx) h1
  have HH : Hid (Sl w ax n cap F ∧ Dg F n ∧ U F n = x) := ⟨hs, hd, hv⟩
  clear hs hd h1 hv h hx
  have mk := make_at (n : Int) (n : Int) n n rfl rfl (Nat.le_refl _) (by omega)
  go_enter Try.func40, Try.ntmps40
  go_wp2_with fail
  clear mk
  obtain ⟨w0, hw0⟩ : ∃ w0, w0 = ((w.alloc (.cells #[.slice ax n cap] 31)).alloc (.cells #[.slice none 0 0] 31)).alloc (.cells (zeros n) 22) := ⟨_, rfl⟩
  have c1 : w0.cell? ⟨w.heap.size, 0, none⟩ = some (.slice ax n cap) := by rw [hw0]; simp [go_sem]
  have c2 : w0.cell? ⟨w.heap.size + 1, 0, none⟩ = some (.slice none 0 0) := by rw [hw0]; simp [go_sem]
  have f2 : w0.frozen? ⟨w.heap.size + 1, 0, none⟩ = false := by rw [hw0]; simp [go_sem]
  have R0 : Row w0 (w.heap.size + 1 + 1) n (fun _ => 0) := by rw [hw0]; exact row_zeros_at _ _ _ (by simp)
  have HB : Hid (Below w.heap.size w w0) := by rw [hw0]; exact (bel_alloc2 _ _ _).alloc (by simp <;> omega) _
  rw [← hw0]
  clear hw0
  have CC : Hid _ := And.intro c1 (And.intro c2 f2)
  clear c1 c2 f2
  go_loopw [7, 8] (fun q t wr => ∃ (i r : Nat) (H : Nat → Nat), i ≤ n ∧ t = .int .i64 ((i : Int) - 1) ∧ q = .int .u64 (r : Int) ∧ Hid (Row wr (w.heap.size + 1 + 1) n H ∧ Sm F n d i r H ∧ w0.grownBy wr (some (w.heap.size + 1 + 1)))) (fun _ t _ => (intOf t + 1).toNat)
  case atStart => exact ⟨n, 0, fun _ => 0, by omega, rfl, rfl, ⟨R0, ⟨by rw [Tp_top, Tp_top]; omega, hd0, fun j h1 h2 => absurd h2 (by omega)⟩, World.grownBy.refl _ _⟩⟩
  case round =>
    clear R0
    obtain ⟨i, r, H, hi, rfl, rfl, hP⟩ := hrel
    by_cases hi0 : 0 < i
    · obtain ⟨k, rfl⟩ : ∃ k, i = k + 1 := ⟨i - 1, by omega⟩
      obtain ⟨b, o, rfl, hw⟩ := HH.out.1.at k (by omega)
      have hc0 := hw k (by omega)
      have hb : b < w.heap.size := World.block_lt_of_cell? _ _ hc0
      have hcw : wr.cell? ⟨b, o + k, none⟩ = some (.int .u64 (F k : Nat)) := hP.out.2.2.cell (cell_later HB.out hc0) (by simp only [ne_eq, Option.some.injEq]; omega)
      have hcx : wr.cell? ⟨w.heap.size, 0, none⟩ = some (.slice (some ⟨b, o, none⟩) n cap) := hP.out.2.2.cell CC.out.1 (by simp only [ne_eq, Option.some.injEq]; omega)
      have hcd : wr.cell? ⟨w.heap.size + 1 + 1, k, none⟩ = some (.int .u64 (H k : Nat)) := hP.out.1.cell (by omega)
      have hfd : wr.frozen? ⟨w.heap.size + 1 + 1, k, none⟩ = false := hP.out.1.frozen _
      have hidx : ((k + 1 : Nat) : Int) - 1 = (k : Int) := by omega
      have hF := HH.out.2.1 k (by omega)
      have hr := hP.out.2.1.lt
      have m1 : IntKind.u64.wrap ((r : Int) * 4294967296) = ((r * 4294967296 : Nat) : Int) := by rw [IntKind.wrap_u64]; omega
      have m2 : IntKind.u64.wrap (((r * 4294967296 : Nat) : Int) + ((F k : Nat) : Int)) = ((r * 4294967296 + F k : Nat) : Int) := by rw [IntKind.wrap_u64]; omega
      have hq := small_lt hr hF
      obtain ⟨s, hs⟩ : ∃ s, s = r * 4294967296 + F k := ⟨_, rfl⟩
      have m3 : ((d : Int) == 0) = false := by simp; omega
      have S : Hid _ := And.intro (hP.out.1.set k (show (r * 4294967296 + F k) / d < 18446744073709551616 by omega)) (And.intro (hP.out.2.1.step (by omega) hF) (grown_set _ hP.out.2.2 k (.int .u64 (((r * 4294967296 + F k) / d : Nat) : Int))))
      clear hw hc0 hs hq
      rw [hidx]
      have hz : ((r : Int) * 4294967296 + ((F k : Nat) : Int)) / (d : Int) = (((r * 4294967296 + F k) / d : Nat) : Int) := by simp
      have hz2 : ((r : Int) * 4294967296 + ((F k : Nat) : Int)) % (d : Int) = (((r * 4294967296 + F k) % d : Nat) : Int) := by simp
      have HZ : Hid _ := And.intro hz hz2
      clear hz hz2
      go_wp2_with fail
      rw [HZ.out.1, HZ.out.2]
      go_roundw
      case rel => exact ⟨k, _, _, by omega, rfl, rfl, S.out⟩
      case measure => simp [intOf]
    · obtain rfl : i = 0 := by omega
      have B0 : Hid (Below w.heap.size w wr) := HB.out.grown hP.out.2.2 HB.out.size (fun k hk => by cases hk; omega)
      have hcr : wr.cell? ⟨w.heap.size + 1, 0, none⟩ = some (.slice none 0 0) := hP.out.2.2.cell CC.out.2.1 (by simp)
      have hfr : wr.frozen? ⟨w.heap.size + 1, 0, none⟩ = false := (World.frozen?_of_block (hP.out.2.2.block _ (World.block_lt_of_cell? _ _ CC.out.2.1) (by simp))).trans CC.out.2.2
      go_wp2_with fail
      refine (rtrimmed_at _ n n H wr (by have := hP.out.1.sl (o := 0) (n := n) (cap := n) (by omega) (Nat.le_refl _) (by omega); rw [fro_zero] at this; exact this) (fun j hj => hP.out.2.1.dg j (Nat.zero_le _) hj) (by omega) hn0).mono ?_
      rintro e w3 ⟨n3, rfl, hv3, hb3⟩
      have he := hP.out.2.1.done
      rw [HH.out.2.2] at he
      rw [he.1] at hv3
      have hcr3 : w3.cell? ⟨w.heap.size + 1, 0, none⟩ = some (.slice none 0 0) := cell_later hb3 hcr
      have hfr3 : w3.frozen? ⟨w.heap.size + 1, 0, none⟩ = false := (hb3.frozen (World.block_lt_of_cell? _ _ hcr)).trans hfr
      have HV3 : Hid (RNat w3 (.agg #[.slice (some ⟨w.heap.size + 1 + 1, 0, none⟩) n3 n]) (x / d)) := hv3
      have B3 : Hid (Below w.heap.size w w3) := bel_go B0.out hb3
      have HE : Hid (r = x % d) := he.2
      clear hv3 hb3 hcr hfr he
      go_wp2_with fail
      refine bodyPost_ret (v := .tuple #[.agg #[.slice (some ⟨w.heap.size + 1 + 1, 0, none⟩) n3 n], .int .u64 (r : Int)]) (by simp [results, Try.results40, go_sem, hcr3]) rfl ⟨_, by rw [HE.out], ?_, B3.out.setCell (by show _ ≤ _ + 1; omega) _⟩
      exact HV3.out.setCell (no_int_slice hcr3) _
theorem rsmall_any (v : Value) (x d : Nat) (w : World) (h : RNat w v x) (hx : RFits x) (hd0 : 0 < d) (hd1 : d < 4294967296) (hx0 : x ≠ 0) :
    Calls Try.prog 40 #[v, .int .u64 (d : Int)] w fun e w' => ∃ v', e = .returned (.tuple #[v', .int .u64 ((x % d : Nat) : Int)]) ∧ RNat w' v' (x / d) ∧ Below w.heap.size w w' := by
  obtain ⟨ax, n, cap, rfl⟩ := h.isAgg
  exact (rsmall_at ax n cap x d w h hx hd0 hd1 hx0).mono fun e w' ⟨k, e1, e2, e3⟩ => ⟨_, e1, e2, e3⟩
end Go.Proofs.Ytajkjfblpomdpaa
namespace Go.Proofs.Ytajkjfblpomdpaa
open Go.RowKit
set_option maxRecDepth 100000
set_option linter.unusedVariables false
/-- K digits of x are told; what is left is y. -/
structure TD (x K y : Nat) : Prop where
  left : x / 10 ^ K = y
  some : K = 0 ∨ 10 ^ (K - 1) ≤ x
theorem TD.next {x K y : Nat} (h : TD x K y) (hy : y ≠ 0) : TD x (K + 1) (y / 10) ∧ 48 + y % 10 = decAt x K := by
  have h1 : 10 ^ K ≤ x := by
    rcases Nat.lt_or_ge x (10 ^ K) with hh | hh
    · exact absurd (h.left.symm.trans (Nat.div_eq_of_lt hh)) hy
    · exact hh
  refine ⟨⟨?_, .inr (by simpa using h1)⟩, ?_⟩
  · rw [Nat.pow_succ, ← Nat.div_div_eq_div_mul, h.left]
  · rw [decAt, h.left]
theorem TD.short {x K y : Nat} (h : TD x K y) (hx : RFits x) : K ≤ 137438953473 := by
  rcases h.some with rfl | h1
  · omega
  · have h2 : 2 ^ (K - 1) ≤ 10 ^ (K - 1) := Nat.pow_le_pow_left (by decide) _
    have h3 := Nat.lt_of_le_of_lt (Nat.le_trans h2 h1) hx.lt
    rw [B_two] at h3
    have h4 := (Nat.pow_lt_pow_iff_right (show 1 < 2 by decide)).1 h3
    have h5 : lim ≤ 4294967296 := le_lim (Nat.le_refl _)
    omega
theorem TD.done {x K : Nat} (h : TD x K 0) (hx : x ≠ 0) : DecLen x K := by
  have h1 : x < 10 ^ K := by
    have := h.left
    rcases Nat.lt_or_ge x (10 ^ K) with hh | hh
    · exact hh
    · have := Nat.div_pos hh (Nat.pow_pos (show 0 < 10 by decide))
      omega
  have h2 : K ≠ 0 := fun e => by subst e; simp at h1; omega
  refine ⟨by omega, h1, .inr (h.some.resolve_left h2)⟩
theorem split9 {q r k : Nat} (hk : k < 9) : (q * 10 ^ (9 - k) + r) / 10 = q * 10 ^ (9 - (k + 1)) + r / 10 ∧ (q * 10 ^ (9 - k) + r) % 10 = r % 10 := by
  rw [show 9 - k = (9 - (k + 1)) + 1 by omega, Nat.pow_succ]
  generalize 10 ^ (9 - (k + 1)) = t
  have : q * (t * 10) = 10 * (q * t) := by grind
  omega
set_option maxHeartbeats 1000000 in
theorem rtext_zero (v : Value) (w : World) (h : RNat w v 0) : Calls Try.prog 23 #[v] w (Texts w 0) := by
  obtain ⟨ax, n, cap, rfl⟩ := h.isAgg
  have HH : Hid (RNat w (.agg #[.slice ax n cap]) 0) := h
  clear h
  go_enter Try.func23, Try.ntmps23
  go_wp2_with fail
  refine (rzero_any _ 0 _ (HH.out.mono (bel_al (bel_refl w))) (rfits_of (n := 1) (by rw [B_one]; omega) (by omega))).mono ?_
  rintro e w1 ⟨rfl, hb1⟩
  have HB : Hid (Below w.heap.size w w1) := bel_go (bel_al (bel_refl w)) hb1
  clear hb1
  go_wp2_with fail
  refine bodyPost_ret (v := .string (decText 0 1)) (by simp [results, Try.results23, go_sem]; decide) rfl ⟨1, rfl, ⟨by omega, by omega, .inl rfl⟩, HB.out⟩
end Go.Proofs.Ytajkjfblpomdpaa
namespace Go.Proofs.Ytajkjfblpomdpaa
open Go.RowKit
set_option maxRecDepth 100000
set_option linter.unusedVariables false
/-- Bytes as cells. -/
def bd (D : Nat → Nat) : Nat → Value := fun j => .int .u8 ((D j : Nat) : Int)
/-- A number that lies apart from a row stays, where the row grows. -/
theorem RNat.apart {w w' : World} {b o k c x : Nat} {row : Option Nat} (h : RNat w (.agg #[.slice (some ⟨b, o, none⟩) k c]) x) (hg : w.grownBy w' row) (hne : k ≠ 0 → ∀ g, row = some g → b ≠ g) : RNat w' (.agg #[.slice (some ⟨b, o, none⟩) k c]) x := by
  obtain ⟨F, ⟨s1, s2, s3, s4⟩, hd, h1, hv⟩ := h.open
  refine ⟨_, k, c, F, rfl, ⟨s1, s2, s3, ?_⟩, hd, h1, hv⟩
  rcases s4 with e | ⟨b', o', e, hw⟩
  · exact .inl e
  · cases e
    exact .inr ⟨b, o, rfl, fun i hi => hg.cell (hw i hi) (fun e => hne (by omega) b e.symm rfl)⟩
/-- The outer loop: K digits are told, y is left. -/
structure TO (w wr : World) (x : Nat) (l : Value) (gb o n cap K y : Nat) : Prop where
  cx : wr.cell? ⟨w.heap.size, 0, none⟩ = some (.slice (some ⟨gb, o, none⟩) n cap)
  fx : wr.frozen? ⟨w.heap.size, 0, none⟩ = false
  num : RNat wr (.agg #[.slice (some ⟨gb, o, none⟩) n cap]) y
  td : TD x K y
  own : OR wr 5 (w.heap.size + 1) l K (bd (decAt x))
  bel : Below w.heap.size w wr
/-- The inner loop: k digits more are told; q and r are left. -/
structure TI (w wr : World) (x : Nat) (l : Value) (bq gq nq cq K k q r : Nat) : Prop where
  cx : ∃ (u : Option Addr × Nat × Nat), wr.cell? ⟨w.heap.size, 0, none⟩ = some (.slice u.1 u.2.1 u.2.2)
  fx : wr.frozen? ⟨w.heap.size, 0, none⟩ = false
  cb : wr.cell? ⟨bq, 0, none⟩ = some (.slice (some ⟨gq, 0, none⟩) nq cq)
  num : RNat wr (.agg #[.slice (some ⟨gq, 0, none⟩) nq cq]) q
  td : TD x (K + k) (q * 10 ^ (9 - k) + r)
  lt : r < 10 ^ (9 - k)
  own : OR wr 5 (w.heap.size + 1) l (K + k) (bd (decAt x))
  ne : ∀ g, l.ownBlock = some g → (nq ≠ 0 → gq ≠ g) ∧ bq ≠ g
  bel : Below w.heap.size w wr
theorem TI.go {w wr w' : World} {x : Nat} {l : Value} {bq gq nq cq K k q r : Nat} (h : TI w wr x l bq gq nq cq K k q r) (hb : Below wr.heap.size wr w') : TI w w' x l bq gq nq cq K k q r := by
  obtain ⟨u, hu⟩ := h.cx
  exact ⟨⟨u, cell_later hb hu⟩, (hb.frozen (World.block_lt_of_cell? _ _ hu)).trans h.fx, cell_later hb h.cb, h.num.mono hb, h.td, h.lt, h.own.below hb, h.ne, bel_go h.bel hb⟩
theorem pow9 {k : Nat} (hk : k < 9) : 10 ^ (9 - k) = 10 * 10 ^ (9 - (k + 1)) := by
  rw [show 9 - k = (9 - (k + 1)) + 1 by omega, Nat.pow_succ, Nat.mul_comm]
theorem TI.step {w wr w2 : World} {x : Nat} {l : Value} {bq gq nq cq K k q r g2 cap2 : Nat} (h : TI w wr x l bq gq nq cq K k q r) (hk : k < 9) (h0 : r ≠ 0 ∨ q ≠ 0)
    (ho : OR w2 5 (w.heap.size + 1) (.slice (some ⟨g2, 0, none⟩) (K + k + 1) cap2) (K + k + 1) (fun j => if j = K + k then .int .u8 ((48 + r % 10 : Nat) : Int) else bd (decAt x) j)) (hg : wr.grownBy w2 l.ownBlock) (hw : l.ownBlock = some g2 ∨ wr.heap.size ≤ g2) :
    TI w w2 x (.slice (some ⟨g2, 0, none⟩) (K + k + 1) cap2) bq gq nq cq K (k + 1) q (r / 10) := by
  obtain ⟨u, hu⟩ := h.cx
  have hb := h.own.blk
  have hy : q * 10 ^ (9 - k) + r ≠ 0 := by
    have := Nat.pow_pos (n := 9 - k) (show 0 < 10 by decide)
    rcases h0 with h0 | h0
    · omega
    · have : 1 * 1 ≤ q * 10 ^ (9 - k) := Nat.mul_le_mul (by omega) this
      omega
  obtain ⟨n1, n2⟩ := h.td.next hy
  obtain ⟨s1, s2⟩ := split9 (q := q) (r := r) hk
  rw [s1] at n1
  rw [s2] at n2
  have hlq : gq < wr.heap.size ∨ nq = 0 := by
    obtain ⟨F, ⟨_, _, _, s4⟩, _⟩ := h.num.open
    rcases s4 with e | ⟨b', o', e, hw⟩
    · exact .inr e
    · cases e
      rcases Nat.eq_zero_or_pos nq with e | e
      · exact .inr e
      · exact .inl (World.block_lt_of_cell? _ _ (hw 0 e))
  have hlb : bq < wr.heap.size := World.block_lt_of_cell? _ _ h.cb
  have hbx : ∀ g, l.ownBlock = some g → w.heap.size ≠ g := fun g hg => by have := hb g hg; omega
  refine ⟨⟨u, hg.cell hu fun e => hbx _ e.symm rfl⟩, ?_, hg.cell h.cb fun e => (h.ne _ e.symm).2 rfl, h.num.apart hg fun h0 g e => (h.ne g e).1 h0, n1, ?_, ?_, ?_, ?_⟩
  · exact (World.frozen?_of_block (hg.block _ (World.block_lt_of_cell? _ _ hu) fun e => hbx _ e.symm rfl)).trans h.fx
  · have := h.lt
    rw [pow9 hk] at this
    exact Nat.div_lt_of_lt_mul this
  · refine OR.congr ho fun j hj => ?_
    split
    · rename_i e
      rw [e]
      show _ = Value.int .u8 ((decAt x (K + k) : Nat) : Int)
      rw [n2]
    · rfl
  · intro g e
    have e' : g2 = g := by simpa [Value.ownBlock] using e
    subst e'
    rcases hw with e | e
    · exact h.ne _ e
    · exact ⟨fun h0 => by omega, by omega⟩
  · exact h.bel.grown hg h.bel.size (fun g e => by have := hb g e; omega)
def lenOf (v : Value) : Nat := match v with
  | .slice _ k _ => k
  | _ => 0
theorem OR.len {w : World} {e : TypeId} {base n : Nat} {v : Value} {G : Nat → Value} (h : OR w e base v n G) : lenOf v = n := by
  rcases h with ⟨rfl, rfl⟩ | ⟨g, cap, f, rfl, _⟩
  · rfl
  · rfl
theorem RFits.le {x y : Nat} (h : RFits x) (hy : y ≤ x) : RFits y := ⟨Nat.lt_of_le_of_lt hy h.lt⟩
theorem TD.le {x K y : Nat} (h : TD x K y) : y ≤ x := by rw [← h.left]; exact Nat.div_le_self _ _
theorem TI.size {w wr : World} {x : Nat} {l : Value} {bq gq nq cq K k q r : Nat} (h : TI w wr x l bq gq nq cq K k q r) : w.heap.size + 1 ≤ wr.heap.size := by
  obtain ⟨u, hu⟩ := h.cx
  exact World.block_lt_of_cell? _ _ hu
theorem TI.out {w wr : World} {x : Nat} {l : Value} {bq gq nq cq K k q r : Nat} (h : TI w wr x l bq gq nq cq K k q r) {u1 : Option Addr} {u2 u3 : Nat} (hu : wr.cell? ⟨w.heap.size, 0, none⟩ = some (.slice u1 u2 u3)) (hq : TD x (K + k) q) :
    TO w (wr.setCell ⟨w.heap.size, 0, none⟩ (.slice (some ⟨gq, 0, none⟩) nq cq)) x l gq 0 nq cq (K + k) q := by
  refine ⟨by simp [go_sem, hu], by simp [World.frozen?_setCell, h.fx], h.num.setCell (no_int_slice hu) _, hq, ?_, h.bel.setCell (Nat.le_refl _) _⟩
  refine h.own.kept (grown_set wr (World.grownBy.refl wr _) 0 _) (.inr fun e => ?_)
  have := h.own.blk _ e
  omega
theorem TO.go {w wr w' : World} {x : Nat} {l : Value} {gb o n cap K y : Nat} (h : TO w wr x l gb o n cap K y) (hb : Below wr.heap.size wr w') : TO w w' x l gb o n cap K y :=
  ⟨cell_later hb h.cx, (hb.frozen (World.block_lt_of_cell? _ _ h.cx)).trans h.fx, h.num.mono hb, h.td, h.own.below hb, bel_go h.bel hb⟩
/-- The inner loop begins. -/
theorem TO.start {w w2 w3 : World} {x : Nat} {l : Value} {gb o n cap K y k3 : Nat} (h : TO w w2 x l gb o n cap K y) (hb : Below w2.heap.size w2 w3) (hv : RNat w3 (.agg #[.slice (some ⟨w2.heap.size + 1 + 1, 0, none⟩) k3 n]) (y / 1000000000)) (t : TypeId) :
    TI w (w3.alloc (.cells #[.slice (some ⟨w2.heap.size + 1 + 1, 0, none⟩) k3 n] t)) x l w3.heap.size (w2.heap.size + 1 + 1) k3 n K 0 (y / 1000000000) (y % 1000000000) := by
  have h3 := h.go hb
  have h4 := h3.go (bel_al (bel_refl w3) (o := .cells #[.slice (some ⟨w2.heap.size + 1 + 1, 0, none⟩) k3 n] t))
  have own2 : ∀ g, l.ownBlock = some g → g < w2.heap.size := fun g e => by
    rcases h.own with ⟨rfl, _⟩ | ⟨g', cap', f, rfl, _, _, _, hr, _⟩
    · cases e
    · cases e
      exact hr.lt
  have hs2 := hb.size
  refine ⟨⟨(some ⟨gb, o, none⟩, n, cap), h4.cx⟩, h4.fx, by simp [go_sem], hv.mono (bel_al (bel_refl w3)), ?_, Nat.mod_lt _ (by decide), h4.own, fun g e => ?_, h4.bel⟩
  · show TD x (K + 0) (y / 1000000000 * 10 ^ 9 + y % 1000000000)
    rw [show y / 1000000000 * 10 ^ 9 + y % 1000000000 = y by have := Nat.div_add_mod y 1000000000; omega]
    exact h.td
  · have := own2 g e
    exact ⟨fun _ => by omega, by omega⟩
theorem conv_or {w : World} {base n : Nat} {v : Value} {D : Nat → Nat} (h : OR w 5 base v n (bd D)) (hn : n ≠ 0) : ∃ g c, v = .slice (some ⟨g, 0, none⟩) n c ∧ (convert 23 9 (.slice (some ⟨g, 0, none⟩) n c)).run Try.prog w = .ok (.string (strOf D n)) w := by
  rcases h with ⟨_, e⟩ | ⟨g, cap, f, rfl, _, hc, _, hr, hf⟩
  · exact absurd e hn
  · refine ⟨g, cap, rfl, ?_⟩
    refine run_convert_bytes_arg (P := Try.prog) w 23 5 (by kernel_rfl) (by kernel_rfl) g 0 n cap _ (by simp) (fun i hi => ?_) 9 (by kernel_rfl)
    rw [Nat.zero_add, hr.cell (show i < cap by omega), hf i hi]
    simp [List.getD, hi, bd]
theorem OR.at {w : World} {e : TypeId} {base n : Nat} {v : Value} {G : Nat → Value} (h : OR w e base v n G) (hn : n ≠ 0) : ∃ g c, v = .slice (some ⟨g, 0, none⟩) n c ∧ ∀ i, i < n → w.cell? ⟨g, i, none⟩ = some (G i) := by
  rcases h with ⟨_, e⟩ | ⟨g, cap, f, rfl, _, hc, _, hr, hf⟩
  · exact absurd e hn
  · exact ⟨g, cap, rfl, fun i hi => by rw [hr.cell (show i < cap by omega), hf i hi]⟩
end Go.Proofs.Ytajkjfblpomdpaa
namespace Go.Proofs.Ytajkjfblpomdpaa
open Go.RowKit
set_option maxRecDepth 100000
set_option linter.unusedVariables false
set_option maxHeartbeats 4000000 in
theorem rtext_pos (v : Value) (x : Nat) (w : World) (h : RNat w v x) (hx : RFits x) (hx0 : x ≠ 0) :
    Calls Try.prog 23 #[v] w (Texts w x) := by
  obtain ⟨ax, n, cap, rfl⟩ := h.isAgg
  have hn0 : n ≠ 0 := fun e => hx0 ((rnat_len0 h).1 e)
  obtain ⟨gb, o, rfl⟩ : ∃ gb o, ax = some ⟨gb, o, none⟩ := by
    obtain ⟨F, hs, _⟩ := h.open
    obtain ⟨b, o, e, _⟩ := hs.at 0 (by omega)
    exact ⟨b, o, e⟩
  have HH : Hid (RNat w (.agg #[.slice (some ⟨gb, o, none⟩) n cap]) x ∧ RFits x) := ⟨h, hx⟩
  clear h hx hn0
  go_enter Try.func23, Try.ntmps23
  go_wp2_with fail
  refine (rzero_any _ x _ (HH.out.1.mono (bel_al (bel_refl w))) HH.out.2).mono ?_
  rintro e w1 ⟨rfl, hb1⟩
  have hz : decide (x = 0) = false := decide_eq_false hx0
  have c1 : w1.cell? ⟨w.heap.size, 0, none⟩ = some (.slice (some ⟨gb, o, none⟩) n cap) := cell_later hb1 (by simp [go_sem])
  have f1 : w1.frozen? ⟨w.heap.size, 0, none⟩ = false := (hb1.frozen (by simp)).trans (by simp [go_sem])
  have T0 : Hid (TO w w1 x (.slice none 0 0) gb o n cap 0 x) := ⟨c1, f1, (HH.out.1.mono (bel_al (bel_refl w))).mono hb1, ⟨by simp, .inl rfl⟩, OR.nil _ _ _ _, bel_go (bel_al (bel_refl w)) hb1⟩
  clear hb1 c1 f1
  go_wp2_with fail
  go_loopw [3] (fun l wr => ∃ (gb o n cap K y : Nat), Hid (TO w wr x l gb o n cap K y)) (fun l _ => 137438953480 - lenOf l)
  case atStart => exact ⟨gb, o, n, cap, 0, x, T0⟩
  case round =>
    clear T0 hz
    obtain ⟨gb, o, n, cap, K, y, hT⟩ := hrel
    have cx := hT.out.cx
    have hlo : Hid (lenOf u3 = K) := hT.out.own.len
    go_wp2_with fail
    refine (rzero_any _ y _ hT.out.num (HH.out.2.le hT.out.td.le)).mono ?_
    rintro e w2 ⟨rfl, hb2⟩
    have T2 : Hid (TO w w2 x u3 gb o n cap K y) := hT.out.go hb2
    clear hb2 cx hT
    by_cases hy0 : y = 0
    · have hz : decide (y = 0) = true := decide_eq_true hy0
      have DL : Hid (DecLen x K) := (hy0 ▸ T2.out.td).done hx0
      have hK0 : K ≠ 0 := by have := DL.out.1; omega
      have hKs : K ≤ 137438953473 := T2.out.td.short HH.out.2
      obtain ⟨gl, cl, rfl, hcl⟩ := T2.out.own.at hK0
      have CL : Hid _ := hcl
      have hKI : IntKind.i64.wrap ((K : Int) - 1) = (K : Int) - 1 := by rw [IntKind.wrap_i64]; omega
      have BB : Hid (Below w.heap.size w w2) := T2.out.bel
      clear hcl hy0 T2 hlo
      go_wp2_with fail
      go_loopw [7, 8] (fun b t wr => ∃ (m : Nat), m ≤ K ∧ t = .int .i64 (((K - m : Nat) : Int) - 1) ∧ Hid (OR wr 5 w2.heap.size b m (bd (fun j => decAt x (K - 1 - j))) ∧ Below w2.heap.size w2 wr)) (fun _ t _ => (intOf t + 1).toNat)
      case atStart => exact ⟨0, by omega, rfl, ⟨OR.nil _ _ _ _, Below.refl _ _⟩⟩
      case round =>
        obtain ⟨m, hm, rfl, hO⟩ := hrel
        by_cases hmK : m < K
        · obtain ⟨i, hi⟩ : ∃ i, i = K - m - 1 := ⟨_, rfl⟩
          have hidx : ((K - m : Nat) : Int) - 1 = (i : Int) := by omega
          have hiK : i < K := by omega
          have hci : wr.cell? ⟨gl, i, none⟩ = some (.int .u8 ((decAt x i : Nat) : Int)) := cell_later hO.out.2 (CL.out i hiK)
          rw [hidx]
          have hwi : IntKind.i64.wrap ((i : Int) - 1) = (i : Int) - 1 := by rw [IntKind.wrap_i64]; omega
          have HI : Hid (i = K - m - 1) := hi
          obtain ⟨d, ed⟩ : ∃ d, d = decAt x i := ⟨_, rfl⟩
          have ED : Hid (d = decAt x i) := ed
          rw [← ed] at hci
          clear hidx hi ed
          go_wp2_with (refine (id ?_ : wpList Try.prog _ _ (⟨some 55, _, _, _, _, _⟩ :: _) _ _); refine hold ?_)
          intro _
          refine wpList_append_one rfl (.tmp 49) (.tmp 54) 23 rfl 5 (.int .u8 0) 1 Try.underlying23 Try.info5 rfl (by omega) w2.heap.size _ m (bd (fun j => decAt x (K - 1 - j))) rfl (hO.out.1.below (bel_al (bel_refl wr))) _ _ rfl _ (cell_new wr (.int .u8 (d : Int)) 5) rfl (by omega) (Nat.le_trans hO.out.2.size (bel_al (bel_refl wr) (o := .cells #[.int .u8 (d : Int)] 5)).size) ?_
          intro g2 cap2 w9 ho hg2 _ _
          have S : Hid (OR w9 5 w2.heap.size (.slice (some ⟨g2, 0, none⟩) (m + 1) cap2) (m + 1) (bd (fun j => decAt x (K - 1 - j))) ∧ Below w2.heap.size w2 w9) := by
            refine ⟨OR.congr ho fun j hj => ?_, ((hO.out.2.alloc hO.out.2.size _).grown hg2 (Nat.le_trans hO.out.2.size (bel_al (bel_refl wr)).size) hO.out.1.blk)⟩
            split
            · rename_i e
              rw [e, ED.out]
              show Value.int .u8 ((decAt x i : Nat) : Int) = Value.int .u8 ((decAt x (K - 1 - m) : Nat) : Int)
              rw [HI.out, show K - m - 1 = K - 1 - m by omega]
            · rfl
          clear ho hg2
          go_wp2_with fail
          go_roundw
          case rel => exact ⟨m + 1, by omega, by have := HI.out; go_num, S⟩
          case measure => simp [intOf]
        · obtain rfl : m = K := by omega
          have hneg : ((m - m : Nat) : Int) - 1 = -1 := by omega
          rw [hneg]
          obtain ⟨g3, c3, rfl, cv⟩ := conv_or hO.out.1 hK0
          have B3 : Hid (Below w.heap.size w wr) := bel_go BB.out hO.out.2
          clear hneg
          go_wp2_with fail
          go_ret
          exact ⟨m, rfl, DL.out, B3.out⟩
    · have hz2 : decide (y = 0) = false := decide_eq_false hy0
      have cx := T2.out.cx
      go_wp2_with fail
      refine (rsmall_at (some ⟨gb, o, none⟩) n cap y 1000000000 w2 T2.out.num (HH.out.2.le T2.out.td.le) (by omega) (by omega) hy0).mono ?_
      rintro e w3 ⟨k3, rfl, hv3, hb3⟩
      have I0 : Hid _ := T2.out.start hb3 hv3 31
      have TY : Hid (TD x K y ∧ y ≠ 0) := ⟨T2.out.td, hy0⟩
      clear hb3 hv3 cx T2 hy0
      go_wp2_with fail
      obtain ⟨w4, hw4⟩ : ∃ w4, w4 = w3.alloc (.cells #[.slice (some ⟨w2.heap.size + 1 + 1, 0, none⟩) k3 n] 31) := ⟨_, rfl⟩
      rw [← hw4] at I0 ⊢
      clear hw4
      obtain ⟨bq, hbq⟩ : ∃ bq, bq = w3.heap.size := ⟨_, rfl⟩
      obtain ⟨gq, hgq⟩ : ∃ gq, gq = w2.heap.size + 1 + 1 := ⟨_, rfl⟩
      rw [← hbq, ← hgq] at I0
      simp only [← hbq, ← hgq]
      obtain ⟨q, eq⟩ : ∃ q, q = y / 1000000000 := ⟨_, rfl⟩
      rw [← eq] at I0
      have EQ : Hid (q = y / 1000000000) := eq
      clear hbq hgq eq
      go_loopw [3, 5, 6] (fun l r k wi => ∃ (kk rr : Nat), kk ≤ 9 ∧ k = .int .i64 (kk : Int) ∧ r = .int .u64 (rr : Int) ∧ Hid (TI w wi x l bq gq k3 n K kk (q) rr)) (fun _ _ k _ => 9 - (intOf k).toNat)
      case atStart => exact ⟨0, y % 1000000000, by omega, rfl, rfl, I0⟩
      case round =>
        clear I0
        obtain ⟨kk, rr, hk, rfl, rfl, hI⟩ := hrel
        by_cases hk9 : kk < 9
        · have hk9' : decide ((kk : Int) < 9) = true := decide_eq_true (by omega)
          have hrl : rr < 1000000000 := Nat.lt_of_lt_of_le hI.out.lt (Nat.pow_le_pow_right (by decide) (show 9 - kk ≤ 9 by omega))
          by_cases hr0 : rr = 0
          · have hr1 : decide (0 < (rr : Int)) = false := decide_eq_false (by omega)
            have hr2 : decide (0 < rr) = false := decide_eq_false (by omega)
            have HR0 : Hid (rr = 0) := hr0
            clear hr0
            have cb := hI.out.cb
            go_wp2_with fail
            refine (rzero_any _ (q) _ hI.out.num (HH.out.2.le (Nat.le_trans (by rw [EQ.out]; exact Nat.div_le_self _ _) TY.out.1.le))).mono ?_
            rintro e w7 ⟨rfl, hb7⟩
            have I7 : Hid (TI w w7 x u3 bq gq k3 n K kk (q) rr) := hI.out.go hb7
            clear hb7 hI cb
            by_cases hq0 : q = 0
            · have hqd : decide (q = 0) = true := decide_eq_true hq0
              have HQ0 : Hid (q = 0) := hq0
              clear hq0
              have hq : Hid (TD x (K + kk) (q)) := by have := I7.out.td; rw [HR0.out, HQ0.out, Nat.zero_mul, Nat.add_zero] at this; rw [HQ0.out]; exact this
              have hpos : 0 < kk := by
                rcases Nat.eq_zero_or_pos kk with e | e
                · exfalso
                  have h5 := I7.out.td.left
                  rw [HR0.out, HQ0.out, e, Nat.zero_mul, Nat.add_zero] at h5
                  exact TY.out.2 (TY.out.1.left.symm.trans h5)
                · exact e
              have hKk : K + kk ≤ 137438953473 := hq.out.short HH.out.2
              obtain ⟨⟨u1, u2, u4⟩, hu⟩ := I7.out.cx
              have fu := I7.out.fx
              have cq := I7.out.cb
              have T9 : Hid (TO w (w7.setCell ⟨w.heap.size, 0, none⟩ (.slice (some ⟨gq, 0, none⟩) k3 n)) x u3 gq 0 k3 n (K + kk) (q)) := I7.out.out hu hq.out
              have hle : Hid (lenOf u3 = K + kk) := I7.out.own.len
              go_wp2_with fail
              go_roundw
              case rel => exact ⟨gq, 0, k3, n, K + kk, q, T9⟩
              case measure =>
                show 137438953480 - lenOf u3 < 137438953480 - lenOf _
                rw [hle.out, hlo.out]
                omega
            · have hqd : decide (q = 0) = false := decide_eq_false hq0
              have c1 : IntKind.u64.wrap (48 + (rr : Int) % 10) = 48 + (rr : Int) % 10 := by rw [IntKind.wrap_u64]; omega
              have c2 : IntKind.u8.wrap (48 + (rr : Int) % 10) = 48 + (rr : Int) % 10 := by rw [IntKind.wrap_u8]; omega
              have hKk : K + kk + 1 ≤ 1099511627776 := by have := I7.out.td.short HH.out.2; omega
              go_wp2_with (refine (id ?_ : wpList Try.prog _ _ (⟨some 38, _, _, _, _, _⟩ :: _) _ _); refine hold ?_)
              intro _
              have JA : Hid (TI w (w7.alloc (.cells #[.int .u8 (48 + (rr : Int) % 10)] 5)) x u3 bq gq k3 n K kk (q) rr) := I7.out.go (bel_al (bel_refl w7))
              refine wpList_append_one rfl (.tmp 32) (.tmp 37) 23 rfl 5 (.int .u8 0) 1 Try.underlying23 Try.info5 rfl (by omega) (w.heap.size + 1) _ (K + kk) (bd (decAt x)) rfl JA.out.own _ _ rfl _ (cell_new w7 (.int .u8 (48 + (rr : Int) % 10)) 5) rfl hKk JA.out.size ?_
              intro g2 cap2 w9 ho hg2 hw2 _
              rw [show (48 + (rr : Int) % 10) = ((48 + rr % 10 : Nat) : Int) by omega] at ho
              have S : Hid _ := JA.out.step hk9 (.inr hq0) ho hg2 (hw2.imp id (fun e => Nat.le_of_eq e.symm))
              clear ho hg2 hw2 JA c1 c2
              go_wp2_with fail
              go_roundw
              case rel => exact ⟨kk + 1, rr / 10, by omega, by go_num, by go_num, S⟩
              case measure => simp [intOf]; omega
          · have hr1 : decide (0 < (rr : Int)) = true := decide_eq_true (by omega)
            have hr2 : decide (0 < rr) = true := decide_eq_true (by omega)
            have c1 : IntKind.u64.wrap (48 + (rr : Int) % 10) = 48 + (rr : Int) % 10 := by rw [IntKind.wrap_u64]; omega
            have c2 : IntKind.u8.wrap (48 + (rr : Int) % 10) = 48 + (rr : Int) % 10 := by rw [IntKind.wrap_u8]; omega
            have hKk : K + kk + 1 ≤ 1099511627776 := by have := hI.out.td.short HH.out.2; omega
            go_wp2_with (refine (id ?_ : wpList Try.prog _ _ (⟨some 38, _, _, _, _, _⟩ :: _) _ _); refine hold ?_)
            intro _
            have JA : Hid (TI w (wr.alloc (.cells #[.int .u8 (48 + (rr : Int) % 10)] 5)) x u3 bq gq k3 n K kk (q) rr) := hI.out.go (bel_al (bel_refl wr))
            refine wpList_append_one rfl (.tmp 32) (.tmp 37) 23 rfl 5 (.int .u8 0) 1 Try.underlying23 Try.info5 rfl (by omega) (w.heap.size + 1) _ (K + kk) (bd (decAt x)) rfl JA.out.own _ _ rfl _ (cell_new wr (.int .u8 (48 + (rr : Int) % 10)) 5) rfl hKk JA.out.size ?_
            intro g2 cap2 w9 ho hg2 hw2 _
            rw [show (48 + (rr : Int) % 10) = ((48 + rr % 10 : Nat) : Int) by omega] at ho
            have S : Hid _ := JA.out.step hk9 (.inl hr0) ho hg2 (hw2.imp id (fun e => Nat.le_of_eq e.symm))
            clear ho hg2 hw2 JA c1 c2
            go_wp2_with fail
            go_roundw
            case rel => exact ⟨kk + 1, rr / 10, by omega, by go_num, by go_num, S⟩
            case measure => simp [intOf]; omega
        · have e9 : kk = 9 := by omega
          have hk9' : decide ((kk : Int) < 9) = false := decide_eq_false (by omega)
          have hr0 : rr = 0 := by
            have := hI.out.lt
            rw [e9] at this
            simpa using this
          have HE9 : Hid (rr = 0 ∧ kk = 9) := ⟨hr0, e9⟩
          clear hr0 e9
          have hq : Hid (TD x (K + kk) (q)) := by have := hI.out.td; rw [HE9.out.1, HE9.out.2, show 9 - 9 = 0 from rfl, Nat.pow_zero, Nat.mul_one, Nat.add_zero] at this; rw [HE9.out.2]; exact this
          have hpos : 0 < kk := by have := HE9.out.2; omega
          have hKk : K + kk ≤ 137438953473 := hq.out.short HH.out.2
          obtain ⟨⟨u1, u2, u4⟩, hu⟩ := hI.out.cx
          have fu := hI.out.fx
          have cq := hI.out.cb
          have T9 : Hid (TO w (wr.setCell ⟨w.heap.size, 0, none⟩ (.slice (some ⟨gq, 0, none⟩) k3 n)) x u3 gq 0 k3 n (K + kk) (q)) := hI.out.out hu hq.out
          have hle : Hid (lenOf u3 = K + kk) := hI.out.own.len
          go_wp2_with fail
          go_roundw
          case rel => exact ⟨gq, 0, k3, n, K + kk, q, T9⟩
          case measure =>
            show 137438953480 - lenOf u3 < 137438953480 - lenOf _
            rw [hle.out, hlo.out]
            omega
theorem rtext_any (v : Value) (x : Nat) (w : World) (h : RNat w v x) (hx : RFits x) : Calls Try.prog 23 #[v] w (Texts w x) := by
  rcases Nat.eq_zero_or_pos x with e | e
  · subst e
    exact rtext_zero v w h
  · exact rtext_pos v x w h hx (by omega)
end Go.Proofs.Ytajkjfblpomdpaa
namespace Go.Proofs.Ytajkjfblpomdpaa
open Go.RowKit
set_option maxRecDepth 100000
set_option linter.unusedVariables false
theorem decLen_ex (x : Nat) : ∃ K, DecLen x K := by
  rcases Nat.lt_or_ge x 10 with h | h
  · exact ⟨1, by omega, by simpa using h, .inl rfl⟩
  · have h1 : ∃ K, x < 10 ^ K := ⟨x, Nat.lt_pow_self (by decide)⟩
    obtain ⟨K, hK, hmin⟩ := exists_least h1
    have hK1 : K ≠ 0 := fun e => by subst e; simp at hK; omega
    refine ⟨K, by omega, hK, ?_⟩
    rcases Nat.lt_or_ge x (10 ^ (K - 1)) with h2 | h2
    · have := hmin _ h2
      omega
    · exact .inr h2
set_option maxHeartbeats 4000000 in
theorem told_true (v u : Value) (x : Nat) (i : Int) (w : World) (h : IsNat w v x) (k : RNat w u x) (hx : Tx x) (hr : RFits x) (hi0 : -9223372036854775808 ≤ i) (hi1 : i ≤ 9223372036854775807) :
    Calls Try.prog 8 #[v, u, .int .i64 i] w fun e w' => e = .returned (.bool true) ∧ Below w.heap.size w w' := by
  obtain ⟨K, HK⟩ := decLen_ex x
  have HKK : Hid (DecLen x K) := HK
  obtain ⟨ap, mp, cp, rfl⟩ := h.isAgg
  obtain ⟨aq, mq, cq, rfl⟩ := k.isAgg
  have HX : Hid (Tx x ∧ RFits x) := ⟨hx, hr⟩
  have S0 : Hid _ := ((((sr_start w).nat h).rnat k).box (.slice ap mp cp) 27 _ rfl).box (.slice aq mq cq) 31 _ rfl
  obtain ⟨uv, ub, hu⟩ : ∃ (uv : Nat) (ub : Bool), (x < 18446744073709551616 ∧ uv = x ∧ ub = true) ∨ (¬ x < 18446744073709551616 ∧ uv = 0 ∧ ub = false) := by
    by_cases hl : x < 18446744073709551616
    · exact ⟨x, true, .inl ⟨hl, rfl, rfl⟩⟩
    · exact ⟨0, false, .inr ⟨hl, rfl, rfl⟩⟩
  have UI : Hid (∀ v w, IsNat w v x → Calls Try.prog 19 #[v] w fun e w' => e = .returned (.tuple #[.int .u64 (uv : Int), .bool ub]) ∧ Below w.heap.size w w') := by
    intro v w hv
    rcases hu with ⟨h1, rfl, rfl⟩ | ⟨h1, rfl, rfl⟩
    · exact uint_yes v uv w hv h1
    · exact uint_no v x w hv hx.fits h1
  have UR : Hid (∀ v w, RNat w v x → Calls Try.prog 20 #[v] w fun e w' => e = .returned (.tuple #[.int .u64 (uv : Int), .bool ub]) ∧ Below w.heap.size w w') := by
    intro v w hv
    rcases hu with ⟨h1, rfl, rfl⟩ | ⟨h1, rfl, rfl⟩
    · exact ruint_yes v uv w hv h1
    · exact ruint_no v x w hv hr h1
  clear h k hx hr hu HK
  go_enter Try.func8, Try.ntmps8
  go_wp2_with fail
  have hsz : (w.alloc (Obj.cells #[Value.slice ap mp cp] 27)).heap.size = w.heap.size + 1 := by simp
  rw [hsz] at S0
  clear hsz
  obtain ⟨w2, hw2⟩ : ∃ w2, w2 = (w.alloc (Obj.cells #[Value.slice ap mp cp] 27)).alloc (Obj.cells #[Value.slice aq mq cq] 31) := ⟨_, rfl⟩
  obtain ⟨b, hb⟩ : ∃ b, b = w.heap.size := ⟨_, rfl⟩
  rw [← hw2, ← hb] at S0
  rw [← hw2, ← hb]
  clear hw2 hb
  refine (UI.out _ _ (S0.out.at (.agg #[.slice ap mp cp]) x)).mono ?_
  rintro e w3 ⟨rfl, hb3⟩
  have S3 : Hid _ := S0.out.go hb3
  clear hb3 S0
  have c1 := S3.out.cell (b + 1) (.slice aq mq cq)
  go_wp2_with fail
  refine (UR.out _ _ (S3.out.rat (.agg #[.slice aq mq cq]) x)).mono ?_
  rintro e w4 ⟨rfl, hb4⟩
  have S4 : Hid _ := S3.out.go hb4
  clear hb4 S3 c1
  go_wp2_with fail
  refine wp_region_inv (JB w4 [sNat (x), sR (x), sEq (.bool true), sEq (.bool true), sEq (.int .u64 (uv : Int)), sEq (.int .u64 (uv : Int)), sEq (.bool true), sEq (.bool true), sEq (.bool true), sEq (.bool ub), sEq (.bool ub), sEq (.bool true), sEq (.bool true), sEq (.bool true), sNat (x), sEq (.string (decText x K)), sR (x), sEq (.string (decText x K)), sEq (.bool true), sEq (.bool true), sEq (.bool true), sNat (x), sEq (.int .i64 i), sEq (.bool (decide (0 ≤ i) && bitOf x i.toNat)), sR (x), sEq (.int .i64 i), sEq (.bool (decide (0 ≤ i) && bitOf x i.toNat)), sEq (.bool true), sEq (.bool true), sEq (.bool true)] []) 50 (by kernel_rfl) rfl (by kernel_rfl) (JB.start _ _ _) (fun HG HN => ⟨?_, ?_, ?_, ?_, ?_, ?_, ?_, ?_, ?_, ?_, ?_, ?_, ?_, ?_, ?_, ?_, ?_, ?_, ?_, ?_, ?_, ?_, ?_, ?_, ?_, ?_, ?_, ?_, ?_, ?_, trivial⟩) ?_
  · intro L vs a w' hJ hF hP hL
    have q3 : (a.tmps[3]?).getD undef = .pointer (some ⟨b, 0, none⟩) := hF.old 3 rfl
    have cb := cell_later hJ.bel (S4.out.cell (b) (.slice ap mp cp))
    exact run_val (v := .agg #[.slice ap mp cp]) rfl (by simp [execOp, go_sem, q3, cb]) ⟨_, rfl, hJ.step hL rfl (Below.refl _ _) (by exact ((S4.out.at (.agg #[.slice ap mp cp]) (x)).mono hJ.bel))⟩
  · intro L vs a w' hJ hF hP hL
    have q4 : (a.tmps[4]?).getD undef = .pointer (some ⟨b + 1, 0, none⟩) := hF.old 4 rfl
    have cb := cell_later hJ.bel (S4.out.cell (b + 1) (.slice aq mq cq))
    exact run_val (v := .agg #[.slice aq mq cq]) rfl (by simp [execOp, go_sem, q4, cb]) ⟨_, rfl, hJ.step hL rfl (Below.refl _ _) (by exact ((S4.out.rat (.agg #[.slice aq mq cq]) (x)).mono hJ.bel))⟩
  · intro L vs a w' hJ hF hP hL
    have p0 : L 0 = true := hP ⟨0, .data⟩ (by simp) rfl
    have s0 : IsNat w' (vs 0) (x) := hJ.sp 0 p0
    have q21 := hF.slot 0 21 rfl p0
    have p1 : L 1 = true := hP ⟨1, .data⟩ (by simp) rfl
    have s1 : RNat w' (vs 1) (x) := hJ.sp 1 p1
    have q22 := hF.slot 1 22 rfl p1
    refine run_call (f := 21) (args := #[vs 0, vs 1]) rfl (by simp [go_sem, q21, q22]) (same_true _ _ x _ s0 s1 HX.out.1.fits HX.out.2) ?_
    rintro e w2 ⟨rfl, hb⟩
    exact ⟨_, rfl, _, rfl, hJ.step hL rfl hb (by exact rfl)⟩
  · intro L vs a w' hJ hF hP hL
    have p2 : L 2 = true := hP ⟨2, .data⟩ (by simp) rfl
    have s2 : vs 2 = .bool true := hJ.sp 2 p2
    have q23 := hF.slot 2 23 rfl p2
    exact run_val (v := .bool true) rfl (by simp [execOp, go_sem, q23, s2]) ⟨_, rfl, hJ.step hL rfl (Below.refl _ _) (by exact rfl)⟩
  · intro L vs a w' hJ hF hP hL
    have q7 : (a.tmps[7]?).getD undef = .int .u64 (uv : Int) := hF.old 7 rfl
    exact run_val (v := .int .u64 (uv : Int)) (hF.wants 50 HN HG _ 3 true true rfl rfl (hP ⟨3, .guard⟩ (by simp) rfl) (hJ.sp 3 (hP ⟨3, .guard⟩ (by simp) rfl))) (by simp [execOp, go_sem, q7]) ⟨_, rfl, hJ.step hL rfl (Below.refl _ _) (by exact rfl)⟩
  · intro L vs a w' hJ hF hP hL
    have q9 : (a.tmps[9]?).getD undef = .int .u64 (uv : Int) := hF.old 9 rfl
    exact run_val (v := .int .u64 (uv : Int)) (hF.wants 50 HN HG _ 3 true true rfl rfl (hP ⟨3, .guard⟩ (by simp) rfl) (hJ.sp 3 (hP ⟨3, .guard⟩ (by simp) rfl))) (by simp [execOp, go_sem, q9]) ⟨_, rfl, hJ.step hL rfl (Below.refl _ _) (by exact rfl)⟩
  · intro L vs a w' hJ hF hP hL
    have p4 : L 4 = true := hP ⟨4, .data⟩ (by simp) rfl
    have s4 : vs 4 = .int .u64 (uv : Int) := hJ.sp 4 p4
    have q25 := hF.slot 4 25 rfl p4
    have p5 : L 5 = true := hP ⟨5, .data⟩ (by simp) rfl
    have s5 : vs 5 = .int .u64 (uv : Int) := hJ.sp 5 p5
    have q26 := hF.slot 5 26 rfl p5
    exact run_val (v := .bool true) (hF.wants 50 HN HG _ 3 true true rfl rfl (hP ⟨3, .guard⟩ (by simp) rfl) (hJ.sp 3 (hP ⟨3, .guard⟩ (by simp) rfl))) (by simp [execOp, go_sem, q25, s4, q26, s5]) ⟨_, rfl, hJ.step hL rfl (Below.refl _ _) (by exact rfl)⟩
  · intro L vs a w' hJ hF hP hL
    have p3 : L 3 = true := hP ⟨3, .data⟩ (by simp) rfl
    have s3 : vs 3 = .bool true := hJ.sp 3 p3
    have q24 := hF.slot 3 24 rfl p3
    have p6 : L 6 = true := hP ⟨6, .data⟩ (by simp) rfl
    have s6 : vs 6 = .bool true := hJ.sp 6 p6
    have q27 := hF.slot 6 27 rfl p6
    exact run_val (v := .bool true) rfl (by simp [execOp, go_sem, q24, s3, q27, s6]) ⟨_, rfl, hJ.step hL rfl (Below.refl _ _) (by exact rfl)⟩
  · intro L vs a w' hJ hF hP hL
    have p7 : L 7 = true := hP ⟨7, .data⟩ (by simp) rfl
    have s7 : vs 7 = .bool true := hJ.sp 7 p7
    have q28 := hF.slot 7 28 rfl p7
    exact run_val (v := .bool true) rfl (by simp [execOp, go_sem, q28, s7]) ⟨_, rfl, hJ.step hL rfl (Below.refl _ _) (by exact rfl)⟩
  · intro L vs a w' hJ hF hP hL
    have q8 : (a.tmps[8]?).getD undef = .bool ub := hF.old 8 rfl
    exact run_val (v := .bool ub) (hF.wants 50 HN HG _ 8 true true rfl rfl (hP ⟨8, .guard⟩ (by simp) rfl) (hJ.sp 8 (hP ⟨8, .guard⟩ (by simp) rfl))) (by simp [execOp, go_sem, q8]) ⟨_, rfl, hJ.step hL rfl (Below.refl _ _) (by exact rfl)⟩
  · intro L vs a w' hJ hF hP hL
    have q10 : (a.tmps[10]?).getD undef = .bool ub := hF.old 10 rfl
    exact run_val (v := .bool ub) (hF.wants 50 HN HG _ 8 true true rfl rfl (hP ⟨8, .guard⟩ (by simp) rfl) (hJ.sp 8 (hP ⟨8, .guard⟩ (by simp) rfl))) (by simp [execOp, go_sem, q10]) ⟨_, rfl, hJ.step hL rfl (Below.refl _ _) (by exact rfl)⟩
  · intro L vs a w' hJ hF hP hL
    have p9 : L 9 = true := hP ⟨9, .data⟩ (by simp) rfl
    have s9 : vs 9 = .bool ub := hJ.sp 9 p9
    have q30 := hF.slot 9 30 rfl p9
    have p10 : L 10 = true := hP ⟨10, .data⟩ (by simp) rfl
    have s10 : vs 10 = .bool ub := hJ.sp 10 p10
    have q31 := hF.slot 10 31 rfl p10
    exact run_val (v := .bool true) (hF.wants 50 HN HG _ 8 true true rfl rfl (hP ⟨8, .guard⟩ (by simp) rfl) (hJ.sp 8 (hP ⟨8, .guard⟩ (by simp) rfl))) (by simp [execOp, go_sem, q30, s9, q31, s10]) ⟨_, rfl, hJ.step hL rfl (Below.refl _ _) (by exact rfl)⟩
  · intro L vs a w' hJ hF hP hL
    have p8 : L 8 = true := hP ⟨8, .data⟩ (by simp) rfl
    have s8 : vs 8 = .bool true := hJ.sp 8 p8
    have q29 := hF.slot 8 29 rfl p8
    have p11 : L 11 = true := hP ⟨11, .data⟩ (by simp) rfl
    have s11 : vs 11 = .bool true := hJ.sp 11 p11
    have q32 := hF.slot 11 32 rfl p11
    exact run_val (v := .bool true) rfl (by simp [execOp, go_sem, q29, s8, q32, s11]) ⟨_, rfl, hJ.step hL rfl (Below.refl _ _) (by exact rfl)⟩
  · intro L vs a w' hJ hF hP hL
    have p12 : L 12 = true := hP ⟨12, .data⟩ (by simp) rfl
    have s12 : vs 12 = .bool true := hJ.sp 12 p12
    have q33 := hF.slot 12 33 rfl p12
    exact run_val (v := .bool true) rfl (by simp [execOp, go_sem, q33, s12]) ⟨_, rfl, hJ.step hL rfl (Below.refl _ _) (by exact rfl)⟩
  · intro L vs a w' hJ hF hP hL
    have q3 : (a.tmps[3]?).getD undef = .pointer (some ⟨b, 0, none⟩) := hF.old 3 rfl
    have cb := cell_later hJ.bel (S4.out.cell (b) (.slice ap mp cp))
    exact run_val (v := .agg #[.slice ap mp cp]) (hF.wants 50 HN HG _ 13 true true rfl rfl (hP ⟨13, .guard⟩ (by simp) rfl) (hJ.sp 13 (hP ⟨13, .guard⟩ (by simp) rfl))) (by simp [execOp, go_sem, q3, cb]) ⟨_, rfl, hJ.step hL rfl (Below.refl _ _) (by exact ((S4.out.at (.agg #[.slice ap mp cp]) (x)).mono hJ.bel))⟩
  · intro L vs a w' hJ hF hP hL
    have p14 : L 14 = true := hP ⟨14, .data⟩ (by simp) rfl
    have s14 : IsNat w' (vs 14) (x) := hJ.sp 14 p14
    have q35 := hF.slot 14 35 rfl p14
    refine run_call (f := 22) (args := #[vs 14]) (hF.wants 50 HN HG _ 13 true true rfl rfl (hP ⟨13, .guard⟩ (by simp) rfl) (hJ.sp 13 (hP ⟨13, .guard⟩ (by simp) rfl))) (by simp [go_sem, q35]) (text_any _ x _ s14 HX.out.1) ?_
    rintro e w2 ⟨kt, rfl, hk, hb⟩
    obtain rfl := hk.unique HKK.out
    exact ⟨_, rfl, _, rfl, hJ.step hL rfl hb (by exact rfl)⟩
  · intro L vs a w' hJ hF hP hL
    have q4 : (a.tmps[4]?).getD undef = .pointer (some ⟨b + 1, 0, none⟩) := hF.old 4 rfl
    have cb := cell_later hJ.bel (S4.out.cell (b + 1) (.slice aq mq cq))
    exact run_val (v := .agg #[.slice aq mq cq]) (hF.wants 50 HN HG _ 13 true true rfl rfl (hP ⟨13, .guard⟩ (by simp) rfl) (hJ.sp 13 (hP ⟨13, .guard⟩ (by simp) rfl))) (by simp [execOp, go_sem, q4, cb]) ⟨_, rfl, hJ.step hL rfl (Below.refl _ _) (by exact ((S4.out.rat (.agg #[.slice aq mq cq]) (x)).mono hJ.bel))⟩
  · intro L vs a w' hJ hF hP hL
    have p16 : L 16 = true := hP ⟨16, .data⟩ (by simp) rfl
    have s16 : RNat w' (vs 16) (x) := hJ.sp 16 p16
    have q37 := hF.slot 16 37 rfl p16
    refine run_call (f := 23) (args := #[vs 16]) (hF.wants 50 HN HG _ 13 true true rfl rfl (hP ⟨13, .guard⟩ (by simp) rfl) (hJ.sp 13 (hP ⟨13, .guard⟩ (by simp) rfl))) (by simp [go_sem, q37]) (rtext_any _ x _ s16 HX.out.2) ?_
    rintro e w2 ⟨kt, rfl, hk, hb⟩
    obtain rfl := hk.unique HKK.out
    exact ⟨_, rfl, _, rfl, hJ.step hL rfl hb (by exact rfl)⟩
  · intro L vs a w' hJ hF hP hL
    have p15 : L 15 = true := hP ⟨15, .data⟩ (by simp) rfl
    have s15 : vs 15 = .string (decText x K) := hJ.sp 15 p15
    have q36 := hF.slot 15 36 rfl p15
    have p17 : L 17 = true := hP ⟨17, .data⟩ (by simp) rfl
    have s17 : vs 17 = .string (decText x K) := hJ.sp 17 p17
    have q38 := hF.slot 17 38 rfl p17
    exact run_val (v := .bool true) (hF.wants 50 HN HG _ 13 true true rfl rfl (hP ⟨13, .guard⟩ (by simp) rfl) (hJ.sp 13 (hP ⟨13, .guard⟩ (by simp) rfl))) (by simp [execOp, go_sem, q36, s15, q38, s17]) ⟨_, rfl, hJ.step hL rfl (Below.refl _ _) (by exact rfl)⟩
  · intro L vs a w' hJ hF hP hL
    have p13 : L 13 = true := hP ⟨13, .data⟩ (by simp) rfl
    have s13 : vs 13 = .bool true := hJ.sp 13 p13
    have q34 := hF.slot 13 34 rfl p13
    have p18 : L 18 = true := hP ⟨18, .data⟩ (by simp) rfl
    have s18 : vs 18 = .bool true := hJ.sp 18 p18
    have q39 := hF.slot 18 39 rfl p18
    exact run_val (v := .bool true) rfl (by simp [execOp, go_sem, q34, s13, q39, s18]) ⟨_, rfl, hJ.step hL rfl (Below.refl _ _) (by exact rfl)⟩
  · intro L vs a w' hJ hF hP hL
    have p19 : L 19 = true := hP ⟨19, .data⟩ (by simp) rfl
    have s19 : vs 19 = .bool true := hJ.sp 19 p19
    have q40 := hF.slot 19 40 rfl p19
    exact run_val (v := .bool true) rfl (by simp [execOp, go_sem, q40, s19]) ⟨_, rfl, hJ.step hL rfl (Below.refl _ _) (by exact rfl)⟩
  · intro L vs a w' hJ hF hP hL
    have q3 : (a.tmps[3]?).getD undef = .pointer (some ⟨b, 0, none⟩) := hF.old 3 rfl
    have cb := cell_later hJ.bel (S4.out.cell (b) (.slice ap mp cp))
    exact run_val (v := .agg #[.slice ap mp cp]) (hF.wants 50 HN HG _ 20 true true rfl rfl (hP ⟨20, .guard⟩ (by simp) rfl) (hJ.sp 20 (hP ⟨20, .guard⟩ (by simp) rfl))) (by simp [execOp, go_sem, q3, cb]) ⟨_, rfl, hJ.step hL rfl (Below.refl _ _) (by exact ((S4.out.at (.agg #[.slice ap mp cp]) (x)).mono hJ.bel))⟩
  · intro L vs a w' hJ hF hP hL
    have q2 : (a.tmps[2]?).getD undef = .int .i64 i := hF.old 2 rfl
    exact run_val (v := .int .i64 i) (hF.wants 50 HN HG _ 20 true true rfl rfl (hP ⟨20, .guard⟩ (by simp) rfl) (hJ.sp 20 (hP ⟨20, .guard⟩ (by simp) rfl))) (by simp [execOp, go_sem, q2]) ⟨_, rfl, hJ.step hL rfl (Below.refl _ _) (by exact rfl)⟩
  · intro L vs a w' hJ hF hP hL
    have p21 : L 21 = true := hP ⟨21, .data⟩ (by simp) rfl
    have s21 : IsNat w' (vs 21) (x) := hJ.sp 21 p21
    have q42 := hF.slot 21 42 rfl p21
    have p22 : L 22 = true := hP ⟨22, .data⟩ (by simp) rfl
    have s22 : vs 22 = .int .i64 i := hJ.sp 22 p22
    have q43 := hF.slot 22 43 rfl p22
    refine run_call (f := 24) (args := #[vs 21, .int .i64 i]) (hF.wants 50 HN HG _ 20 true true rfl rfl (hP ⟨20, .guard⟩ (by simp) rfl) (hJ.sp 20 (hP ⟨20, .guard⟩ (by simp) rfl))) (by simp [go_sem, q42, q43, s22]) (bit_any _ x i _ s21 HX.out.1.fits hi0 hi1) ?_
    rintro e w2 ⟨rfl, hb⟩
    exact ⟨_, rfl, _, rfl, hJ.step hL rfl hb (by exact rfl)⟩
  · intro L vs a w' hJ hF hP hL
    have q4 : (a.tmps[4]?).getD undef = .pointer (some ⟨b + 1, 0, none⟩) := hF.old 4 rfl
    have cb := cell_later hJ.bel (S4.out.cell (b + 1) (.slice aq mq cq))
    exact run_val (v := .agg #[.slice aq mq cq]) (hF.wants 50 HN HG _ 20 true true rfl rfl (hP ⟨20, .guard⟩ (by simp) rfl) (hJ.sp 20 (hP ⟨20, .guard⟩ (by simp) rfl))) (by simp [execOp, go_sem, q4, cb]) ⟨_, rfl, hJ.step hL rfl (Below.refl _ _) (by exact ((S4.out.rat (.agg #[.slice aq mq cq]) (x)).mono hJ.bel))⟩
  · intro L vs a w' hJ hF hP hL
    have q2 : (a.tmps[2]?).getD undef = .int .i64 i := hF.old 2 rfl
    exact run_val (v := .int .i64 i) (hF.wants 50 HN HG _ 20 true true rfl rfl (hP ⟨20, .guard⟩ (by simp) rfl) (hJ.sp 20 (hP ⟨20, .guard⟩ (by simp) rfl))) (by simp [execOp, go_sem, q2]) ⟨_, rfl, hJ.step hL rfl (Below.refl _ _) (by exact rfl)⟩
  · intro L vs a w' hJ hF hP hL
    have p24 : L 24 = true := hP ⟨24, .data⟩ (by simp) rfl
    have s24 : RNat w' (vs 24) (x) := hJ.sp 24 p24
    have q45 := hF.slot 24 45 rfl p24
    have p25 : L 25 = true := hP ⟨25, .data⟩ (by simp) rfl
    have s25 : vs 25 = .int .i64 i := hJ.sp 25 p25
    have q46 := hF.slot 25 46 rfl p25
    refine run_call (f := 25) (args := #[vs 24, .int .i64 i]) (hF.wants 50 HN HG _ 20 true true rfl rfl (hP ⟨20, .guard⟩ (by simp) rfl) (hJ.sp 20 (hP ⟨20, .guard⟩ (by simp) rfl))) (by simp [go_sem, q45, q46, s25]) (rbit_any _ x i _ s24 hi0 hi1) ?_
    rintro e w2 ⟨rfl, hb⟩
    exact ⟨_, rfl, _, rfl, hJ.step hL rfl hb (by exact rfl)⟩
  · intro L vs a w' hJ hF hP hL
    have p23 : L 23 = true := hP ⟨23, .data⟩ (by simp) rfl
    have s23 : vs 23 = .bool (decide (0 ≤ i) && bitOf x i.toNat) := hJ.sp 23 p23
    have q44 := hF.slot 23 44 rfl p23
    have p26 : L 26 = true := hP ⟨26, .data⟩ (by simp) rfl
    have s26 : vs 26 = .bool (decide (0 ≤ i) && bitOf x i.toNat) := hJ.sp 26 p26
    have q47 := hF.slot 26 47 rfl p26
    exact run_val (v := .bool true) (hF.wants 50 HN HG _ 20 true true rfl rfl (hP ⟨20, .guard⟩ (by simp) rfl) (hJ.sp 20 (hP ⟨20, .guard⟩ (by simp) rfl))) (by simp [execOp, go_sem, q44, s23, q47, s26]) ⟨_, rfl, hJ.step hL rfl (Below.refl _ _) (by exact rfl)⟩
  · intro L vs a w' hJ hF hP hL
    have p20 : L 20 = true := hP ⟨20, .data⟩ (by simp) rfl
    have s20 : vs 20 = .bool true := hJ.sp 20 p20
    have q41 := hF.slot 20 41 rfl p20
    have p27 : L 27 = true := hP ⟨27, .data⟩ (by simp) rfl
    have s27 : vs 27 = .bool true := hJ.sp 27 p27
    have q48 := hF.slot 27 48 rfl p27
    exact run_val (v := .bool true) rfl (by simp [execOp, go_sem, q41, s20, q48, s27]) ⟨_, rfl, hJ.step hL rfl (Below.refl _ _) (by exact rfl)⟩
  · intro L vs a w' hJ hF hP hL
    have p28 : L 28 = true := hP ⟨28, .data⟩ (by simp) rfl
    have s28 : vs 28 = .bool true := hJ.sp 28 p28
    have q49 := hF.slot 28 49 rfl p28
    exact run_val (v := .bool true) rfl (by simp [execOp, go_sem, q49, s28]) ⟨_, rfl, hJ.step hL rfl (Below.refl _ _) (by exact rfl)⟩
  intro L vs w' hA hJ
  have s29 : vs 29 = .bool true := hJ.sp 29 (hA 29 (by simp))
  simp only [putL, Act.put, List.setIfInBounds_toArray, List.set_cons_zero, List.set_cons_succ, Nat.reduceAdd]
  simp only [s29]
  go_wp2_with fail
  go_ret
  exact ⟨rfl, (S4.out.go hJ.bel).bel⟩
end Go.Proofs.Ytajkjfblpomdpaa
namespace Go.Proofs.Ytajkjfblpomdpaa
open Go.RowKit
set_option linter.unusedVariables false
theorem strOf_size (D : Nat → Nat) (n : Nat) : (strOf D n).size = n := by simp [strOf, strOfNums, ByteArray.size]
theorem sb_strOf {D : Nat → Nat} {n i : Nat} (hi : i < n) (hD : D i < 256) : sb (strOf D n) i = D i := by
  have hs : i < (strOf D n).size := by rw [strOf_size]; exact hi
  rw [← sb_at hs]
  have : (strOf D n)[i]'hs = UInt8.ofNat (D i) := by
    show (strOf D n).data[i]'_ = _
    simp [strOf, strOfNums]
  rw [this]
  simp
  omega
theorem decVal_eq {s : ByteArray} {x k : Nat} (h : ∀ i, i < k → sb s i = decAt x (k - 1 - i)) : ∀ j, j ≤ k → decVal s j = x / 10 ^ (k - j) % 10 ^ j
  | 0, _ => by simp [decVal, Nat.mod_one]
  | j + 1, hj => by
    have h1 := decVal_eq h j (by omega)
    have h2 := h j (by omega)
    rw [decVal, h1, h2, decAt]
    have e1 : k - 1 - j = k - (j + 1) := by omega
    have e2 : k - j = (k - (j + 1)) + 1 := by omega
    rw [e1, e2, Nat.pow_succ, ← Nat.div_div_eq_div_mul]
    generalize x / 10 ^ (k - (j + 1)) = y
    rw [Nat.pow_succ, Nat.mul_comm (10 ^ j) 10, Nat.mod_mul]
    omega
theorem sb_text {x k i : Nat} (hi : i < k) : sb (decText x k) i = decAt x (k - 1 - i) := sb_strOf (D := fun i => decAt x (k - 1 - i)) hi (decAt_lt _ _)
theorem decVal_text {x k : Nat} (h : DecLen x k) : decVal (decText x k) k = x := by
  rw [decVal_eq (x := x) (k := k) (fun i hi => sb_text hi) k (Nat.le_refl _), Nat.sub_self, Nat.pow_zero, Nat.div_one]
  exact Nat.mod_eq_of_lt h.2.1
theorem digits_text (x k : Nat) : Digits (decText x k) k := by
  intro i hi
  rw [sb_text hi]
  unfold decAt
  omega
theorem text_size (x k : Nat) : (decText x k).size = k := strOf_size _ _
theorem text_head {x k : Nat} (h : DecLen x k) (hk : 1 < k) : sb (decText x k) 0 ≠ 48 := by
  rw [sb_text (by omega), Nat.sub_zero]
  intro e
  have := (decAt_zero (x := x) (p := k - 1) (by rw [show k - 1 + 1 = k by omega]; exact h.2.1)).1 e
  rcases h.2.2 with h3 | h3 <;> omega
theorem text_inj {x y k l : Nat} (h : DecLen x k) (h' : DecLen y l) (e : decText x k = decText y l) : x = y := by
  have hk : k = l := by rw [← text_size x k, e, text_size]
  subst hk
  rw [← decVal_text h, e, decVal_text h']
/-- The number of a string's first i bytes. -/
theorem BV_eq {D : Nat → Nat} {x L : Nat} (h : ∀ i, i < L → D i = byteAt x (L - 1 - i)) : ∀ j, j ≤ L → BV D j = x / 256 ^ (L - j) % 256 ^ j
  | 0, _ => by simp [BV, Nat.mod_one]
  | j + 1, hj => by
    have h1 := BV_eq h j (by omega)
    have h2 := h j (by omega)
    rw [BV, h1, h2, byteAt]
    have e1 : L - 1 - j = L - (j + 1) := by omega
    have e2 : L - j = (L - (j + 1)) + 1 := by omega
    rw [e1, e2, Nat.pow_succ, ← Nat.div_div_eq_div_mul]
    generalize x / 256 ^ (L - (j + 1)) = y
    rw [Nat.pow_succ, Nat.mul_comm (256 ^ j) 256, Nat.mod_mul]
    omega
theorem BV_congr {D E : Nat → Nat} : ∀ {n : Nat}, (∀ i, i < n → D i = E i) → BV D n = BV E n
  | 0, _ => rfl
  | n + 1, h => by rw [BV, BV, BV_congr fun i hi => h i (by omega), h n (by omega)]
theorem pow_256 (n : Nat) : 256 ^ n = 2 ^ (8 * n) := by rw [show (256 : Nat) = 2 ^ 8 from rfl, ← Nat.pow_mul]
theorem lt_byteLen (x : Nat) : x < 256 ^ byteLen x := by
  rw [pow_256]
  refine Nat.lt_of_lt_of_le (bitLen_lt x) (Nat.pow_le_pow_right (by omega) ?_)
  unfold byteLen
  omega
theorem BV_bytes (x : Nat) : BV (fun i => byteAt x (byteLen x - 1 - i)) (byteLen x) = x := by
  rw [BV_eq (x := x) (fun i _ => rfl) _ (Nat.le_refl _), Nat.sub_self, Nat.pow_zero, Nat.div_one]
  exact Nat.mod_eq_of_lt (lt_byteLen x)
theorem bitLen_le_of {x m : Nat} (h : x < 2 ^ m) : bitLen x ≤ m := by
  rcases Nat.lt_or_ge m (bitLen x) with hh | hh
  · have h1 := (bitLen_spec x).2 (by intro e; subst e; simp [bitLen] at hh)
    have h2 : (2 : Nat) ^ m ≤ 2 ^ (bitLen x - 1) := Nat.pow_le_pow_right (by omega) (by omega)
    omega
  · exact hh
theorem byteLen_le {D : Nat → Nat} {n : Nat} (h : ∀ i, i < n → D i < 256) : byteLen (BV D n) ≤ n := by
  have h1 := BV_lt h
  rw [pow_256] at h1
  have := bitLen_le_of h1
  unfold byteLen
  omega
theorem byte_head {x : Nat} (h : 0 < byteLen x) : byteAt x (byteLen x - 1) ≠ 0 := by
  unfold byteAt
  intro e
  have h1 := lt_byteLen x
  have h2 : 256 ^ (byteLen x - 1) ≤ x := by
    rw [pow_256]
    refine Nat.le_trans (Nat.pow_le_pow_right (by omega) ?_) ((bitLen_spec x).2 ?_)
    · unfold byteLen at h ⊢
      omega
    · intro e0
      subst e0
      simp [byteLen, bitLen] at h
  rw [show byteLen x = (byteLen x - 1) + 1 by omega, Nat.pow_succ] at h1
  have h3 : x / 256 ^ (byteLen x - 1) < 256 := Nat.div_lt_of_lt_mul h1
  rw [Nat.mod_eq_of_lt h3] at e
  have := (Nat.div_eq_zero_iff_lt (Nat.pow_pos (by omega))).1 e
  omega
theorem byteText_inj {x y : Nat} (e : byteText x = byteText y) : x = y := by
  have hk : byteLen x = byteLen y := by
    have h1 := strOf_size (fun i => byteAt x (byteLen x - 1 - i)) (byteLen x)
    have h2 := strOf_size (fun i => byteAt y (byteLen y - 1 - i)) (byteLen y)
    unfold byteText at e
    rw [← h1, e, h2]
  rw [← BV_bytes x, ← BV_bytes y, hk]
  have hc : ∀ i, i < byteLen y → byteAt x (byteLen x - 1 - i) = byteAt y (byteLen y - 1 - i) := by
    intro i hi
    have h1 := sb_strOf (D := fun i => byteAt x (byteLen x - 1 - i)) (n := byteLen x) (i := i) (by omega) (byteAt_lt _ _)
    have h2 := sb_strOf (D := fun i => byteAt y (byteLen y - 1 - i)) (n := byteLen y) (i := i) hi (byteAt_lt _ _)
    have e' : strOf (fun i => byteAt x (byteLen x - 1 - i)) (byteLen x) = strOf (fun i => byteAt y (byteLen y - 1 - i)) (byteLen y) := e
    rw [← e'] at h2
    exact h1.symm.trans h2
  rw [hk] at hc
  exact BV_congr (fun i hi => hc i (by omega))
end Go.Proofs.Ytajkjfblpomdpaa
namespace Go.Proofs.Ytajkjfblpomdpaa
open Go.RowKit
set_option maxRecDepth 100000
set_option linter.unusedVariables false
def bt (D : Nat → Nat) : Nat → Value := fun j => .int .u8 ((D j : Nat) : Int)
theorem IsNat.setByte {w : World} {v : Value} {x : Nat} (h : IsNat w v x) {p : Addr} {d : Nat} (hp : w.cell? p = some (.int .u8 (d : Int))) (u : Value) : IsNat (w.setCell p u) v x := by
  obtain ⟨a, n, cap, F, rfl, ⟨s1, s2, s3, s4⟩, h0, h1, hv⟩ := h
  refine ⟨a, n, cap, F, rfl, ⟨s1, s2, s3, s4.imp id ?_⟩, h0, h1, hv⟩
  rintro ⟨b, o, rfl, hw⟩
  refine ⟨b, o, rfl, fun i hi => ?_⟩
  have hne : (⟨b, o + i, none⟩ : Addr) ≠ p := fun e => by
    have h2 := hw i hi
    rw [e, hp] at h2
    simp at h2
  exact (World.cell?_setCell_other (h := hne.symm) ..).trans (hw i hi)
theorem cells_list {w : World} {ad : Addr} {m : Nat} {N : Nat → Nat} (h : ∀ j, j < m → w.cell? (ad.add j) = some (bt N j)) : ∀ j u, ((List.range m).map (bt N))[j]? = some u → w.cell? (ad.add j) = some u := by
  intro j u hj
  have hjm : j < m := by
    have := (List.getElem?_eq_some_iff.1 hj).1
    simpa using this
  rw [List.getElem?_map, List.getElem?_range hjm] at hj
  rw [h j hjm]
  exact hj
/-- Bytes more, by append, onto a slice of the call's own. -/
theorem wpList_append_bs {w : World} {ops : Array Oper} {rest : List Oper} {o : Oper} {ac : Act} {Q : Exit → Act → World → Prop} (hgd : o.guard = none) (s x : Operand)
    (ho : o.op = .call { callee := .builtin .append, args := #[s, x], argTypes := #[23, 23] }) (base : Nat) (v : Value) (n : Nat) (G : Nat → Nat) (hs : ac.eval s = v) (hown : OR w 5 base v n (bt G))
    (ad : Addr) (m c : Nat) (N : Nat → Nat) (hx : ac.eval x = .slice (some ad) m c) (hc : ∀ j, j < m → w.cell? (ad.add j) = some (bt N j)) (hn : n + m ≤ 1099511627776) (hbase : base ≤ w.heap.size)
    (h : ∀ v' w', OR w' 5 base v' (n + m) (bt fun j => if j < n then G j else N (j - n)) → w.grownBy w' v.ownBlock → wpList Try.prog ops Q rest (ac.put o.dst v') w') : wpList Try.prog ops Q (o :: rest) ac w := by
  obtain ⟨i, hi, hzz, hsz, hb⟩ := info_parts Try.info5
  refine wpList_append_own w hgd s x 23 ho base 5 i _ 1 1 Try.underlying23 hi hzz hsz hb rfl (by omega) v n _ hs hown.owns ad m c ((List.range m).map (bt N)) hx (by simp) (cells_list hc) (fun u hu => by simp at hu; obtain ⟨j, _, rfl⟩ := hu; rfl) (by simp only [maxLen]; omega) (by omega) hbase (fun v' w' k1 k2 _ => h v' w' (OR.of_owns k1 fun i hi => ?_) k2)
  rcases Nat.lt_or_ge i n with hh | hh
  · rw [List.getElem?_append_left (by simpa using hh), List.getElem?_map, List.getElem?_range hh]
    simp [bt, hh]
  · rw [List.getElem?_append_right (by simpa using hh), List.length_map, List.length_range, List.getElem?_map, List.getElem?_range (by omega)]
    show some (bt N (i - n)) = some (Value.int .u8 (((if i < n then G i else N (i - n) : Nat)) : Int))
    rw [if_neg (by omega)]
    rfl
theorem OR.lower {w : World} {e : TypeId} {base base' n : Nat} {v : Value} {G : Nat → Value} (h : OR w e base v n G) (hb : base' ≤ base) : OR w e base' v n G := by
  rcases h with h | ⟨g, cap, f, rfl, h1, h2⟩
  · exact .inl h
  · exact .inr ⟨g, cap, f, rfl, by omega, h2⟩
theorem own_ge {w : World} {e : TypeId} {base n k : Nat} {v : Value} {G : Nat → Value} (h : OR w e base v n G) (hk : v.ownBlock = some k) : base ≤ k := by
  rcases h with ⟨rfl, _⟩ | ⟨g, cap, f, rfl, h1, _⟩
  · cases hk
  · cases hk
    exact h1
def five (j : Nat) : Nat := 201 + j
set_option maxHeartbeats 1000000 in
theorem wide_any (a : Option Addr) (n cap : Nat) (D : Nat → Nat) (w : World) (h : BSl w a n cap D) (hn : n ≤ 600) (hnil : a = none → cap = 0) :
    Calls Try.prog 5 #[.slice a n cap] w fun e w' => ∃ g c, e = .returned (.slice (some ⟨g, 0, none⟩) n c) ∧ w.heap.size ≤ g ∧ (∃ f, w'.rowIs g 5 c f ∧ ∀ i, i < n → f i = bt D i) ∧ n + 5 ≤ c ∧ c ≤ 9223372036854775807 ∧ Below w.heap.size w w' := by
  have HA : Hid (BSl w a n cap D) := h
  have step : ∀ (v1 : Value) (w1 : World), OR w1 5 w.heap.size v1 n (bt D) → Below w.heap.size w w1 → True := fun _ _ _ _ => trivial
  clear h step
  rcases a with _ | ad
  · obtain rfl := hnil rfl
    have hn0 : n = 0 := by
      rcases HA.out.2.2.2 with e | ⟨b, o, e, _⟩
      · exact e
      · cases e
    subst hn0
    obtain ⟨i5, hi5, hz5, hs5, hb5⟩ := info_parts Try.info5
    go_enter Try.func5, Try.ntmps5
    go_wp2_with (first
      | (refine (id ?_ : wpList Try.prog _ _ (⟨some 6, _, _, _, _, _⟩ :: _) _ _); refine wpList_append_own_none rfl (.tmp 4) (.tmp 5) 23 rfl w.heap.size 5 i5 1 Try.underlying23 hi5 (.slice none 0 0) 0 [] rfl (World.ownsRow_nil _ _ _ _) rfl ?_)
      | (refine (id ?_ : wpList Try.prog _ _ (⟨some 9, _, _, _, _, _⟩ :: _) _ _); refine hold ?_))
    intro _
    refine wpList_append_bs rfl (.tmp 7) (.tmp 8) rfl w.heap.size _ 0 D rfl (OR.nil _ _ _ _) ⟨w.heap.size, 0, none⟩ 5 5 five rfl ?_ (by omega) ?_ ?_
    · intro j hj
      match j, hj with
      | 0, _ => simp [bt, five, Addr.add]
      | 1, _ => simp [bt, five, Addr.add]
      | 2, _ => simp [bt, five, Addr.add]
      | 3, _ => simp [bt, five, Addr.add]
      | 4, _ => simp [bt, five, Addr.add]
    · simp
    intro v2 w2 hO hg
    rcases hO with ⟨_, h0⟩ | ⟨g, c, f, rfl, k1, k2, k3, k4, k5⟩
    · omega
    have I2 : Hid (w.heap.size ≤ g ∧ (∃ f, w2.rowIs g 5 c f ∧ ∀ i, i < 0 → f i = bt D i) ∧ 0 + 5 ≤ c ∧ c ≤ 9223372036854775807 ∧ Below w.heap.size w w2) := ⟨k1, ⟨f, k4, fun i hi => by rw [k5 i (by omega)]; show Value.int .u8 (((if i < 0 then D i else _ : Nat)) : Int) = _; rw [if_pos hi]; rfl⟩, k2, by simp only [maxLen] at k3; omega, ((Below.refl _ _).alloc (Nat.le_refl _) _).grown hg (by simp) (fun k hk => by cases hk)⟩
    have hsl := slice_bh g 0 (0 + 5) c 0 (by omega)
    clear hg k1 k3 k4 k5
    go_wp2_with fail
    go_ret
    exact ⟨g, c, rfl, I2.out⟩
  · obtain ⟨f5, hf5⟩ : ∃ f5 : Nat → Nat, f5 = D := ⟨_, rfl⟩
    clear hf5 f5
    have hcs : ∀ j, j < n → w.cell? (ad.add j) = some (bt D j) := by
      intro j hj
      obtain ⟨b, o, e, hw⟩ := HA.out.2.2.2.resolve_left (by omega)
      cases e
      have h3 : (⟨b, o, none⟩ : Addr).add j = ⟨b, o + j, none⟩ := by unfold Addr.add; split <;> simp_all
      rw [h3]
      exact hw j hj
    have HC : Hid _ := hcs
    clear hcs
    go_enter Try.func5, Try.ntmps5
    go_wp2_with (refine (id ?_ : wpList Try.prog _ _ (⟨some 6, _, _, _, _, _⟩ :: _) _ _); refine hold ?_)
    intro _
    refine wpList_append_bs rfl (.tmp 4) (.tmp 5) rfl w.heap.size _ 0 D rfl (OR.nil _ _ _ _) ad n cap D rfl HC.out (by omega) (Nat.le_refl _) ?_
    intro v1 w1 hO1 hg1
    have hO1' : OR w1 5 w.heap.size v1 n (bt D) := by
      have := hO1
      rw [Nat.zero_add] at this
      exact this.congr fun i hi => by show Value.int .u8 (((if i < 0 then D i else D (i - 0) : Nat)) : Int) = _; rw [if_neg (by omega)]; rfl
    have I1 : Hid (OR w1 5 w.heap.size v1 n (bt D) ∧ Below w.heap.size w w1) := ⟨hO1', (Below.refl _ _).grown hg1 (Nat.le_refl _) (fun k hk => by cases hk)⟩
    clear hO1 hO1' hg1
    go_wp2_with (refine (id ?_ : wpList Try.prog _ _ (⟨some 9, _, _, _, _, _⟩ :: _) _ _); refine hold ?_)
    intro _
    refine wpList_append_bs rfl (.tmp 7) (.tmp 8) rfl w.heap.size _ n D rfl (I1.out.1.below ((Below.refl _ _).alloc (Nat.le_refl _) _)) ⟨w1.heap.size, 0, none⟩ 5 5 five rfl ?_ (by omega) ?_ ?_
    · intro j hj
      match j, hj with
      | 0, _ => simp [bt, five, Addr.add]
      | 1, _ => simp [bt, five, Addr.add]
      | 2, _ => simp [bt, five, Addr.add]
      | 3, _ => simp [bt, five, Addr.add]
      | 4, _ => simp [bt, five, Addr.add]
    · simp
      have := I1.out.2.size
      omega
    intro v2 w2 hO hg
    rcases hO with ⟨_, h0⟩ | ⟨g, c, f, rfl, k1, k2, k3, k4, k5⟩
    · omega
    have I2 : Hid (w.heap.size ≤ g ∧ (∃ f, w2.rowIs g 5 c f ∧ ∀ i, i < n → f i = bt D i) ∧ n + 5 ≤ c ∧ c ≤ 9223372036854775807 ∧ Below w.heap.size w w2) := ⟨k1, ⟨f, k4, fun i hi => by rw [k5 i (by omega)]; show Value.int .u8 (((if i < n then D i else _ : Nat)) : Int) = _; rw [if_pos hi]; rfl⟩, k2, by simp only [maxLen] at k3; omega, (I1.out.2.alloc I1.out.2.size _).grown hg (by have := I1.out.2.size; simp; omega) (fun k hk => own_ge I1.out.1 hk)⟩
    have hsl := slice_bh g 0 (n + 5) c n (by omega)
    clear hg k1 k3 k4 k5
    go_wp2_with fail
    go_ret
    exact ⟨g, c, rfl, I2.out⟩
/-- The first n cells of block g are bytes that may be written. -/
def ByteRow (w : World) (g c n : Nat) (E : Nat → Nat) : Prop := (∃ f, w.rowIs g 5 c f ∧ ∀ i, i < n → f i = bt E i) ∧ n ≤ c
theorem ByteRow.cell {w : World} {g c n : Nat} {E : Nat → Nat} (h : ByteRow w g c n E) {i : Nat} (hi : i < n) : w.cell? ⟨g, i, none⟩ = some (.int .u8 ((E i : Nat) : Int)) := by
  obtain ⟨⟨f, h1, h2⟩, h3⟩ := h
  rw [h1.cell (show i < c by omega), h2 i hi]
  rfl
theorem ByteRow.frozen {w : World} {g c n : Nat} {E : Nat → Nat} (h : ByteRow w g c n E) (i : Nat) : w.frozen? ⟨g, i, none⟩ = false := by
  obtain ⟨⟨f, h1, h2⟩, h3⟩ := h
  exact h1.frozen i
theorem ByteRow.lt {w : World} {g c n : Nat} {E : Nat → Nat} (h : ByteRow w g c n E) : g < w.heap.size := by
  obtain ⟨⟨f, h1, h2⟩, h3⟩ := h
  exact h1.lt
theorem ByteRow.set {w : World} {g c n : Nat} {E : Nat → Nat} (h : ByteRow w g c n E) (i d : Nat) : ByteRow (w.setCell ⟨g, i, none⟩ (.int .u8 (d : Int))) g c n (put E i d) := by
  obtain ⟨⟨f, h1, h2⟩, h3⟩ := h
  refine ⟨⟨_, h1.set i _, fun j hj => ?_⟩, h3⟩
  show (if j = i then _ else f j) = Value.int .u8 ((put E i d j : Nat) : Int)
  by_cases e : j = i
  · subst e
    rw [if_pos rfl, put_same]
  · rw [if_neg e, put_other _ _ e, h2 j hj]
    rfl
theorem ByteRow.other {w : World} {g c n : Nat} {E : Nat → Nat} (h : ByteRow w g c n E) {p : Addr} (hp : g ≠ p.block) (u : Value) : ByteRow (w.setCell p u) g c n E := by
  obtain ⟨⟨f, h1, h2⟩, h3⟩ := h
  exact ⟨⟨f, h1.setOther hp u, h2⟩, h3⟩
theorem ByteRow.below {w w' : World} {g c n : Nat} {E : Nat → Nat} (h : ByteRow w g c n E) (hb : Below w.heap.size w w') : ByteRow w' g c n E := by
  obtain ⟨⟨f, h1, h2⟩, h3⟩ := h
  exact ⟨⟨f, h1.of_block (hb.block g h1.lt), h2⟩, h3⟩
theorem BRow.byteRow {w : World} {g n : Nat} {E : Nat → Nat} (h : BRow w g n E) : ByteRow w g n n E := ⟨⟨_, h.1, fun i hi => rfl⟩, Nat.le_refl _⟩
set_option maxHeartbeats 1000000 in
theorem cut_min (a : Option Addr) (len cap : Nat) (D : Nat → Nat) (w : World) (h : BSl w a len cap D) :
    Calls Try.prog 4 #[.slice a len cap] w fun e w' => (e = .returned (.slice a (min len 600) cap) ∧ BSl w a (min len 600) cap D) ∧ w' = w := by
  have hl2 : (len : Int) ≤ 9223372036854775807 := by have := h.1; have := h.2.1; omega
  by_cases hl : 600 < len
  · rw [Nat.min_eq_right (by omega)]
    obtain ⟨b, o, rfl, hw⟩ : ∃ b o, a = some ⟨b, o, none⟩ ∧ ∀ i, i < len → w.cell? ⟨b, o + i, none⟩ = some (.int .u8 (D i : Nat)) := h.2.2.2.resolve_left (by omega)
    have sl : ∀ w, (Instr.slice 23 (.slice (some ⟨b, o, none⟩) len cap) none (some (.int .i64 600)) none).run Try.prog w = .ok (.slice (some ⟨b, o, none⟩) 600 cap) w := slice_bh b o len cap 600 (by have := h.1; omega)
    have hcz : ¬ cap = 0 := by have := h.1; omega
    have hcz2 : (600 : Int) ≤ cap := by have := h.1; omega
    have haz : (⟨b, o, none⟩ : Addr).add 0 = ⟨b, o, none⟩ := by simp [Addr.add]
    have hd : decide (600 < (len : Int)) = true := decide_eq_true (by omega)
    have HH : Hid (BSl w (some ⟨b, o, none⟩) 600 cap D) := ⟨by have := h.1; omega, h.2.1, fun i hi => h.2.2.1 i (by omega), .inr ⟨b, o, rfl, fun i hi => hw i (by omega)⟩⟩
    clear h hw
    go_enter Try.func4, Try.ntmps4
    go_wp2_with fail
    go_ret
    exact ⟨⟨rfl, HH.out⟩, rfl⟩
  · rw [Nat.min_eq_left (by omega)]
    have hd : decide (600 < (len : Int)) = false := decide_eq_false (by omega)
    have HH : Hid (BSl w a len cap D) := h
    clear h
    go_enter Try.func4, Try.ntmps4
    go_wp2_with fail
    go_ret
    exact ⟨⟨rfl, HH.out⟩, rfl⟩
/-- An append that must grow: new memory, what was is as it was. -/
theorem wpList_grow_bs {w : World} {ops : Array Oper} {rest : List Oper} {o : Oper} {ac : Act} {Q : Exit → Act → World → Prop} (hgd : o.guard = none) (s x : Operand)
    (ho : o.op = .call { callee := .builtin .append, args := #[s, x], argTypes := #[23, 23] }) (g L : Nat) (E : Nat → Nat) (hs : ac.eval s = .slice (some ⟨g, 0, none⟩) L L) (hrow : ByteRow w g L L E)
    (ad : Addr) (d : Nat) (hx : ac.eval x = .slice (some ad) 9 9) (hc : ∀ j, j < 9 → w.cell? (ad.add j) = some (bt (fun _ => d) j)) (hn : L ≤ 600)
    (h : ∀ v' w', OR w' 5 w.heap.size v' (L + 9) (bt fun j => if j < L then E j else d) → w.grownBy w' none → wpList Try.prog ops Q rest (ac.put o.dst v') w') : wpList Try.prog ops Q (o :: rest) ac w := by
  obtain ⟨i, hi, hzz, hsz, hb⟩ := info_parts Try.info5
  refine wpList_append_grows w hgd s x 23 ho 5 i _ 1 1 Try.underlying23 hi hzz hsz hb rfl (by omega) (some ⟨g, 0, none⟩) L L ((List.range L).map (bt E)) hs (fun e => by cases e) (by simp) (fun b hb => ?_) ad 9 9 ((List.range 9).map (bt fun _ => d)) hx (by simp) (cells_list hc) (fun u hu => by simp at hu; obtain ⟨j, _, rfl⟩ := hu; rfl) (by omega) (by simp only [maxLen]; omega) (by omega) (fun v' w' k1 k2 => h v' w' (OR.of_owns k1 fun i hi => ?_) k2)
  · cases hb
    refine cells_list fun j hj => ?_
    have h3 : (⟨g, 0, none⟩ : Addr).add j = ⟨g, j, none⟩ := by unfold Addr.add; split <;> simp_all
    rw [h3]
    exact hrow.cell hj
  · rcases Nat.lt_or_ge i L with hh | hh
    · rw [List.getElem?_append_left (by simpa using hh), List.getElem?_map, List.getElem?_range hh]
      show some (bt E i) = some (Value.int .u8 (((if i < L then E i else d : Nat)) : Int))
      rw [if_pos hh]
      rfl
    · rw [List.getElem?_append_right (by simpa using hh), List.length_map, List.length_range, List.getElem?_map, List.getElem?_range (by omega)]
      show some (bt (fun _ => d) (i - L)) = some (Value.int .u8 (((if i < L then E i else d : Nat)) : Int))
      rw [if_neg (by omega)]
      rfl
theorem ByteRow.kept {w w' : World} {g c n : Nat} {E : Nat → Nat} (h : ByteRow w g c n E) (hb : w.grownBy w' none) : ByteRow w' g c n E := by
  obtain ⟨⟨f, h1, h2⟩, h3⟩ := h
  exact ⟨⟨f, h1.of_block (hb.block g h1.lt (by simp)), h2⟩, h3⟩
theorem bel_none {w w' : World} (h : w.grownBy w' none) : Below w.heap.size w w' := ⟨h.os, h.tape, h.output, h.size, fun i hi => h.block i hi (by simp)⟩
theorem OR.byteRow {w : World} {base n : Nat} {v : Value} {E : Nat → Nat} (h : OR w 5 base v n (bt E)) (hn : 0 < n) : ∃ g c, v = .slice (some ⟨g, 0, none⟩) n c ∧ ByteRow w g c n E := by
  rcases h with ⟨_, h0⟩ | ⟨g, cap, f, rfl, h1, h2, h3, h4, h5⟩
  · omega
  · exact ⟨g, cap, rfl, ⟨f, h4, h5⟩, h2⟩
end Go.Proofs.Ytajkjfblpomdpaa
