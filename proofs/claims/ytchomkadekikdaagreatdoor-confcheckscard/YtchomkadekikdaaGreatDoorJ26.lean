/- Contracts of the program's functions, part 26: own work, joined in build order. -/
import Derived.Test.YtchomkadekikdaaGreatDoorJ25
import Derived.BigQuiet
import Derived.Laws.FloatArith
import Derived.Deep.RegionHeld3
import Derived.Deep.Cut
namespace Go.Proofs.YtchomkadekikdaaGreatDoor
open Go.RowKit
set_option maxRecDepth 100000
set_option linter.unusedVariables false
structure BW (w : World) where
  W : World
  bel : Below w.heap.size w W
theorem BW.size {w : World} (p : BW w) : w.heap.size ≤ p.W.heap.size := p.bel.size
theorem BW.cel {w : World} (p : BW w) {a : Addr} {v : Value} (h : w.cell? a = some v) : p.W.cell? a = some v := bc_cell p.bel h
theorem wp_region_quiet_bel {P : Program} {id : Nat} {Q : Exit → Act → World → Prop} {a : Act} {w : World} {l : List Oper} (hm : P.follows .mixedOrders = true) (hB : Region.lexB .any l.toArray = true)
    (h : wpQuiet P l.toArray (fun w' => ∃ p : BW w, w' = p.W) (fun a' => ∀ w', (∃ p : BW w, w' = p.W) → Q .normal a' w') l a) : (Code.region id l.toArray true).wp P Q a w :=
  wp_region_quiet (C := fun w' => ∃ p : BW w, w' = p.W) hm hB ⟨⟨w.drewN 1, bc_drew (bel_refl w) 1⟩, rfl⟩ (by simpa using h)
theorem calls_bel {P : Program} {f : FuncId} {args : Array Value} {w : World} {p : BW w} {v : Value} (h : Calls P f args p.W fun e w' => e = .returned v ∧ Below p.W.heap.size p.W w') : Calls P f args p.W fun e w'' => e = .returned v ∧ ∃ q : BW w, w'' = q.W :=
  h.mono fun _ w2 ⟨he, hb⟩ => ⟨he, ⟨w2, bc_go p.bel hb⟩, rfl⟩
theorem calls_still {P : Program} {f : FuncId} {args : Array Value} {w : World} {p : BW w} {v : Value} (h : Calls P f args p.W fun e w' => e = .returned v ∧ w' = p.W) : Calls P f args p.W fun e w'' => e = .returned v ∧ ∃ q : BW w, w'' = q.W :=
  h.mono fun _ w2 ⟨he, hb⟩ => ⟨he, p, hb⟩
set_option maxHeartbeats 1000000 in
theorem print_bad (K R M C Fl A : Int) (a : Option Addr) (n cap : Nat) (G : Nat → Nat → Int) (ce : Int) (w : World) (h : NSl w a n cap G) (hf : checkE K R M C Fl A G n = ce) (h0 : ce ≠ 0) :
    Calls Tryz.prog 7 #[.agg #[.int .i64 K, .int .i64 R, .int .i64 M, .int .i64 C, .int .i64 Fl, .int .i64 A, .slice a n cap]] w fun e w' => e = .returned (.tuple #[.string ⟨#[]⟩, .int .i64 ce]) ∧ Below w.heap.size w w' := by
  have HN : Hid _ := h
  have hl0 : n ≤ 9223372036854775807 := Nat.le_trans h.le h.lim
  have HF : Hid _ := hf
  have d0 : (ce != 0) = true := by simpa using h0
  clear h hf h0
  go_enter Tryz.func7, Tryz.ntmps7
  go_wp2_with fail
  have S0 : Hid _ := (ce_start w).box7 (.int .i64 K) (.int .i64 R) (.int .i64 M) (.int .i64 C) (.int .i64 Fl) (.int .i64 A) (.slice a n cap) 24 _ rfl
  refine (check_any K R M C Fl A a n cap G _ (HN.out.go S0.out.bel)).mono ?_
  rintro e w1 ⟨rfl, hb⟩
  rw [HF.out]
  have W1 : Hid (Below w.heap.size w w1) := bc_go S0.out.bel hb
  clear hb S0
  go_wp2_with fail
  exact bodyPost_ret (v := .tuple #[.string ⟨#[]⟩, .int .i64 ce]) (by simp [results, Tryz.results7, go_sem]) rfl ⟨rfl, W1.out⟩
def priS (K R M C Fl A : Int) (G : Nat → Nat → Int) (n : Nat) : ByteArray := if checkE K R M C Fl A G n = 0 then confS K R M C Fl A G n else ⟨#[]⟩
theorem print_any (K R M C Fl A : Int) (a : Option Addr) (n cap : Nat) (G : Nat → Nat → Int) (w : World) (h : NSl w a n cap G) (hV : Vs9 w) :
    Calls Tryz.prog 7 #[.agg #[.int .i64 K, .int .i64 R, .int .i64 M, .int .i64 C, .int .i64 Fl, .int .i64 A, .slice a n cap]] w fun e w' => e = .returned (.tuple #[.string (priS K R M C Fl A G n), .int .i64 (checkE K R M C Fl A G n)]) ∧ Below w.heap.size w w' := by
  by_cases c0 : checkE K R M C Fl A G n = 0
  · unfold priS
    rw [if_pos c0]
    by_cases c6 : K = 6
    · subst c6
      have tr := tre_of ((checkE_zero c0).2.2.2.2.2.2.1 rfl)
      have lo := tr.lo
      have hle := h.le
      obtain ⟨b, o, rfl, _⟩ := h.at (by omega)
      obtain ⟨m, rfl⟩ : ∃ m, n = m + 1 := ⟨n - 1, by omega⟩
      obtain ⟨c, rfl⟩ : ∃ c, cap = c + 1 := ⟨cap - 1, by omega⟩
      refine (print_tree R M C Fl A b o m c G w h hV.kn hV.pow).mono ?_
      rintro e w' ⟨s, rfl, hb, hs⟩
      rw [hs c0]
      exact ⟨rfl, hb⟩
    refine (print_flat K R M C Fl A a n cap G w h hV.kn hV.pow c6).mono ?_
    rintro e w' ⟨s, rfl, hb, hs⟩
    rw [hs c0]
    refine ⟨?_, hb⟩
    unfold confS confT
    rw [if_neg c6, List.append_nil]
  unfold priS
  rw [if_neg c0]
  exact print_bad K R M C Fl A a n cap G _ w h rfl c0
theorem set5 {a b c d e : Int} (h0 : In64p a) (h1 : In64p b) (h2 : In64p c) (h3 : In64p d) (h4 : In64p e) : ∀ i, i < 5 → -9223372036854775808 ≤ setI a b c d e i ∧ setI a b c d e i ≤ 9223372036854775807 := fun i hi => by
  match i, hi with
  | 0, _ => exact h0
  | 1, _ => exact h1
  | 2, _ => exact h2
  | 3, _ => exact h3
  | 4, _ => exact h4
theorem set2 {a b : Int} (h0 : In64p a) (h1 : In64p b) : ∀ i, i < 2 → -9223372036854775808 ≤ pair2 a b i ∧ pair2 a b i ≤ 9223372036854775807 := fun i hi => by
  match i, hi with
  | 0, _ => exact h0
  | 1, _ => exact h1
set_option maxHeartbeats 2000000 in
theorem rwhole_any (n : Nat) (w : World) (hn : n < 18446744073709551616) : Calls Tryz.prog 82 #[.int .u64 (n : Int)] w (MakesRR w n 1) := by
  have ba : Hid (Below w.heap.size w (w.alloc (.cells #[.slice none 0 0, .slice none 0 0] 75))) := bel_al (bel_refl w)
  have HN : Hid (n < 18446744073709551616) := hn
  clear hn
  go_enter Tryz.func82, Tryz.ntmps82
  go_wp2_with fail
  refine (rof_any n _ HN.out).mono ?_
  rintro e w1 ⟨v1, rfl, hv1, hb1⟩
  obtain ⟨a1, n1, k1, rfl⟩ := hv1.isAgg
  have c0 : w1.cell? ⟨w.heap.size, 0, none⟩ = some (.slice none 0 0) := cell_later hb1 (by simp [go_sem])
  have c1 : w1.cell? ⟨w.heap.size, 1, none⟩ = some (.slice none 0 0) := cell_later hb1 (by simp [go_sem])
  have f0 : w1.frozen? ⟨w.heap.size, 0, none⟩ = false := (hb1.frozen (by simp)).trans (by simp [go_sem])
  have f1 : w1.frozen? ⟨w.heap.size, 1, none⟩ = false := (hb1.frozen (by simp)).trans (by simp [go_sem])
  have I1 : Hid (RNat w1 (.agg #[.slice a1 n1 k1]) n ∧ Below w.heap.size w w1) := ⟨hv1, bel_go ba.out hb1⟩
  clear hv1 hb1 ba
  go_wp2_with fail
  refine (rof_any 1 _ (by omega)).mono ?_
  rintro e w2 ⟨v2, rfl, hv2, hb2⟩
  obtain ⟨a2, n2, k2, rfl⟩ := hv2.isAgg
  have x0 := cell_later hb2 c0
  have x1 := cell_later hb2 c1
  have y0 := (hb2.frozen (World.block_lt_of_cell? _ _ c0)).trans f0
  have y1 := (hb2.frozen (World.block_lt_of_cell? _ _ c1)).trans f1
  have Z : Hid _ := rrat_put (v := .slice a1 n1 k1) (u := .slice a2 n2 k2) x0 x1 (V := .agg #[.slice a1 n1 k1, .slice a2 n2 k2]) (p := n) (q := 1) ⟨_, _, _, _, _, _, rfl, I1.out.1.mono hb2, hv2⟩ (bel_go I1.out.2 hb2) (Nat.le_refl _)
  clear hv2 hb2 c0 c1 f0 f1 I1
  go_wp2_with fail
  exact bodyPost_ret (v := .agg #[.slice a1 n1 k1, .slice a2 n2 k2]) (by simp [results, Tryz.results82, go_sem, x0, x1]) rfl ⟨_, rfl, Z.out.1, Z.out.2⟩
set_option maxHeartbeats 8000000 in
theorem rcmp2_any (v u : Value) (p q x y : Nat) (w : World) (h : RRt w v p q) (k : RRt w u x y) (hp : RS p) (hq : RS q) (hx : RS x) (hy : RS y) (z : Int) (hz : cmpI (p * y) (x * q) = z) :
    Calls Tryz.prog 61 #[v, u] w fun e w' => e = .returned (.int .i64 z) ∧ Below w.heap.size w w' := by
  obtain ⟨a1, n1, c1, a2, n2, c2, e0, g1, g2⟩ := h
  subst e0
  obtain ⟨a3, n3, c3, a4, n4, c4, e1, g3, g4⟩ := k
  subst e1
  have S1 : Hid _ := ((((((sx_start w).addM g1).addM g2).addM g3).addM g4).box (.slice a1 n1 c1) (.slice a2 n2 c2) 75 _ rfl).box (.slice a3 n3 c3) (.slice a4 n4 c4) 75 _ rfl
  simp only [World.size_alloc] at S1
  obtain ⟨w0, hw0⟩ : ∃ w0, w0 = (w.alloc (.cells #[.slice a1 n1 c1, .slice a2 n2 c2] 75)).alloc (.cells #[.slice a3 n3 c3, .slice a4 n4 c4] 75) := ⟨_, rfl⟩
  have HH : Hid (RS p ∧ RS q ∧ RS x ∧ RS y ∧ RFits (p * y) ∧ RFits (x * q)) := ⟨hp, hq, hx, hy, rfits_P (hp.mul hy) (by omega), rfits_P (hx.mul hq) (by omega)⟩
  have HZ : Hid (cmpI (p * y) (x * q) = z) := hz
  clear g1 g2 g3 g4 hp hq hx hy hz
  go_enter Tryz.func61, Tryz.ntmps61
  go_wp2_with fail
  rw [← hw0] at S1
  rw [← hw0]
  obtain ⟨b2, hb2⟩ : ∃ b2, b2 = w.heap.size := ⟨_, rfl⟩
  rw [← hb2] at S1
  rw [← hb2]
  clear hw0 hb2
  refine wp_region_held_drew (S := fun w9 => w9.cell? ⟨b2, 0, none⟩ = some (.slice a1 n1 c1) ∧ w9.cell? ⟨b2, 1, none⟩ = some (.slice a2 n2 c2) ∧ w9.cell? ⟨b2 + 1, 0, none⟩ = some (.slice a3 n3 c3) ∧ w9.cell? ⟨b2 + 1, 1, none⟩ = some (.slice a4 n4 c4)) (by kernel_rfl) ⟨(S1.out.cel (b2) 0 (.slice a1 n1 c1)), (S1.out.cel (b2) 1 (.slice a2 n2 c2)), (S1.out.cel (b2 + 1) 0 (.slice a3 n3 c3)), (S1.out.cel (b2 + 1) 1 (.slice a4 n4 c4))⟩ (fun hHeld => ?_)
  refine wpAnyH_take (i := 0) (v := .pointer (some ⟨b2, 0, none⟩)) rfl (by kernel_rfl) (by kernel_rfl) (by kernel_rfl) (fun _ _ _ h => h) (Or.inl ⟨by rfl, ?_⟩) (by assumption) ?_
  · intro w hSw
    obtain ⟨g0, g1, g2, g3⟩ := hSw
    go_simp
  refine wpAnyH_take (i := 1) (v := .agg #[.slice a1 n1 c1]) rfl (by kernel_rfl) (by kernel_rfl) (by kernel_rfl) (fun _ _ _ h => h) (Or.inl ⟨by rfl, ?_⟩) (by assumption) ?_
  · intro w hSw
    obtain ⟨g0, g1, g2, g3⟩ := hSw
    go_simp
  refine wpAnyH_take (i := 2) (v := .pointer (some ⟨b2 + 1, 1, none⟩)) rfl (by kernel_rfl) (by kernel_rfl) (by kernel_rfl) (fun _ _ _ h => h) (Or.inl ⟨by rfl, ?_⟩) (by assumption) ?_
  · intro w hSw
    obtain ⟨g0, g1, g2, g3⟩ := hSw
    go_simp
  refine wpAnyH_take (i := 3) (v := .agg #[.slice a4 n4 c4]) rfl (by kernel_rfl) (by kernel_rfl) (by kernel_rfl) (fun _ _ _ h => h) (Or.inl ⟨by rfl, ?_⟩) (by assumption) ?_
  · intro w hSw
    obtain ⟨g0, g1, g2, g3⟩ := hSw
    go_simp
  refine wpAnyH_take (i := 5) (v := .pointer (some ⟨b2 + 1, 0, none⟩)) rfl (by kernel_rfl) (by kernel_rfl) (by kernel_rfl) (fun _ _ _ h => h) (Or.inl ⟨by rfl, ?_⟩) (by assumption) ?_
  · intro w hSw
    obtain ⟨g0, g1, g2, g3⟩ := hSw
    go_simp
  refine wpAnyH_take (i := 6) (v := .agg #[.slice a3 n3 c3]) rfl (by kernel_rfl) (by kernel_rfl) (by kernel_rfl) (fun _ _ _ h => h) (Or.inl ⟨by rfl, ?_⟩) (by assumption) ?_
  · intro w hSw
    obtain ⟨g0, g1, g2, g3⟩ := hSw
    go_simp
  refine wpAnyH_take (i := 7) (v := .pointer (some ⟨b2, 1, none⟩)) rfl (by kernel_rfl) (by kernel_rfl) (by kernel_rfl) (fun _ _ _ h => h) (Or.inl ⟨by rfl, ?_⟩) (by assumption) ?_
  · intro w hSw
    obtain ⟨g0, g1, g2, g3⟩ := hSw
    go_simp
  refine wpAnyH_take (i := 8) (v := .agg #[.slice a2 n2 c2]) rfl (by kernel_rfl) (by kernel_rfl) (by kernel_rfl) (fun _ _ _ h => h) (Or.inl ⟨by rfl, ?_⟩) (by assumption) ?_
  · intro w hSw
    obtain ⟨g0, g1, g2, g3⟩ := hSw
    go_simp
  refine wpAnyH_ready (rs := [4]) (by kernel_rfl) (by simp) ?_
  refine AllReadyH.cons rfl (fun K9 hK9 => ?_) AllReadyH.nil
  go_simp
  refine Calls.mono (rtimes_any _ _ p y _ ((S1.out.rat (.agg #[.slice a1 n1 c1]) p).mono (bel_dr (bel_refl _))) ((S1.out.rat (.agg #[.slice a4 n4 c4]) y).mono (bel_dr (bel_refl _))) HH.out.1.rfits HH.out.2.2.2.1.rfits) ?_
  rintro e w3 ⟨v3, rfl, hv3, hb3⟩
  replace hb3 : Below w0.heap.size w0 w3 := bel_undrew hb3
  have S2 : Hid _ := (S1.out.go hb3).addM hv3
  clear hv3 hb3 S1 hHeld
  refine hK9.out _ _ ⟨(S2.out.cel (b2) 0 (.slice a1 n1 c1)), (S2.out.cel (b2) 1 (.slice a2 n2 c2)), (S2.out.cel (b2 + 1) 0 (.slice a3 n3 c3)), (S2.out.cel (b2 + 1) 1 (.slice a4 n4 c4))⟩ (fun hHeld => ?_)
  clear hK9 K9
  refine wpAnyH_ready (rs := [9]) (by kernel_rfl) (by simp) ?_
  refine AllReadyH.cons rfl (fun K9 hK9 => ?_) AllReadyH.nil
  go_simp
  refine Calls.mono (rtimes_any _ _ x q _ (S2.out.rat (.agg #[.slice a3 n3 c3]) x) (S2.out.rat (.agg #[.slice a2 n2 c2]) q) HH.out.2.2.1.rfits HH.out.2.1.rfits) ?_
  rintro e w4 ⟨v4, rfl, hv4, hb4⟩
  have S3 : Hid _ := (S2.out.go hb4).addM hv4
  clear hv4 hb4 S2 hHeld
  refine hK9.out _ _ ⟨(S3.out.cel (b2) 0 (.slice a1 n1 c1)), (S3.out.cel (b2) 1 (.slice a2 n2 c2)), (S3.out.cel (b2 + 1) 0 (.slice a3 n3 c3)), (S3.out.cel (b2 + 1) 1 (.slice a4 n4 c4))⟩ (fun hHeld => ?_)
  clear hK9 K9
  refine wpAnyH_ready (rs := [10]) (by kernel_rfl) (by simp) ?_
  refine AllReadyH.cons rfl (fun K9 hK9 => ?_) AllReadyH.nil
  go_simp
  refine Calls.mono (rcmp_any v3 v4 (p * y) (x * q) _ (S3.out.rat v3 (p * y)) (S3.out.rat v4 (x * q)) HH.out.2.2.2.2.1 HH.out.2.2.2.2.2) ?_
  rintro e w6 ⟨rfl, hb6⟩
  have S4 : Hid _ := S3.out.go hb6
  rw [HZ.out]
  clear hb6 S3 hHeld
  refine hK9.out _ _ ⟨(S4.out.cel (b2) 0 (.slice a1 n1 c1)), (S4.out.cel (b2) 1 (.slice a2 n2 c2)), (S4.out.cel (b2 + 1) 0 (.slice a3 n3 c3)), (S4.out.cel (b2 + 1) 1 (.slice a4 n4 c4))⟩ (fun hHeld => ?_)
  clear hK9 K9
  refine wpAnyH_take (i := 11) (v := .int .i64 z) rfl (by kernel_rfl) (by kernel_rfl) (by kernel_rfl) (fun _ _ _ h => h) (Or.inl ⟨by rfl, ?_⟩) (by assumption) ?_
  · intro w hSw
    obtain ⟨g0, g1, g2, g3⟩ := hSw
    go_simp
  refine wpAnyH_done (by kernel_rfl) ?_ _
  go_wp2_with fail
  go_ret
  exact ⟨rfl, S4.out.bel⟩
def gtM (u : Nat) : Bool := FloatKind.f64.format.order u 4697254411347427328 == some .gt
theorem dbl_sign : Ieee.double.signWeight = 9223372036854775808 := by decide
theorem dbl_bin : Ieee.double.binade = 4503599627370496 := by decide
theorem dbl_inf : Ieee.double.infRung = 9218868437227405312 := by decide
theorem dbl_least : Ieee.double.leastPlace = -1074 := by decide
theorem read_num {u : Nat} (h : u < 9218868437227405312) : Ieee.double.read u = .number false (fm u) (-1074 + (fe u : Int)) := by
  have h1 : (u / 9223372036854775808 % 2 == 1) = false := by rw [Nat.div_eq_of_lt (by omega)]; rfl
  have h2 : u % 9223372036854775808 = u := Nat.mod_eq_of_lt (by omega)
  unfold Ieee.Format.read
  rw [dbl_sign, dbl_bin, dbl_inf, dbl_least, h2]
  simp only [h1]
  unfold fm fe
  by_cases hs : u < 4503599627370496
  · have e0 : u / 4503599627370496 = 0 := Nat.div_eq_of_lt hs
    have e1 : u % 4503599627370496 = u := Nat.mod_eq_of_lt hs
    rw [if_pos hs, e0, if_pos rfl, e1]
    rfl
  have e0 : ¬ u / 4503599627370496 = 0 := by omega
  rw [if_neg hs, if_pos h, if_neg e0, Nat.add_comm]
theorem signed_pos (m k : Nat) : Ieee.signed false m k = ((m * 2 ^ k : Nat) : Int) := by
  unfold Ieee.signed
  rw [Nat.shiftLeft_eq]
  simp
theorem order_gt {m n i j : Nat} : ((Ieee.Datum.number false m (-1074 + (i : Int))).order (.number false n (-1074 + (j : Int))) == some .gt) = decide (n * 2 ^ j < m * 2 ^ i) := by
  unfold Ieee.Datum.order
  simp only [signed_pos]
  by_cases h : i ≤ j
  · have e1 : (-1074 + (i : Int) - min (-1074 + (i : Int)) (-1074 + (j : Int))).toNat = 0 := by omega
    have e2 : (-1074 + (j : Int) - min (-1074 + (i : Int)) (-1074 + (j : Int))).toNat = j - i := by omega
    have e3 : n * 2 ^ j = n * 2 ^ (j - i) * 2 ^ i := by rw [Nat.mul_assoc, ← Nat.pow_add, show j - i + i = j by omega]
    rw [e1, e2, e3, Nat.pow_zero, Nat.mul_one]
    have e4 : (n * 2 ^ (j - i) * 2 ^ i < m * 2 ^ i) ↔ n * 2 ^ (j - i) < m := Nat.mul_lt_mul_right (Nat.two_pow_pos i)
    generalize n * 2 ^ (j - i) = a at *
    rw [decide_eq_decide.2 e4]
    rcases Nat.lt_trichotomy a m with h5 | h5 | h5
    · rw [decide_eq_true h5]
      have : compare (m : Int) (a : Int) = .gt := Int.compare_eq_gt.2 (by omega)
      rw [this]; rfl
    · rw [decide_eq_false (by omega)]
      have : compare (m : Int) (a : Int) = .eq := Int.compare_eq_eq.2 (by omega)
      rw [this]; rfl
    rw [decide_eq_false (by omega)]
    have : compare (m : Int) (a : Int) = .lt := Int.compare_eq_lt.2 (by omega)
    rw [this]; rfl
  have e1 : (-1074 + (i : Int) - min (-1074 + (i : Int)) (-1074 + (j : Int))).toNat = i - j := by omega
  have e2 : (-1074 + (j : Int) - min (-1074 + (i : Int)) (-1074 + (j : Int))).toNat = 0 := by omega
  have e3 : m * 2 ^ i = m * 2 ^ (i - j) * 2 ^ j := by rw [Nat.mul_assoc, ← Nat.pow_add, show i - j + j = i by omega]
  rw [e1, e2, e3, Nat.pow_zero, Nat.mul_one]
  have e4 : (n * 2 ^ j < m * 2 ^ (i - j) * 2 ^ j) ↔ n < m * 2 ^ (i - j) := Nat.mul_lt_mul_right (Nat.two_pow_pos j)
  generalize m * 2 ^ (i - j) = a at *
  rw [decide_eq_decide.2 e4]
  rcases Nat.lt_trichotomy n a with h5 | h5 | h5
  · rw [decide_eq_true h5]
    have : compare (a : Int) (n : Int) = .gt := Int.compare_eq_gt.2 (by omega)
    rw [this]; rfl
  · rw [decide_eq_false (by omega)]
    have : compare (a : Int) (n : Int) = .eq := Int.compare_eq_eq.2 (by omega)
    rw [this]; rfl
  rw [decide_eq_false (by omega)]
  have : compare (a : Int) (n : Int) = .lt := Int.compare_eq_lt.2 (by omega)
  rw [this]; rfl
theorem gtM_val {u : Nat} (h : u < 9218868437227405312) : gtM u = decide (4503599627370496 * 2 ^ 1042 < fm u * 2 ^ fe u) := by
  have hK := read_num (u := 4697254411347427328) (by omega)
  rw [show fm 4697254411347427328 = 4503599627370496 by decide, show fe 4697254411347427328 = 1042 by decide] at hK
  show ((Ieee.double.read u).order (Ieee.double.read 4697254411347427328) == some .gt) = _
  rw [read_num h, hK]
  exact order_gt
theorem pow_split {e c : Nat} (h : c ≤ e) : 2 ^ e = 2 ^ c * 2 ^ (e - c) := by rw [← Nat.pow_add, show c + (e - c) = e by omega]
theorem gtM_iff {u : Nat} (h : u < 9218868437227405312) : gtM u = decide (4697254411347427328 < u) := by
  rw [gtM_val h]
  refine decide_eq_decide.2 ?_
  have hm := fm_lt u
  have hm' : fm u < 9007199254740992 := hm
  obtain ⟨c, hc⟩ : ∃ c, c = 1042 := ⟨_, rfl⟩
  rw [← hc]
  rcases Nat.lt_trichotomy (fe u) c with h1 | h1 | h1
  · have h2 : 2 ^ c = 2 ^ (fe u + 1) * 2 ^ (c - (fe u + 1)) := pow_split (by omega)
    have h3 : 0 < 2 ^ (c - (fe u + 1)) := Nat.two_pow_pos _
    have h4 : 0 < 2 ^ fe u := Nat.two_pow_pos _
    have h5 : 2 ^ (fe u + 1) = 2 * 2 ^ fe u := by rw [Nat.pow_succ, Nat.mul_comm]
    have h6 : fm u * 2 ^ fe u < 9007199254740992 * 2 ^ fe u := Nat.mul_lt_mul_of_pos_right hm' h4
    have h7 : 9007199254740992 * 2 ^ fe u ≤ 4503599627370496 * 2 ^ c := by
      rw [h2, h5]
      calc 9007199254740992 * 2 ^ fe u = 4503599627370496 * (2 * 2 ^ fe u) * 1 := by omega
        _ ≤ 4503599627370496 * (2 * 2 ^ fe u) * 2 ^ (c - (fe u + 1)) := Nat.mul_le_mul_left _ h3
        _ = 4503599627370496 * (2 * 2 ^ fe u * 2 ^ (c - (fe u + 1))) := by rw [Nat.mul_assoc 4503599627370496]
    have h8 : ¬ 4697254411347427328 < u := by
      unfold fe at h1
      omega
    constructor
    · intro h9; omega
    intro h9; exact absurd h9 h8
  · rw [h1]
    have h4 : 0 < 2 ^ c := Nat.two_pow_pos _
    rw [Nat.mul_lt_mul_right h4]
    unfold fe at h1
    have e0 : ¬ u / 4503599627370496 = 0 := by omega
    unfold fm
    rw [if_neg e0]
    omega
  have h2 : 2 ^ fe u = 2 ^ (c + 1) * 2 ^ (fe u - (c + 1)) := pow_split (by omega)
  have h3 : 0 < 2 ^ (fe u - (c + 1)) := Nat.two_pow_pos _
  have h4 : 0 < 2 ^ c := Nat.two_pow_pos _
  have h5 : 2 ^ (c + 1) = 2 * 2 ^ c := by rw [Nat.pow_succ, Nat.mul_comm]
  have e0 : ¬ u / 4503599627370496 = 0 := by unfold fe at h1; omega
  have h6 : 4503599627370496 ≤ fm u := by unfold fm; rw [if_neg e0]; omega
  have h7 : 4503599627370496 * (2 * 2 ^ c) ≤ fm u * 2 ^ fe u := by
    rw [h2, h5]
    refine Nat.mul_le_mul h6 ?_
    exact Nat.le_mul_of_pos_right _ h3
  have h8 : 4697254411347427328 < u := by
    unfold fe at h1
    omega
  constructor
  · intro _; exact h8
  intro _; omega
theorem two_tops : 4503599627370496 * 2 ^ 1042 = 1048576 * 2 ^ 1074 := by decide +kernel
theorem fN_top {u : Nat} (h : u < 9218868437227405312) : fN u ≤ 1048576 * fD u ↔ u ≤ 4697254411347427328 := by
  have h1 := gtM_val h
  rw [gtM_iff h, two_tops] at h1
  have h2 : 4697254411347427328 < u ↔ 1048576 * 2 ^ 1074 < fm u * 2 ^ fe u := by
    constructor
    · intro q; rw [decide_eq_true q] at h1; exact of_decide_eq_true h1.symm
    intro q; rw [decide_eq_true q] at h1; exact of_decide_eq_true h1
  have key : fN u ≤ 1048576 * fD u ↔ fm u * 2 ^ fe u ≤ 1048576 * 2 ^ 1074 := by
    unfold fN fD
    generalize fm u = m
    generalize fe u = e
    have kz : ∀ N : Nat, m * 2 ^ (e - N) ≤ 1048576 * 2 ^ (N - e) ↔ m * 2 ^ e ≤ 1048576 * 2 ^ N := by
      intro N
      rcases Nat.le_total e N with q | q
      · obtain ⟨d, rfl⟩ : ∃ d, N = e + d := ⟨N - e, by omega⟩
        rw [show e - (e + d) = 0 by omega, show e + d - e = d by omega, Nat.pow_zero, Nat.mul_one, Nat.pow_add, show 1048576 * (2 ^ e * 2 ^ d) = 1048576 * 2 ^ d * 2 ^ e by rw [Nat.mul_comm (2 ^ e), Nat.mul_assoc]]
        exact (Nat.mul_le_mul_right_iff (Nat.two_pow_pos e)).symm
      obtain ⟨d, rfl⟩ : ∃ d, e = N + d := ⟨e - N, by omega⟩
      rw [show N + d - N = d by omega, show N - (N + d) = 0 by omega, Nat.pow_zero, Nat.mul_one, Nat.pow_add, show m * (2 ^ N * 2 ^ d) = m * 2 ^ d * 2 ^ N by rw [Nat.mul_comm (2 ^ N), Nat.mul_assoc]]
      exact (Nat.mul_le_mul_right_iff (Nat.two_pow_pos N)).symm
    exact kz 1074
  rw [key]
  generalize fm u * 2 ^ fe u = X at *
  generalize 1048576 * 2 ^ 1074 = Y at *
  omega
theorem ff_top {u : Nat} (h : u < 9218868437227405312) : ffP u ≤ 1048576 * ffQ u ↔ u ≤ 4697254411347427328 := by
  rw [← fN_top h, (ff_yes h).1, (ff_yes h).2]
  have hg : 0 < Nat.gcd (fN u) (fD u) := Nat.gcd_pos_of_pos_right _ (fD_pos u)
  have e1 : fN u / Nat.gcd (fN u) (fD u) * Nat.gcd (fN u) (fD u) = fN u := Nat.div_mul_cancel (Nat.gcd_dvd_left _ _)
  have e2 : fD u / Nat.gcd (fN u) (fD u) * Nat.gcd (fN u) (fD u) = fD u := Nat.div_mul_cancel (Nat.gcd_dvd_right _ _)
  generalize Nat.gcd (fN u) (fD u) = g at *
  generalize fN u / g = a at *
  generalize fD u / g = b at *
  rw [← e1, ← e2, ← Nat.mul_assoc]
  exact (Nat.mul_le_mul_right_iff hg).symm
theorem fle_num {x y : Nat} (hx : x < 9218868437227405312) (hy : y < 9218868437227405312) : fle x y = !(FloatKind.f64.format.order x y == some .gt) := by
  unfold fle
  have e : ∃ o, FloatKind.f64.format.order x y = some o := by
    show ∃ o, (Ieee.double.read x).order (Ieee.double.read y) = some o
    rw [read_num hx, read_num hy]
    exact ⟨_, rfl⟩
  obtain ⟨o, ho⟩ := e
  rw [ho]
  cases o <;> rfl
theorem hldF_val {u : Nat} (hu : u < 18446744073709551616) : hldF 0 4697254411347427328 u = (isFb u && decide (cmpI (ffP u * 1) (1048576 * ffQ u) ≤ 0)) := by
  have hc : ∀ a b : Nat, cmpI a b ≤ 0 ↔ a ≤ b := fun a b => by
    unfold cmpI
    split
    · constructor <;> intro h <;> omega
    split
    · constructor <;> intro h <;> omega
    constructor <;> intro h <;> omega
  by_cases c : u < 9218868437227405312
  · have h1 : isFb u = true := by unfold isFb; simp; omega
    have h2 : fle u 4697254411347427328 = decide (u ≤ 4697254411347427328) := by
      rw [fle_num c (by decide)]
      have q := gtM_iff c
      unfold gtM at q
      rw [q]
      by_cases z : u ≤ 4697254411347427328
      · rw [decide_eq_true z, decide_eq_false (by omega)]; rfl
      rw [decide_eq_false z, decide_eq_true (by omega)]; rfl
    have h3 : fle 0 u = true := by
      rw [fle_num (by decide) c]
      have q : ((Ieee.double.read 0).order (Ieee.double.read u) == some .gt) = false := by
        rw [read_num (u := 0) (by decide), read_num c, order_gt]
        refine decide_eq_false ?_
        have : fm 0 = 0 := by decide
        rw [this, Nat.zero_mul]
        omega
      rw [show (FloatKind.f64.format.order 0 u == some .gt) = false from q]
      rfl
    unfold hldF
    rw [h3, h2, h1, Bool.true_and, Bool.true_and]
    by_cases z : u ≤ 4697254411347427328
    · rw [decide_eq_true z, decide_eq_true ((hc _ _).2 (by rw [Nat.mul_one]; exact (ff_top c).2 z))]
    rw [decide_eq_false z, decide_eq_false (fun q => z ((ff_top c).1 (by have := (hc _ _).1 q; rwa [Nat.mul_one] at this)))]
  by_cases c2 : u = 9223372036854775808
  · subst c2
    rw [ff_zero.1, ff_zero.2]
    decide +kernel
  have h1 : isFb u = false := by unfold isFb; simp; omega
  rw [h1, Bool.false_and]
  cases hb : hldF 0 4697254411347427328 u with
  | false => rfl
  | true =>
    exfalso
    have := rate_bits hu hb
    omega
theorem bc_drew2 {w W : World} (h : Below w.drew.heap.size w.drew W) : Below w.heap.size w W := ⟨h.os, h.tape, h.output, h.size, h.block⟩
theorem rs_small {n : Nat} (h : n < 18446744073709551616) : RS n := ⟨Nat.lt_of_lt_of_le h (by decide +kernel)⟩
set_option maxHeartbeats 2000000 in
theorem rrate9_any (u : Nat) (w : World) (hu : u < 18446744073709551616) : Calls Tryz.prog 48 #[.int .u64 (u : Int)] w fun e w' => e = .returned (.bool (hldF 0 4697254411347427328 u)) ∧ Below w.heap.size w w' := by
  have HV := hldF_val hu
  have hrs := cx_ffRS u hu
  have HU : Hid _ := hu
  obtain ⟨R, hR⟩ : ∃ R, hldF 0 4697254411347427328 u = R := ⟨_, rfl⟩
  rw [hR] at HV
  rw [hR]
  clear hR hu
  go_enter Tryz.func48, Tryz.ntmps48
  go_wp2_with fail
  refine (rfromFloat_all u _ HU.out).mono ?_
  rintro e w1 ⟨v, rfl, hv, hb1⟩
  have hv' := hv
  obtain ⟨a1, n1, c1, a2, n2, c2, e0, _, _⟩ := hv'
  subst e0
  have S1 : Hid _ := ((ce_start w).go hb1).box2 (.slice a1 n1 c1) (.slice a2 n2 c2) 75 _ rfl
  obtain ⟨g3, eg3⟩ : ∃ g, g = w1.heap.size := ⟨_, rfl⟩
  have HR1 : Hid (RRt (w1.alloc (.cells #[.slice a1 n1 c1, .slice a2 n2 c2] 75)) (.agg #[.slice a1 n1 c1, .slice a2 n2 c2]) (ffP u) (ffQ u)) := hv.mono (bc_al (bel_refl w1))
  rw [← eg3] at S1
  obtain ⟨w2, hw2⟩ : ∃ W, W = w1.alloc (.cells #[.slice a1 n1 c1, .slice a2 n2 c2] 75) := ⟨_, rfl⟩
  rw [← hw2] at S1 HR1
  clear hv hb1
  go_upto_region 2 with fail
  rw [← hw2, ← eg3]
  clear hw2 eg3
  cases hf : isFb u with
  | false =>
    rw [hf, Bool.false_and] at HV
    subst HV
    go_quiet (fail)
    go_wp2_with fail
    go_ret
    exact ⟨rfl, bc_drew S1.out.bel _⟩
  | true =>
    rw [hf, Bool.true_and] at HV
    obtain ⟨z, hz⟩ : ∃ z, cmpI (ffP u * 1) (1048576 * ffQ u) = z := ⟨_, rfl⟩
    have HZ : Hid _ := hz
    rw [hz] at HV
    obtain ⟨B, hB⟩ : ∃ B, decide (z ≤ 0) = B := ⟨_, rfl⟩
    rw [hB] at HV
    subst HV
    have HRS : Hid (RS (ffP u) ∧ RS (ffQ u) ∧ RS 1048576 ∧ RS 1) := ⟨hrs.1, hrs.2, rs_small (by omega), rs_small (by omega)⟩
    have S2 : Hid _ := S1.out
    have HR : Hid (RRt w2 (.agg #[.slice a1 n1 c1, .slice a2 n2 c2]) (ffP u) (ffQ u)) := HR1.out
    clear hz hrs hf S1 HR1
    refine wp_region_held_drew (S := fun w9 => w9.cell? ⟨g3, 0, none⟩ = some (.slice a1 n1 c1) ∧ w9.cell? ⟨g3, 1, none⟩ = some (.slice a2 n2 c2)) (by kernel_rfl) ⟨S2.out.cel g3 0 (.slice a1 n1 c1), S2.out.cel g3 1 (.slice a2 n2 c2)⟩ (fun hHeld => ?_)
    refine wpAnyH_take (i := 0) (v := .bool true) rfl (by kernel_rfl) (by kernel_rfl) (by kernel_rfl) (fun _ _ _ h => h) (Or.inl ⟨by rfl, ?_⟩) (by assumption) ?_
    · intro w hSw
      obtain ⟨g0, g1⟩ := hSw
      go_simp
    refine wpAnyH_take (i := 1) (v := .bool true) rfl (by kernel_rfl) (by kernel_rfl) (by kernel_rfl) (fun _ _ _ h => h) (Or.inl ⟨by rfl, ?_⟩) (by assumption) ?_
    · intro w hSw
      obtain ⟨g0, g1⟩ := hSw
      go_simp
    refine wpAnyH_take (i := 2) (v := .agg #[.slice a1 n1 c1, .slice a2 n2 c2]) rfl (by kernel_rfl) (by kernel_rfl) (by kernel_rfl) (fun _ _ _ h => h) (Or.inl ⟨by rfl, ?_⟩) (by assumption) ?_
    · intro w hSw
      obtain ⟨g0, g1⟩ := hSw
      go_simp
    refine wpAnyH_ready (rs := [3]) (by kernel_rfl) (by simp) ?_
    refine AllReadyH.cons rfl (fun K9 hK9 => ?_) AllReadyH.nil
    go_simp
    refine Calls.mono (rwhole_any 1048576 _ (by omega)) ?_
    rintro e w5 ⟨v5, rfl, hv5, hb5⟩
    have S3 : Hid _ := S2.out.go (bc_drew2 hb5)
    have HV5 : Hid (RRt w5 v5 1048576 1) := hv5
    have B5 : Hid (Below w2.heap.size w2 w5) := bc_drew2 hb5
    clear hv5 hb5
    refine hK9.out _ _ ⟨S3.out.cel g3 0 (.slice a1 n1 c1), S3.out.cel g3 1 (.slice a2 n2 c2)⟩ (fun hHeld => ?_)
    clear hK9 K9
    refine wpAnyH_ready (rs := [4]) (by kernel_rfl) (by simp) ?_
    refine AllReadyH.cons rfl (fun K9 hK9 => ?_) AllReadyH.nil
    go_simp
    refine Calls.mono (rcmp2_any _ _ (ffP u) (ffQ u) 1048576 1 _ (RRt.mono (w := w2) HR.out B5.out) HV5.out HRS.out.1 HRS.out.2.1 HRS.out.2.2.1 HRS.out.2.2.2 z HZ.out) ?_
    rintro e w6 ⟨rfl, hb6⟩
    have S4 : Hid _ := S3.out.go hb6
    clear hb6
    refine hK9.out _ _ ⟨S4.out.cel g3 0 (.slice a1 n1 c1), S4.out.cel g3 1 (.slice a2 n2 c2)⟩ (fun hHeld => ?_)
    clear hK9 K9
    refine wpAnyH_take (i := 5) (v := .bool R) rfl (by kernel_rfl) (by kernel_rfl) (by kernel_rfl) (fun _ _ _ h => h) (Or.inl ⟨by rfl, ?_⟩) (by assumption) ?_
    · intro w hSw
      obtain ⟨g0, g1⟩ := hSw
      go_simp
    refine wpAnyH_take (i := 6) (v := .bool R) rfl (by kernel_rfl) (by kernel_rfl) (by kernel_rfl) (fun _ _ _ h => h) (Or.inl ⟨by rfl, ?_⟩) (by assumption) ?_
    · intro w hSw
      obtain ⟨g0, g1⟩ := hSw
      go_simp
    refine wpAnyH_take (i := 7) (v := .bool R) rfl (by kernel_rfl) (by kernel_rfl) (by kernel_rfl) (fun _ _ _ h => h) (Or.inl ⟨by rfl, ?_⟩) (by assumption) ?_
    · intro w hSw
      obtain ⟨g0, g1⟩ := hSw
      go_simp
    refine wpAnyH_done (by kernel_rfl) ?_ _
    go_wp2_with fail
    go_ret
    exact ⟨rfl, S4.out.bel⟩
def onlyB (has : Bool) (lo hi n : Int) : Bool := if has then hld lo hi n else hld 0 0 n
set_option maxHeartbeats 400000 in
theorem ronly_any (has : Bool) (n lo hi : Int) (w : World) : Calls Tryz.prog 47 #[.bool has, .int .i64 n, .int .i64 lo, .int .i64 hi] w fun e w' => e = .returned (.bool (onlyB has lo hi n)) ∧ w' = w := by
  cases has
  · have HV : Hid (onlyB false lo hi n = (n == 0)) := by show _ = _; unfold onlyB; rw [if_neg (by decide), hld_zero]
    rw [HV.out]
    go_enter Tryz.func47, Tryz.ntmps47
    go_wp2_with fail
    go_ret
    exact ⟨rfl, rfl⟩
  have HV : Hid (onlyB true lo hi n = hld lo hi n) := rfl
  rw [HV.out]
  go_enter Tryz.func47, Tryz.ntmps47
  go_wp2_with fail
  refine (rout_any n lo hi _).mono ?_
  rintro e w1 ⟨rfl, hw⟩
  rw [hw]
  clear hw w1
  obtain ⟨B, hB⟩ : ∃ B, hld lo hi n = B := ⟨_, rfl⟩
  rw [hB]
  cases B
  · go_wp2_with fail
    go_ret
    exact ⟨by rw [hB]; rfl, rfl⟩
  go_wp2_with fail
  go_ret
  exact ⟨by rw [hB]; rfl, rfl⟩
def leafI (K : Int) (G : Nat → Nat → Int) (n : Nat) (pn : Int) : Int := if okAt K G n pn then kAt K G n pn else 0
set_option maxHeartbeats 1000000 in
theorem rleaf_any (K R M C Fl A : Int) (a : Option Addr) (n cap : Nat) (G : Nat → Nat → Int) (pn : Int) (w : World) (h : NSl w a n cap G) :
    Calls Tryz.prog 46 #[.agg #[.int .i64 K, .int .i64 R, .int .i64 M, .int .i64 C, .int .i64 Fl, .int .i64 A, .slice a n cap], .int .i64 pn] w fun e w' => e = .returned (.int .i64 (leafI K G n pn)) ∧ Below w.heap.size w w' := by
  have hl0 : n ≤ 9223372036854775807 := Nat.le_trans h.le h.lim
  by_cases k6 : K = 6
  · subst k6
    by_cases c0 : pn < 0
    · have r0 : decide (pn < 0) = true := decide_eq_true c0
      have HV : Hid (leafI 6 G n pn = 0) := by
        show _ = _
        have z : kO G n pn = 0 := by unfold kO; rw [if_neg (by omega)]
        unfold leafI okAt; rw [if_pos rfl, z]; rfl
      clear c0 h
      go_enter Tryz.func46, Tryz.ntmps46
      go_wp2_with fail
      go_ret
      exact ⟨by rw [HV.out]; rfl, bc_al (bel_refl w)⟩
    have r0 : decide (pn < 0) = false := decide_eq_false c0
    by_cases c1 : (n : Int) ≤ pn
    · have r1 : decide ((n : Int) ≤ pn) = true := decide_eq_true c1
      have HV : Hid (leafI 6 G n pn = 0) := by
        show _ = _
        have z : kO G n pn = 0 := by unfold kO; rw [if_neg (by omega)]
        unfold leafI okAt; rw [if_pos rfl, z]; rfl
      clear c0 c1 h
      go_enter Tryz.func46, Tryz.ntmps46
      go_wp2_with fail
      go_ret
      exact ⟨by rw [HV.out]; rfl, bc_al (bel_refl w)⟩
    obtain ⟨k, rfl⟩ : ∃ k : Nat, pn = (k : Int) := ⟨pn.toNat, by omega⟩
    have lk : k < n := by omega
    have r1 : ¬ n ≤ k := by omega
    obtain ⟨b, o, rfl, hc⟩ := h.at (by omega)
    have x0 : w.cell? ⟨b, o + k * 4, none⟩ = some (.int .i64 (G k 0)) := by simpa using hc k 0 lk (by omega)
    have lb := World.block_lt_of_cell? _ _ x0
    have e1 : kO G n (k : Int) = G k 0 := by unfold kO; rw [if_pos ⟨by omega, by omega⟩]; rfl
    obtain ⟨KP, hKP⟩ : ∃ x, G k 0 = x := ⟨_, rfl⟩
    have hv : leafI 6 G n (k : Int) = if (KP != 0 && KP != 6) = true then KP else 0 := by unfold leafI okAt kAt; rw [if_pos rfl, if_pos rfl, e1, hKP]
    rw [hKP] at x0
    clear e1 hKP hc h c0 c1
    by_cases q6 : KP = 6
    · subst q6
      have HV : Hid (leafI 6 G n (k : Int) = 0) := by show _ = _; rw [hv]; rfl
      clear hv
      go_enter Tryz.func46, Tryz.ntmps46
      go_wp2_with fail
      go_ret
      exact ⟨by rw [HV.out]; rfl, bc_al (bel_refl w)⟩
    have d6 : (KP == 6) = false := by simpa using q6
    have HV : Hid (leafI 6 G n (k : Int) = KP) := by
      show _ = _
      rw [hv]
      by_cases z : KP = 0
      · subst z; rfl
      rw [if_pos (by simp; exact ⟨z, q6⟩)]
    clear hv q6
    go_enter Tryz.func46, Tryz.ntmps46
    go_wp2_with fail
    go_ret
    exact ⟨by rw [HV.out]; rfl, bc_al (bel_refl w)⟩
  have d6 : (K == 6) = false := by simpa using k6
  have d7 : (K != 6) = true := by simpa using k6
  by_cases c0 : pn = 0
  · subst c0
    have HV : Hid (leafI K G n 0 = K) := by show _ = _; unfold leafI okAt kAt; rw [if_neg k6, if_neg k6]; rfl
    clear k6 h
    go_enter Tryz.func46, Tryz.ntmps46
    go_wp2_with fail
    go_ret
    exact ⟨by rw [HV.out]; rfl, bc_al (bel_refl w)⟩
  have e0 : (pn == 0) = false := by simpa using c0
  have HV : Hid (leafI K G n pn = 0) := by show _ = _; unfold leafI okAt; rw [if_neg k6, e0]; rfl
  clear k6 c0 h
  go_enter Tryz.func46, Tryz.ntmps46
  go_wp2_with fail
  go_ret
  exact ⟨by rw [HV.out]; rfl, bc_al (bel_refl w)⟩
set_option maxHeartbeats 4000000 in
theorem rcheckFlow_any (K R M C Fl A : Int) (a : Option Addr) (n cap : Nat) (G : Nat → Nat → Int) (pw pq pc ps pb : Int) (pr : Nat) (pp pn : Int) (w : World) (h : NSl w a n cap G) (hp : pr < 18446744073709551616) :
    Calls Tryz.prog 17 #[.agg #[.int .i64 K, .int .i64 R, .int .i64 M, .int .i64 C, .int .i64 Fl, .int .i64 A, .slice a n cap], .agg #[.int .i64 pw, .int .i64 pq, .int .i64 pc, .int .i64 ps, .int .i64 pb, .float .f64 pr, .int .i64 pp, .int .i64 pn]] w fun e w' => e = .returned (.int .i64 (flowE K R M C Fl A G n pw pq pc ps pb pr pp pn)) ∧ Below w.heap.size w w' := by
  obtain ⟨E, hE⟩ : ∃ E, flowE K R M C Fl A G n pw pq pc ps pb pr pp pn = E := ⟨_, rfl⟩
  rw [hE]
  have HE0 : Hid _ := hE
  have HN : Hid _ := h
  have HP : Hid _ := hp
  have hl : n ≤ 9223372036854775807 := Nat.le_trans h.le h.lim
  clear h hp hE
  obtain ⟨ce, hce⟩ : ∃ x, checkE K R M C Fl A G n = x := ⟨_, rfl⟩
  have HCE : Hid _ := hce
  clear hce
  go_enter Tryz.func17, Tryz.ntmps17
  go_wp2_with fail
  have S0 : Hid _ := ((ce_start w).box7 (.int .i64 K) (.int .i64 R) (.int .i64 M) (.int .i64 C) (.int .i64 Fl) (.int .i64 A) (.slice a n cap) 24 _ rfl).box8 (.int .i64 pw) (.int .i64 pq) (.int .i64 pc) (.int .i64 ps) (.int .i64 pb) (.float .f64 pr) (.int .i64 pp) (.int .i64 pn) 27 (w.heap.size + 1) (by rw [World.size_alloc])
  refine (rcheck_any K R M C Fl A a n cap G _ (HN.out.go S0.out.bel)).mono ?_
  rintro e w1 ⟨rfl, hb1⟩
  rw [HCE.out]
  obtain ⟨gp, egp⟩ : ∃ g, g = w.heap.size + 1 := ⟨_, rfl⟩
  obtain ⟨gc, egc⟩ : ∃ g, g = w.heap.size := ⟨_, rfl⟩
  have S1 : Hid _ := S0.out.go hb1
  rw [← egp, ← egc] at S1
  rw [← egp, ← egc]
  clear hb1 S0 egp egc
  by_cases c0 : ce = 0
  · subst c0
    obtain ⟨kd, hkd⟩ : ∃ x, kAt K G n pn = x := ⟨_, rfl⟩
    obtain ⟨ok, hok⟩ : ∃ x, okAt K G n pn = x := ⟨_, rfl⟩
    have hlf : leafI K G n pn = if ok = true then kd else 0 := by unfold leafI; rw [hok, hkd]
    have hk0 : ok = true → kd ≠ 0 := fun q => by
      obtain ⟨b1, _⟩ := checkE_zero HCE.out
      rw [← hkd]
      rw [← hok] at q
      unfold okAt at q
      unfold kAt
      split
      · rename_i e; rw [if_pos e] at q; simp at q; exact q.1
      omega
    have HE1 : Hid (E = flowE1 K C G n pw pq pc ps pb pr pp pn) := by show _ = _; rw [← HE0.out]; unfold flowE; rw [if_neg (by rw [HCE.out]; simp)]
    have HE2 := HE1.out
    unfold flowE1 at HE2
    rw [hok, hkd] at HE2
    have HLF : Hid _ := hlf
    have HK0 : Hid _ := hk0
    clear hkd hok hlf hk0 HE0 HE1
    obtain ⟨BW1, hBW1⟩ : ∃ b, hld 1 C pw = b := ⟨_, rfl⟩
    have BW1H : Hid (hld 1 C pw = BW1) := hBW1
    rw [hBW1] at HE2
    clear hBW1
    obtain ⟨BQ, hBQ⟩ : ∃ b, hld (fQ0 kd) (fQ1 kd) pq = b := ⟨_, rfl⟩
    have BQH : Hid (onlyB (kd == 2) 1 1073741824 pq = BQ) := by
      show _ = _
      rw [← hBQ]
      unfold onlyB fQ0 fQ1
      by_cases q : kd = 2
      · subst q; rfl
      rw [show (kd == 2) = false by simpa using q, if_neg q, if_neg q]; rfl
    rw [hBQ] at HE2
    clear hBQ
    obtain ⟨BC, hBC⟩ : ∃ b, hld 0 (fC1 kd) pc = b := ⟨_, rfl⟩
    have BCH : Hid (onlyB (kd == 4) 0 15 pc = BC) := by
      show _ = _
      rw [← hBC]
      unfold onlyB fC1
      by_cases q : kd = 4
      · subst q; rfl
      rw [show (kd == 4) = false by simpa using q, if_neg q]; rfl
    rw [hBC] at HE2
    clear hBC
    obtain ⟨BS, hBS⟩ : ∃ b, hld 0 (fS1 kd) ps = b := ⟨_, rfl⟩
    have BSH : Hid (onlyB (kd == 3) 0 1099511627776 ps = BS) := by
      show _ = _
      rw [← hBS]
      unfold onlyB fS1
      by_cases q : kd = 3
      · subst q; rfl
      rw [show (kd == 3) = false by simpa using q, if_neg q]; rfl
    rw [hBS] at HE2
    clear hBS
    obtain ⟨BB, hBB⟩ : ∃ b, hld 1 1099511627776 pb = b := ⟨_, rfl⟩
    have BBH : Hid (hld 1 1099511627776 pb = BB) := hBB
    rw [hBB] at HE2
    clear hBB
    obtain ⟨BR, hBR⟩ : ∃ b, hldF 0 4697254411347427328 pr = b := ⟨_, rfl⟩
    have BRH : Hid (hldF 0 4697254411347427328 pr = BR) := hBR
    rw [hBR] at HE2
    clear hBR
    obtain ⟨BP, hBP⟩ : ∃ b, hld 1 1073741824 pp = b := ⟨_, rfl⟩
    have BPH : Hid (hld 1 1073741824 pp = BP) := hBP
    rw [hBP] at HE2
    clear hBP
    have HE : Hid _ := HE2
    clear HE2
    have x0 := S1.out.cel gc 0 (.int .i64 K)
    have x1 := S1.out.cel gc 1 (.int .i64 R)
    have x2 := S1.out.cel gc 2 (.int .i64 M)
    have x3 := S1.out.cel gc 3 (.int .i64 C)
    have x4 := S1.out.cel gc 4 (.int .i64 Fl)
    have x5 := S1.out.cel gc 5 (.int .i64 A)
    have x6 := S1.out.cel gc 6 (.slice a n cap)
    have y0 := S1.out.cel gp 0 (.int .i64 pw)
    have y1 := S1.out.cel gp 1 (.int .i64 pq)
    have y2 := S1.out.cel gp 2 (.int .i64 pc)
    have y3 := S1.out.cel gp 3 (.int .i64 ps)
    have y4 := S1.out.cel gp 4 (.int .i64 pb)
    have y5 := S1.out.cel gp 5 (.float .f64 pr)
    have y6 := S1.out.cel gp 6 (.int .i64 pp)
    have y7 := S1.out.cel gp 7 (.int .i64 pn)
    go_wp2_with fail
    refine (rleaf_any K R M C Fl A a n cap G pn _ (HN.out.go S1.out.bel)).mono ?_
    rintro e w3 ⟨rfl, hb3⟩
    have S3 : Hid _ := S1.out.go hb3
    rw [HLF.out]
    replace x0 := bc_cell hb3 x0
    replace x1 := bc_cell hb3 x1
    replace x2 := bc_cell hb3 x2
    replace x3 := bc_cell hb3 x3
    replace x4 := bc_cell hb3 x4
    replace x5 := bc_cell hb3 x5
    replace x6 := bc_cell hb3 x6
    replace y0 := bc_cell hb3 y0
    replace y1 := bc_cell hb3 y1
    replace y2 := bc_cell hb3 y2
    replace y3 := bc_cell hb3 y3
    replace y4 := bc_cell hb3 y4
    replace y5 := bc_cell hb3 y5
    replace y6 := bc_cell hb3 y6
    replace y7 := bc_cell hb3 y7
    clear hb3 S1
    cases ok
    · rw [if_neg (by decide)]
      have HV : Hid (E = 1) := by have q := HE.out; show E = 1; rw [q]; rfl
      clear HE
      go_wp2_with fail
      go_ret
      exact ⟨by rw [HV.out]; rfl, S3.out.bel⟩
    rw [if_pos rfl]
    have dk : (kd == 0) = false := by simpa using HK0.out rfl
    go_wp2_with fail
    refine (rout_any pw 1 C _).mono ?_
    rintro e w4 ⟨rfl, hw⟩
    rw [hw, BW1H.out]
    clear hw w4
    cases BW1
    · have HV : Hid (E = 93) := by have q := HE.out; show E = 93; rw [q]; rfl
      clear HE
      go_wp2_with fail
      go_ret
      exact ⟨by rw [HV.out]; rfl, S3.out.bel⟩
    go_wp2_with fail
    refine (ronly_any (kd == 2) pq 1 1073741824 _).mono ?_
    rintro e w4 ⟨rfl, hw⟩
    rw [hw, BQH.out]
    clear hw w4
    cases BQ
    · have HV : Hid (E = 94) := by have q := HE.out; show E = 94; rw [q]; rfl
      clear HE
      go_wp2_with fail
      go_ret
      exact ⟨by rw [HV.out]; rfl, S3.out.bel⟩
    go_wp2_with fail
    refine (ronly_any (kd == 4) pc 0 15 _).mono ?_
    rintro e w4 ⟨rfl, hw⟩
    rw [hw, BCH.out]
    clear hw w4
    cases BC
    · have HV : Hid (E = 95) := by have q := HE.out; show E = 95; rw [q]; rfl
      clear HE
      go_wp2_with fail
      go_ret
      exact ⟨by rw [HV.out]; rfl, S3.out.bel⟩
    go_wp2_with fail
    refine (ronly_any (kd == 3) ps 0 1099511627776 _).mono ?_
    rintro e w4 ⟨rfl, hw⟩
    rw [hw, BSH.out]
    clear hw w4
    cases BS
    · have HV : Hid (E = 96) := by have q := HE.out; show E = 96; rw [q]; rfl
      clear HE
      go_wp2_with fail
      go_ret
      exact ⟨by rw [HV.out]; rfl, S3.out.bel⟩
    go_wp2_with fail
    refine (rout_any pb 1 1099511627776 _).mono ?_
    rintro e w4 ⟨rfl, hw⟩
    rw [hw, BBH.out]
    clear hw w4
    cases BB
    · have HV : Hid (E = 97) := by have q := HE.out; show E = 97; rw [q]; rfl
      clear HE
      go_wp2_with fail
      go_ret
      exact ⟨by rw [HV.out]; rfl, S3.out.bel⟩
    go_wp2_with fail
    refine (bits_any pr _).mono ?_
    rintro e w4 ⟨rfl, hw⟩
    rw [hw]
    clear hw w4
    go_wp2_with fail
    refine (rrate9_any pr _ HP.out).mono ?_
    rintro e w4 ⟨rfl, hb4⟩
    rw [BRH.out]
    have S4 : Hid _ := S3.out.go hb4
    replace x0 := bc_cell hb4 x0
    replace x1 := bc_cell hb4 x1
    replace x2 := bc_cell hb4 x2
    replace x3 := bc_cell hb4 x3
    replace x4 := bc_cell hb4 x4
    replace x5 := bc_cell hb4 x5
    replace x6 := bc_cell hb4 x6
    replace y0 := bc_cell hb4 y0
    replace y1 := bc_cell hb4 y1
    replace y2 := bc_cell hb4 y2
    replace y3 := bc_cell hb4 y3
    replace y4 := bc_cell hb4 y4
    replace y5 := bc_cell hb4 y5
    replace y6 := bc_cell hb4 y6
    replace y7 := bc_cell hb4 y7
    clear hb4 S3
    have S3 : Hid _ := S4.out
    clear S4
    cases BR
    · have HV : Hid (E = 98) := by have q := HE.out; show E = 98; rw [q]; rfl
      clear HE
      go_wp2_with fail
      go_ret
      exact ⟨by rw [HV.out]; rfl, S3.out.bel⟩
    go_wp2_with fail
    refine (rout_any pp 1 1073741824 _).mono ?_
    rintro e w4 ⟨rfl, hw⟩
    rw [hw, BPH.out]
    clear hw w4
    cases BP
    · have HV : Hid (E = 98) := by have q := HE.out; show E = 98; rw [q]; rfl
      clear HE
      go_wp2_with fail
      go_ret
      exact ⟨by rw [HV.out]; rfl, S3.out.bel⟩
    have HV : Hid (E = 0) := by have q := HE.out; show E = 0; rw [q]; rfl
    clear HE
    go_wp2_with fail
    go_ret
    exact ⟨by rw [HV.out]; rfl, S3.out.bel⟩
  have d0 : (ce != 0) = true := by simpa using c0
  have HV : Hid (E = ce) := by show _ = _; rw [← HE0.out]; unfold flowE; rw [HCE.out, if_pos c0]
  clear c0 HE0
  go_wp2_with fail
  go_ret
  exact ⟨by rw [HV.out]; rfl, S1.out.bel⟩
structure PIn (pw pq pc ps pb : Int) (pr : Nat) (pp pn : Int) : Prop where
  w0 : In64p pw
  w1 : In64p pq
  w2 : In64p pc
  w3 : In64p ps
  w4 : In64p pb
  u : pr < 18446744073709551616
  w5 : In64p pp
  w6 : In64p pn
end Go.Proofs.YtchomkadekikdaaGreatDoor
