/- Contracts of the program's functions, part 23: own work, joined in build order. -/
import Derived.Test.YtpeimefangpnaaaGreatDoorJ22
namespace Go.Proofs.YtpeimefangpnaaaGreatDoor
open Go.RowKit
set_option maxRecDepth 100000
set_option linter.unusedVariables false
set_option maxHeartbeats 1000000 in
theorem rparse_em (w : World) : Calls Tryz.prog 75 #[.string ⟨#[]⟩] w (RMakes2 w 0 false) := by
  go_enter Tryz.func75, Tryz.ntmps75
  go_wp2_with fail
  refine bodyPost_ret (v := .tuple #[.agg #[.slice none 0 0], .bool false]) (by simp [results, Tryz.results75, go_sem]) rfl ⟨_, rfl, rnat_zero _, bel_al (bel_refl w)⟩
theorem rparse_so (s : ByteArray) (x : Nat) (w : World) (h0 : 0 < s.size) (h1 : s.size ≤ 400) (hd : Digits s s.size) (hx : decVal s s.size = x) : Calls Tryz.prog 75 #[.string s] w (RMakes2 w x true) := by
  subst hx
  exact (rparse_any s w h0 h1).mono fun e w' h => h.1 hd
theorem rparse_no (s : ByteArray) (w : World) (h1 : s.size ≤ 400) (hd : ¬ (0 < s.size ∧ Digits s s.size)) : Calls Tryz.prog 75 #[.string s] w (RMakes2 w 0 false) := by
  by_cases h0 : 0 < s.size
  · exact (rparse_any s w h0 h1).mono fun e w' h => by
      obtain ⟨rfl, hb⟩ := h.2 (fun hh => hd ⟨h0, hh⟩)
      exact ⟨_, rfl, rnat_zero _, hb⟩
  · obtain rfl : s = ⟨#[]⟩ := size_em (by omega)
    exact rparse_em w
theorem em_app (A : ByteArray) : A ++ em = A := by
  refine ByteArray.ext ?_
  rw [ByteArray.data_append]
  show A.data ++ #[] = A.data
  simp
/-- Two fractions of one value are the same in lowest terms. -/
theorem low_same {a b c d : Nat} (hb : 0 < b) (hd : 0 < d) (h : a * d = c * b) : a / Nat.gcd a b = c / Nat.gcd c d ∧ b / Nat.gcd a b = d / Nat.gcd c d := by
  obtain ⟨n, hn⟩ : ∃ n, a < P n ∧ b < P n ∧ c < P n ∧ d < P n := by
    refine ⟨a + b + c + d, ?_⟩
    have key : ∀ x, x < P x := fun x => by
      unfold P
      exact Nat.lt_pow_self (by omega)
    exact ⟨Nat.lt_of_lt_of_le (key a) (P_le (by omega)), Nat.lt_of_lt_of_le (key b) (P_le (by omega)), Nat.lt_of_lt_of_le (key c) (P_le (by omega)), Nat.lt_of_lt_of_le (key d) (P_le (by omega))⟩
  have f1 := low_fc hb hn.1 hn.2.1
  have f2 := low_fc hd hn.2.2.1 hn.2.2.2
  have f3 : Fc (c / Nat.gcd c d) (d / Nat.gcd c d) a b n := ⟨f2.low, f2.pos, hb, by
    have v := f2.val
    refine Nat.eq_of_mul_eq_mul_right hd ?_
    calc c / Nat.gcd c d * b * d = c / Nat.gcd c d * d * b := by grind
      _ = c * (d / Nat.gcd c d) * b := by rw [v]
      _ = c * b * (d / Nat.gcd c d) := by grind
      _ = a * d * (d / Nat.gcd c d) := by rw [h]
      _ = a * (d / Nat.gcd c d) * d := by grind, f2.s1, f2.s2⟩
  exact Fc.one f1 f3
def MakesPR (w : World) (s : ByteArray) (e : Ending) (w' : World) : Prop := ∃ v, e = .returned (.tuple #[v, .int .i64 (npE s)]) ∧ RRt w' v (npP s) (npQ s) ∧ Below w.heap.size w w'
theorem np_cut {s : ByteArray} (h : cutP s = none) : npOk s = false := by unfold npOk; rw [h]; simp
/-- What the document reckons is what the program does. -/
theorem np_pow {s : ByteArray} {r : PtS} {z : Int} {A k : Nat} (hs : s.size ≤ 400) (hc : cutP s = some r) (hb : r.below.size = 0) (hz : pzI r = z) (hA : numA r = A) (hk : r.places.size = k) :
    npE s = 0 ∧ (0 < z → npP s = A * 10 ^ z.toNat / Nat.gcd (A * 10 ^ z.toNat) (10 ^ k) ∧ npQ s = 10 ^ k / Nat.gcd (A * 10 ^ z.toNat) (10 ^ k)) ∧ (¬ 0 < z → npP s = A / Nat.gcd A (10 ^ k * 10 ^ (-z).toNat) ∧ npQ s = 10 ^ k * 10 ^ (-z).toNat / Nat.gcd A (10 ^ k * 10 ^ (-z).toNat)) := by
  have hpw : pwI r = z - (k : Int) := by
    have : pwI r = pzI r - (r.places.size : Int) := rfl
    rw [this, hz, hk]
  have eN : vN r = A * 10 ^ (z - (k : Int)).toNat := by unfold vN; rw [if_pos hb, hA, hpw]
  have eD : vD r = 10 ^ (-(z - (k : Int))).toNat := by unfold vD; rw [if_pos hb, hpw]
  have hD0 : 0 < vD r := by rw [eD]; exact Nat.pow_pos (by omega)
  obtain ⟨e1, e2, e3⟩ := np_yes hs hc (by omega)
  refine ⟨e3, fun h0 => ?_, fun h0 => ?_⟩
  · rw [e1, e2]
    refine low_same hD0 (Nat.pow_pos (by omega)) ?_
    rw [eN, eD, Nat.mul_assoc, Nat.mul_assoc, ← Nat.pow_add, ← Nat.pow_add]
    congr 2
    omega
  · rw [e1, e2]
    refine low_same hD0 (Nat.mul_pos (Nat.pow_pos (by omega)) (Nat.pow_pos (by omega))) ?_
    rw [eN, eD, Nat.mul_assoc, ← Nat.pow_add, ← Nat.pow_add]
    congr 2
    omega
theorem dig_run {s : ByteArray} {i : Nat} (hi : i ≤ s.size) : Digits (s.extract i s.size) (s.extract i s.size).size ↔ runE s i = s.size := by
  constructor
  · intro h
    have h1 := runE_le hi
    rcases Nat.lt_or_ge (runE s i) s.size with hh | hh
    · exfalso
      have h2 := runE_end hi
      have h3 := runE_ge s i
      have h4 := h (runE s i - i) (by rw [size_ext (Nat.le_refl _)]; omega)
      rw [sb_extract (Nat.le_refl _) (by omega), show i + (runE s i - i) = runE s i by omega] at h4
      unfold isD at h2
      simp at h2
      have := h2 hh
      omega
    · omega
  · intro h
    have := dig_ext (s := s) hi
    rw [h] at this
    exact this
set_option maxHeartbeats 2000000 in
theorem rparse3_long (s : ByteArray) (w : World) (hs : s.size ≤ 9223372036854775807) (h4 : 400 < s.size) : Calls Tryz.prog 29 #[.string s] w (MakesPR w s) := by
  have HS0 : Hid (s.size ≤ 9223372036854775807) := hs
  have HW : Hid (npOk s = false) := by show _ = _; unfold npOk; simp; omega
  have t1 : decide (400 < (s.size : Int)) = true := decide_eq_true (by omega)
  have S0 : Hid _ := (sy_start w).box (.slice none 0 0) (.slice none 0 0) 35 _ rfl
  go_enter Tryz.func29, Tryz.ntmps29
  go_wp2_with fail
  refine (rzero2_any _).mono ?_
  rintro e w1 ⟨v1, rfl, hv1, hb1⟩
  have hv1' := hv1
  obtain ⟨a1, n1, c1, d1, m1, g1, ev1, _, _⟩ := hv1'
  subst ev1
  have HLT : Hid (w.heap.size < w1.heap.size) := (S0.out.go hb1).lt w.heap.size
  have S1 : Hid _ := ((S0.out.go hb1).addG hv1).box (.slice a1 n1 c1) (.slice d1 m1 g1) 35 _ rfl
  clear hv1 hb1 S0
  go_wp2_with fail
  obtain ⟨b, hb⟩ : ∃ b, b = w.heap.size := ⟨_, rfl⟩
  obtain ⟨c, hc⟩ : ∃ c, c = w1.heap.size := ⟨_, rfl⟩
  obtain ⟨w2, hw2⟩ : ∃ w2, w2 = w1.alloc (.cells #[.slice a1 n1 c1, .slice d1 m1 g1] 35) := ⟨_, rfl⟩
  rw [← hw2, ← hc, ← hb] at S1
  rw [← hw2, ← hc, ← hb]
  have nbc : ¬ b = c := by rw [hb, hc]; have := HLT.out; omega
  have ncb : ¬ c = b := fun e => nbc e.symm
  have HBC : Hid (b < c) := by show b < c; rw [hb, hc]; exact HLT.out
  clear hw2 hb hc
  refine (rrun_any s 0 _ (Nat.zero_le _) HS0.out).mono ?_
  rintro e wx ⟨rfl, hwx⟩
  rw [hwx]
  clear hwx wx
  have HV : Hid (npP s = 0 ∧ npQ s = 1 ∧ npE s = 30) := np_no (HW.out)
  have x0 := S1.out.cel b 0 (.slice none 0 0)
  have x1 := S1.out.cel b 1 (.slice none 0 0)
  have f0 := S1.out.fz b 0
  have f1 := S1.out.fz b 1
  have y0 := S1.out.cel c 0 (.slice a1 n1 c1)
  have y1 := S1.out.cel c 1 (.slice d1 m1 g1)
  have Z : Hid _ := rrat_put (w0 := w) (v := .slice a1 n1 c1) (u := .slice d1 m1 g1) x0 x1 (S1.out.rfr (.agg #[.slice a1 n1 c1, .slice d1 m1 g1]) 0 1) S1.out.bel (S1.out.lo b)
  go_wp2_with fail
  refine bodyPost_ret (v := .tuple #[.agg #[.slice a1 n1 c1, .slice d1 m1 g1], .int .i64 30]) (by simp [results, Tryz.results29, go_sem, x0, x1]) rfl ?_
  unfold MakesPR
  rw [HV.out.1, HV.out.2.1, HV.out.2.2]
  exact ⟨_, rfl, Z.out.1, Z.out.2⟩
theorem cut_zero {s : ByteArray} (h : runE s 0 = 0) : cutP s = none := by
  unfold cutP whoC
  rw [h, if_pos (.inl rfl)]
  unfold endC
  rw [if_neg (by omega)]
set_option maxHeartbeats 2000000 in
theorem rparse3_zero (s : ByteArray) (w : World) (hs : s.size ≤ 400) (h0 : runE s 0 = 0) : Calls Tryz.prog 29 #[.string s] w (MakesPR w s) := by
  have HS0 : Hid (s.size ≤ 9223372036854775807) := by show _ ≤ _; omega
  have n4 : ¬ 400 < s.size := by omega
  have t4 : decide (400 < (s.size : Int)) = false := decide_eq_false (by omega)
  have HW : Hid (npOk s = false) := np_cut (cut_zero h0)
  have H0 : Hid (runE s 0 = 0) := h0
  clear h0
  have S0 : Hid _ := (sy_start w).box (.slice none 0 0) (.slice none 0 0) 35 _ rfl
  go_enter Tryz.func29, Tryz.ntmps29
  go_wp2_with fail
  refine (rzero2_any _).mono ?_
  rintro e w1 ⟨v1, rfl, hv1, hb1⟩
  have hv1' := hv1
  obtain ⟨a1, n1, c1, d1, m1, g1, ev1, _, _⟩ := hv1'
  subst ev1
  have HLT : Hid (w.heap.size < w1.heap.size) := (S0.out.go hb1).lt w.heap.size
  have S1 : Hid _ := ((S0.out.go hb1).addG hv1).box (.slice a1 n1 c1) (.slice d1 m1 g1) 35 _ rfl
  clear hv1 hb1 S0
  go_wp2_with fail
  obtain ⟨b, hb⟩ : ∃ b, b = w.heap.size := ⟨_, rfl⟩
  obtain ⟨c, hc⟩ : ∃ c, c = w1.heap.size := ⟨_, rfl⟩
  obtain ⟨w2, hw2⟩ : ∃ w2, w2 = w1.alloc (.cells #[.slice a1 n1 c1, .slice d1 m1 g1] 35) := ⟨_, rfl⟩
  rw [← hw2, ← hc, ← hb] at S1
  rw [← hw2, ← hc, ← hb]
  have nbc : ¬ b = c := by rw [hb, hc]; have := HLT.out; omega
  have ncb : ¬ c = b := fun e => nbc e.symm
  have HBC : Hid (b < c) := by show b < c; rw [hb, hc]; exact HLT.out
  clear hw2 hb hc
  refine (rrun_any s 0 _ (Nat.zero_le _) HS0.out).mono ?_
  rintro e wx ⟨rfl, hwx⟩
  rw [hwx]
  clear hwx wx
  rw [H0.out]
  have HV : Hid (npP s = 0 ∧ npQ s = 1 ∧ npE s = 30) := np_no (HW.out)
  have x0 := S1.out.cel b 0 (.slice none 0 0)
  have x1 := S1.out.cel b 1 (.slice none 0 0)
  have f0 := S1.out.fz b 0
  have f1 := S1.out.fz b 1
  have y0 := S1.out.cel c 0 (.slice a1 n1 c1)
  have y1 := S1.out.cel c 1 (.slice d1 m1 g1)
  have Z : Hid _ := rrat_put (w0 := w) (v := .slice a1 n1 c1) (u := .slice d1 m1 g1) x0 x1 (S1.out.rfr (.agg #[.slice a1 n1 c1, .slice d1 m1 g1]) 0 1) S1.out.bel (S1.out.lo b)
  go_wp2_with fail
  refine bodyPost_ret (v := .tuple #[.agg #[.slice a1 n1 c1, .slice d1 m1 g1], .int .i64 30]) (by simp [results, Tryz.results29, go_sem, x0, x1]) rfl ?_
  unfold MakesPR
  rw [HV.out.1, HV.out.2.1, HV.out.2.2]
  exact ⟨_, rfl, Z.out.1, Z.out.2⟩
theorem cut_bel {s : ByteArray} {i0 : Nat} (hi : i0 = runE s 0) (h0 : ¬ i0 = 0) (h1 : i0 < s.size) (h2 : sb s i0 = 47) : cutP s = if i0 + 1 < s.size ∧ runE s (i0 + 1) = s.size then some ⟨s.extract 0 i0, s.extract (i0 + 1) s.size, em, em, false⟩ else none := by
  unfold cutP whoC
  rw [← hi, if_neg (by omega), if_pos h2]
  unfold belC endC
  have hl := runE_le (s := s) (i := i0 + 1) (by omega)
  have hg := runE_ge s (i0 + 1)
  by_cases h : runE s (i0 + 1) = s.size
  · rw [h]
    by_cases h3 : i0 + 1 < s.size
    · rw [if_pos ⟨h3, rfl⟩, if_pos ⟨h3, rfl⟩]
      rfl
    · rw [if_neg (fun hh => h3 hh.1), if_neg (fun hh => h3 hh.1)]
  · rw [if_neg (fun hh => h hh.2), if_neg (fun hh => h hh.2)]
theorem str_to (s : ByteArray) (i : Nat) (h2 : i ≤ s.size) (w : World) : (Instr.slice 9 (.string s) none (some (.int .i64 (i : Int))) none).run Tryz.prog w = .ok (.string (s.extract 0 i)) w := by
  rw [run_slice_string_to_if _ _ _ _ _ (by kernel_rfl), if_pos ⟨by omega, by omega⟩]
  rfl
theorem str_from (s : ByteArray) (i : Nat) (h2 : i ≤ s.size) (w : World) : (Instr.slice 9 (.string s) (some (.int .i64 (i : Int))) none none).run Tryz.prog w = .ok (.string (s.extract i s.size)) w := by
  rw [run_slice_string_from_if _ _ _ _ _ (by kernel_rfl), if_pos ⟨by omega, by omega⟩]
  rfl
set_option maxHeartbeats 2000000 in
theorem rparse3_bel (s : ByteArray) (w : World) (hs : s.size ≤ 400) (h0 : ¬ runE s 0 = 0) (h1 : runE s 0 < s.size) (h2 : sb s (runE s 0) = 47) : Calls Tryz.prog 29 #[.string s] w (MakesPR w s) := by
  have HS0 : Hid (s.size ≤ 9223372036854775807) := by show _ ≤ _; omega
  have HS : Hid (s.size ≤ 400) := hs
  have n4 : ¬ 400 < s.size := by omega
  have t4 : decide (400 < (s.size : Int)) = false := decide_eq_false (by omega)
  have l0 := runE_le (s := s) (i := 0) (Nat.zero_le _)
  obtain ⟨i0, hi0⟩ : ∃ i0, i0 = runE s 0 := ⟨_, rfl⟩
  rw [← hi0] at l0
  have HI : Hid (i0 = runE s 0 ∧ i0 ≤ s.size) := ⟨hi0, l0⟩
  rw [← hi0] at h0 h1 h2
  obtain ⟨o1, o2⟩ := ne_sb (x := i0) (y := 0) (by omega)
  have hc := sb_at h1
  rw [h2] at hc
  have sl := str_to s i0 l0
  have sf := str_from s (i0 + 1) (by omega)
  rw [show ((i0 + 1 : Nat) : Int) = (i0 : Int) + 1 by omega] at sf
  have HCP : Hid _ := cut_bel hi0 h0 h1 h2
  have HDA : Hid (Digits (s.extract 0 i0) (s.extract 0 i0).size ∧ (s.extract 0 i0).size = i0 ∧ 0 < i0) := by
    have d := dig_ext (s := s) (i := 0) (Nat.zero_le _)
    rw [← hi0] at d
    exact ⟨d, by rw [size_ext l0]; omega, by omega⟩
  obtain ⟨A, hA⟩ : ∃ A, A = s.extract 0 i0 := ⟨_, rfl⟩
  obtain ⟨C, hC⟩ : ∃ C, C = s.extract (i0 + 1) s.size := ⟨_, rfl⟩
  rw [← hA] at sl HCP HDA
  rw [← hC] at sf HCP
  have hCz : C.size = s.size - (i0 + 1) := by rw [hC, size_ext (Nat.le_refl _)]
  have hdr := dig_run (s := s) (i := i0 + 1) (by omega)
  rw [← hC] at hdr
  have HCC : Hid ((i0 + 1 < s.size ↔ 0 < C.size) ∧ (Digits C C.size ↔ runE s (i0 + 1) = s.size) ∧ C.size ≤ 400 ∧ i0 ≤ 400) := ⟨by omega, hdr, by omega, by omega⟩
  have i400 : i0 ≤ 400 := by omega
  obtain ⟨x, hx⟩ : ∃ x, x = decVal A A.size := ⟨_, rfl⟩
  have HX : Hid (decVal A A.size = x ∧ x < P 21) := ⟨hx.symm, by rw [hx]; exact ten400 (decVal_lt HDA.out.1) (by have := HDA.out; omega)⟩
  clear hA hC hCz hdr hi0 h2 hx
  have S0 : Hid _ := (sy_start w).box (.slice none 0 0) (.slice none 0 0) 35 _ rfl
  go_enter Tryz.func29, Tryz.ntmps29
  go_wp2_with fail
  refine (rzero2_any _).mono ?_
  rintro e w1 ⟨v1, rfl, hv1, hb1⟩
  have hv1' := hv1
  obtain ⟨a1, n1, c1, d1, m1, g1, ev1, _, _⟩ := hv1'
  subst ev1
  have HLT : Hid (w.heap.size < w1.heap.size) := (S0.out.go hb1).lt w.heap.size
  have S1 : Hid _ := ((S0.out.go hb1).addG hv1).box (.slice a1 n1 c1) (.slice d1 m1 g1) 35 _ rfl
  clear hv1 hb1 S0
  go_wp2_with fail
  obtain ⟨b, hb⟩ : ∃ b, b = w.heap.size := ⟨_, rfl⟩
  obtain ⟨c, hc⟩ : ∃ c, c = w1.heap.size := ⟨_, rfl⟩
  obtain ⟨w2, hw2⟩ : ∃ w2, w2 = w1.alloc (.cells #[.slice a1 n1 c1, .slice d1 m1 g1] 35) := ⟨_, rfl⟩
  rw [← hw2, ← hc, ← hb] at S1
  rw [← hw2, ← hc, ← hb]
  have nbc : ¬ b = c := by rw [hb, hc]; have := HLT.out; omega
  have ncb : ¬ c = b := fun e => nbc e.symm
  have HBC : Hid (b < c) := by show b < c; rw [hb, hc]; exact HLT.out
  clear hw2 hb hc
  refine (rrun_any s 0 _ (Nat.zero_le _) HS0.out).mono ?_
  rintro e wx ⟨rfl, hwx⟩
  rw [hwx]
  clear hwx wx
  rw [← HI.out.1]
  go_wp2_with fail
  refine (rparse_so A x _ (by have := HDA.out; omega) (by have := HDA.out; have := HCC.out; omega) HDA.out.1 HX.out.1).mono ?_
  rintro e w3 ⟨v3, rfl, hv3, hb3⟩
  obtain ⟨a3, n3, c3, rfl⟩ := hv3.isAgg
  have HL3 : Hid (c < w3.heap.size) := (S1.out.go hb3).lt c
  have S3 : Hid _ := ((S1.out.go hb3).addM hv3).box1 (.slice a3 n3 c3) 33 _ rfl
  clear hv3 hb3 S1
  go_wp2_with fail
  obtain ⟨g, hg⟩ : ∃ g, g = w3.heap.size := ⟨_, rfl⟩
  obtain ⟨w4, hw4⟩ : ∃ w4, w4 = w3.alloc (.cells #[.slice a3 n3 c3] 33) := ⟨_, rfl⟩
  rw [← hw4, ← hg] at S3
  rw [← hw4, ← hg]
  clear hw4 hg
  by_cases hok : 0 < C.size ∧ Digits C C.size
  · obtain ⟨y, hy⟩ : ∃ y, y = decVal C C.size := ⟨_, rfl⟩
    have HY : Hid (decVal C C.size = y ∧ y < P 21 ∧ 0 < C.size ∧ Digits C C.size) := ⟨hy.symm, by rw [hy]; exact ten400 (decVal_lt hok.2) (by have := HCC.out; omega), hok⟩
    have HCS : Hid (cutP s = some ⟨A, C, em, em, false⟩) := by show _ = _; rw [HCP.out, if_pos ⟨HCC.out.1.2 hok.1, HCC.out.2.1.1 hok.2⟩]
    clear hok hy
    refine (rparse_so C y _ HY.out.2.2.1 HCC.out.2.2.1 HY.out.2.2.2 HY.out.1).mono ?_
    rintro e w5 ⟨v5, rfl, hv5, hb5⟩
    obtain ⟨a5, n5, c5, rfl⟩ := hv5.isAgg
    have S5 : Hid _ := ((S3.out.go hb5).addM hv5).box1 (.slice a5 n5 c5) 33 _ rfl
    clear hv5 hb5 S3
    go_wp2_with fail
    obtain ⟨h, hh⟩ : ∃ h, h = w5.heap.size := ⟨_, rfl⟩
    obtain ⟨w6, hw6⟩ : ∃ w6, w6 = w5.alloc (.cells #[.slice a5 n5 c5] 33) := ⟨_, rfl⟩
    rw [← hw6, ← hh] at S5
    rw [← hw6, ← hh]
    clear hw6 hh
    refine (rzero_any _ y _ (S5.out.rat (.agg #[.slice a5 n5 c5]) y) (rfits_P HY.out.2.1 (by omega))).mono ?_
    rintro e w7 ⟨rfl, hb7⟩
    have S7 : Hid _ := S5.out.go hb7
    clear hb7 S5
    have HVD : Hid (vD ⟨A, C, em, em, false⟩ = y ∧ vN ⟨A, C, em, em, false⟩ = x) := by
      have nz : ¬ C.size = 0 := by have := HY.out.2.2.1; omega
      refine ⟨by unfold vD; simp only; rw [if_neg nz]; exact HY.out.1, ?_⟩
      unfold vN numA
      simp only
      rw [if_neg nz]
      rw [em_app]
      exact HX.out.1
    by_cases hy0 : y = 0
    · have u1 : decide (y = 0) = true := decide_eq_true hy0
      have HW : Hid (npOk s = false) := by show _ = _; unfold npOk; rw [HCS.out]; simp only; rw [HVD.out.1, hy0]; simp
      clear hy0
      have HV : Hid (npP s = 0 ∧ npQ s = 1 ∧ npE s = 30) := np_no (HW.out)
      have x0 := S7.out.cel b 0 (.slice none 0 0)
      have x1 := S7.out.cel b 1 (.slice none 0 0)
      have f0 := S7.out.fz b 0
      have f1 := S7.out.fz b 1
      have y0 := S7.out.cel c 0 (.slice a1 n1 c1)
      have y1 := S7.out.cel c 1 (.slice d1 m1 g1)
      have Z : Hid _ := rrat_put (w0 := w) (v := .slice a1 n1 c1) (u := .slice d1 m1 g1) x0 x1 (S7.out.rfr (.agg #[.slice a1 n1 c1, .slice d1 m1 g1]) 0 1) S7.out.bel (S7.out.lo b)
      go_wp2_with fail
      refine bodyPost_ret (v := .tuple #[.agg #[.slice a1 n1 c1, .slice d1 m1 g1], .int .i64 30]) (by simp [results, Tryz.results29, go_sem, x0, x1]) rfl ?_
      unfold MakesPR
      rw [HV.out.1, HV.out.2.1, HV.out.2.2]
      exact ⟨_, rfl, Z.out.1, Z.out.2⟩
    · have u1 : decide (y = 0) = false := decide_eq_false hy0
      have HVV : Hid (npP s = x / Nat.gcd x y ∧ npQ s = y / Nat.gcd x y ∧ npE s = 0) := by
        obtain ⟨e1, e2, e3⟩ := np_yes HS.out HCS.out (by rw [HVD.out.1]; exact hy0)
        rw [HVD.out.1, HVD.out.2] at e1 e2
        exact ⟨e1, e2, e3⟩
      have HY0 : Hid (0 < y) := by show _ < _; omega
      have z1 := S7.out.cel g 0 (.slice a3 n3 c3)
      have z2 := S7.out.cel h 0 (.slice a5 n5 c5)
      clear hy0
      go_wp2_with fail
      refine (rfrom2_yes _ _ x y _ (S7.out.rat (.agg #[.slice a3 n3 c3]) x) (S7.out.rat (.agg #[.slice a5 n5 c5]) y) (RS.rsome ⟨P_up HX.out.2 (by omega)⟩) (RS.rsome ⟨P_up HY.out.2.1 (by omega)⟩) HY0.out).mono ?_
      clear z1 z2
      rintro e w8 ⟨v8, rfl, hv8, hb8⟩
      have hv8' := hv8
      obtain ⟨a6, n6, c6, a7, n7, c7, ev, _, _⟩ := hv8'
      subst ev
      have S6 : Hid _ := ((S7.out.go hb8).addG hv8).go (w' := w8.alloc (.cells #[.slice a6 n6 c6, .slice a7 n7 c7] 35)) (bel_al (bel_refl _))
      have q0 : (w8.alloc (.cells #[.slice a6 n6 c6, .slice a7 n7 c7] 35)).cell? ⟨w8.heap.size, 0, none⟩ = some (.slice a6 n6 c6) := by simp [go_sem]
      have q1 : (w8.alloc (.cells #[.slice a6 n6 c6, .slice a7 n7 c7] 35)).cell? ⟨w8.heap.size, 1, none⟩ = some (.slice a7 n7 c7) := by simp [go_sem]
      clear hv8 hb8 S7
      have x0 := S6.out.cel b 0 (.slice none 0 0)
      have x1 := S6.out.cel b 1 (.slice none 0 0)
      have f0 := S6.out.fz b 0
      have f1 := S6.out.fz b 1
      have Z : Hid _ := rrat_put (w0 := w) (v := .slice a6 n6 c6) (u := .slice a7 n7 c7) x0 x1 (S6.out.rfr (.agg #[.slice a6 n6 c6, .slice a7 n7 c7]) ((x) / Nat.gcd (x) (y)) ((y) / Nat.gcd (x) (y))) S6.out.bel (S6.out.lo b)
      go_wp2_with fail
      refine bodyPost_ret (v := .tuple #[.agg #[.slice a6 n6 c6, .slice a7 n7 c7], .int .i64 0]) (by simp [results, Tryz.results29, go_sem, x0, x1]) rfl ?_
      unfold MakesPR
      rw [HVV.out.1, HVV.out.2.1, HVV.out.2.2]
      exact ⟨_, rfl, Z.out.1, Z.out.2⟩
  · have HW : Hid (npOk s = false) := np_cut (by rw [HCP.out, if_neg (fun hh => hok ⟨HCC.out.1.1 hh.1, HCC.out.2.1.2 hh.2⟩)])
    refine (rparse_no C _ HCC.out.2.2.1 hok).mono ?_
    clear hok
    rintro e w5 ⟨v5, rfl, hv5, hb5⟩
    obtain ⟨a5, n5, c5, rfl⟩ := hv5.isAgg
    have S5 : Hid _ := (S3.out.go hb5).box1 (.slice a5 n5 c5) 33 _ rfl
    clear hv5 hb5 S3
    have HV : Hid (npP s = 0 ∧ npQ s = 1 ∧ npE s = 30) := np_no (HW.out)
    have x0 := S5.out.cel b 0 (.slice none 0 0)
    have x1 := S5.out.cel b 1 (.slice none 0 0)
    have f0 := S5.out.fz b 0
    have f1 := S5.out.fz b 1
    have y0 := S5.out.cel c 0 (.slice a1 n1 c1)
    have y1 := S5.out.cel c 1 (.slice d1 m1 g1)
    have Z : Hid _ := rrat_put (w0 := w) (v := .slice a1 n1 c1) (u := .slice d1 m1 g1) x0 x1 (S5.out.rfr (.agg #[.slice a1 n1 c1, .slice d1 m1 g1]) 0 1) S5.out.bel (S5.out.lo b)
    go_wp2_with fail
    refine bodyPost_ret (v := .tuple #[.agg #[.slice a1 n1 c1, .slice d1 m1 g1], .int .i64 30]) (by simp [results, Tryz.results29, go_sem, x0, x1]) rfl ?_
    unfold MakesPR
    rw [HV.out.1, HV.out.2.1, HV.out.2.2]
    exact ⟨_, rfl, Z.out.1, Z.out.2⟩
end Go.Proofs.YtpeimefangpnaaaGreatDoor

namespace Go.Proofs.YtpeimefangpnaaaGreatDoor
open Go.RowKit
set_option maxRecDepth 100000
set_option linter.unusedVariables false
theorem rten_z (z : Int) (k : Nat) (w : World) (hz : z = (k : Int)) (hk : k ≤ 1500) : Calls Tryz.prog 77 #[.int .i64 z] w (RMakes w (10 ^ k)) := by
  rw [hz]
  exact rten_any k w hk
theorem rpower_end' (s : ByteArray) (i : Nat) (z : Int) (w : World) (hs : s.size ≤ 400) (h : i = s.size) (hz : z = 0) : Calls Tryz.prog 76 #[.string s, .int .i64 (i : Int)] w (RPw z true w) := by
  rw [h, hz]
  exact rpower_end s w hs
theorem powC_keep {s : ByteArray} {i : Nat} {P r : PtS} (h : powC s i i P = some r) : r.whole = P.whole ∧ r.places = P.places ∧ r.below = P.below := by
  unfold powC at h
  split at h
  · cases h
  · obtain ⟨rfl, _, _⟩ := endC_some h
    exact ⟨rfl, rfl, rfl⟩
theorem sgnC_keep {s : ByteArray} {i : Nat} {P r : PtS} (h : sgnC s i P = some r) : r.whole = P.whole ∧ r.places = P.places ∧ r.below = P.below := by
  unfold sgnC at h
  split at h
  · exact powC_keep (P := { P with minus := sb s i == 45 }) h
  · exact powC_keep h
theorem pz_le {r : PtS} (h : GoodP r) : -999 ≤ pzI r ∧ pzI r ≤ 999 := by
  have := decVal_3 h.dx h.sx
  unfold pzI
  split <;> omega
/-- What is left to be told. -/
structure Tl (s : ByteArray) (X : ByteArray) (A k : Nat) (z : Int) : Prop where
  x0 : 0 < X.size
  x1 : X.size ≤ 400
  xd : Digits X X.size
  xa : decVal X X.size = A
  al : A < P 21
  k4 : k ≤ 400
  z1 : -999 ≤ z
  z2 : z ≤ 999
  ne : npE s = 0
  up : 0 < z → npP s = A * 10 ^ z.toNat / Nat.gcd (A * 10 ^ z.toNat) (10 ^ k) ∧ npQ s = 10 ^ k / Nat.gcd (A * 10 ^ z.toNat) (10 ^ k)
  dn : ¬ 0 < z → npP s = A / Nat.gcd A (10 ^ k * 10 ^ (-z).toNat) ∧ npQ s = 10 ^ k * 10 ^ (-z).toNat / Nat.gcd A (10 ^ k * 10 ^ (-z).toNat)
structure PQs (P : PtS) (X : ByteArray) (A k : Nat) : Prop where
  x : X = P.whole ++ P.places
  a : decVal X X.size = A
  k : P.places.size = k
  b : P.below.size = 0
  m : P.minus = false
  z : pzI P = 0
theorem tl_of {s X : ByteArray} {A k : Nat} {z : Int} {P r : PtS} (hs : s.size ≤ 400) (hc : cutP s = some r) (hw : r.whole = P.whole ∧ r.places = P.places ∧ r.below = P.below) (hX : X = P.whole ++ P.places) (hA : decVal X X.size = A) (hk : P.places.size = k) (hb : P.below.size = 0) (hz : pzI r = z) : Tl s X A k z := by
  have g := cutP_good hs hc
  have e : numA r = A := by unfold numA; rw [hw.1, hw.2.1, ← hX]; exact hA
  obtain ⟨h1, h2, h3⟩ := np_pow (k := k) hs hc (by rw [hw.2.2]; exact hb) hz e (by rw [hw.2.1]; exact hk)
  have p := pz_le g
  rw [hz] at p
  have sz := g.sz
  have w0 := g.w0
  have dd := dig_app g.dw g.dp
  have al := g.a
  rw [e] at al
  rw [hw.1, hw.2.1] at sz dd
  rw [hw.1] at w0
  exact ⟨by rw [hX, ByteArray.size_append]; omega, by rw [hX, ByteArray.size_append]; exact sz, by rw [hX]; exact dd, hA, al, by omega, p.1, p.2, h1, h2, h3⟩
end Go.Proofs.YtpeimefangpnaaaGreatDoor

