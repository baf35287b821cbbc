/- Contracts of the program's functions, part 24: own work, joined in build order. -/
import Derived.Test.YtmiiaomdenpceaaGreatDoorJ23
import Derived.Handy
import Derived.Deep.Cut
import Derived.Laws.BitsAllLaws
import Derived.Shelf.Strings.Repeat
import Derived.Test.YtmiiaomdenpceaaGreatDoorProg
namespace Go.Proofs.YtmiiaomdenpceaaGreatDoor
open Go.RowKit
set_option maxRecDepth 100000
set_option linter.unusedVariables false
theorem at_lt {p q : Nat} {f e : Int} (h : At p q f) (hq : 0 < q) : upN p e / dnN q e < 9007199254740992 ↔ f - 52 ≤ e := by
  rw [Nat.div_lt_iff_lt_mul (dnN_pos hq e)]
  constructor
  · intro hlt
    rcases Int.lt_or_le e (f - 52) with g | g
    · exfalso
      obtain ⟨k, hk⟩ : ∃ k : Nat, f = e + k := ⟨(f - e).toNat, by omega⟩
      have a1 := (unit_le (p := p) hq e k 1).1 (by rw [← hk, Nat.one_mul]; exact h.1)
      rw [Nat.one_mul] at a1
      have a2 : (2 : Nat) ^ 53 ≤ 2 ^ k := Nat.pow_le_pow_right (by omega) (by omega)
      have a3 := Nat.mul_le_mul_right (dnN q e) a2
      omega
    · exact g
  · intro hle
    rcases Int.lt_or_le f e with g | g
    · obtain ⟨k, hk⟩ : ∃ k : Nat, e = f + k := ⟨(e - f).toNat, by omega⟩
      rw [hk]
      refine (unit_lt (p := p) hq f k 9007199254740992).2 ?_
      have a2 : 1 ≤ 2 ^ k := Nat.one_le_two_pow
      have a3 := Nat.mul_le_mul_right (dnN q f) (Nat.mul_le_mul_left 9007199254740992 a2)
      have a4 := h.2
      omega
    · obtain ⟨k, hk⟩ : ∃ k : Nat, f = e + k := ⟨(f - e).toNat, by omega⟩
      have a1 := (unit_lt (p := p) hq e k 2).1 (by rw [← hk]; exact h.2)
      have a2 : (2 : Nat) ^ k ≤ 2 ^ 52 := Nat.pow_le_pow_right (by omega) (by omega)
      have a3 := Nat.mul_le_mul_right (dnN q e) (Nat.mul_le_mul_left 2 a2)
      omega
theorem bitLen_53 {x : Nat} : x < 9007199254740992 ↔ bitLen x ≤ 53 := by
  constructor
  · intro hx
    exact bitLen_le_of (m := 53) (by omega)
  · intro hx
    have a1 : (2 : Nat) ^ bitLen x ≤ 2 ^ 53 := Nat.pow_le_pow_right (by omega) hx
    have := bitLen_lt x
    omega
/-- What ToFloat answers, by the unit and the count. -/
structure Doc (p q : Nat) (u : Int) (ct : Nat) : Prop where
  top : ct = 9007199254740992 → (970 < u → tfV p q = 0 ∧ tfOk p q = false) ∧ (u ≤ 970 → tfV p q = (u + 1076).toNat * 4503599627370496 ∧ tfOk p q = true)
  far : ct < 9007199254740992 → 971 < u → tfV p q = 0 ∧ tfOk p q = false
  low : ct < 4503599627370496 → u ≤ 971 → tfV p q = ct ∧ tfOk p q = true
  mid : ct < 9007199254740992 → 4503599627370496 ≤ ct → u ≤ 971 → tfV p q = (u + 1074).toNat * 4503599627370496 + ct ∧ tfOk p q = true
  le : ct ≤ 9007199254740992
theorem doc_of {p q : Nat} (hp : 0 < p) (hq : 0 < q) {u : Int} {ct : Nat} (hu : u = unI (flI p q (szI p q))) (hc : ct = ctN p q u) : Doc p q u ct := by
  have hA := sz_at hp hq
  have h1 := hA.ct hq
  have h2 : unI (flI p q (szI p q)) = flI p q (szI p q) - 52 → 4503599627370496 ≤ ctN p q (unI (flI p q (szI p q))) := hA.ct_ge hq
  have hb : tfB p q = (u + 1074).toNat * 4503599627370496 + ct := by unfold tfB bitsAt; rw [← hu, ← hc]
  have hlo : -1074 ≤ u ∧ (u = -1074 ∨ u = flI p q (szI p q) - 52) := by rw [hu]; unfold unI; split <;> omega
  rw [← hu, ← hc] at h1 h2
  have h3 : -1074 < u → 4503599627370496 ≤ ct := fun h => h2 (by omega)
  have yes : tfB p q < 9218868437227405312 → tfV p q = tfB p q ∧ tfOk p q = true := fun h => tf_in hp h
  have no : ¬ tfB p q < 9218868437227405312 → tfV p q = 0 ∧ tfOk p q = false := fun h => tf_over hp h
  refine ⟨fun h => ⟨fun g => no (by omega), fun g => ?_⟩, fun h g => no (by have := h3 (by omega); omega), fun h g => ?_, fun h k g => ?_, h1⟩
  · have := yes (by omega)
    rw [this.1, hb]
    exact ⟨by omega, this.2⟩
  · have e : u = -1074 := by
      rcases Int.lt_or_le (-1074) u with x | x
      · have := h3 x
        omega
      · omega
    have := yes (by rw [hb, e]; simp; omega)
    rw [this.1, hb, e]
    exact ⟨by simp, this.2⟩
  · have := yes (by omega)
    rw [this.1, hb]
    exact ⟨rfl, this.2⟩
theorem doc_rules {u1 : Int} {y y1 B1 ct d B : Nat} (hy : y = (u1 + 1074).toNat) (hy1 : y1 = y + 1) (hB1 : B1 = y1 * 4503599627370496) (hd : d = ct - 4503599627370496) (hB : B = B1 + d) (h1 : -1074 ≤ u1) (h2 : u1 ≤ 971) (h3 : 4503599627370496 ≤ ct) (h4 : ct ≤ 9007199254740992) :
    wrap64 (u1 + 1074) = (y : Int) ∧ wrap64 (u1 - -1074) = (y : Int) ∧ wrap64 ((y : Int) + 1) = (y1 : Int) ∧ IntKind.u64.wrap (y1 : Int) = (y1 : Int) ∧ IntKind.u64.wrap ((y1 : Int) * 4503599627370496) = (B1 : Int) ∧ IntKind.u64.wrap ((ct : Int) - 4503599627370496) = (d : Int) ∧ IntKind.u64.wrap ((B1 : Int) + (d : Int)) = (B : Int) ∧ IntKind.u64.wrap (B : Int) = (B : Int) :=
  ⟨by rw [IntWalk.wrap64_in _ ⟨by omega, by omega⟩]; omega, by rw [IntWalk.wrap64_in _ ⟨by omega, by omega⟩]; omega, by rw [IntWalk.wrap64_in _ ⟨by omega, by omega⟩]; omega, by rw [IntKind.wrap_u64]; omega, by rw [IntKind.wrap_u64]; omega, by rw [IntKind.wrap_u64]; omega, by rw [IntKind.wrap_u64]; omega, by rw [IntKind.wrap_u64]; omega⟩
theorem at_cases {U N : Nat} (hN : 0 < N) : (atH U N = 1 ∧ upB U N = true) ∨ (atH U N = 0 ∧ upB U N = decide (U / N % 2 = 1)) ∨ (atH U N = -1 ∧ upB U N = false) ∨ (atH U N = -2 ∧ upB U N = false) := by
  unfold atH upB
  by_cases h0 : U % N = 0
  · rw [if_pos h0]
    refine .inr (.inr (.inr ⟨rfl, ?_⟩))
    rw [decide_eq_false (by omega), decide_eq_false (by omega)]
    rfl
  · rw [if_neg h0]
    rcases Nat.lt_trichotomy (U % N * 2) N with h | h | h
    · refine .inr (.inr (.inl ⟨cmpI_lt h, ?_⟩))
      rw [decide_eq_false (by omega), decide_eq_false (by omega)]
      rfl
    · refine .inr (.inl ⟨cmpI_zero.2 h, ?_⟩)
      rw [decide_eq_false (by omega), decide_eq_true (by omega)]
      rfl
    · refine .inl ⟨cmpI_gt h, ?_⟩
      rw [decide_eq_true (by omega)]
      rfl
set_option maxHeartbeats 1000000 in
theorem rtoFloat_any (v : Value) (p q : Nat) (w : World) (h : RRt w v p q) (hp : RS p) (hq : RS q) (hq0 : 0 < q) :
    Calls Tryz.prog 10 #[v] w fun e w' => e = .returned (.tuple #[.int .u64 ((tfV p q : Nat) : Int), .bool (tfOk p q)]) ∧ Below w.heap.size w w' := by
  have h' := h
  obtain ⟨a1, n1, c1, a2, n2, c2, ev, hP, hQ⟩ := h'
  subst ev
  have HH : Hid (RS p ∧ RS q ∧ 0 < q) := ⟨hp, hq, hq0⟩
  have S1 : Hid _ := ((((sy_start w).addG h).addM hP).addM hQ).box (.slice a1 n1 c1) (.slice a2 n2 c2) 32 _ rfl
  clear hP hQ hp hq hq0 h
  by_cases h0 : p = 0
  · have HV : Hid (tfV p q = 0 ∧ tfOk p q = true) := by constructor <;> simp [tfV, tfOk, h0]
    have HS : Hid _ := rsign2_any (.agg #[.slice a1 n1 c1, .slice a2 n2 c2]) p q
    go_enter Tryz.func10, Tryz.ntmps10
    go_wp2_with fail
    refine (rsign2_any _ p q _ (S1.out.rfr (.agg #[.slice a1 n1 c1, .slice a2 n2 c2]) p q) HH.out.1.rfits 0 (by rw [if_pos h0])).mono ?_
    rintro e w2 ⟨rfl, hb⟩
    have HB : Hid (Below w.heap.size w w2) := (S1.out.go hb).bel
    clear hb S1 HS
    go_wp2_with fail
    exact bodyPost_ret (v := .tuple #[.int .u64 0, .bool true]) (by simp [results, Tryz.results10, go_sem]) rfl ⟨by rw [HV.out.1, HV.out.2]; rfl, HB.out⟩
  · have hp0 : 0 < p := by omega
    obtain ⟨f, hf⟩ : ∃ f : Int, f = flI p q (szI p q) := ⟨_, rfl⟩
    obtain ⟨u, hu⟩ : ∃ u : Int, u = unI f := ⟨_, rfl⟩
    obtain ⟨ct, hct⟩ : ∃ ct, ct = ctN p q u := ⟨_, rfl⟩
    have hA := sz_at hp0 HH.out.2.2
    rw [← hf] at hA
    obtain ⟨e0, he0⟩ : ∃ e0 : Int, e0 = if szI p q - 54 < -1074 then -1074 else szI p q - 54 := ⟨_, rfl⟩
    have lp : bitLen p ≤ 5760 := by have := bitLen_P HH.out.1.lt; omega
    have lq : bitLen q ≤ 5760 := by have := bitLen_P HH.out.2.1.lt; omega
    have fl := flI_le p q (szI p q)
    rw [← hf] at fl
    have hsz : szI p q = (bitLen p : Int) - (bitLen q : Int) := rfl
    have hbd : -1074 ≤ e0 ∧ e0 ≤ u ∧ u ≤ 5710 := by rw [he0, hu]; unfold unI; split <;> split <;> omega
    have HU : Hid (-1074 ≤ u ∧ u ≤ 5710) := ⟨by omega, hbd.2.2⟩
    have HL : Hid (∀ e : Int, -1074 ≤ e → e ≤ u → (bitLen (upN p e / dnN q e) ≤ 53 ↔ u ≤ e)) := fun e h1 h2 => by
      rw [← bitLen_53, at_lt hA HH.out.2.2, hu]
      unfold unI at hu ⊢
      split <;> omega
    have DC : Hid (Doc p q u ct) := doc_of hp0 HH.out.2.2 (by rw [hu, hf]) hct
    have pN : 0 < dnN q u := dnN_pos HH.out.2.2 u
    obtain ⟨UB, hUB⟩ : ∃ UB, upB (upN p u) (dnN q u) = UB := ⟨_, rfl⟩
    have AC : Hid _ := at_cases (U := upN p u) pN
    rw [hUB] at AC
    have HN : Hid (ct = if UB then upN p u / dnN q u + 1 else upN p u / dnN q u) := by show _ = _; rw [hct, ctN, near_up, hUB]
    have RF : Hid (∀ e : Int, -1074 ≤ e → e ≤ 5710 → RFits (upN p e / dnN q e)) := fun e h1 h2 => rfits_P (n := 180) (Nat.lt_of_le_of_lt (Nat.div_le_self _ _) (up_P (n := 90) (m := 90) HH.out.1.lt (by omega) (by omega))) (by omega)
    have b1 : IntKind.i64.wrap ((bitLen p : Int) - (bitLen q : Int)) = szI p q := by rw [IntKind.wrap_i64]; omega
    obtain ⟨sz, esz⟩ : ∃ sz, szI p q = sz := ⟨_, rfl⟩
    rw [esz] at b1 he0 hsz
    obtain ⟨s4, es4⟩ : ∃ s4, s4 = sz - 54 := ⟨_, rfl⟩
    have b2 : IntKind.i64.wrap (sz - 54) = s4 := by rw [IntKind.wrap_i64]; omega
    rw [← es4] at he0
    have b3 : (if s4 < -1074 then (-1074 : Int) else s4) = e0 := he0.symm
    have b4 : max s4 (-1074) = e0 := by rw [he0]; split <;> omega
    have HE : Hid (-1074 ≤ e0 ∧ e0 ≤ u) := ⟨hbd.1, hbd.2.1⟩
    have XA : Hid (∀ v w (e : Int), RRt w v p q → -1074 ≤ e → e ≤ 5710 → Calls Tryz.prog 50 #[v, .int .i64 e] w (MakesA w (upN p e / dnN q e) (atH (upN p e) (dnN q e)))) := fun v w e h h1 h2 => rat3_any v p q e w h HH.out.1 HH.out.2.1 HH.out.2.2 (by omega) (by omega)
    have H1 : Hid (¬ p = 0) := h0
    clear hp0 hf hu hct hA he0 lp lq fl hbd pN hUB hsz es4 esz h0
    go_enter Tryz.func10, Tryz.ntmps10
    go_wp2_with fail
    refine (rsign2_any _ p q _ (S1.out.rfr (.agg #[.slice a1 n1 c1, .slice a2 n2 c2]) p q) HH.out.1.rfits 1 (by rw [if_neg H1.out])).mono ?_
    rintro e w2 ⟨rfl, hb⟩
    have S2 : Hid _ := S1.out.go hb
    clear hb S1 H1
    obtain ⟨g, eg⟩ : ∃ g, g = w.heap.size := ⟨_, rfl⟩
    rw [← eg] at S2
    rw [← eg]
    have GW : Hid (g < w2.heap.size) := S2.out.lt g
    clear eg
    go_wp2_with fail
    refine wp_region_inv (JB w2 [sEq (.pointer (some ⟨g, 0, none⟩)), sR (p), sEq (.int .i64 ((bitLen p : Nat) : Int)), sEq (.pointer (some ⟨g, 1, none⟩)), sR (q), sEq (.int .i64 ((bitLen q : Nat) : Int)), sEq (.int .i64 sz), sEq (.int .i64 s4), sEq (.int .i64 e0), sEq (.int .i64 e0)] []) 73 (by kernel_rfl) rfl (by kernel_rfl) (JB.start _ _ _) (fun HG HN => ⟨?_, ?_, ?_, ?_, ?_, ?_, ?_, ?_, ?_, ?_, trivial⟩) ?_
    · intro L vs a w' hJ hF hP hL
      have q1 : (a.tmps[1]?).getD undef = .pointer (some ⟨g, 0, none⟩) := hF.old 1 rfl
      exact run_val (v := .pointer (some ⟨g, 0, none⟩)) rfl (by simp [execOp, go_sem, q1]) ⟨_, rfl, hJ.step hL rfl (Below.refl _ _) (by exact rfl)⟩
    · intro L vs a w' hJ hF hP hL
      have p0 : L 0 = true := hP ⟨0, .data⟩ (by simp) rfl
      have s0 : vs 0 = .pointer (some ⟨g, 0, none⟩) := hJ.sp 0 p0
      have q12 := hF.slot 0 12 rfl p0
      have cb := cell_later hJ.bel (S2.out.cel (g) 0 (.slice a1 n1 c1))
      exact run_val (v := .agg #[.slice a1 n1 c1]) rfl (by simp [execOp, go_sem, q12, s0, cb]) ⟨_, rfl, hJ.step hL rfl (Below.refl _ _) (by exact ((S2.out.rat (.agg #[.slice a1 n1 c1]) (p)).mono hJ.bel))⟩
    · intro L vs a w' hJ hF hP hL
      have p1 : L 1 = true := hP ⟨1, .data⟩ (by simp) rfl
      have s1 : RNat w' (vs 1) (p) := hJ.sp 1 p1
      have q13 := hF.slot 1 13 rfl p1
      refine run_call (f := 49) (args := #[vs 1]) rfl (by simp [go_sem, q13]) (rlen_any _ p _ s1 HH.out.1.rfits) ?_
      rintro e w2 ⟨rfl, hb⟩
      exact ⟨_, rfl, _, rfl, hJ.step hL rfl hb (by exact rfl)⟩
    · intro L vs a w' hJ hF hP hL
      have q1 : (a.tmps[1]?).getD undef = .pointer (some ⟨g, 0, none⟩) := hF.old 1 rfl
      exact run_val (v := .pointer (some ⟨g, 1, none⟩)) rfl (by simp [execOp, go_sem, q1]) ⟨_, rfl, hJ.step hL rfl (Below.refl _ _) (by exact rfl)⟩
    · intro L vs a w' hJ hF hP hL
      have p3 : L 3 = true := hP ⟨3, .data⟩ (by simp) rfl
      have s3 : vs 3 = .pointer (some ⟨g, 1, none⟩) := hJ.sp 3 p3
      have q15 := hF.slot 3 15 rfl p3
      have cb := cell_later hJ.bel (S2.out.cel (g) 1 (.slice a2 n2 c2))
      exact run_val (v := .agg #[.slice a2 n2 c2]) rfl (by simp [execOp, go_sem, q15, s3, cb]) ⟨_, rfl, hJ.step hL rfl (Below.refl _ _) (by exact ((S2.out.rat (.agg #[.slice a2 n2 c2]) (q)).mono hJ.bel))⟩
    · intro L vs a w' hJ hF hP hL
      have p4 : L 4 = true := hP ⟨4, .data⟩ (by simp) rfl
      have s4 : RNat w' (vs 4) (q) := hJ.sp 4 p4
      have q16 := hF.slot 4 16 rfl p4
      refine run_call (f := 49) (args := #[vs 4]) rfl (by simp [go_sem, q16]) (rlen_any _ q _ s4 HH.out.2.1.rfits) ?_
      rintro e w2 ⟨rfl, hb⟩
      exact ⟨_, rfl, _, rfl, hJ.step hL rfl hb (by exact rfl)⟩
    · intro L vs a w' hJ hF hP hL
      have p2 : L 2 = true := hP ⟨2, .data⟩ (by simp) rfl
      have s2 : vs 2 = .int .i64 ((bitLen p : Nat) : Int) := hJ.sp 2 p2
      have q14 := hF.slot 2 14 rfl p2
      have p5 : L 5 = true := hP ⟨5, .data⟩ (by simp) rfl
      have s5 : vs 5 = .int .i64 ((bitLen q : Nat) : Int) := hJ.sp 5 p5
      have q17 := hF.slot 5 17 rfl p5
      exact run_val (v := .int .i64 sz) rfl (by simp [execOp, go_sem, q14, s2, q17, s5, b1]) ⟨_, rfl, hJ.step hL rfl (Below.refl _ _) (by exact rfl)⟩
    · intro L vs a w' hJ hF hP hL
      have p6 : L 6 = true := hP ⟨6, .data⟩ (by simp) rfl
      have s6 : vs 6 = .int .i64 sz := hJ.sp 6 p6
      have q18 := hF.slot 6 18 rfl p6
      exact run_val (v := .int .i64 s4) rfl (by simp [execOp, go_sem, q18, s6, b2]) ⟨_, rfl, hJ.step hL rfl (Below.refl _ _) (by exact rfl)⟩
    · intro L vs a w' hJ hF hP hL
      have p7 : L 7 = true := hP ⟨7, .data⟩ (by simp) rfl
      have s7 : vs 7 = .int .i64 s4 := hJ.sp 7 p7
      have q19 := hF.slot 7 19 rfl p7
      exact run_val (v := .int .i64 e0) rfl (by simp [go_sem, q19, s7]; first | exact b3 | exact b4) ⟨_, rfl, hJ.step hL rfl (Below.refl _ _) (by exact rfl)⟩
    · intro L vs a w' hJ hF hP hL
      have p8 : L 8 = true := hP ⟨8, .data⟩ (by simp) rfl
      have s8 : vs 8 = .int .i64 e0 := hJ.sp 8 p8
      have q20 := hF.slot 8 20 rfl p8
      exact run_val (v := .int .i64 e0) rfl (by simp [execOp, go_sem, q20, s8]) ⟨_, rfl, hJ.step hL rfl (Below.refl _ _) (by exact rfl)⟩
    intro L vs w' hA hJ
    have s9 : vs 9 = .int .i64 e0 := hJ.sp 9 (hA 9 (by simp))
    simp only [putL, Act.put, List.setIfInBounds_toArray, List.set_cons_zero, List.set_cons_succ, Nat.reduceAdd]
    simp only [s9]
    obtain ⟨w3, ew⟩ : ∃ w3, w3 = w' := ⟨_, rfl⟩
    have S3 : Hid _ := S2.out.go hJ.bel
    rw [← ew] at S3
    rw [← ew]
    clear ew s9 hJ hA S2 b1 b2 b3 b4 GW
    have x0 := S3.out.cel g 0 (.slice a1 n1 c1)
    have x1 := S3.out.cel g 1 (.slice a2 n2 c2)
    go_wp2_with fail
    refine (XA.out _ _ e0 (S3.out.rfr (.agg #[.slice a1 n1 c1, .slice a2 n2 c2]) p q) HE.out.1 (by have := HE.out; have := HU.out; omega)).mono ?_
    rintro e w4 ⟨v4, rfl, hv, hb⟩
    obtain ⟨am, nm, cm, rfl⟩ := hv.isAgg
    have S4 : Hid _ := ((S3.out.go hb).addM hv).box1 (.slice am nm cm) 30 _ rfl
    have GW : Hid (g < w4.heap.size) := (S3.out.go hb).lt g
    clear hv hb S3 x0 x1
    go_wp2_with fail
    obtain ⟨bm, eb⟩ : ∃ bm, bm = w4.heap.size := ⟨_, rfl⟩
    obtain ⟨w5, ew⟩ : ∃ w5, w5 = w4.alloc (.cells #[.slice am nm cm] 30) := ⟨_, rfl⟩
    rw [← ew, ← eb] at S4
    rw [← ew, ← eb]
    have NE : Hid (¬ g = bm) := by rw [eb]; have := GW.out; show ¬ _; omega
    clear ew eb GW
    have SA : Hid (SY w w5 [] [(.agg #[.slice am nm cm], upN p e0 / dnN q e0)] [] [(.agg #[.slice a1 n1 c1, .slice a2 n2 c2], p, q)] [(bm, 0, .slice am nm cm), (g, 0, .slice a1 n1 c1), (g, 1, .slice a2 n2 c2)] [bm]) := S4.out.sub _ _ _ _ _ _ (by simp) (by simp) (by simp) (by simp) (by simp) (by simp)
    clear S4
    go_loopw [4, 6] (fun t4 t6 wr => ∃ (e : Int) (am : Option Addr) (nm cm : Nat), t4 = .int .i64 e ∧ t6 = .int .i64 (atH (upN p e) (dnN q e)) ∧ -1074 ≤ e ∧ e ≤ u ∧ SY w wr [] [(.agg #[.slice am nm cm], upN p e / dnN q e)] [] [(.agg #[.slice a1 n1 c1, .slice a2 n2 c2], p, q)] [(bm, 0, .slice am nm cm), (g, 0, .slice a1 n1 c1), (g, 1, .slice a2 n2 c2)] [bm]) (fun t4 _ _ => (u - intOf t4).toNat)
    case atStart => exact ⟨e0, _, _, _, rfl, rfl, HE.out.1, HE.out.2, SA.out⟩
    case round =>
      clear SA
      obtain ⟨e, am, nm, cm, rfl, rfl, h1, h2, hS⟩ := hrel
      have SI : Hid _ := hS
      clear hS
      have x0 := SI.out.cel g 0 (.slice a1 n1 c1)
      have x1 := SI.out.cel g 1 (.slice a2 n2 c2)
      have x2 := SI.out.cel bm 0 (.slice am nm cm)
      have f2 := SI.out.fz bm 0
      obtain ⟨Q, hQ⟩ : ∃ Q, upN p e / dnN q e = Q := ⟨_, rfl⟩
      have HQ : Hid (upN p e / dnN q e = Q) := hQ
      have hL := HL.out e h1 h2
      have HF : Hid (RFits Q) := by rw [← hQ]; exact RF.out e h1 (by have := HU.out; omega)
      rw [hQ] at hL SI
      have HR : Hid (-1074 ≤ e ∧ e ≤ u) := ⟨h1, h2⟩
      clear hQ
      go_wp2_with fail
      refine (rlen_any _ Q _ (SI.out.rat (.agg #[.slice am nm cm]) Q) HF.out).mono ?_
      rintro e9 w6 ⟨rfl, hb⟩
      have SJ : Hid _ := SI.out.go hb
      obtain ⟨L, hl⟩ : ∃ L, bitLen Q = L := ⟨_, rfl⟩
      rw [hl] at hL
      rw [hl]
      clear hb SI hl x0 x1 x2 f2
      have x0 := SJ.out.cel g 0 (.slice a1 n1 c1)
      have x1 := SJ.out.cel g 1 (.slice a2 n2 c2)
      have x2 := SJ.out.cel bm 0 (.slice am nm cm)
      have f2 := SJ.out.fz bm 0
      by_cases h0 : e < u
      · have l1 : 53 < L := by have := hL.1; omega
        obtain ⟨e1, he1⟩ : ∃ e1 : Int, e1 = e + 1 := ⟨_, rfl⟩
        have w1 : wrap64 (e + 1) = e1 := by rw [IntWalk.wrap64_in _ ⟨by omega, by have := HU.out; omega⟩, he1]
        have H2 : Hid (e1 = e + 1 ∧ -1074 ≤ e1 ∧ e1 ≤ u ∧ e < u) := ⟨he1, by omega, by omega, h0⟩
        clear hL h0 he1 h1 h2
        go_wp2_with fail
        refine (XA.out _ _ e1 (SJ.out.rfr (.agg #[.slice a1 n1 c1, .slice a2 n2 c2]) p q) H2.out.2.1 (by have := H2.out; have := HU.out; omega)).mono ?_
        rintro e9 w7 ⟨v7, rfl, hv, hb⟩
        obtain ⟨a7, n7, c7, rfl⟩ := hv.isAgg
        have SK : Hid _ := (SJ.out.go hb).addM hv
        clear hv hb SJ x0 x1 x2 f2
        have x2 := SK.out.cel bm 0 (.slice am nm cm)
        have f2 := SK.out.fz bm 0
        have SM : Hid _ := ((SK.out.set (b := bm) (i := 0) x2 (SK.out.lo bm) [(g, 0, .slice a1 n1 c1), (g, 1, .slice a2 n2 c2)] (by have := NE.out; simp; exact this) (.slice a7 n7 c7)).addC (b := bm) (i := 0) (v := .slice a7 n7 c7) (by simp [go_sem, x2])).sub [] [(.agg #[.slice a7 n7 c7], upN p e1 / dnN q e1)] [] [(.agg #[.slice a1 n1 c1, .slice a2 n2 c2], p, q)] [(bm, 0, .slice a7 n7 c7), (g, 0, .slice a1 n1 c1), (g, 1, .slice a2 n2 c2)] [bm] (by simp) (by simp) (by simp) (by simp) (by simp) (by simp)
        go_wp2_with fail
        go_roundw
        case rel => exact ⟨e1, _, _, _, rfl, rfl, H2.out.2.1, H2.out.2.2.1, SM.out⟩
        case measure =>
          have := H2.out
          have := HR.out
          simp [intOf]
          omega
      · obtain rfl : e = u := by omega
        have l1 : ¬ 53 < L := by have := hL.2 (by omega); omega
        clear hL h0 h1 h2 x0 x1
        go_wp2_with fail
        refine (ruint_yes _ Q _ (SJ.out.rat (.agg #[.slice am nm cm]) Q) (by
          have := (bitLen_53 (x := upN p e / dnN q e)).2 ((HL.out e HR.out.1 (by omega)).2 (by omega))
          rw [HQ.out] at this
          omega)).mono ?_
        rintro e9 w7 ⟨rfl, hb⟩
        have HB : Hid (Below w.heap.size w w7) := (SJ.out.go hb).bel
        have HQ2 : Hid (Q < 9007199254740992) := by
          have := (bitLen_53 (x := upN p e / dnN q e)).2 ((HL.out e HR.out.1 (by omega)).2 (by omega))
          rw [HQ.out] at this
          exact this
        clear hb SJ x2 f2
        obtain ⟨H0, hH0⟩ : ∃ H0, atH (upN p e) (dnN q e) = H0 := ⟨_, rfl⟩
        rw [hH0] at AC
        rw [HQ.out] at AC HN
        rw [hH0]
        clear hH0
        obtain ⟨u, eu⟩ : ∃ u : Int, u = e := ⟨_, rfl⟩
        rw [← eu] at DC HU
        rw [← eu]
        clear eu
        go_upto_region 9 with fail
        go_cut [53] from 43 to 53 (fun s53 wx => wx = w7 ∧ s53 = .bool UB)
        case first =>
          rcases AC.out with ⟨rfl, rfl⟩ | ⟨rfl, hU⟩ | ⟨rfl, rfl⟩ | ⟨rfl, rfl⟩
          · go_wp2_with fail
            go_meet
            exact ⟨rfl, rfl⟩
          · by_cases hodd : Q % 2 = 1
            · rw [decide_eq_true hodd] at hU
              have o1 : (Q : Int) % 2 = 1 := by omega
              have o2 : (Q : Int).tmod 2 = 1 := by rw [Int.tmod_eq_emod_of_nonneg (by omega)]; exact o1
              subst hU
              go_wp2_with fail
              go_meet
              exact ⟨rfl, rfl⟩
            · rw [decide_eq_false hodd] at hU
              have o1 : (Q : Int) % 2 = 0 := by omega
              have o2 : (Q : Int).tmod 2 = 0 := by rw [Int.tmod_eq_emod_of_nonneg (by omega)]; exact o1
              subst hU
              go_wp2_with fail
              go_meet
              exact ⟨rfl, rfl⟩
          · go_wp2_with fail
            go_meet
            exact ⟨rfl, rfl⟩
          · go_wp2_with fail
            go_meet
            exact ⟨rfl, rfl⟩
        case rest =>
          obtain ⟨hw, rfl⟩ := hcut
          have HB : Hid (Below w.heap.size w wc) := by rw [hw]; exact HB
          clear hw
          cases UB
          · have HE2 : Hid (ct = Q) := HN.out
            rw [← HE2.out]
            clear HE2
            by_cases c1 : ct = 9007199254740992
            · obtain ⟨d1, d2⟩ := DC.out.top c1
              subst c1
              obtain ⟨u1, hu1⟩ : ∃ u1 : Int, u1 = u + 1 := ⟨_, rfl⟩
              have X1 : Hid (wrap64 (u + 1) = u1) := by show _ = _; rw [IntWalk.wrap64_in _ ⟨by have := HU.out; omega, by have := HU.out; omega⟩, hu1]
              by_cases c2 : 970 < u
              · have HV : Hid _ := d1 c2
                have t5 : decide (971 < u1) = true := decide_eq_true (by omega)
                clear c2 d1 d2 hu1
                have x1 := X1.out
                go_wp2_with fail
                exact bodyPost_ret (v := .tuple #[.int .u64 0, .bool false]) (by simp [results, Tryz.results10, go_sem]) rfl ⟨by rw [HV.out.1, HV.out.2]; rfl, HB.out⟩
              · have HV : Hid _ := d2 (by omega)
                have t5 : decide (971 < u1) = false := decide_eq_false (by omega)
                obtain ⟨y, hy⟩ : ∃ y : Nat, y = (u1 + 1074).toNat := ⟨_, rfl⟩
                obtain ⟨y1, hy1⟩ : ∃ y1 : Nat, y1 = y + 1 := ⟨_, rfl⟩
                obtain ⟨B, hB⟩ : ∃ B : Nat, B = y1 * 4503599627370496 := ⟨_, rfl⟩
                have HW : Hid (tfV p q = B ∧ tfOk p q = true) := ⟨by rw [HV.out.1, hB]; have := HU.out; omega, HV.out.2⟩
                have RU : Hid _ := doc_rules (u1 := u1) (ct := 4503599627370496) (d := 0) (B := B) hy hy1 hB (by omega) (by omega) (by have := HU.out; omega) (by omega) (by omega) (by omega)
                clear c2 d1 d2 hu1 hy hy1 hB HV
                have x1 := X1.out
                obtain ⟨x2, x2', x3, x4, x5, x6, x7, x8⟩ := RU.out
                go_wp2_with fail
                exact bodyPost_ret (v := .tuple #[.int .u64 (B : Int), .bool true]) (by simp [results, Tryz.results10, go_sem]) rfl ⟨by rw [HW.out.1, HW.out.2], HB.out⟩
            · have ctl : ct < 9007199254740992 := by have := DC.out.le; omega
              have c3 : ((ct : Int) == 9007199254740992) = false := by simp; omega
              by_cases c2 : 971 < u
              · have HV : Hid _ := DC.out.far ctl c2
                have t5 : decide (971 < u) = true := decide_eq_true c2
                have c5 : decide (ct = 9007199254740992) = false := decide_eq_false c1
                clear c2 ctl c1
                go_wp2_with fail
                exact bodyPost_ret (v := .tuple #[.int .u64 0, .bool false]) (by simp [results, Tryz.results10, go_sem]) rfl ⟨by rw [HV.out.1, HV.out.2]; rfl, HB.out⟩
              · have t5 : decide (971 < u) = false := decide_eq_false c2
                have c5 : decide (ct = 9007199254740992) = false := decide_eq_false c1
                by_cases c4 : ct < 4503599627370496
                · have HV : Hid _ := DC.out.low c4 (by omega)
                  have c6 : decide (ct < 4503599627370496) = true := decide_eq_true c4
                  have c7 : decide ((ct : Int) < 4503599627370496) = true := decide_eq_true (by omega)
                  clear c2 ctl c4 c1
                  go_wp2_with fail
                  exact bodyPost_ret (v := .tuple #[.int .u64 (ct : Int), .bool true]) (by simp [results, Tryz.results10, go_sem]) rfl ⟨by rw [HV.out.1, HV.out.2], HB.out⟩
                · have HV : Hid _ := DC.out.mid ctl (by omega) (by omega)
                  obtain ⟨y, hy⟩ : ∃ y : Nat, y = (u + 1074).toNat := ⟨_, rfl⟩
                  obtain ⟨y1, hy1⟩ : ∃ y1 : Nat, y1 = y + 1 := ⟨_, rfl⟩
                  obtain ⟨B1, hB1⟩ : ∃ B1 : Nat, B1 = y1 * 4503599627370496 := ⟨_, rfl⟩
                  obtain ⟨d, hd⟩ : ∃ d : Nat, d = ct - 4503599627370496 := ⟨_, rfl⟩
                  obtain ⟨B, hB⟩ : ∃ B : Nat, B = B1 + d := ⟨_, rfl⟩
                  have HW : Hid (tfV p q = B ∧ tfOk p q = true) := ⟨by rw [HV.out.1, hB, hB1, hd, hy1, hy]; omega, HV.out.2⟩
                  have RU : Hid _ := doc_rules (u1 := u) hy hy1 hB1 hd hB (by have := HU.out; omega) (by omega) (by omega) (by omega)
                  have c6 : decide (ct < 4503599627370496) = false := decide_eq_false c4
                  have c7 : decide ((ct : Int) < 4503599627370496) = false := decide_eq_false (by omega)
                  clear c2 hy hy1 hB hB1 hd HV ctl c4 c1
                  obtain ⟨x2, x2', x3, x4, x5, x6, x7, x8⟩ := RU.out
                  go_wp2_with fail
                  exact bodyPost_ret (v := .tuple #[.int .u64 (B : Int), .bool true]) (by simp [results, Tryz.results10, go_sem]) rfl ⟨by rw [HW.out.1, HW.out.2], HB.out⟩
          · have HE2 : Hid (ct = Q + 1) := HN.out
            have xq : IntKind.u64.wrap ((Q : Int) + 1) = (ct : Int) := by rw [IntKind.wrap_u64, HE2.out]; have := HQ2.out; omega
            go_upto_region 11 with fail
            clear xq HE2
            by_cases c1 : ct = 9007199254740992
            · obtain ⟨d1, d2⟩ := DC.out.top c1
              subst c1
              obtain ⟨u1, hu1⟩ : ∃ u1 : Int, u1 = u + 1 := ⟨_, rfl⟩
              have X1 : Hid (wrap64 (u + 1) = u1) := by show _ = _; rw [IntWalk.wrap64_in _ ⟨by have := HU.out; omega, by have := HU.out; omega⟩, hu1]
              by_cases c2 : 970 < u
              · have HV : Hid _ := d1 c2
                have t5 : decide (971 < u1) = true := decide_eq_true (by omega)
                clear c2 d1 d2 hu1
                have x1 := X1.out
                go_wp2_with fail
                exact bodyPost_ret (v := .tuple #[.int .u64 0, .bool false]) (by simp [results, Tryz.results10, go_sem]) rfl ⟨by rw [HV.out.1, HV.out.2]; rfl, HB.out⟩
              · have HV : Hid _ := d2 (by omega)
                have t5 : decide (971 < u1) = false := decide_eq_false (by omega)
                obtain ⟨y, hy⟩ : ∃ y : Nat, y = (u1 + 1074).toNat := ⟨_, rfl⟩
                obtain ⟨y1, hy1⟩ : ∃ y1 : Nat, y1 = y + 1 := ⟨_, rfl⟩
                obtain ⟨B, hB⟩ : ∃ B : Nat, B = y1 * 4503599627370496 := ⟨_, rfl⟩
                have HW : Hid (tfV p q = B ∧ tfOk p q = true) := ⟨by rw [HV.out.1, hB]; have := HU.out; omega, HV.out.2⟩
                have RU : Hid _ := doc_rules (u1 := u1) (ct := 4503599627370496) (d := 0) (B := B) hy hy1 hB (by omega) (by omega) (by have := HU.out; omega) (by omega) (by omega) (by omega)
                clear c2 d1 d2 hu1 hy hy1 hB HV
                have x1 := X1.out
                obtain ⟨x2, x2', x3, x4, x5, x6, x7, x8⟩ := RU.out
                go_wp2_with fail
                exact bodyPost_ret (v := .tuple #[.int .u64 (B : Int), .bool true]) (by simp [results, Tryz.results10, go_sem]) rfl ⟨by rw [HW.out.1, HW.out.2], HB.out⟩
            · have ctl : ct < 9007199254740992 := by have := DC.out.le; omega
              have c3 : ((ct : Int) == 9007199254740992) = false := by simp; omega
              by_cases c2 : 971 < u
              · have HV : Hid _ := DC.out.far ctl c2
                have t5 : decide (971 < u) = true := decide_eq_true c2
                have c5 : decide (ct = 9007199254740992) = false := decide_eq_false c1
                clear c2 ctl c1
                go_wp2_with fail
                exact bodyPost_ret (v := .tuple #[.int .u64 0, .bool false]) (by simp [results, Tryz.results10, go_sem]) rfl ⟨by rw [HV.out.1, HV.out.2]; rfl, HB.out⟩
              · have t5 : decide (971 < u) = false := decide_eq_false c2
                have c5 : decide (ct = 9007199254740992) = false := decide_eq_false c1
                by_cases c4 : ct < 4503599627370496
                · have HV : Hid _ := DC.out.low c4 (by omega)
                  have c6 : decide (ct < 4503599627370496) = true := decide_eq_true c4
                  have c7 : decide ((ct : Int) < 4503599627370496) = true := decide_eq_true (by omega)
                  clear c2 ctl c4 c1
                  go_wp2_with fail
                  exact bodyPost_ret (v := .tuple #[.int .u64 (ct : Int), .bool true]) (by simp [results, Tryz.results10, go_sem]) rfl ⟨by rw [HV.out.1, HV.out.2], HB.out⟩
                · have HV : Hid _ := DC.out.mid ctl (by omega) (by omega)
                  obtain ⟨y, hy⟩ : ∃ y : Nat, y = (u + 1074).toNat := ⟨_, rfl⟩
                  obtain ⟨y1, hy1⟩ : ∃ y1 : Nat, y1 = y + 1 := ⟨_, rfl⟩
                  obtain ⟨B1, hB1⟩ : ∃ B1 : Nat, B1 = y1 * 4503599627370496 := ⟨_, rfl⟩
                  obtain ⟨d, hd⟩ : ∃ d : Nat, d = ct - 4503599627370496 := ⟨_, rfl⟩
                  obtain ⟨B, hB⟩ : ∃ B : Nat, B = B1 + d := ⟨_, rfl⟩
                  have HW : Hid (tfV p q = B ∧ tfOk p q = true) := ⟨by rw [HV.out.1, hB, hB1, hd, hy1, hy]; omega, HV.out.2⟩
                  have RU : Hid _ := doc_rules (u1 := u) hy hy1 hB1 hd hB (by have := HU.out; omega) (by omega) (by omega) (by omega)
                  have c6 : decide (ct < 4503599627370496) = false := decide_eq_false c4
                  have c7 : decide ((ct : Int) < 4503599627370496) = false := decide_eq_false (by omega)
                  clear c2 hy hy1 hB hB1 hd HV ctl c4 c1
                  obtain ⟨x2, x2', x3, x4, x5, x6, x7, x8⟩ := RU.out
                  go_wp2_with fail
                  exact bodyPost_ret (v := .tuple #[.int .u64 (B : Int), .bool true]) (by simp [results, Tryz.results10, go_sem]) rfl ⟨by rw [HW.out.1, HW.out.2], HB.out⟩
end Go.Proofs.YtmiiaomdenpceaaGreatDoor

namespace Go.Proofs.YtmiiaomdenpceaaGreatDoor
open Go.RowKit
set_option maxRecDepth 100000
set_option linter.unusedVariables false
theorem zrs_one : zrs 1 = ⟨#[48]⟩ := by rfl
set_option maxHeartbeats 400000 in
theorem rep_one : RepIs 1 := fun w => by
  rw [zrs_one]
  show Calls Tryz.prog 72 #[.string ⟨#[48]⟩, .int .i64 1] w _
  go_enter Tryz.func72, Tryz.ntmps72
  go_wp2_with fail
  go_ret
  exact ⟨rfl, bel_refl w⟩
theorem st_x (w : World) (hT : Tab w) : Calls Tryz.prog 33 #[.float .f64 4604930618986332160] w (MakesRB w 3 4 true) := by
  have h := fromFloat_all 4604930618986332160 w (by omega) hT
  rw [show ffP 4604930618986332160 = 3 by decide +kernel, show ffQ 4604930618986332160 = 4 by decide +kernel, show isFb 4604930618986332160 = true by decide +kernel] at h
  exact h
def s75 : ByteArray := ⟨#[55, 53, 101, 45, 50]⟩
def s10 : ByteArray := ⟨#[49, 47, 48]⟩
theorem np_75 : npP s75 = 3 ∧ npQ s75 = 4 ∧ npE s75 = 0 := by decide +kernel
theorem np_10 : npP s10 = 0 ∧ npQ s10 = 1 ∧ npE s10 = 30 := by decide +kernel
theorem st_y (w : World) (hT : Tab w) : Calls Tryz.prog 35 #[.string ⟨#[55, 53, 101, 45, 50]⟩] w fun e w' => ∃ v, e = .returned (.tuple #[v, .int .i64 0]) ∧ Rt w' v 3 4 ∧ Below w.heap.size w w' := by
  have h := nparse_any s75 w (by decide +kernel) hT
  unfold MakesP at h
  rw [np_75.1, np_75.2.1, np_75.2.2] at h
  exact h
theorem st_f (w : World) (hT : Tab w) : Calls Tryz.prog 35 #[.string ⟨#[49, 47, 48]⟩] w fun e w' => ∃ v, e = .returned (.tuple #[v, .int .i64 30]) ∧ Rt w' v 0 1 ∧ Below w.heap.size w w' := by
  have h := nparse_any s10 w (by decide +kernel) hT
  unfold MakesP at h
  rw [np_10.1, np_10.2.1, np_10.2.2] at h
  exact h
theorem st_a (v : Value) (w : World) (h : Rt w v 1 3) : Calls Tryz.prog 9 #[v] w fun e w' => e = .returned (.tuple #[.float .f64 4599676419421066581, .bool true]) ∧ Below w.heap.size w w' := by
  have k := toFloat_any v 1 3 w h (rs_few (by omega)) (rs_few (by omega)) (by omega)
  rw [show tfV 1 3 = 4599676419421066581 by decide +kernel, show tfOk 1 3 = true by decide +kernel] at k
  exact k
theorem few_P {x : Nat} (h : x < 100) : x < P 80 := Nat.lt_of_lt_of_le (by rw [P_one]; omega) (P_le (show 1 ≤ 80 by omega))
theorem st_s (v : Value) (w : World) (h : Rt w v 3 4) : Calls Tryz.prog 26 #[v, .int .i64 1] w fun e w' => e = .returned (.tuple #[.string ⟨#[48, 46, 56]⟩, .bool true]) ∧ Below w.heap.size w w' := by
  have k := decimal_any v 3 4 1 1 w h (few_P (by omega)) (few_P (by omega)) (by omega) (by omega) ⟨by omega, by decide +kernel, .inl rfl⟩ rep_one
  rw [show decimalT 3 4 1 1 = ⟨#[48, 46, 56]⟩ by decide +kernel] at k
  exact k
theorem st_t (v : Value) (w : World) (h : Rt w v 3 4) : Calls Tryz.prog 24 #[v] w fun e w' => e = .returned (.string ⟨#[51, 47, 52]⟩) ∧ Below w.heap.size w w' := by
  have k := format_any v 3 4 1 1 w h (rs_few (by omega)) (rs_few (by omega)) ⟨by omega, by omega, .inl rfl⟩ ⟨by omega, by omega, .inl rfl⟩
  rw [show fmtT 3 4 1 1 = ⟨#[51, 47, 52]⟩ by decide +kernel] at k
  exact k
theorem st_c (v u : Value) (w : World) (h : Rt w v 3 4) (k : Rt w u 3 4) : Calls Tryz.prog 30 #[v, u] w fun e w' => e = .returned (.int .i64 0) ∧ Below w.heap.size w w' := by
  have c := ratCmp_any v u 3 4 3 4 w h k (rs_few (by omega)) (rs_few (by omega)) (rs_few (by omega)) (rs_few (by omega))
  rw [show cmpI (3 * 4) (3 * 4) = 0 by decide] at c
  exact c
set_option maxHeartbeats 400000 in
theorem errno3_any (z : Int) (w : World) : Calls Tryz.prog 36 #[.int .i64 z] w fun e w' => e = .returned (.int .i64 z) ∧ w' = w := by
  go_enter Tryz.func36, Tryz.ntmps36
  go_wp2_with fail
  go_ret
  exact ⟨rfl, rfl⟩
set_option maxHeartbeats 1000000 in
theorem started3 (w : World) (hT : Tab w) : Calls Tryz.prog 13 #[] w fun e w' => e = .returned (.bool true) ∧ Below w.heap.size w w' := by
  have HT : Hid (Tab w) := hT
  clear hT
  go_enter Tryz.func13, Tryz.ntmps13
  go_wp2_with fail
  refine (st_x _ HT.out).mono ?_
  rintro e w1 ⟨v1, rfl, hv1, hb1⟩
  have hv1' := hv1
  obtain ⟨a1, n1, c1, d1, m1, g1, ev1, _, _⟩ := hv1'.raw
  subst ev1
  have S1 : Hid _ := (((sy_start w).go hb1).addF hv1).box (.slice a1 n1 c1) (.slice d1 m1 g1) 28 _ rfl
  clear hv1 hv1' hb1
  go_wp2_with fail
  obtain ⟨b1, hb1⟩ : ∃ b1, b1 = w1.heap.size := ⟨_, rfl⟩
  obtain ⟨W1, hW1⟩ : ∃ W1, W1 = w1.alloc (.cells #[.slice a1 n1 c1, .slice d1 m1 g1] 28) := ⟨_, rfl⟩
  rw [← hW1, ← hb1] at S1
  rw [← hW1, ← hb1]
  clear hW1 hb1
  refine (st_y _ (HT.out.go S1.out.bel)).mono ?_
  rintro e w2 ⟨v2, rfl, hv2, hb2⟩
  have hv2' := hv2
  obtain ⟨a2, n2, c2, d2, m2, g2, ev2, _, _⟩ := hv2'.raw
  subst ev2
  have S2 : Hid _ := ((S1.out.go hb2).addF hv2).box (.slice a2 n2 c2) (.slice d2 m2 g2) 28 _ rfl
  clear hv2 hv2' hb2 S1
  go_wp2_with fail
  obtain ⟨b2, hb2⟩ : ∃ b2, b2 = w2.heap.size := ⟨_, rfl⟩
  obtain ⟨W2, hW2⟩ : ∃ W2, W2 = w2.alloc (.cells #[.slice a2 n2 c2, .slice d2 m2 g2] 28) := ⟨_, rfl⟩
  rw [← hW2, ← hb2] at S2
  rw [← hW2, ← hb2]
  clear hW2 hb2
  refine (told_b _ (HT.out.go S2.out.bel)).mono ?_
  rintro e w3 ⟨v3, rfl, hv3, hb3⟩
  have hv3' := hv3
  obtain ⟨a3, n3, c3, d3, m3, g3, ev3, _, _⟩ := hv3'.raw
  subst ev3
  have S3 : Hid _ := ((S2.out.go hb3).addF hv3).box (.slice a3 n3 c3) (.slice d3 m3 g3) 28 _ rfl
  clear hv3 hv3' hb3 S2
  go_wp2_with fail
  obtain ⟨b3, hb3⟩ : ∃ b3, b3 = w3.heap.size := ⟨_, rfl⟩
  obtain ⟨W3, hW3⟩ : ∃ W3, W3 = w3.alloc (.cells #[.slice a3 n3 c3, .slice d3 m3 g3] 28) := ⟨_, rfl⟩
  rw [← hW3, ← hb3] at S3
  rw [← hW3, ← hb3]
  clear hW3 hb3
  refine (st_a _ _ (S3.out.fr (.agg #[.slice a3 n3 c3, .slice d3 m3 g3]) 1 3)).mono ?_
  rintro e w4 ⟨rfl, hb4⟩
  have S4 : Hid _ := S3.out.go hb4
  clear hb4 S3
  have k0 := S4.out.cel b1 0 (.slice a1 n1 c1)
  have k1 := S4.out.cel b1 1 (.slice d1 m1 g1)
  go_wp2_with fail
  refine (st_s _ _ (S4.out.fr (.agg #[.slice a1 n1 c1, .slice d1 m1 g1]) 3 4)).mono ?_
  rintro e w5 ⟨rfl, hb5⟩
  have S5 : Hid _ := S4.out.go hb5
  clear hb5 S4 k0 k1
  go_wp2_with fail
  refine (st_f _ (HT.out.go S5.out.bel)).mono ?_
  rintro e w6 ⟨v6, rfl, hv6, hb6⟩
  have hv6' := hv6
  obtain ⟨a6, n6, c6, d6, m6, g6, ev6, _, _⟩ := hv6'.raw
  subst ev6
  have S6 : Hid _ := (S5.out.go hb6).box (.slice a6 n6 c6) (.slice d6 m6 g6) 28 _ rfl
  clear hv6 hv6' hb6 S5
  go_wp2_with fail
  obtain ⟨W6, hW6⟩ : ∃ W6, W6 = w6.alloc (.cells #[.slice a6 n6 c6, .slice d6 m6 g6] 28) := ⟨_, rfl⟩
  rw [← hW6] at S6
  rw [← hW6]
  clear hW6
  refine (errno3_any 0 _).mono ?_
  rintro e wx ⟨rfl, hwx⟩
  rw [hwx]
  clear hwx wx
  have k0 := S6.out.cel b1 0 (.slice a1 n1 c1)
  have k1 := S6.out.cel b1 1 (.slice d1 m1 g1)
  have k2 := S6.out.cel b2 0 (.slice a2 n2 c2)
  have k3 := S6.out.cel b2 1 (.slice d2 m2 g2)
  go_wp2_with fail
  refine (st_c _ _ _ (S6.out.fr (.agg #[.slice a1 n1 c1, .slice d1 m1 g1]) 3 4) (S6.out.fr (.agg #[.slice a2 n2 c2, .slice d2 m2 g2]) 3 4)).mono ?_
  rintro e w7 ⟨rfl, hb7⟩
  have S7 : Hid _ := S6.out.go hb7
  clear hb7 S6 k0 k1 k2 k3
  go_wp2_with fail
  refine (bits_any 4599676419421066581 _).mono ?_
  rintro e wx ⟨rfl, hwx⟩
  rw [hwx]
  clear hwx wx
  have k0 := S7.out.cel b1 0 (.slice a1 n1 c1)
  have k1 := S7.out.cel b1 1 (.slice d1 m1 g1)
  go_wp2_with fail
  refine (st_t _ _ (S7.out.fr (.agg #[.slice a1 n1 c1, .slice d1 m1 g1]) 3 4)).mono ?_
  rintro e w8 ⟨rfl, hb8⟩
  have S8 : Hid _ := S7.out.go hb8
  clear hb8 S7 k0 k1
  go_wp2_with fail
  refine (errno3_any 30 _).mono ?_
  rintro e wx ⟨rfl, hwx⟩
  rw [hwx]
  clear hwx wx
  go_wp2_with fail
  go_ret
  exact ⟨rfl, S8.out.bel⟩
end Go.Proofs.YtmiiaomdenpceaaGreatDoor

namespace Go.Proofs.YtmiiaomdenpceaaGreatDoor
open Go.RowKit
set_option maxRecDepth 100000
set_option linter.unusedVariables false
end Go.Proofs.YtmiiaomdenpceaaGreatDoor

namespace Go.Proofs.YtmiiaomdenpceaaGreatDoor
open Go.RowKit
set_option maxRecDepth 100000
set_option linter.unusedVariables false
theorem andNot_top (u : Nat) (h : u < 18446744073709551616) : bits .andNot .u64 (u : Int) 9223372036854775808 = ((u % 9223372036854775808 : Nat) : Int) := by
  have := u64_andNot_nat u 9223372036854775808 h (by omega)
  rw [show 18446744073709551615 - 9223372036854775808 = 2 ^ 63 - 1 from rfl, Nat.and_two_pow_sub_one_eq_mod] at this
  exact this
end Go.Proofs.YtmiiaomdenpceaaGreatDoor

namespace Go.Proofs
open Go.Shelf
end Go.Proofs

namespace Go.Proofs.YtmiiaomdenpceaaGreatDoor
open Go.RowKit
set_option linter.unusedVariables false
end Go.Proofs.YtmiiaomdenpceaaGreatDoor

namespace Go.Proofs.YtmiiaomdenpceaaGreatDoor
open Go.RowKit
set_option maxRecDepth 100000
set_option linter.unusedVariables false
set_option maxHeartbeats 1000000 in
theorem cut3_any (a : Option Addr) (len cap : Nat) (D : Nat → Nat) (w : World) (h : BSl w a len cap D) :
    Calls Tryz.prog 40 #[.slice a len cap] w fun e w' => e = .returned (.slice a (min len 300) cap) ∧ w' = w := by
  have hl2 : (len : Int) ≤ 9223372036854775807 := by have := h.1; have := h.2.1; omega
  by_cases hl : 300 < len
  · obtain ⟨b, o, rfl, hw⟩ : ∃ b o, a = some ⟨b, o, none⟩ ∧ ∀ i, i < len → w.cell? ⟨b, o + i, none⟩ = some (.int .u8 (D i : Nat)) := h.2.2.2.resolve_left (by omega)
    have sl : ∀ w, (Instr.slice 22 (.slice (some ⟨b, o, none⟩) len cap) none (some (.int .i64 300)) none).run Tryz.prog w = .ok (.slice (some ⟨b, o, none⟩) 300 cap) w := slice_bh b o len cap 300 (by have := h.1; omega)
    have hcz : ¬ cap = 0 := by have := h.1; omega
    have hcz2 : (300 : Int) ≤ cap := by have := h.1; omega
    have haz : (⟨b, o, none⟩ : Addr).add 0 = ⟨b, o, none⟩ := by simp [Addr.add]
    have hd : decide (300 < (len : Int)) = true := decide_eq_true (by omega)
    have HH : Hid (min len 300 = 300) := by show _ = _; omega
    clear h hw
    go_enter Tryz.func40, Tryz.ntmps40
    go_wp2_with fail
    go_ret
    rw [HH.out]
    exact ⟨rfl, rfl⟩
  · have hd : decide (300 < (len : Int)) = false := decide_eq_false (by omega)
    have HH : Hid (min len 300 = len) := by show _ = _; omega
    clear h
    go_enter Tryz.func40, Tryz.ntmps40
    go_wp2_with fail
    go_ret
    rw [HH.out]
    exact ⟨rfl, rfl⟩
/-- Bytes that are handed in: what comes of them. -/
structure Fed3 (w : World) (a : Option Addr) (len cap m x : Nat) : Prop where
  cut : ∀ w', Below w.heap.size w w' → Calls Tryz.prog 40 #[.slice a len cap] w' fun e w2 => e = .returned (.slice a m cap) ∧ w2 = w'
  nat : ∀ w', Below w.heap.size w w' → Calls Tryz.prog 22 #[.slice a m cap] w' (Makes w' x)
  ref : ∀ w', Below w.heap.size w w' → Calls Tryz.prog 41 #[.slice a m cap] w' (RMakes w' x)
  rs : x < P 38
theorem fed3_of {w : World} {a : Option Addr} {len cap : Nat} {D : Nat → Nat} (h : BSl w a len cap D) : ∃ m x, Fed3 w a len cap m x := by
  refine ⟨Min.min len 300, BV D (Min.min len 300), fun w' hb => ?_, fun w' hb => ?_, fun w' hb => ?_, ?_⟩
  · exact cut3_any a len cap D w' (h.mono hb)
  · exact fromBytes_any _ _ _ _ _ ((h.min 300).mono hb) (by omega)
  · exact rfromBytes_any _ _ _ _ _ ((h.min 300).mono hb) (by omega)
  · exact BV_P' (h.min 300).2.2.1 (by omega)
theorem Fed3.go {w w' : World} {a : Option Addr} {len cap m x : Nat} (h : Fed3 w a len cap m x) (hb : Below w.heap.size w w') : Fed3 w' a len cap m x :=
  ⟨fun w2 h2 => h.cut w2 (bel_go hb h2), fun w2 h2 => h.nat w2 (bel_go hb h2), fun w2 h2 => h.ref w2 (bel_go hb h2), h.rs⟩
theorem rs38 {x : Nat} (h : x < P 38) : RS x := ⟨P_up h (by omega)⟩
theorem orOne_38 {y : Nat} (h : y < P 38) : orOne y < P 38 := by
  unfold orOne
  split
  · exact Nat.lt_of_lt_of_le (by rw [P_one]; omega) (P_le (show 1 ≤ 38 by omega))
  · exact h
set_option maxHeartbeats 4000000 in
theorem made3_true (a0 : Option Addr) (l0 k0 : Nat) (a5 : Option Addr) (l5 k5 : Nat) (m0 m5 x y : Nat) (w : World) (h0 : Fed3 w a0 l0 k0 m0 x) (h5 : Fed3 w a5 l5 k5 m5 y) (hT : Tab w) :
    Calls Tryz.prog 8 #[.slice a0 l0 k0, .slice a5 l5 k5] w (MakesM w (x / Nat.gcd x (orOne y)) (orOne y / Nat.gcd x (orOne y))) := by
  by_cases hy : y = 0
  · have EY : Hid (orOne y = 1) := by show orOne y = 1; unfold orOne; rw [if_pos hy]
    have FN : Hid (∀ v u w, IsNat w v x → IsNat w u y → Tab w → Calls Tryz.prog 21 #[v, u] w (MakesRB w 0 1 false)) := fun v u w p q _ => from_none v u x w p (by rw [hy] at q; exact q)
    have FM : Hid (∀ v u w, RNat w v x → RNat w u y → Calls Tryz.prog 16 #[v, u] w (MakesRRB w 0 1 false)) := fun v u w p q => rfrom2_none v u x y w p q (rs38 h0.rs).rsome (rs38 h5.rs).rsome hy
    clear hy
    have FF : Hid (Fed3 w a0 l0 k0 m0 x ∧ Fed3 w a5 l5 k5 m5 y ∧ Tab w) := ⟨h0, h5, hT⟩
    have S0 : Hid _ := ((sy_start w).box (.slice none 0 0) (.slice none 0 0) 28 _ rfl).box (.slice none 0 0) (.slice none 0 0) 32 _ rfl
    simp only [World.size_alloc] at S0
    clear h0 h5 hT
    go_enter Tryz.func8, Tryz.ntmps8
    go_wp2_with fail
    obtain ⟨r, hr⟩ : ∃ r, r = w.heap.size := ⟨_, rfl⟩
    obtain ⟨w0, hw0⟩ : ∃ w0, w0 = (w.alloc (.cells #[.slice none 0 0, .slice none 0 0] 28)).alloc (.cells #[.slice none 0 0, .slice none 0 0] 32) := ⟨_, rfl⟩
    rw [← hw0, ← hr] at S0
    rw [← hw0, ← hr]
    clear hw0 hr
    refine (FF.out.1.cut _ S0.out.bel).mono ?_
    rintro e wx ⟨rfl, hwx⟩
    rw [hwx]
    clear hwx wx
    go_wp2_with fail
    refine (FF.out.2.1.cut _ S0.out.bel).mono ?_
    rintro e wx ⟨rfl, hwx⟩
    rw [hwx]
    clear hwx wx
    go_wp2_with fail
    refine (FF.out.1.nat _ S0.out.bel).mono ?_
    rintro e w1 ⟨v1, rfl, hv1, hb1⟩
    have S1 : Hid _ := (S0.out.go hb1).addN hv1
    clear hv1 hb1 S0
    go_wp2_with fail
    refine (FF.out.2.1.nat _ S1.out.bel).mono ?_
    rintro e w2 ⟨v2, rfl, hv2, hb2⟩
    have S2 : Hid _ := (S1.out.go hb2).addN hv2
    clear hv2 hb2 S1
    go_wp2_with fail
    have FR : Hid (Calls Tryz.prog 21 #[v1, v2] w2 (MakesRB w2 0 1 false)) := FN.out v1 v2 _ (S2.out.at v1 x) (S2.out.at v2 y) (FF.out.2.2.go S2.out.bel)
    refine FR.out.mono ?_
    rintro e w3 ⟨v3, rfl, hv3, hb3⟩
    have hv3' := hv3
    obtain ⟨a3, n3, c3, d3, m3, g3, ev3, _, _⟩ := hv3'.raw
    subst ev3
    have HL : Hid (r + 1 < w3.heap.size) := (S2.out.go hb3).lt (r + 1)
    have S3 : Hid _ := ((S2.out.go hb3).addF hv3).box (.slice a3 n3 c3) (.slice d3 m3 g3) 28 _ rfl
    clear hv3 hv3' hb3 S2 FR
    go_wp2_with fail
    obtain ⟨g, hg⟩ : ∃ g, g = w3.heap.size := ⟨_, rfl⟩
    obtain ⟨w4, hw4⟩ : ∃ w4, w4 = w3.alloc (.cells #[.slice a3 n3 c3, .slice d3 m3 g3] 28) := ⟨_, rfl⟩
    rw [← hw4, ← hg] at S3
    rw [← hw4, ← hg]
    have HG : Hid (r + 1 < g) := by rw [hg]; exact HL
    clear hw4 hg HL
    refine (FF.out.1.ref _ S3.out.bel).mono ?_
    rintro e w5 ⟨v5, rfl, hv5, hb5⟩
    have S5 : Hid _ := (S3.out.go hb5).addM hv5
    clear hv5 hb5 S3
    go_wp2_with fail
    refine (FF.out.2.1.ref _ S5.out.bel).mono ?_
    rintro e w6 ⟨v6, rfl, hv6, hb6⟩
    have S6 : Hid _ := (S5.out.go hb6).addM hv6
    clear hv6 hb6 S5
    go_wp2_with fail
    have FR : Hid (Calls Tryz.prog 16 #[v5, v6] w6 (MakesRRB w6 0 1 false)) := FM.out v5 v6 _ (S6.out.rat v5 x) (S6.out.rat v6 y)
    refine FR.out.mono ?_
    rintro e w7 ⟨v7, rfl, hv7, hb7⟩
    have hv7' := hv7
    obtain ⟨a7, n7, c7, d7, m7, g7, ev7, _, _⟩ := hv7'
    subst ev7
    have HL : Hid (g < w7.heap.size) := (S6.out.go hb7).lt g
    have S7 : Hid _ := ((S6.out.go hb7).addG hv7).box (.slice a7 n7 c7) (.slice d7 m7 g7) 32 _ rfl
    clear hv7 hb7 S6 FR
    have q0 := S7.out.cel g 0 (.slice a3 n3 c3)
    have q1 := S7.out.cel g 1 (.slice d3 m3 g3)
    go_wp2_with fail
    obtain ⟨h, hh⟩ : ∃ h, h = w7.heap.size := ⟨_, rfl⟩
    obtain ⟨w8, hw8⟩ : ∃ w8, w8 = w7.alloc (.cells #[.slice a7 n7 c7, .slice d7 m7 g7] 32) := ⟨_, rfl⟩
    rw [← hw8, ← hh] at S7
    rw [← hw8, ← hh]
    have HH : Hid (g < h) := by rw [hh]; exact HL
    clear hw8 hh HL q0 q1
    refine (FF.out.1.nat _ S7.out.bel).mono ?_
    rintro e w10 ⟨v10, rfl, hv10, hb10⟩
    have S10 : Hid _ := (S7.out.go hb10).addN hv10
    clear hv10 hb10 S7
    go_wp2_with fail
    refine (of_any 1 _ (by omega)).mono ?_
    rintro e w11 ⟨v11, rfl, hv11, hb11⟩
    have S11 : Hid _ := (S10.out.go hb11).addN hv11
    clear hv11 hb11 S10
    go_wp2_with fail
    refine (from_any v10 v11 x 1 _ (S11.out.at v10 x) (S11.out.at v11 1) (rs38 FF.out.1.rs) (rs_word (by omega)) (by omega) (FF.out.2.2.go S11.out.bel)).mono ?_
    rintro e w12 ⟨v12, rfl, hv12, hb12⟩
    have hv12' := hv12
    obtain ⟨a12, n12, c12, d12, m12, g12, ev12, _, _⟩ := hv12'.raw
    subst ev12
    have S12 : Hid _ := (S11.out.go hb12).addF hv12
    clear hv12 hv12' hb12 S11
    have q0 := S12.out.cel g 0 (.slice a3 n3 c3)
    have q1 := S12.out.cel g 1 (.slice d3 m3 g3)
    have f0 := S12.out.fz g 0
    have f1 := S12.out.fz g 1
    have S13 : Hid _ := (((S12.out.set (b := g) (i := 0) q0 (S12.out.lo g) [(h, 0, .slice a7 n7 c7), (h, 1, .slice d7 m7 g7), (r, 0, .slice none 0 0), (r, 1, .slice none 0 0), (r + 1, 0, .slice none 0 0), (r + 1, 1, .slice none 0 0)] (by have := HG.out; have := HH.out; simp; omega) (.slice a12 n12 c12)).addC (b := g) (i := 1) (v := .slice d3 m3 g3) (by simp [go_sem, q1])).set (b := g) (i := 1) (show (w12.setCell ⟨g, 0, none⟩ (.slice a12 n12 c12)).cell? ⟨g, 1, none⟩ = some (.slice d3 m3 g3) by simp [go_sem, q1]) (S12.out.lo g) [(h, 0, .slice a7 n7 c7), (h, 1, .slice d7 m7 g7), (r, 0, .slice none 0 0), (r, 1, .slice none 0 0), (r + 1, 0, .slice none 0 0), (r + 1, 1, .slice none 0 0)] (by have := HG.out; have := HH.out; simp; omega) (.slice d12 m12 g12))
    have e0 : ((w12.setCell ⟨g, 0, none⟩ (.slice a12 n12 c12)).setCell ⟨g, 1, none⟩ (.slice d12 m12 g12)).cell? ⟨g, 0, none⟩ = some (.slice a12 n12 c12) := by simp [go_sem, q0]
    have e1 : ((w12.setCell ⟨g, 0, none⟩ (.slice a12 n12 c12)).setCell ⟨g, 1, none⟩ (.slice d12 m12 g12)).cell? ⟨g, 1, none⟩ = some (.slice d12 m12 g12) := by simp [go_sem, q1]
    have S14 : Hid _ := (S13.out.addC e0).addC e1
    clear S13 e0 e1
    go_wp2_with fail
    obtain ⟨w14, hw14⟩ : ∃ w14, w14 = (w12.setCell ⟨g, 0, none⟩ (.slice a12 n12 c12)).setCell ⟨g, 1, none⟩ (.slice d12 m12 g12) := ⟨_, rfl⟩
    rw [← hw14] at S14
    rw [← hw14]
    clear hw14 q0 q1 f0 f1 S12
    refine (FF.out.1.ref _ S14.out.bel).mono ?_
    rintro e w15 ⟨v15, rfl, hv15, hb15⟩
    have S15 : Hid _ := (S14.out.go hb15).addM hv15
    clear hv15 hb15 S14
    go_wp2_with fail
    refine (rof_any 1 _ (by omega)).mono ?_
    rintro e w16 ⟨v16, rfl, hv16, hb16⟩
    have S16 : Hid _ := (S15.out.go hb16).addM hv16
    clear hv16 hb16 S15
    go_wp2_with fail
    refine (rfrom2_yes v15 v16 x 1 _ (S16.out.rat v15 x) (S16.out.rat v16 1) (rs38 FF.out.1.rs).rsome (rsome_word (by omega)) (by omega)).mono ?_
    rintro e w17 ⟨v17, rfl, hv17, hb17⟩
    have hv17' := hv17
    obtain ⟨a17, n17, c17, d17, m17, g17, ev17, _, _⟩ := hv17'
    subst ev17
    have S17 : Hid _ := (S16.out.go hb17).addG hv17
    clear hv17 hb17 S16
    have q0 := S17.out.cel h 0 (.slice a7 n7 c7)
    have q1 := S17.out.cel h 1 (.slice d7 m7 g7)
    have f0 := S17.out.fz h 0
    have f1 := S17.out.fz h 1
    have S18 : Hid _ := (((S17.out.set (b := h) (i := 0) q0 (S17.out.lo h) [(g, 0, .slice a12 n12 c12), (g, 1, .slice d12 m12 g12), (r, 0, .slice none 0 0), (r, 1, .slice none 0 0), (r + 1, 0, .slice none 0 0), (r + 1, 1, .slice none 0 0)] (by have := HG.out; have := HH.out; simp; omega) (.slice a17 n17 c17)).addC (b := h) (i := 1) (v := .slice d7 m7 g7) (by simp [go_sem, q1])).set (b := h) (i := 1) (show (w17.setCell ⟨h, 0, none⟩ (.slice a17 n17 c17)).cell? ⟨h, 1, none⟩ = some (.slice d7 m7 g7) by simp [go_sem, q1]) (S17.out.lo h) [(g, 0, .slice a12 n12 c12), (g, 1, .slice d12 m12 g12), (r, 0, .slice none 0 0), (r, 1, .slice none 0 0), (r + 1, 0, .slice none 0 0), (r + 1, 1, .slice none 0 0)] (by have := HG.out; have := HH.out; simp; omega) (.slice d17 m17 g17))
    have e0 : ((w17.setCell ⟨h, 0, none⟩ (.slice a17 n17 c17)).setCell ⟨h, 1, none⟩ (.slice d17 m17 g17)).cell? ⟨h, 0, none⟩ = some (.slice a17 n17 c17) := by simp [go_sem, q0]
    have e1 : ((w17.setCell ⟨h, 0, none⟩ (.slice a17 n17 c17)).setCell ⟨h, 1, none⟩ (.slice d17 m17 g17)).cell? ⟨h, 1, none⟩ = some (.slice d17 m17 g17) := by simp [go_sem, q1]
    have S19 : Hid _ := (S18.out.addC e0).addC e1
    clear S18 e0 e1
    go_wp2_with fail
    obtain ⟨w19, hw19⟩ : ∃ w19, w19 = (w17.setCell ⟨h, 0, none⟩ (.slice a17 n17 c17)).setCell ⟨h, 1, none⟩ (.slice d17 m17 g17) := ⟨_, rfl⟩
    rw [← hw19] at S19
    rw [← hw19]
    clear hw19 q0 q1 f0 f1 S17
    have z0 := S19.out.cel r 0 (.slice none 0 0)
    have z1 := S19.out.cel r 1 (.slice none 0 0)
    have z2 := S19.out.cel (r + 1) 0 (.slice none 0 0)
    have z3 := S19.out.cel (r + 1) 1 (.slice none 0 0)
    have y0 := S19.out.fz r 0
    have y1 := S19.out.fz r 1
    have y2 := S19.out.fz (r + 1) 0
    have y3 := S19.out.fz (r + 1) 1
    have p0 := S19.out.cel g 0 (.slice a12 n12 c12)
    have p1 := S19.out.cel g 1 (.slice d12 m12 g12)
    have p2 := S19.out.cel h 0 (.slice a17 n17 c17)
    have p3 := S19.out.cel h 1 (.slice d17 m17 g17)
    have nb1 : ¬ r = g := by have := HG.out; omega
    have nb2 : ¬ r + 1 = g := by have := HG.out; omega
    have nb3 : ¬ r = h := by have := HG.out; have := HH.out; omega
    have nb4 : ¬ r + 1 = h := by have := HG.out; have := HH.out; omega
    have nb5 : ¬ g = r := fun e => nb1 e.symm
    have nb6 : ¬ g = r + 1 := fun e => nb2 e.symm
    have nb7 : ¬ h = r := fun e => nb3 e.symm
    have nb8 : ¬ h = r + 1 := fun e => nb4 e.symm
    have Z : Hid _ := made_put (w0 := w) (s1 := .slice a12 n12 c12) (s2 := .slice d12 m12 g12) (t1 := .slice a17 n17 c17) (t2 := .slice d17 m17 g17) (fun i hi => by obtain rfl | rfl : i = 0 ∨ i = 1 := (by omega); exact ⟨z0, y0⟩; exact ⟨z1, y1⟩) (fun i hi => by obtain rfl | rfl : i = 0 ∨ i = 1 := (by omega); exact ⟨z2, y2⟩; exact ⟨z3, y3⟩) (S19.out.fr (.agg #[.slice a12 n12 c12, .slice d12 m12 g12]) (x / Nat.gcd x 1) (1 / Nat.gcd x 1)) (S19.out.rfr (.agg #[.slice a17 n17 c17, .slice d17 m17 g17]) (x / Nat.gcd x 1) (1 / Nat.gcd x 1)) S19.out.bel (S19.out.lo r)
    go_region
    go_wp2_with fail
    refine bodyPost_ret (v := .tuple #[.agg #[.slice a12 n12 c12, .slice d12 m12 g12], .agg #[.slice a17 n17 c17, .slice d17 m17 g17]]) (by simp [results, Tryz.results8, go_sem, z0, z1, z2, z3]) rfl ?_
    rw [EY.out]
    exact ⟨_, _, rfl, Z.out.1.mono (bel_dr (bel_refl _)), Z.out.2.1.mono (bel_dr (bel_refl _)), bel_dr Z.out.2.2⟩
  · have EY : Hid (orOne y = y) := by show orOne y = y; unfold orOne; rw [if_neg hy]
    have FN : Hid (∀ v u w, IsNat w v x → IsNat w u y → Tab w → Calls Tryz.prog 21 #[v, u] w (MakesRB w (x / Nat.gcd x y) (y / Nat.gcd x y) true)) := fun v u w p q t => from_any v u x y w p q (rs38 h0.rs) (rs38 h5.rs) (by omega) t
    have FM : Hid (∀ v u w, RNat w v x → RNat w u y → Calls Tryz.prog 16 #[v, u] w (MakesRRB w (x / Nat.gcd x y) (y / Nat.gcd x y) true)) := fun v u w p q => rfrom2_yes v u x y w p q (rs38 h0.rs).rsome (rs38 h5.rs).rsome (by omega)
    clear hy
    have FF : Hid (Fed3 w a0 l0 k0 m0 x ∧ Fed3 w a5 l5 k5 m5 y ∧ Tab w) := ⟨h0, h5, hT⟩
    have S0 : Hid _ := ((sy_start w).box (.slice none 0 0) (.slice none 0 0) 28 _ rfl).box (.slice none 0 0) (.slice none 0 0) 32 _ rfl
    simp only [World.size_alloc] at S0
    clear h0 h5 hT
    go_enter Tryz.func8, Tryz.ntmps8
    go_wp2_with fail
    obtain ⟨r, hr⟩ : ∃ r, r = w.heap.size := ⟨_, rfl⟩
    obtain ⟨w0, hw0⟩ : ∃ w0, w0 = (w.alloc (.cells #[.slice none 0 0, .slice none 0 0] 28)).alloc (.cells #[.slice none 0 0, .slice none 0 0] 32) := ⟨_, rfl⟩
    rw [← hw0, ← hr] at S0
    rw [← hw0, ← hr]
    clear hw0 hr
    refine (FF.out.1.cut _ S0.out.bel).mono ?_
    rintro e wx ⟨rfl, hwx⟩
    rw [hwx]
    clear hwx wx
    go_wp2_with fail
    refine (FF.out.2.1.cut _ S0.out.bel).mono ?_
    rintro e wx ⟨rfl, hwx⟩
    rw [hwx]
    clear hwx wx
    go_wp2_with fail
    refine (FF.out.1.nat _ S0.out.bel).mono ?_
    rintro e w1 ⟨v1, rfl, hv1, hb1⟩
    have S1 : Hid _ := (S0.out.go hb1).addN hv1
    clear hv1 hb1 S0
    go_wp2_with fail
    refine (FF.out.2.1.nat _ S1.out.bel).mono ?_
    rintro e w2 ⟨v2, rfl, hv2, hb2⟩
    have S2 : Hid _ := (S1.out.go hb2).addN hv2
    clear hv2 hb2 S1
    go_wp2_with fail
    have FR : Hid (Calls Tryz.prog 21 #[v1, v2] w2 (MakesRB w2 (x / Nat.gcd x y) (y / Nat.gcd x y) true)) := FN.out v1 v2 _ (S2.out.at v1 x) (S2.out.at v2 y) (FF.out.2.2.go S2.out.bel)
    refine FR.out.mono ?_
    rintro e w3 ⟨v3, rfl, hv3, hb3⟩
    have hv3' := hv3
    obtain ⟨a3, n3, c3, d3, m3, g3, ev3, _, _⟩ := hv3'.raw
    subst ev3
    have HL : Hid (r + 1 < w3.heap.size) := (S2.out.go hb3).lt (r + 1)
    have S3 : Hid _ := ((S2.out.go hb3).addF hv3).box (.slice a3 n3 c3) (.slice d3 m3 g3) 28 _ rfl
    clear hv3 hv3' hb3 S2 FR
    go_wp2_with fail
    obtain ⟨g, hg⟩ : ∃ g, g = w3.heap.size := ⟨_, rfl⟩
    obtain ⟨w4, hw4⟩ : ∃ w4, w4 = w3.alloc (.cells #[.slice a3 n3 c3, .slice d3 m3 g3] 28) := ⟨_, rfl⟩
    rw [← hw4, ← hg] at S3
    rw [← hw4, ← hg]
    have HG : Hid (r + 1 < g) := by rw [hg]; exact HL
    clear hw4 hg HL
    refine (FF.out.1.ref _ S3.out.bel).mono ?_
    rintro e w5 ⟨v5, rfl, hv5, hb5⟩
    have S5 : Hid _ := (S3.out.go hb5).addM hv5
    clear hv5 hb5 S3
    go_wp2_with fail
    refine (FF.out.2.1.ref _ S5.out.bel).mono ?_
    rintro e w6 ⟨v6, rfl, hv6, hb6⟩
    have S6 : Hid _ := (S5.out.go hb6).addM hv6
    clear hv6 hb6 S5
    go_wp2_with fail
    have FR : Hid (Calls Tryz.prog 16 #[v5, v6] w6 (MakesRRB w6 (x / Nat.gcd x y) (y / Nat.gcd x y) true)) := FM.out v5 v6 _ (S6.out.rat v5 x) (S6.out.rat v6 y)
    refine FR.out.mono ?_
    rintro e w7 ⟨v7, rfl, hv7, hb7⟩
    have hv7' := hv7
    obtain ⟨a7, n7, c7, d7, m7, g7, ev7, _, _⟩ := hv7'
    subst ev7
    have HL : Hid (g < w7.heap.size) := (S6.out.go hb7).lt g
    have S7 : Hid _ := ((S6.out.go hb7).addG hv7).box (.slice a7 n7 c7) (.slice d7 m7 g7) 32 _ rfl
    clear hv7 hb7 S6 FR
    have q0 := S7.out.cel g 0 (.slice a3 n3 c3)
    have q1 := S7.out.cel g 1 (.slice d3 m3 g3)
    go_wp2_with fail
    obtain ⟨h, hh⟩ : ∃ h, h = w7.heap.size := ⟨_, rfl⟩
    obtain ⟨w8, hw8⟩ : ∃ w8, w8 = w7.alloc (.cells #[.slice a7 n7 c7, .slice d7 m7 g7] 32) := ⟨_, rfl⟩
    rw [← hw8, ← hh] at S7
    rw [← hw8, ← hh]
    have HH : Hid (g < h) := by rw [hh]; exact HL
    clear hw8 hh HL q0 q1
    have z0 := S7.out.cel r 0 (.slice none 0 0)
    have z1 := S7.out.cel r 1 (.slice none 0 0)
    have z2 := S7.out.cel (r + 1) 0 (.slice none 0 0)
    have z3 := S7.out.cel (r + 1) 1 (.slice none 0 0)
    have y0 := S7.out.fz r 0
    have y1 := S7.out.fz r 1
    have y2 := S7.out.fz (r + 1) 0
    have y3 := S7.out.fz (r + 1) 1
    have p0 := S7.out.cel g 0 (.slice a3 n3 c3)
    have p1 := S7.out.cel g 1 (.slice d3 m3 g3)
    have p2 := S7.out.cel h 0 (.slice a7 n7 c7)
    have p3 := S7.out.cel h 1 (.slice d7 m7 g7)
    have nb1 : ¬ r = g := by have := HG.out; omega
    have nb2 : ¬ r + 1 = g := by have := HG.out; omega
    have nb3 : ¬ r = h := by have := HG.out; have := HH.out; omega
    have nb4 : ¬ r + 1 = h := by have := HG.out; have := HH.out; omega
    have nb5 : ¬ g = r := fun e => nb1 e.symm
    have nb6 : ¬ g = r + 1 := fun e => nb2 e.symm
    have nb7 : ¬ h = r := fun e => nb3 e.symm
    have nb8 : ¬ h = r + 1 := fun e => nb4 e.symm
    have Z : Hid _ := made_put (w0 := w) (s1 := .slice a3 n3 c3) (s2 := .slice d3 m3 g3) (t1 := .slice a7 n7 c7) (t2 := .slice d7 m7 g7) (fun i hi => by obtain rfl | rfl : i = 0 ∨ i = 1 := (by omega); exact ⟨z0, y0⟩; exact ⟨z1, y1⟩) (fun i hi => by obtain rfl | rfl : i = 0 ∨ i = 1 := (by omega); exact ⟨z2, y2⟩; exact ⟨z3, y3⟩) (S7.out.fr (.agg #[.slice a3 n3 c3, .slice d3 m3 g3]) (x / Nat.gcd x y) (y / Nat.gcd x y)) (S7.out.rfr (.agg #[.slice a7 n7 c7, .slice d7 m7 g7]) (x / Nat.gcd x y) (y / Nat.gcd x y)) S7.out.bel (S7.out.lo r)
    go_region
    go_wp2_with fail
    refine bodyPost_ret (v := .tuple #[.agg #[.slice a3 n3 c3, .slice d3 m3 g3], .agg #[.slice a7 n7 c7, .slice d7 m7 g7]]) (by simp [results, Tryz.results8, go_sem, z0, z1, z2, z3]) rfl ?_
    rw [EY.out]
    exact ⟨_, _, rfl, Z.out.1.mono (bel_dr (bel_refl _)), Z.out.2.1.mono (bel_dr (bel_refl _)), bel_dr Z.out.2.2⟩
end Go.Proofs.YtmiiaomdenpceaaGreatDoor


