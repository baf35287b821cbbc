/- Contracts of the program's functions, part 23: own work, joined in build order. -/
import Derived.Test.YtmiiaomdenpceaaGreatDoorJ22
import Derived.Laws.BitsAllLaws
import Derived.Shelf.Strings.Repeat
import Derived.Test.YtmiiaomdenpceaaGreatDoorProg
namespace Go.Proofs.YtmiiaomdenpceaaGreatDoor
open Go.RowKit
set_option maxRecDepth 100000
set_option linter.unusedVariables false
set_option maxHeartbeats 1000000 in
theorem value3_sub (u x0 E m t s d : Nat) (w : World) (h : Flk u x0 E m t s) (h3 : E = 0) (hm5 : m < 4503599627370496) (hT : Tab w) (hd : d = 1074) :
    Calls Tryz.prog 32 #[.int .u64 (u : Int)] w (MakesR w (m / Nat.gcd m (2 ^ d)) (2 ^ d / Nat.gcd m (2 ^ d))) := by
  have RR : Hid (Frl u x0 E m t s) := h.rules
  have HT : Hid (Tab w) := hT
  have HN : Hid (True ∧ True ∧ RS (m) ∧ RS (2 ^ d) ∧ 0 < 2 ^ d ∧ m < 18446744073709551616 ∧ d ≤ 16777216) := ⟨trivial, trivial, rs_word (by omega), ⟨P_up (two_P (n := 17) (by omega)) (by omega)⟩, Nat.two_pow_pos _, by omega, by omega⟩
  have e0 : (E : Int) = 0 := by omega
  have HED : Hid ((1074 : Int) = (d : Int)) := by show _ = _; omega
  clear h hT hd hm5 h3
  obtain ⟨r2, r3, r5, r6, r7, r8, r9⟩ := RR.out
  have S1 : Hid _ := (sy_start w).box (.slice none 0 0) (.slice none 0 0) 28 _ rfl
  go_enter Tryz.func32, Tryz.ntmps32
  go_wp2_with fail
  refine (of_any m _ HN.out.2.2.2.2.2.1).mono ?_
  rintro e w2 ⟨v2, rfl, hv2, hb2⟩
  obtain ⟨a1, n1, c1, rfl⟩ := hv2.isAgg
  have S2 : Hid _ := (S1.out.go hb2).addN hv2
  clear hv2 hb2 S1
  go_wp2_with fail
  refine (of_any 1 _ (by omega)).mono ?_
  rintro e w3 ⟨v3, rfl, hv3, hb3⟩
  obtain ⟨a2, n2, c2, rfl⟩ := hv3.isAgg
  have HL : Hid (w.heap.size < w3.heap.size) := (S2.out.go hb3).lt w.heap.size
  have S3 : Hid _ := (((S2.out.go hb3).addN hv3).box1 (.slice a1 n1 c1) 26 _ rfl).box1 (.slice a2 n2 c2) 26 _ rfl
  simp only [World.size_alloc] at S3
  clear hv3 hb3 S2
  go_wp2_with fail
  obtain ⟨g, hg⟩ : ∃ g, g = w3.heap.size := ⟨_, rfl⟩
  obtain ⟨b, hb⟩ : ∃ b, b = w.heap.size := ⟨_, rfl⟩
  obtain ⟨w4, hw4⟩ : ∃ w4, w4 = (w3.alloc (.cells #[.slice a1 n1 c1] 26)).alloc (.cells #[.slice a2 n2 c2] 26) := ⟨_, rfl⟩
  rw [← hw4, ← hg, ← hb] at S3
  rw [← hw4, ← hg, ← hb]
  have HG : Hid (b < g) := by rw [hg, hb]; exact HL
  clear hw4 hg hb HL
  rw [HED.out]
  refine (left_yes _ 1 d _ (S3.out.at (.agg #[.slice a2 n2 c2]) 1) (rs_word (by have := HN.out.2.2.2.2.2.1; omega)).fits HN.out.2.2.2.2.2.2).mono ?_
  rintro e w5 ⟨v5, rfl, hv5, hb5⟩
  obtain ⟨a5, n5', c5, rfl⟩ := hv5.isAgg
  have S5 : Hid _ := (S3.out.go hb5).addN hv5
  clear hv5 hb5 S3
  have k1 := S5.out.cel (g + 1) 0 (.slice a2 n2 c2)
  have f1 := S5.out.fz (g + 1) 0
  have S6 : Hid _ := (S5.out.set (b := g + 1) (i := 0) k1 (S5.out.lo (g + 1)) [(g, 0, .slice a1 n1 c1), (b, 0, .slice none 0 0), (b, 1, .slice none 0 0)] (by have := HG.out; simp; omega) (.slice a5 n5' c5)).addC (b := g + 1) (i := 0) (v := .slice a5 n5' c5) (by simp [go_sem, k1])
  have k3 : (w5.setCell ⟨g + 1, 0, none⟩ (.slice a5 n5' c5)).cell? ⟨g, 0, none⟩ = some (.slice a1 n1 c1) := S6.out.cel (g) 0 (.slice a1 n1 c1)
  have k4 : (w5.setCell ⟨g + 1, 0, none⟩ (.slice a5 n5' c5)).cell? ⟨g + 1, 0, none⟩ = some (.slice a5 n5' c5) := S6.out.cel (g + 1) 0 (.slice a5 n5' c5)
  go_wp2_with fail
  obtain ⟨w6, hw6⟩ : ∃ w6, w6 = w5.setCell ⟨g + 1, 0, none⟩ (.slice a5 n5' c5) := ⟨_, rfl⟩
  rw [← hw6] at S6
  rw [← hw6]
  clear hw6 k1 k3 k4 f1 S5
  have NV := S6.out.at (.agg #[.slice a5 n5' c5]) (1 * 2 ^ d)
  rw [Nat.one_mul] at NV
  have HNV : Hid _ := NV
  clear NV
  refine (from_any _ _ (m) (2 ^ d) _ (S6.out.at (.agg #[.slice a1 n1 c1]) m) (HNV.out) HN.out.2.2.1 HN.out.2.2.2.1 HN.out.2.2.2.2.1 (HT.out.go S6.out.bel)).mono ?_
  rintro e w7 ⟨v7, rfl, hv7, hb7⟩
  have hv7' := hv7
  obtain ⟨a7, n7, c7, d7, m7, g7, ev7, _, _⟩ := hv7'.raw
  subst ev7
  have S7 : Hid _ := ((S6.out.go hb7).addF hv7).go (w' := w7.alloc (.cells #[.slice a7 n7 c7, .slice d7 m7 g7] 28)) (bel_al (bel_refl _))
  have q0 : (w7.alloc (.cells #[.slice a7 n7 c7, .slice d7 m7 g7] 28)).cell? ⟨w7.heap.size, 0, none⟩ = some (.slice a7 n7 c7) := by simp [go_sem]
  have q1' : (w7.alloc (.cells #[.slice a7 n7 c7, .slice d7 m7 g7] 28)).cell? ⟨w7.heap.size, 1, none⟩ = some (.slice d7 m7 g7) := by simp [go_sem]
  clear hv7 hv7' hb7 S6
  have z0 := S7.out.cel b 0 (.slice none 0 0)
  have z1 := S7.out.cel b 1 (.slice none 0 0)
  have y0 := S7.out.fz b 0
  have y1 := S7.out.fz b 1
  have Z : Hid _ := rat_put (w0 := w) (v := .slice a7 n7 c7) (u := .slice d7 m7 g7) z0 z1 (S7.out.fr (.agg #[.slice a7 n7 c7, .slice d7 m7 g7]) ((m) / Nat.gcd (m) (2 ^ d)) ((2 ^ d) / Nat.gcd (m) (2 ^ d))) S7.out.bel (S7.out.lo b)
  go_wp2_with fail
  exact bodyPost_ret (v := .agg #[.slice a7 n7 c7, .slice d7 m7 g7]) (by simp [results, Tryz.results32, go_sem, z0, z1]) rfl ⟨_, rfl, Z.out.1, Z.out.2⟩
theorem value3_neg (w : World) (hT : Tab w) : Calls Tryz.prog 32 #[.int .u64 ((9223372036854775808 : Nat) : Int)] w (MakesR w 0 1) := by
  obtain ⟨d, hd⟩ : ∃ d, d = 1074 := ⟨_, rfl⟩
  have h := value3_sub 9223372036854775808 _ _ _ _ _ d w ⟨by omega, rfl, rfl, rfl, rfl, rfl⟩ (by decide) (by decide) hT hd
  rw [show 9223372036854775808 % 4503599627370496 = 0 from rfl, Nat.gcd_zero_left, Nat.zero_div, Nat.div_self (Nat.two_pow_pos _)] at h
  exact h
theorem valueF (u : Nat) (w : World) (hb : isFb u = true) (hT : Tab w) : Calls Tryz.prog 32 #[.int .u64 (u : Int)] w (MakesR w (ffP u) (ffQ u)) := by
  by_cases h1 : u = 9223372036854775808
  · subst h1
    rw [ff_zero.1, ff_zero.2]
    exact value3_neg w hT
  · have h2 : u < 9218868437227405312 := by unfold isFb at hb; simp at hb; omega
    rw [(ff_yes h2).1, (ff_yes h2).2]
    exact value3_any u w h2 hT
theorem tfF {u : Nat} (hb : isFb u = true) : tfV (ffP u) (ffQ u) = u % 9223372036854775808 ∧ tfOk (ffP u) (ffQ u) = true := by
  by_cases h1 : u = 9223372036854775808
  · subst h1
    rw [ff_zero.1, ff_zero.2]
    exact ⟨rfl, rfl⟩
  · have h2 : u < 9218868437227405312 := by unfold isFb at hb; simp at hb; omega
    rw [(ff_yes h2).1, (ff_yes h2).2, Nat.mod_eq_of_lt (by omega)]
    exact tf_back h2
theorem ffQ_pos (u : Nat) : 0 < ffQ u := by
  by_cases hb : isFb u = true
  · by_cases h1 : u = 9223372036854775808
    · subst h1
      rw [ff_zero.2]
      omega
    · have h2 : u < 9218868437227405312 := by unfold isFb at hb; simp at hb; omega
      rw [(ff_yes h2).2]
      exact Nat.div_pos (Nat.le_of_dvd (fD_pos u) (Nat.gcd_dvd_right _ _)) (Nat.gcd_pos_of_pos_right _ (fD_pos u))
  · rw [(ff_no (by simpa using hb)).2]
    omega
theorem bits_below (u : Nat) (w : World) : Calls Tryz.prog 11 #[.float .f64 u] w fun e w' => e = .returned (.int .u64 (u : Int)) ∧ Below w.heap.size w w' := by
  refine (bits_any u w).mono ?_
  rintro e w' ⟨rfl, rfl⟩
  exact ⟨rfl, bel_refl _⟩
theorem andNot_top (u : Nat) (h : u < 18446744073709551616) : bits .andNot .u64 (u : Int) 9223372036854775808 = ((u % 9223372036854775808 : Nat) : Int) := by
  have := u64_andNot_nat u 9223372036854775808 h (by omega)
  rw [show 18446744073709551615 - 9223372036854775808 = 2 ^ 63 - 1 from rfl, Nat.and_two_pow_sub_one_eq_mod] at this
  exact this
theorem same_cmp {p q n : Nat} (h : Fc p q p q n) (hn : n ≤ 90) : ∀ v u w, Rt w v p q → Rt w u p q → Calls Tryz.prog 30 #[v, u] w fun e w' => e = .returned (.int .i64 0) ∧ Below w.heap.size w w' := h.cmp h hn hn (cmpI_same rfl)
end Go.Proofs.YtmiiaomdenpceaaGreatDoor

namespace Go.Proofs
open Go.Shelf
def Tryz.lays105_ren : Go.Shelf.Ren := ⟨fun | 105 => 72 | 212 => 103 | 99 => 104 | 165 => 105 | 166 => 106 | 170 => 107 | 169 => 108 | 263 => 132 | 264 => 133 | 206 => 134 | 240 => 135 | 241 => 136 | 276 => 146 | 277 => 147 | n => n, fun | 9 => 9 | 3 => 3 | 4 => 4 | 20 => 20 | 0 => 0 | 46 => 66 | 109 => 140 | 5 => 5 | 72 => 145 | 76 => 149 | 51 => 173 | 146 => 174 | 53 => 23 | 148 => 165 | 70 => 143 | 37 => 22 | 75 => 148 | 127 => 177 | 164 => 185 | 80 => 106 | n => n, fun | n => n⟩
theorem Tryz.lays105 : Go.Proofs.Lays.n105 Tryz.prog Tryz.lays105_ren := {
  mixed := by kernel_rfl
  f99 := Tryz.func104.trans (congrArg some (by kernel_rfl))
  f105 := Tryz.func72.trans (congrArg some (by kernel_rfl))
  f165 := Tryz.func105.trans (congrArg some (by kernel_rfl))
  f166 := Tryz.func106.trans (congrArg some (by kernel_rfl))
  f169 := Tryz.func108.trans (congrArg some (by kernel_rfl))
  f170 := Tryz.func107.trans (congrArg some (by kernel_rfl))
  f206 := Tryz.func134.trans (congrArg some (by kernel_rfl))
  f212 := Tryz.func103.trans (congrArg some (by kernel_rfl))
  f240 := Tryz.func135.trans (congrArg some (by kernel_rfl))
  f241 := Tryz.func136.trans (congrArg some (by kernel_rfl))
  f263 := Tryz.func132.trans (congrArg some (by kernel_rfl))
  f264 := Tryz.func133.trans (congrArg some (by kernel_rfl))
  f276 := Tryz.func146.trans (congrArg some (by kernel_rfl))
  f277 := Tryz.func147.trans (congrArg some (by kernel_rfl))
  t0 := Tryz.underlying0
  a0 := Tryz.isAgg0
  z0 := Tryz.sizeOf0
  v0 := Tryz.zeroValue0
  t3 := Tryz.underlying3
  a3 := Tryz.isAgg3
  z3 := Tryz.sizeOf3
  v3 := Tryz.zeroValue3
  t4 := Tryz.underlying4
  a4 := Tryz.isAgg4
  z4 := Tryz.sizeOf4
  v4 := Tryz.zeroValue4
  t5 := Tryz.underlying5
  a5 := Tryz.isAgg5
  z5 := Tryz.sizeOf5
  v5 := Tryz.zeroValue5
  t9 := Tryz.underlying9
  a9 := Tryz.isAgg9
  z9 := Tryz.sizeOf9
  v9 := Tryz.zeroValue9
  t20 := Tryz.underlying20
  a20 := Tryz.isAgg20
  z20 := Tryz.sizeOf20
  v20 := Tryz.zeroValue20
  t37 := Tryz.underlying22
  a37 := Tryz.isAgg22
  z37 := Tryz.sizeOf22
  v37 := Tryz.zeroValue22
  t46 := Tryz.underlying66
  a46 := Tryz.isAgg66
  z46 := Tryz.sizeOf66
  v46 := Tryz.zeroValue66
  t51 := Tryz.underlying173
  a51 := Tryz.isAgg173
  z51 := Tryz.sizeOf173
  v51 := Tryz.zeroValue173
  t53 := Tryz.underlying23
  a53 := Tryz.isAgg23
  z53 := Tryz.sizeOf23
  v53 := Tryz.zeroValue23
  t70 := Tryz.underlying143
  a70 := Tryz.isAgg143
  z70 := Tryz.sizeOf143
  v70 := Tryz.zeroValue143
  t72 := Tryz.underlying145
  a72 := Tryz.isAgg145
  z72 := Tryz.sizeOf145
  v72 := Tryz.zeroValue145
  t75 := Tryz.underlying148
  a75 := Tryz.isAgg148
  z75 := Tryz.sizeOf148
  v75 := Tryz.zeroValue148
  t76 := Tryz.underlying149
  a76 := Tryz.isAgg149
  z76 := Tryz.sizeOf149
  v76 := Tryz.zeroValue149
  t109 := Tryz.underlying140
  a109 := Tryz.isAgg140
  z109 := Tryz.sizeOf140
  v109 := Tryz.zeroValue140
  t127 := Tryz.underlying177
  a127 := Tryz.isAgg177
  z127 := Tryz.sizeOf177
  v127 := Tryz.zeroValue177
  t146 := Tryz.underlying174
  a146 := Tryz.isAgg174
  z146 := Tryz.sizeOf174
  v146 := Tryz.zeroValue174
  t148 := Tryz.underlying165
  a148 := Tryz.isAgg165
  z148 := Tryz.sizeOf165
  v148 := Tryz.zeroValue165
  t164 := Tryz.underlying185
  a164 := Tryz.isAgg185
  z164 := Tryz.sizeOf185
  v164 := Tryz.zeroValue185 }
theorem Tryz.Builder_Extra_105 : Builder.Extra Tryz.prog Tryz.lays105_ren := {
  sizeBuilder := by kernel_rfl
  liesBuilder := by kernel_rfl
  t5 := Tryz.underlying5
  a5 := Tryz.isAgg5
  z5 := Tryz.sizeOf5
  v5 := Tryz.zeroValue5
  infoByte := by kernel_rfl
  cellsByte := by kernel_rfl
  sizeByte := by kernel_rfl
  neB5 := by decide }
end Go.Proofs

namespace Go.Proofs.YtmiiaomdenpceaaGreatDoor
open Go.RowKit
set_option linter.unusedVariables false
theorem repeat_zero (n : Nat) : Lib.repeatL [48] n = List.replicate n (48 : UInt8) := by
  induction n with
  | zero => rfl
  | succ n ih =>
    rw [Lib.repeatL, ih, List.replicate_succ]
    rfl
theorem rep_any {n : Nat} (hn : n ≤ 1000) : RepIs n := fun w => by
  have h : Calls Tryz.prog 72 #[.string ⟨#[48]⟩, .int .i64 (n : Int)] w _ := Any.strings_Repeat Tryz.lays105 Tryz.Builder_Extra_105 ⟨#[48]⟩ n w (by omega) (by show 1 * n ≤ _; omega)
  refine h.mono ?_
  rintro e w' ⟨rfl, hb⟩
  refine ⟨?_, hb⟩
  rw [show (⟨#[48]⟩ : ByteArray).data.toList = [48] from rfl, repeat_zero]
  unfold zrs
  rw [List.toArray_replicate]
end Go.Proofs.YtmiiaomdenpceaaGreatDoor

namespace Go.Proofs.YtmiiaomdenpceaaGreatDoor
open Go.RowKit
set_option maxRecDepth 100000
set_option linter.unusedVariables false
set_option maxHeartbeats 1000000 in
theorem cut3_any (a : Option Addr) (len cap : Nat) (D : Nat → Nat) (w : World) (h : BSl w a len cap D) :
    Calls Tryz.prog 40 #[.slice a len cap] w fun e w' => e = .returned (.slice a (min len 300) cap) ∧ w' = w := by
  have hl2 : (len : Int) ≤ 9223372036854775807 := by have := h.1; have := h.2.1; omega
  by_cases hl : 300 < len
  · obtain ⟨b, o, rfl, hw⟩ : ∃ b o, a = some ⟨b, o, none⟩ ∧ ∀ i, i < len → w.cell? ⟨b, o + i, none⟩ = some (.int .u8 (D i : Nat)) := h.2.2.2.resolve_left (by omega)
    have sl : ∀ w, (Instr.slice 22 (.slice (some ⟨b, o, none⟩) len cap) none (some (.int .i64 300)) none).run Tryz.prog w = .ok (.slice (some ⟨b, o, none⟩) 300 cap) w := slice_bh b o len cap 300 (by have := h.1; omega)
    have hcz : ¬ cap = 0 := by have := h.1; omega
    have hcz2 : (300 : Int) ≤ cap := by have := h.1; omega
    have haz : (⟨b, o, none⟩ : Addr).add 0 = ⟨b, o, none⟩ := by simp [Addr.add]
    have hd : decide (300 < (len : Int)) = true := decide_eq_true (by omega)
    have HH : Hid (min len 300 = 300) := by show _ = _; omega
    clear h hw
    go_enter Tryz.func40, Tryz.ntmps40
    go_wp2_with fail
    go_ret
    rw [HH.out]
    exact ⟨rfl, rfl⟩
  · have hd : decide (300 < (len : Int)) = false := decide_eq_false (by omega)
    have HH : Hid (min len 300 = len) := by show _ = _; omega
    clear h
    go_enter Tryz.func40, Tryz.ntmps40
    go_wp2_with fail
    go_ret
    rw [HH.out]
    exact ⟨rfl, rfl⟩
/-- Bytes that are handed in: what comes of them. -/
structure Fed3 (w : World) (a : Option Addr) (len cap m x : Nat) : Prop where
  cut : ∀ w', Below w.heap.size w w' → Calls Tryz.prog 40 #[.slice a len cap] w' fun e w2 => e = .returned (.slice a m cap) ∧ w2 = w'
  nat : ∀ w', Below w.heap.size w w' → Calls Tryz.prog 22 #[.slice a m cap] w' (Makes w' x)
  ref : ∀ w', Below w.heap.size w w' → Calls Tryz.prog 41 #[.slice a m cap] w' (RMakes w' x)
  rs : x < P 38
theorem fed3_of {w : World} {a : Option Addr} {len cap : Nat} {D : Nat → Nat} (h : BSl w a len cap D) : ∃ m x, Fed3 w a len cap m x := by
  refine ⟨Min.min len 300, BV D (Min.min len 300), fun w' hb => ?_, fun w' hb => ?_, fun w' hb => ?_, ?_⟩
  · exact cut3_any a len cap D w' (h.mono hb)
  · exact fromBytes_any _ _ _ _ _ ((h.min 300).mono hb) (by omega)
  · exact rfromBytes_any _ _ _ _ _ ((h.min 300).mono hb) (by omega)
  · exact BV_P' (h.min 300).2.2.1 (by omega)
theorem Fed3.go {w w' : World} {a : Option Addr} {len cap m x : Nat} (h : Fed3 w a len cap m x) (hb : Below w.heap.size w w') : Fed3 w' a len cap m x :=
  ⟨fun w2 h2 => h.cut w2 (bel_go hb h2), fun w2 h2 => h.nat w2 (bel_go hb h2), fun w2 h2 => h.ref w2 (bel_go hb h2), h.rs⟩
theorem rs38 {x : Nat} (h : x < P 38) : RS x := ⟨P_up h (by omega)⟩
theorem orOne_38 {y : Nat} (h : y < P 38) : orOne y < P 38 := by
  unfold orOne
  split
  · exact Nat.lt_of_lt_of_le (by rw [P_one]; omega) (P_le (show 1 ≤ 38 by omega))
  · exact h
set_option maxHeartbeats 4000000 in
theorem made3_true (a0 : Option Addr) (l0 k0 : Nat) (a5 : Option Addr) (l5 k5 : Nat) (m0 m5 x y : Nat) (w : World) (h0 : Fed3 w a0 l0 k0 m0 x) (h5 : Fed3 w a5 l5 k5 m5 y) (hT : Tab w) :
    Calls Tryz.prog 8 #[.slice a0 l0 k0, .slice a5 l5 k5] w (MakesM w (x / Nat.gcd x (orOne y)) (orOne y / Nat.gcd x (orOne y))) := by
  by_cases hy : y = 0
  · have EY : Hid (orOne y = 1) := by show orOne y = 1; unfold orOne; rw [if_pos hy]
    have FN : Hid (∀ v u w, IsNat w v x → IsNat w u y → Tab w → Calls Tryz.prog 21 #[v, u] w (MakesRB w 0 1 false)) := fun v u w p q _ => from_none v u x w p (by rw [hy] at q; exact q)
    have FM : Hid (∀ v u w, RNat w v x → RNat w u y → Calls Tryz.prog 16 #[v, u] w (MakesRRB w 0 1 false)) := fun v u w p q => rfrom2_none v u x y w p q (rs38 h0.rs).rsome (rs38 h5.rs).rsome hy
    clear hy
    have FF : Hid (Fed3 w a0 l0 k0 m0 x ∧ Fed3 w a5 l5 k5 m5 y ∧ Tab w) := ⟨h0, h5, hT⟩
    have S0 : Hid _ := ((sy_start w).box (.slice none 0 0) (.slice none 0 0) 28 _ rfl).box (.slice none 0 0) (.slice none 0 0) 32 _ rfl
    simp only [World.size_alloc] at S0
    clear h0 h5 hT
    go_enter Tryz.func8, Tryz.ntmps8
    go_wp2_with fail
    obtain ⟨r, hr⟩ : ∃ r, r = w.heap.size := ⟨_, rfl⟩
    obtain ⟨w0, hw0⟩ : ∃ w0, w0 = (w.alloc (.cells #[.slice none 0 0, .slice none 0 0] 28)).alloc (.cells #[.slice none 0 0, .slice none 0 0] 32) := ⟨_, rfl⟩
    rw [← hw0, ← hr] at S0
    rw [← hw0, ← hr]
    clear hw0 hr
    refine (FF.out.1.cut _ S0.out.bel).mono ?_
    rintro e wx ⟨rfl, hwx⟩
    rw [hwx]
    clear hwx wx
    go_wp2_with fail
    refine (FF.out.2.1.cut _ S0.out.bel).mono ?_
    rintro e wx ⟨rfl, hwx⟩
    rw [hwx]
    clear hwx wx
    go_wp2_with fail
    refine (FF.out.1.nat _ S0.out.bel).mono ?_
    rintro e w1 ⟨v1, rfl, hv1, hb1⟩
    have S1 : Hid _ := (S0.out.go hb1).addN hv1
    clear hv1 hb1 S0
    go_wp2_with fail
    refine (FF.out.2.1.nat _ S1.out.bel).mono ?_
    rintro e w2 ⟨v2, rfl, hv2, hb2⟩
    have S2 : Hid _ := (S1.out.go hb2).addN hv2
    clear hv2 hb2 S1
    go_wp2_with fail
    have FR : Hid (Calls Tryz.prog 21 #[v1, v2] w2 (MakesRB w2 0 1 false)) := FN.out v1 v2 _ (S2.out.at v1 x) (S2.out.at v2 y) (FF.out.2.2.go S2.out.bel)
    refine FR.out.mono ?_
    rintro e w3 ⟨v3, rfl, hv3, hb3⟩
    have hv3' := hv3
    obtain ⟨a3, n3, c3, d3, m3, g3, ev3, _, _⟩ := hv3'.raw
    subst ev3
    have HL : Hid (r + 1 < w3.heap.size) := (S2.out.go hb3).lt (r + 1)
    have S3 : Hid _ := ((S2.out.go hb3).addF hv3).box (.slice a3 n3 c3) (.slice d3 m3 g3) 28 _ rfl
    clear hv3 hv3' hb3 S2 FR
    go_wp2_with fail
    obtain ⟨g, hg⟩ : ∃ g, g = w3.heap.size := ⟨_, rfl⟩
    obtain ⟨w4, hw4⟩ : ∃ w4, w4 = w3.alloc (.cells #[.slice a3 n3 c3, .slice d3 m3 g3] 28) := ⟨_, rfl⟩
    rw [← hw4, ← hg] at S3
    rw [← hw4, ← hg]
    have HG : Hid (r + 1 < g) := by rw [hg]; exact HL
    clear hw4 hg HL
    refine (FF.out.1.ref _ S3.out.bel).mono ?_
    rintro e w5 ⟨v5, rfl, hv5, hb5⟩
    have S5 : Hid _ := (S3.out.go hb5).addM hv5
    clear hv5 hb5 S3
    go_wp2_with fail
    refine (FF.out.2.1.ref _ S5.out.bel).mono ?_
    rintro e w6 ⟨v6, rfl, hv6, hb6⟩
    have S6 : Hid _ := (S5.out.go hb6).addM hv6
    clear hv6 hb6 S5
    go_wp2_with fail
    have FR : Hid (Calls Tryz.prog 16 #[v5, v6] w6 (MakesRRB w6 0 1 false)) := FM.out v5 v6 _ (S6.out.rat v5 x) (S6.out.rat v6 y)
    refine FR.out.mono ?_
    rintro e w7 ⟨v7, rfl, hv7, hb7⟩
    have hv7' := hv7
    obtain ⟨a7, n7, c7, d7, m7, g7, ev7, _, _⟩ := hv7'
    subst ev7
    have HL : Hid (g < w7.heap.size) := (S6.out.go hb7).lt g
    have S7 : Hid _ := ((S6.out.go hb7).addG hv7).box (.slice a7 n7 c7) (.slice d7 m7 g7) 32 _ rfl
    clear hv7 hb7 S6 FR
    have q0 := S7.out.cel g 0 (.slice a3 n3 c3)
    have q1 := S7.out.cel g 1 (.slice d3 m3 g3)
    go_wp2_with fail
    obtain ⟨h, hh⟩ : ∃ h, h = w7.heap.size := ⟨_, rfl⟩
    obtain ⟨w8, hw8⟩ : ∃ w8, w8 = w7.alloc (.cells #[.slice a7 n7 c7, .slice d7 m7 g7] 32) := ⟨_, rfl⟩
    rw [← hw8, ← hh] at S7
    rw [← hw8, ← hh]
    have HH : Hid (g < h) := by rw [hh]; exact HL
    clear hw8 hh HL q0 q1
    refine (FF.out.1.nat _ S7.out.bel).mono ?_
    rintro e w10 ⟨v10, rfl, hv10, hb10⟩
    have S10 : Hid _ := (S7.out.go hb10).addN hv10
    clear hv10 hb10 S7
    go_wp2_with fail
    refine (of_any 1 _ (by omega)).mono ?_
    rintro e w11 ⟨v11, rfl, hv11, hb11⟩
    have S11 : Hid _ := (S10.out.go hb11).addN hv11
    clear hv11 hb11 S10
    go_wp2_with fail
    refine (from_any v10 v11 x 1 _ (S11.out.at v10 x) (S11.out.at v11 1) (rs38 FF.out.1.rs) (rs_word (by omega)) (by omega) (FF.out.2.2.go S11.out.bel)).mono ?_
    rintro e w12 ⟨v12, rfl, hv12, hb12⟩
    have hv12' := hv12
    obtain ⟨a12, n12, c12, d12, m12, g12, ev12, _, _⟩ := hv12'.raw
    subst ev12
    have S12 : Hid _ := (S11.out.go hb12).addF hv12
    clear hv12 hv12' hb12 S11
    have q0 := S12.out.cel g 0 (.slice a3 n3 c3)
    have q1 := S12.out.cel g 1 (.slice d3 m3 g3)
    have f0 := S12.out.fz g 0
    have f1 := S12.out.fz g 1
    have S13 : Hid _ := (((S12.out.set (b := g) (i := 0) q0 (S12.out.lo g) [(h, 0, .slice a7 n7 c7), (h, 1, .slice d7 m7 g7), (r, 0, .slice none 0 0), (r, 1, .slice none 0 0), (r + 1, 0, .slice none 0 0), (r + 1, 1, .slice none 0 0)] (by have := HG.out; have := HH.out; simp; omega) (.slice a12 n12 c12)).addC (b := g) (i := 1) (v := .slice d3 m3 g3) (by simp [go_sem, q1])).set (b := g) (i := 1) (show (w12.setCell ⟨g, 0, none⟩ (.slice a12 n12 c12)).cell? ⟨g, 1, none⟩ = some (.slice d3 m3 g3) by simp [go_sem, q1]) (S12.out.lo g) [(h, 0, .slice a7 n7 c7), (h, 1, .slice d7 m7 g7), (r, 0, .slice none 0 0), (r, 1, .slice none 0 0), (r + 1, 0, .slice none 0 0), (r + 1, 1, .slice none 0 0)] (by have := HG.out; have := HH.out; simp; omega) (.slice d12 m12 g12))
    have e0 : ((w12.setCell ⟨g, 0, none⟩ (.slice a12 n12 c12)).setCell ⟨g, 1, none⟩ (.slice d12 m12 g12)).cell? ⟨g, 0, none⟩ = some (.slice a12 n12 c12) := by simp [go_sem, q0]
    have e1 : ((w12.setCell ⟨g, 0, none⟩ (.slice a12 n12 c12)).setCell ⟨g, 1, none⟩ (.slice d12 m12 g12)).cell? ⟨g, 1, none⟩ = some (.slice d12 m12 g12) := by simp [go_sem, q1]
    have S14 : Hid _ := (S13.out.addC e0).addC e1
    clear S13 e0 e1
    go_wp2_with fail
    obtain ⟨w14, hw14⟩ : ∃ w14, w14 = (w12.setCell ⟨g, 0, none⟩ (.slice a12 n12 c12)).setCell ⟨g, 1, none⟩ (.slice d12 m12 g12) := ⟨_, rfl⟩
    rw [← hw14] at S14
    rw [← hw14]
    clear hw14 q0 q1 f0 f1 S12
    refine (FF.out.1.ref _ S14.out.bel).mono ?_
    rintro e w15 ⟨v15, rfl, hv15, hb15⟩
    have S15 : Hid _ := (S14.out.go hb15).addM hv15
    clear hv15 hb15 S14
    go_wp2_with fail
    refine (rof_any 1 _ (by omega)).mono ?_
    rintro e w16 ⟨v16, rfl, hv16, hb16⟩
    have S16 : Hid _ := (S15.out.go hb16).addM hv16
    clear hv16 hb16 S15
    go_wp2_with fail
    refine (rfrom2_yes v15 v16 x 1 _ (S16.out.rat v15 x) (S16.out.rat v16 1) (rs38 FF.out.1.rs).rsome (rsome_word (by omega)) (by omega)).mono ?_
    rintro e w17 ⟨v17, rfl, hv17, hb17⟩
    have hv17' := hv17
    obtain ⟨a17, n17, c17, d17, m17, g17, ev17, _, _⟩ := hv17'
    subst ev17
    have S17 : Hid _ := (S16.out.go hb17).addG hv17
    clear hv17 hb17 S16
    have q0 := S17.out.cel h 0 (.slice a7 n7 c7)
    have q1 := S17.out.cel h 1 (.slice d7 m7 g7)
    have f0 := S17.out.fz h 0
    have f1 := S17.out.fz h 1
    have S18 : Hid _ := (((S17.out.set (b := h) (i := 0) q0 (S17.out.lo h) [(g, 0, .slice a12 n12 c12), (g, 1, .slice d12 m12 g12), (r, 0, .slice none 0 0), (r, 1, .slice none 0 0), (r + 1, 0, .slice none 0 0), (r + 1, 1, .slice none 0 0)] (by have := HG.out; have := HH.out; simp; omega) (.slice a17 n17 c17)).addC (b := h) (i := 1) (v := .slice d7 m7 g7) (by simp [go_sem, q1])).set (b := h) (i := 1) (show (w17.setCell ⟨h, 0, none⟩ (.slice a17 n17 c17)).cell? ⟨h, 1, none⟩ = some (.slice d7 m7 g7) by simp [go_sem, q1]) (S17.out.lo h) [(g, 0, .slice a12 n12 c12), (g, 1, .slice d12 m12 g12), (r, 0, .slice none 0 0), (r, 1, .slice none 0 0), (r + 1, 0, .slice none 0 0), (r + 1, 1, .slice none 0 0)] (by have := HG.out; have := HH.out; simp; omega) (.slice d17 m17 g17))
    have e0 : ((w17.setCell ⟨h, 0, none⟩ (.slice a17 n17 c17)).setCell ⟨h, 1, none⟩ (.slice d17 m17 g17)).cell? ⟨h, 0, none⟩ = some (.slice a17 n17 c17) := by simp [go_sem, q0]
    have e1 : ((w17.setCell ⟨h, 0, none⟩ (.slice a17 n17 c17)).setCell ⟨h, 1, none⟩ (.slice d17 m17 g17)).cell? ⟨h, 1, none⟩ = some (.slice d17 m17 g17) := by simp [go_sem, q1]
    have S19 : Hid _ := (S18.out.addC e0).addC e1
    clear S18 e0 e1
    go_wp2_with fail
    obtain ⟨w19, hw19⟩ : ∃ w19, w19 = (w17.setCell ⟨h, 0, none⟩ (.slice a17 n17 c17)).setCell ⟨h, 1, none⟩ (.slice d17 m17 g17) := ⟨_, rfl⟩
    rw [← hw19] at S19
    rw [← hw19]
    clear hw19 q0 q1 f0 f1 S17
    have z0 := S19.out.cel r 0 (.slice none 0 0)
    have z1 := S19.out.cel r 1 (.slice none 0 0)
    have z2 := S19.out.cel (r + 1) 0 (.slice none 0 0)
    have z3 := S19.out.cel (r + 1) 1 (.slice none 0 0)
    have y0 := S19.out.fz r 0
    have y1 := S19.out.fz r 1
    have y2 := S19.out.fz (r + 1) 0
    have y3 := S19.out.fz (r + 1) 1
    have p0 := S19.out.cel g 0 (.slice a12 n12 c12)
    have p1 := S19.out.cel g 1 (.slice d12 m12 g12)
    have p2 := S19.out.cel h 0 (.slice a17 n17 c17)
    have p3 := S19.out.cel h 1 (.slice d17 m17 g17)
    have nb1 : ¬ r = g := by have := HG.out; omega
    have nb2 : ¬ r + 1 = g := by have := HG.out; omega
    have nb3 : ¬ r = h := by have := HG.out; have := HH.out; omega
    have nb4 : ¬ r + 1 = h := by have := HG.out; have := HH.out; omega
    have nb5 : ¬ g = r := fun e => nb1 e.symm
    have nb6 : ¬ g = r + 1 := fun e => nb2 e.symm
    have nb7 : ¬ h = r := fun e => nb3 e.symm
    have nb8 : ¬ h = r + 1 := fun e => nb4 e.symm
    have Z : Hid _ := made_put (w0 := w) (s1 := .slice a12 n12 c12) (s2 := .slice d12 m12 g12) (t1 := .slice a17 n17 c17) (t2 := .slice d17 m17 g17) (fun i hi => by obtain rfl | rfl : i = 0 ∨ i = 1 := (by omega); exact ⟨z0, y0⟩; exact ⟨z1, y1⟩) (fun i hi => by obtain rfl | rfl : i = 0 ∨ i = 1 := (by omega); exact ⟨z2, y2⟩; exact ⟨z3, y3⟩) (S19.out.fr (.agg #[.slice a12 n12 c12, .slice d12 m12 g12]) (x / Nat.gcd x 1) (1 / Nat.gcd x 1)) (S19.out.rfr (.agg #[.slice a17 n17 c17, .slice d17 m17 g17]) (x / Nat.gcd x 1) (1 / Nat.gcd x 1)) S19.out.bel (S19.out.lo r)
    go_region
    go_wp2_with fail
    refine bodyPost_ret (v := .tuple #[.agg #[.slice a12 n12 c12, .slice d12 m12 g12], .agg #[.slice a17 n17 c17, .slice d17 m17 g17]]) (by simp [results, Tryz.results8, go_sem, z0, z1, z2, z3]) rfl ?_
    rw [EY.out]
    exact ⟨_, _, rfl, Z.out.1.mono (bel_dr (bel_refl _)), Z.out.2.1.mono (bel_dr (bel_refl _)), bel_dr Z.out.2.2⟩
  · have EY : Hid (orOne y = y) := by show orOne y = y; unfold orOne; rw [if_neg hy]
    have FN : Hid (∀ v u w, IsNat w v x → IsNat w u y → Tab w → Calls Tryz.prog 21 #[v, u] w (MakesRB w (x / Nat.gcd x y) (y / Nat.gcd x y) true)) := fun v u w p q t => from_any v u x y w p q (rs38 h0.rs) (rs38 h5.rs) (by omega) t
    have FM : Hid (∀ v u w, RNat w v x → RNat w u y → Calls Tryz.prog 16 #[v, u] w (MakesRRB w (x / Nat.gcd x y) (y / Nat.gcd x y) true)) := fun v u w p q => rfrom2_yes v u x y w p q (rs38 h0.rs).rsome (rs38 h5.rs).rsome (by omega)
    clear hy
    have FF : Hid (Fed3 w a0 l0 k0 m0 x ∧ Fed3 w a5 l5 k5 m5 y ∧ Tab w) := ⟨h0, h5, hT⟩
    have S0 : Hid _ := ((sy_start w).box (.slice none 0 0) (.slice none 0 0) 28 _ rfl).box (.slice none 0 0) (.slice none 0 0) 32 _ rfl
    simp only [World.size_alloc] at S0
    clear h0 h5 hT
    go_enter Tryz.func8, Tryz.ntmps8
    go_wp2_with fail
    obtain ⟨r, hr⟩ : ∃ r, r = w.heap.size := ⟨_, rfl⟩
    obtain ⟨w0, hw0⟩ : ∃ w0, w0 = (w.alloc (.cells #[.slice none 0 0, .slice none 0 0] 28)).alloc (.cells #[.slice none 0 0, .slice none 0 0] 32) := ⟨_, rfl⟩
    rw [← hw0, ← hr] at S0
    rw [← hw0, ← hr]
    clear hw0 hr
    refine (FF.out.1.cut _ S0.out.bel).mono ?_
    rintro e wx ⟨rfl, hwx⟩
    rw [hwx]
    clear hwx wx
    go_wp2_with fail
    refine (FF.out.2.1.cut _ S0.out.bel).mono ?_
    rintro e wx ⟨rfl, hwx⟩
    rw [hwx]
    clear hwx wx
    go_wp2_with fail
    refine (FF.out.1.nat _ S0.out.bel).mono ?_
    rintro e w1 ⟨v1, rfl, hv1, hb1⟩
    have S1 : Hid _ := (S0.out.go hb1).addN hv1
    clear hv1 hb1 S0
    go_wp2_with fail
    refine (FF.out.2.1.nat _ S1.out.bel).mono ?_
    rintro e w2 ⟨v2, rfl, hv2, hb2⟩
    have S2 : Hid _ := (S1.out.go hb2).addN hv2
    clear hv2 hb2 S1
    go_wp2_with fail
    have FR : Hid (Calls Tryz.prog 21 #[v1, v2] w2 (MakesRB w2 (x / Nat.gcd x y) (y / Nat.gcd x y) true)) := FN.out v1 v2 _ (S2.out.at v1 x) (S2.out.at v2 y) (FF.out.2.2.go S2.out.bel)
    refine FR.out.mono ?_
    rintro e w3 ⟨v3, rfl, hv3, hb3⟩
    have hv3' := hv3
    obtain ⟨a3, n3, c3, d3, m3, g3, ev3, _, _⟩ := hv3'.raw
    subst ev3
    have HL : Hid (r + 1 < w3.heap.size) := (S2.out.go hb3).lt (r + 1)
    have S3 : Hid _ := ((S2.out.go hb3).addF hv3).box (.slice a3 n3 c3) (.slice d3 m3 g3) 28 _ rfl
    clear hv3 hv3' hb3 S2 FR
    go_wp2_with fail
    obtain ⟨g, hg⟩ : ∃ g, g = w3.heap.size := ⟨_, rfl⟩
    obtain ⟨w4, hw4⟩ : ∃ w4, w4 = w3.alloc (.cells #[.slice a3 n3 c3, .slice d3 m3 g3] 28) := ⟨_, rfl⟩
    rw [← hw4, ← hg] at S3
    rw [← hw4, ← hg]
    have HG : Hid (r + 1 < g) := by rw [hg]; exact HL
    clear hw4 hg HL
    refine (FF.out.1.ref _ S3.out.bel).mono ?_
    rintro e w5 ⟨v5, rfl, hv5, hb5⟩
    have S5 : Hid _ := (S3.out.go hb5).addM hv5
    clear hv5 hb5 S3
    go_wp2_with fail
    refine (FF.out.2.1.ref _ S5.out.bel).mono ?_
    rintro e w6 ⟨v6, rfl, hv6, hb6⟩
    have S6 : Hid _ := (S5.out.go hb6).addM hv6
    clear hv6 hb6 S5
    go_wp2_with fail
    have FR : Hid (Calls Tryz.prog 16 #[v5, v6] w6 (MakesRRB w6 (x / Nat.gcd x y) (y / Nat.gcd x y) true)) := FM.out v5 v6 _ (S6.out.rat v5 x) (S6.out.rat v6 y)
    refine FR.out.mono ?_
    rintro e w7 ⟨v7, rfl, hv7, hb7⟩
    have hv7' := hv7
    obtain ⟨a7, n7, c7, d7, m7, g7, ev7, _, _⟩ := hv7'
    subst ev7
    have HL : Hid (g < w7.heap.size) := (S6.out.go hb7).lt g
    have S7 : Hid _ := ((S6.out.go hb7).addG hv7).box (.slice a7 n7 c7) (.slice d7 m7 g7) 32 _ rfl
    clear hv7 hb7 S6 FR
    have q0 := S7.out.cel g 0 (.slice a3 n3 c3)
    have q1 := S7.out.cel g 1 (.slice d3 m3 g3)
    go_wp2_with fail
    obtain ⟨h, hh⟩ : ∃ h, h = w7.heap.size := ⟨_, rfl⟩
    obtain ⟨w8, hw8⟩ : ∃ w8, w8 = w7.alloc (.cells #[.slice a7 n7 c7, .slice d7 m7 g7] 32) := ⟨_, rfl⟩
    rw [← hw8, ← hh] at S7
    rw [← hw8, ← hh]
    have HH : Hid (g < h) := by rw [hh]; exact HL
    clear hw8 hh HL q0 q1
    have z0 := S7.out.cel r 0 (.slice none 0 0)
    have z1 := S7.out.cel r 1 (.slice none 0 0)
    have z2 := S7.out.cel (r + 1) 0 (.slice none 0 0)
    have z3 := S7.out.cel (r + 1) 1 (.slice none 0 0)
    have y0 := S7.out.fz r 0
    have y1 := S7.out.fz r 1
    have y2 := S7.out.fz (r + 1) 0
    have y3 := S7.out.fz (r + 1) 1
    have p0 := S7.out.cel g 0 (.slice a3 n3 c3)
    have p1 := S7.out.cel g 1 (.slice d3 m3 g3)
    have p2 := S7.out.cel h 0 (.slice a7 n7 c7)
    have p3 := S7.out.cel h 1 (.slice d7 m7 g7)
    have nb1 : ¬ r = g := by have := HG.out; omega
    have nb2 : ¬ r + 1 = g := by have := HG.out; omega
    have nb3 : ¬ r = h := by have := HG.out; have := HH.out; omega
    have nb4 : ¬ r + 1 = h := by have := HG.out; have := HH.out; omega
    have nb5 : ¬ g = r := fun e => nb1 e.symm
    have nb6 : ¬ g = r + 1 := fun e => nb2 e.symm
    have nb7 : ¬ h = r := fun e => nb3 e.symm
    have nb8 : ¬ h = r + 1 := fun e => nb4 e.symm
    have Z : Hid _ := made_put (w0 := w) (s1 := .slice a3 n3 c3) (s2 := .slice d3 m3 g3) (t1 := .slice a7 n7 c7) (t2 := .slice d7 m7 g7) (fun i hi => by obtain rfl | rfl : i = 0 ∨ i = 1 := (by omega); exact ⟨z0, y0⟩; exact ⟨z1, y1⟩) (fun i hi => by obtain rfl | rfl : i = 0 ∨ i = 1 := (by omega); exact ⟨z2, y2⟩; exact ⟨z3, y3⟩) (S7.out.fr (.agg #[.slice a3 n3 c3, .slice d3 m3 g3]) (x / Nat.gcd x y) (y / Nat.gcd x y)) (S7.out.rfr (.agg #[.slice a7 n7 c7, .slice d7 m7 g7]) (x / Nat.gcd x y) (y / Nat.gcd x y)) S7.out.bel (S7.out.lo r)
    go_region
    go_wp2_with fail
    refine bodyPost_ret (v := .tuple #[.agg #[.slice a3 n3 c3, .slice d3 m3 g3], .agg #[.slice a7 n7 c7, .slice d7 m7 g7]]) (by simp [results, Tryz.results8, go_sem, z0, z1, z2, z3]) rfl ?_
    rw [EY.out]
    exact ⟨_, _, rfl, Z.out.1.mono (bel_dr (bel_refl _)), Z.out.2.1.mono (bel_dr (bel_refl _)), bel_dr Z.out.2.2⟩
end Go.Proofs.YtmiiaomdenpceaaGreatDoor

