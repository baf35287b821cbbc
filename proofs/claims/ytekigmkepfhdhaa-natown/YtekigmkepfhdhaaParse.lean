/- Parse: the number of decimal digits. -/
import Derived.Test.YtekigmkepfhdhaaText
namespace Go.Proofs.Ytekigmkepfhdhaa
open Go.RowKit
set_option maxRecDepth 100000
set_option linter.unusedVariables false
/-- The byte of a string at a place. -/
def sb (s : ByteArray) (i : Nat) : Nat := if h : i < s.size then (s[i]'h).toNat else 0
theorem sb_at {s : ByteArray} {i : Nat} (h : i < s.size) : (s[i]'h).toNat = sb s i := by simp [sb, h]
theorem sb_lt (s : ByteArray) (i : Nat) : sb s i < 256 := by
  unfold sb
  split
  · exact UInt8.toNat_lt _
  · omega
/-- The number of the first i digits. -/
def decVal (s : ByteArray) : Nat → Nat
  | 0 => 0
  | i + 1 => decVal s i * 10 + (sb s i - 48)
def Digits (s : ByteArray) (n : Nat) : Prop := ∀ i, i < n → 48 ≤ sb s i ∧ sb s i ≤ 57
theorem OR.sl {w : World} {base n : Nat} {v : Value} {F : Nat → Nat} (h : OR w 22 base v n (wd F)) (hF : Ok F n) : ∃ a cap, v = .slice a n cap ∧ Sl w a n cap F := by
  rcases h with ⟨rfl, rfl⟩ | ⟨g, cap, f, rfl, h1, h2, h3, h4, h5⟩
  · exact ⟨none, 0, rfl, Nat.le_refl _, by omega, hF, .inl rfl⟩
  · refine ⟨_, cap, rfl, h2, by simp only [maxLen] at h3; omega, hF, .inr ⟨g, 0, rfl, fun i hi => ?_⟩⟩
    rw [Nat.zero_add, h4.cell (show i < cap by omega), h5 i hi]
    rfl
theorem bel_less {B B' : Nat} {w w' : World} (h : Below B w w') (hb : B' ≤ B) : Below B' w w' := ⟨h.os, h.tape, h.output, h.size, fun i hi => h.block i (by omega)⟩
set_option maxHeartbeats 1000000 in
theorem parse_any (s : ByteArray) (w : World) (h0 : 0 < s.size) (h1 : s.size ≤ 400) :
    Calls Try.prog 11 #[.string s] w fun e w' => (Digits s s.size → Makes2 w (decVal s s.size) true e w') ∧ (¬ Digits s s.size → e = .returned (.tuple #[.agg #[.slice none 0 0], .bool false]) ∧ Below w.heap.size w w') := by
  have hz : ((s.size : Int) == 0) = false := beq_eq_false_iff_ne.2 (by omega)
  have hgt : decide (400 < (s.size : Int)) = false := decide_eq_false (by omega)
  go_enter Try.func11, Try.ntmps11
  go_wp2_with fail
  go_loopw [4, 17] (fun v t wr => ∃ (i n : Nat) (F : Nat → Nat), i ≤ s.size ∧ t = .int .i64 (i : Int) ∧ OR wr 22 (w.heap.size + 1) v n (wd F) ∧ Ok F n ∧ V F n = decVal s i ∧ n ≤ i ∧ Digits s i ∧ Below (w.heap.size + 1) (w.alloc (Obj.cells #[Value.slice none 0 0] 27)) wr) (fun _ t _ => s.size - (intOf t).toNat)
  case atStart => exact ⟨0, 0, fun _ => 0, by omega, rfl, OR.nil _ _ _ _, fun i hi => absurd hi (by omega), rfl, by omega, fun i hi => absurd hi (by omega), Below.refl _ _⟩
  case round =>
    obtain ⟨i, n, F, hi, rfl, hO, hF, hV, hn, hd, hb⟩ := hrel
    have HH : Hid (OR wr 22 (w.heap.size + 1) u4 n (wd F) ∧ Ok F n ∧ V F n = decVal s i ∧ Digits s i ∧ Below (w.heap.size + 1) (w.alloc (Obj.cells #[Value.slice none 0 0] 27)) wr) := ⟨hO, hF, hV, hd, hb⟩
    clear hO hF hV hd hb
    have hcb : wr.cell? ⟨w.heap.size, 0, none⟩ = some (.slice none 0 0) := (HH.out.2.2.2.2.cell (show w.heap.size < w.heap.size + 1 by omega)).trans (by simp)
    have hfb : wr.frozen? ⟨w.heap.size, 0, none⟩ = false := (HH.out.2.2.2.2.frozen (show w.heap.size < w.heap.size + 1 by omega)).trans (by simp [go_sem])
    have hsz : w.heap.size + 1 ≤ wr.heap.size := by have := HH.out.2.2.2.2.size; simpa using this
    by_cases hii : i < s.size
    · have hc := sb_at hii
      have hc2 := sb_lt s i
      by_cases hlo : sb s i < 48
      · have t1 : decide (((sb s i : Nat) : Int) < 48) = true := decide_eq_true (by omega)
        have HN : Hid (¬ Digits s s.size) := fun hh => by have := hh i hii; omega
        clear hlo
        go_wp2_with fail
        refine bodyPost_ret (v := .tuple #[.agg #[.slice none 0 0], .bool false]) (by simp [results, Try.results11, go_sem, hcb]) rfl ⟨fun hh => absurd hh HN.out, fun _ => ⟨rfl, ?_⟩⟩
        exact (bel_go ((Below.refl _ _).alloc (Nat.le_refl _) _) (bel_less HH.out.2.2.2.2 (by simp))).setCell (Nat.le_refl _) _
      · have t1 : decide (((sb s i : Nat) : Int) < 48) = false := decide_eq_false (by omega)
        by_cases hhi : 57 < sb s i
        · have t2 : decide (57 < ((sb s i : Nat) : Int)) = true := decide_eq_true (by omega)
          have HN : Hid (¬ Digits s s.size) := fun hh => by have := hh i hii; omega
          go_wp2_with fail
          refine bodyPost_ret (v := .tuple #[.agg #[.slice none 0 0], .bool false]) (by simp [results, Try.results11, go_sem, hcb]) rfl ⟨fun hh => absurd hh HN.out, fun _ => ⟨rfl, ?_⟩⟩
          exact (bel_go ((Below.refl _ _).alloc (Nat.le_refl _) _) (bel_less HH.out.2.2.2.2 (by simp))).setCell (Nat.le_refl _) _
        · have t2 : decide (57 < ((sb s i : Nat) : Int)) = false := decide_eq_false (by omega)
          obtain ⟨d, hd⟩ : ∃ d, sb s i = d + 48 := ⟨sb s i - 48, by omega⟩
          have HD : Hid _ := hd
          go_wp2_with fail
          refine (timesTen_any u4 n d F wr (w.heap.size + 1) HH.out.1 HH.out.2.1 hsz (by omega) (by omega)).mono ?_
          rintro e w3 ⟨v3, n3, F3, rfl, hO3, hF3, hV3, hn3, hb3⟩
          have I3 : Hid (OR w3 22 (w.heap.size + 1) v3 n3 (wd F3) ∧ Ok F3 n3 ∧ V F3 n3 = decVal s (i + 1) ∧ n3 ≤ i + 1 ∧ Digits s (i + 1) ∧ Below (w.heap.size + 1) (w.alloc (Obj.cells #[Value.slice none 0 0] 27)) w3) := by
            refine ⟨hO3, hF3, ?_, by omega, fun j hj => ?_, HH.out.2.2.2.2.trans hb3⟩
            · rw [hV3, HH.out.2.2.1, decVal, HD.out]
              omega
            · rcases Nat.lt_or_ge j i with hh | hh
              · exact HH.out.2.2.2.1 j hh
              · obtain rfl : j = i := by omega
                rw [HD.out]
                omega
          clear hO3 hF3 hV3 hn3 hb3 HH HD
          go_wp2_with fail
          go_roundw
          case rel => exact ⟨i + 1, n3, F3, by omega, by go_num, I3.out⟩
          case measure => simp [intOf]; omega
    · obtain rfl : i = s.size := by omega
      obtain ⟨a4, cap4, rfl, hS⟩ := HH.out.1.sl HH.out.2.1
      go_wp2_with fail
      refine (trimmed_any a4 n cap4 F wr hS (by omega)).mono ?_
      rintro e w3 ⟨v3, rfl, hv3, hb3⟩
      obtain ⟨a5, n5, c5, rfl⟩ := hv3.isAgg
      have hcb3 := cell_later hb3 hcb
      have hfb3 := (hb3.frozen (World.block_lt_of_cell? _ _ hcb)).trans hfb
      rw [HH.out.2.2.1] at hv3
      have I3 : Hid (_ ∧ _) := ⟨hv3, (bel_go ((Below.refl _ _).alloc (Nat.le_refl _) _) (bel_go (bel_less HH.out.2.2.2.2 (by simp)) hb3) : Below w.heap.size w w3)⟩
      clear hv3 hb3 hS
      go_wp2_with fail
      refine bodyPost_ret (v := .tuple #[.agg #[.slice a5 n5 c5], .bool true]) (by simp [results, Try.results11, go_sem, hcb3]) rfl ⟨fun _ => ⟨_, rfl, I3.out.1.setCell (no_int_slice hcb3) _, I3.out.2.setCell (Nat.le_refl _) _⟩, fun hh => absurd HH.out.2.2.2.1 hh⟩
set_option maxHeartbeats 1000000 in
theorem parse_long (s : ByteArray) (w : World) (h1 : 400 < s.size) (h2 : s.size ≤ 1099511627776) :
    Calls Try.prog 11 #[.string s] w fun e w' => e = .returned (.tuple #[.agg #[.slice none 0 0], .bool false]) ∧ Below w.heap.size w w' := by
  have hz : ((s.size : Int) == 0) = false := beq_eq_false_iff_ne.2 (by omega)
  have hgt : decide (400 < (s.size : Int)) = true := decide_eq_true (by omega)
  go_enter Try.func11, Try.ntmps11
  go_wp2_with fail
  refine bodyPost_ret (v := .tuple #[.agg #[.slice none 0 0], .bool false]) (by simp [results, Try.results11, go_sem]) rfl ⟨rfl, ?_⟩
  have ba : Below w.heap.size w (w.alloc (Obj.cells #[Value.slice none 0 0] 27)) := (Below.refl _ _).alloc (Nat.le_refl _) _
  exact ba
theorem parse_digits (s : ByteArray) (x : Nat) (w : World) (h0 : 0 < s.size) (h1 : s.size ≤ 400) (hd : Digits s s.size) (hx : decVal s s.size = x) :
    Calls Try.prog 11 #[.string s] w (Makes2 w x true) := by
  subst hx
  exact (parse_any s w h0 h1).mono fun e w' h => h.1 hd
end Go.Proofs.Ytekigmkepfhdhaa
