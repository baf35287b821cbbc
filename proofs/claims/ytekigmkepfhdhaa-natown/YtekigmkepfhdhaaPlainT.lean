/- fillPlain: a number's digits, chunk by chunk. -/
import Derived.Test.YtekigmkepfhdhaaChunk
namespace Go.Proofs.Ytekigmkepfhdhaa
open Go.RowKit
set_option maxRecDepth 100000
set_option linter.unusedVariables false
theorem DecFill.chunk {D D' D'' : Nat → Nat} {o n j x lo e : Nat} (h : DecFill D D' o n (n - 19 * j) x) (he : e = n - 19 * j) (hlo : lo = e - 19) (k : DecFill D' D'' (o + lo) (e - lo) 0 (x / 10000000000000000000 ^ j % 10000000000000000000)) : DecFill D D'' o n (n - 19 * (j + 1)) x := by
  have hp : (10000000000000000000 : Nat) = 10 ^ 19 := by decide
  refine ⟨fun i h1 h2 => ?_, fun i hi => ?_⟩
  · rcases Nat.lt_or_ge i e with hh | hh
    · have := k.1 (i - lo) (by omega) (by omega)
      rw [show o + lo + (i - lo) = o + i by omega] at this
      rw [this, hp, decAt_mod _ _ _ (by omega), ← Nat.pow_mul, decAt_div]
      congr 1
      omega
    · rw [k.2 _ (by omega)]
      exact h.1 i (by omega) h2
  · rw [k.2 _ (by omega)]
    exact h.2 i (by omega)
theorem BRow.kept {w w' : World} {b N : Nat} {D : Nat → Nat} {r : Option Nat} (h : BRow w b N D) (g : w.grownBy w' r) (hne : some b ≠ r) : BRow w' b N D := ⟨h.1.of_block (g.block b h.1.lt hne), h.2⟩
theorem gb_go {a b c : World} {r r' : Option Nat} (h : a.grownBy b r) (k : b.grownBy c r') (hr : ∀ j, r' = some j → a.heap.size ≤ j ∨ r = some j) : a.grownBy c r := by
  refine ⟨k.os.trans h.os, k.tape.trans h.tape, k.output.trans h.output, Nat.le_trans h.size k.size, fun i hi hn => ?_⟩
  refine (k.block i (Nat.lt_of_lt_of_le hi h.size) ?_).trans (h.block i hi hn)
  intro e
  rcases hr i e.symm with hh | hh
  · omega
  · exact hn hh.symm
theorem gb_of_below {a b : World} (h : Below a.heap.size a b) (r : Option Nat) : a.grownBy b r := ⟨h.os, h.tape, h.output, h.size, fun i hi _ => h.block i hi⟩
set_option maxHeartbeats 2000000 in
theorem fillPlain_any (b N o n cap : Nat) (v : Value) (x : Nat) (D : Nat → Nat) (w : World) (hD : BRow w b N D) (ho : o + n ≤ N) (hn : n ≤ 1099511627776) (hcap : n ≤ cap) (hcap2 : cap ≤ 1099511627776) (h : IsNat w v x) (hx : Fits x) :
    Calls Try.prog 71 #[.slice (some ⟨b, o, none⟩) n cap, v] w fun e w' => e = .returned (.tuple #[]) ∧ ∃ D', BRow w' b N D' ∧ DecFill D D' o n 0 x ∧ w.grownBy w' (some b) := by
  obtain ⟨a, m, c, rfl⟩ := h.isAgg
  obtain ⟨F, hs, h0, h1, hv⟩ := h.fits
  have hm : m ≤ 4294967296 := fits_len (hv.symm ▸ hx) h1
  have HS : Hid (Sl w a m c F ∧ V F m = x) := ⟨hs, hv⟩
  have A0 : Hid (BRow w b N D) := hD
  have mk := make_at (m : Int) (m : Int) m m rfl rfl (Nat.le_refl _) (by omega)
  clear hD h hx hs h0 h1 hv
  go_enter Try.func71, Try.ntmps71
  go_wp2_with (refine (id ?_ : wpList Try.prog _ _ (⟨some 14, _, _, _, _, _⟩ :: _) _ _); refine wpList_copy_words rfl (.tmp 11) (.tmp 13) rfl _ _ _ _ _ _ _ rfl rfl m (fun _ => 0) F (row_zeros_at _ m _ (by simp)) (HS.out.1.mono (bel_alloc2 _ _ _)) (by omega) (by omega) ?_)
  intro w2 hR2 hg2
  have B2 : Below w.heap.size w w2 := (bel_alloc2 w _ _).grown hg2 (by simp <;> omega) (fun k hk => by cases hk; omega)
  have hlb : b < w.heap.size := A0.out.1.lt
  have I0 : Hid (BRow w2 b N D ∧ Row w2 (w.heap.size + 1) m (over (fun _ => 0) 0 F m) ∧ w.grownBy w2 (some b)) := ⟨A0.out.below B2, hR2, gb_of_below B2 _⟩
  have HV : Hid _ := HS.out.2
  clear hR2 hg2 B2 HS A0 mk
  go_wp2_with fail
  go_loopw [5] (fun t wr => ∃ (j : Nat) (H D' : Nat → Nat), 19 * j < n + 19 ∧ t = .int .i64 ((n : Int) - 19 * j) ∧ Row wr (w.heap.size + 1) m H ∧ V H m = x / 10000000000000000000 ^ j ∧ BRow wr b N D' ∧ DecFill D D' o n (n - 19 * j) x ∧ w.grownBy wr (some b)) (fun t _ => (intOf t).toNat)
  case atStart =>
    refine ⟨0, _, D, by omega, by simp, I0.out.2.1, ?_, I0.out.1, DecFill.start _ _ _ _, I0.out.2.2⟩
    rw [V_over0, HV.out]
    simp
  case round =>
    clear I0
    obtain ⟨j, H, D', hj, rfl, hA⟩ := hrel
    have HA : Hid _ := hA
    clear hA
    by_cases hk0 : n ≤ 19 * j
    · go_wp2_with fail
      refine bodyPost_end (v := .tuple #[]) (by simp [results, Try.results71, go_sem]) rfl ⟨rfl, D', HA.out.2.2.1, ?_, HA.out.2.2.2.2⟩
      have := HA.out.2.2.2.1
      rw [show n - 19 * j = 0 by omega] at this
      exact this
    · go_wp2_with fail
      refine (divideByWord_any (w.heap.size + 1) m 0 m m 10000000000000000000 H wr HA.out.1 (by omega) (by omega) (by omega) (by omega)).mono ?_
      rintro e w3 ⟨q, rfl, H', hD⟩
      obtain ⟨e1, e2⟩ := hD.fin
      rw [fro_zero, fro_zero, HA.out.2.1, Nat.div_div_eq_div_mul, ← Nat.pow_succ] at e1
      rw [fro_zero, HA.out.2.1] at e2
      have hg3 := hD.2.2.2.2
      have hql : q < 18446744073709551616 := by rw [e2]; exact Nat.lt_trans (Nat.mod_lt _ (by omega)) (by omega)
      have I3 : Hid (Row w3 (w.heap.size + 1) m H' ∧ V H' m = x / 10000000000000000000 ^ (j + 1) ∧ BRow w3 b N D' ∧ w.grownBy w3 (some b) ∧ DecFill D D' o n (n - 19 * j) x ∧ q = x / 10000000000000000000 ^ j % 10000000000000000000) := ⟨hD.1, e1, HA.out.2.2.1.kept hg3 (by intro h; cases h; omega), gb_go HA.out.2.2.2.2 hg3 (fun k hk => by cases hk; omega), HA.out.2.2.2.1, e2⟩
      clear hD e1 e2 hg3 HA
      obtain ⟨el, hel⟩ : ∃ el, el = n - 19 * j := ⟨_, rfl⟩
      obtain ⟨lo, hlo⟩ : ∃ lo, lo = el - 19 := ⟨_, rfl⟩
      have hz1 : (n : Int) - 19 * (j : Int) = (el : Int) := by omega
      rw [hz1]
      have hmx : max (0 : Int) ((el : Int) - 19) = (lo : Int) := by omega
      have hel2 : el ≤ n := by omega
      have hel3 : 0 < el := by omega
      have hto : ((el : Int) - 19).toNat = lo := by omega
      have HL : Hid (el = n - 19 * j ∧ lo = el - 19 ∧ ((el : Int) - 19).toNat = lo) := ⟨hel, hlo, hto⟩
      clear hel hlo hmx hz1 hto hk0 hj
      go_wp2_with fail
      all_goals have hll := HL.out.2.1
      · rw [HL.out.2.2]
        refine (fillChunk_any b N (o + lo) (el - lo) (cap - lo) q D' w3 I3.out.2.2.1 (by omega) (by omega) hql).mono ?_
        rintro e w4 ⟨rfl, D'', hb4, hf4, hg4⟩
        have I4 : Hid _ := hf4
        have I5 : Hid _ := hg4
        have I6 : Hid _ := hb4
        clear hf4 hg4 hb4
        go_wp2_with fail
        go_roundw
        case rel =>
          have hel := HL.out.1
          refine ⟨j + 1, H', D'', by omega, by simp; omega, Row.kept I3.out.1 I5.out (by intro h; cases h; omega), I3.out.2.1, I6.out, ?_, gb_go I3.out.2.2.2.1 I5.out (fun k hk => Or.inr hk)⟩
          have := I4.out
          rw [I3.out.2.2.2.2.2] at this
          exact I3.out.2.2.2.2.1.chunk hel hll this
        case measure =>
          have hel := HL.out.1
          simp [intOf]
          omega
      · have HL0 : Hid (0 = el - 19) := (by omega : 0 = el - 19)
        clear hll
        refine (fillChunk_any b N o el cap q D' w3 I3.out.2.2.1 (by omega) (by omega) hql).mono ?_
        rintro e w4 ⟨rfl, D'', hb4, hf4, hg4⟩
        have I4 : Hid _ := hf4
        have I5 : Hid _ := hg4
        have I6 : Hid _ := hb4
        clear hf4 hg4 hb4
        go_wp2_with fail
        go_roundw
        case rel =>
          have hel := HL.out.1
          refine ⟨j + 1, H', D'', by omega, by simp; omega, Row.kept I3.out.1 I5.out (by intro h; cases h; omega), I3.out.2.1, I6.out, ?_, gb_go I3.out.2.2.2.1 I5.out (fun k hk => Or.inr hk)⟩
          have := I4.out
          rw [I3.out.2.2.2.2.2] at this
          exact I3.out.2.2.2.2.1.chunk (lo := 0) hel HL0.out this
        case measure =>
          have hel := HL.out.1
          simp [intOf]
          omega
end Go.Proofs.Ytekigmkepfhdhaa
