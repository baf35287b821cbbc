/- timesTen: words ten times as much, and a digit more. -/
import Derived.Test.YtekigmkepfhdhaaOwn
import Derived.LoopN
namespace Go.Proofs.Ytekigmkepfhdhaa
open Go.RowKit
set_option maxRecDepth 100000
set_option linter.unusedVariables false
def wd (F : Nat → Nat) : Nat → Value := fun j => .int .u64 ((F j : Nat) : Int)
theorem Try.info22b : (Try.prog.info? 22).map (fun i => (i.zero, i.size, i.bytes)) = some (some (.int .u64 0), 1, 8) := by kernel_rfl
/-- k words of the row are ten times what they were, and c goes on. -/
def Ten (w wr : World) (g cap n : Nat) (F : Nat → Nat) (d k c : Nat) (H : Nat → Nat) : Prop :=
  (∃ f, wr.rowIs g 22 cap f ∧ ∀ i, i < n → f i = wd H i) ∧ Ok H n ∧ c ≤ 9 ∧ V H k + c * P k = V F k * 10 + d ∧ (∀ i, k ≤ i → i < n → H i = F i) ∧ w.grownBy wr (some g)
theorem ten_lin (vh c p vf d s fk c2 : Nat) (h : vh + c * p = vf * 10 + d) (e : s + c2 * 18446744073709551616 = fk * 10 + c) : vh + s * p + c2 * (p * 18446744073709551616) = (vf + fk * p) * 10 + d := by
  have h1 : (s + c2 * 18446744073709551616) * p = (fk * 10 + c) * p := by rw [e]
  rw [Nat.add_mul, Nat.add_mul, Nat.mul_assoc c2, Nat.mul_comm 18446744073709551616 p, Nat.mul_assoc fk, Nat.mul_comm 10 p, ← Nat.mul_assoc fk p 10] at h1
  rw [Nat.add_mul]
  omega
theorem ten_lin2 (aB b eB f X c : Nat) (h1 : f + eB = X) (h2 : b + aB = f + c + 0) : b + (eB + aB) = X + c := by omega
theorem ten_eq (x c : Nat) : addLo (mulLo x 10) c 0 + (mulHi x 10 + addHi (mulLo x 10) c 0) * 18446744073709551616 = x * 10 + c := by
  have h1 := mul_eq x 10
  have h2 := add_eq (mulLo x 10) c 0
  rw [Nat.add_mul]
  exact ten_lin2 _ _ _ _ _ _ h1 h2
theorem ten_le' (s t x c : Nat) (h : s + t * 18446744073709551616 = x * 10 + c) (hx : x < 18446744073709551616) (hc : c ≤ 9) : t ≤ 9 := by omega
theorem ten_le (x c : Nat) (hx : x < 18446744073709551616) (hc : c ≤ 9) : mulHi x 10 + addHi (mulLo x 10) c 0 ≤ 9 := by
  have h := ten_eq x c
  generalize mulHi x 10 + addHi (mulLo x 10) c 0 = t at h
  generalize addLo (mulLo x 10) c 0 = s at h
  exact ten_le' s t x c h hx hc
theorem Ten.step {w wr : World} {g cap n : Nat} {F : Nat → Nat} {d k c : Nat} {H : Nat → Nat} (h : Ten w wr g cap n F d k c H) (hk : k < n) (hn : n ≤ cap) (hF : F k < 18446744073709551616) :
    Ten w (wr.setCell ⟨g, k, none⟩ (.int .u64 ((addLo (mulLo (F k) 10) c 0 : Nat) : Int))) g cap n F d (k + 1) (mulHi (F k) 10 + addHi (mulLo (F k) 10) c 0) (put H k (addLo (mulLo (F k) 10) c 0)) := by
  obtain ⟨⟨f, h1, h2⟩, h3, h4, h5, h6, h7⟩ := h
  refine ⟨⟨_, h1.set k _, fun i hi => ?_⟩, fun i hi => ?_, ten_le _ _ hF h4, ?_, fun i h8 h9 => ?_, grown_set w h7 _ _⟩
  · show (if i = k then _ else f i) = Value.int .u64 ((put H k _ i : Nat) : Int)
    by_cases e : i = k
    · subst e
      rw [if_pos rfl, put_same]
    · rw [if_neg e, put_other _ _ e, h2 i hi]
      rfl
  · unfold put
    split
    · exact addLo_lt _ _ _
    · exact h3 i hi
  · rw [V_succ, V_succ, V_congr (F := put H k _) (G := H) fun i hi => put_other _ _ (by omega), put_same, P_succ]
    exact ten_lin _ _ _ _ _ _ _ _ h5 (ten_eq _ _)
  · rw [put_other _ _ (by omega)]
    exact h6 i (by omega) h9
theorem gb_to {a b c : World} {r : Option Nat} (h : a.grownBy b r) (k : b.grownBy c r) : a.grownBy c r :=
  ⟨k.os.trans h.os, k.tape.trans h.tape, k.output.trans h.output, Nat.le_trans h.size k.size, fun i hi hn => (k.block i (Nat.lt_of_lt_of_le hi h.size) hn).trans (h.block i hi hn)⟩
/-- What timesTen makes. -/
def Tens (w : World) (base : Nat) (x n : Nat) (e : Ending) (w' : World) : Prop :=
  ∃ v n' F, e = .returned v ∧ OR w' 22 base v n' (wd F) ∧ Ok F n' ∧ V F n' = x ∧ n' ≤ n + 1 ∧ Below base w w'
theorem V_put_top (H : Nat → Nat) (n c : Nat) : V (put H n c) (n + 1) = V H n + c * P n := by
  rw [V_succ, put_same, V_congr (F := put H n c) (G := H) fun i hi => put_other _ _ (by omega)]
set_option maxHeartbeats 1000000 in
theorem timesTen_row (g n cap d : Nat) (F : Nat → Nat) (w : World) (base : Nat) (f : Nat → Value) (hr : w.rowIs g 22 cap f) (hf : ∀ i, i < n → f i = wd F i) (hF : Ok F n) (hb : base ≤ g) (hn : n ≤ cap) (hn2 : n < 1099511627776) (hc : cap ≤ maxLen) (hd : d ≤ 9) :
    Calls Try.prog 33 #[.slice (some ⟨g, 0, none⟩) n cap, .int .u64 (d : Int)] w (Tens w base (V F n * 10 + d) n) := by
  have A0 : Ten w w g cap n F d 0 d F := ⟨⟨f, hr, hf⟩, hF, hd, by rw [V_zero, P_zero]; omega, fun _ _ _ => rfl, World.grownBy.refl _ _⟩
  have HF : Hid (Ok F n) := hF
  have HB : Hid (base ≤ g ∧ cap ≤ maxLen) := ⟨hb, hc⟩
  have HG : Hid (g < w.heap.size) := hr.lt
  clear hr hf hF hb hc
  go_enter Try.func33, Try.ntmps33
  go_wp2_with fail
  go_loopw [5, 14] (fun cv t wr => ∃ (k c : Nat) (H : Nat → Nat), k ≤ n ∧ t = .int .i64 (k : Int) ∧ cv = .int .u64 ((c : Nat) : Int) ∧ Ten w wr g cap n F d k c H) (fun _ t _ => n - (intOf t).toNat)
  case atStart => exact ⟨0, d, F, by omega, rfl, rfl, A0⟩
  case round =>
    clear A0
    obtain ⟨k, c, H, hk, rfl, rfl, hA⟩ := hrel
    by_cases hkm : k < n
    · have hFk : F k < 18446744073709551616 := HF.out k hkm
      obtain ⟨f', r1, r2⟩ := hA.1
      have hc2 : wr.cell? ⟨g, k, none⟩ = some (.int .u64 ((F k : Nat) : Int)) := by rw [r1.cell (show k < cap by omega), r2 k hkm, wd, hA.2.2.2.2.1 k (Nat.le_refl _) hkm]
      have hf2 : wr.frozen? ⟨g, k, none⟩ = false := r1.frozen _
      have ad1 := add64_c0 (mulLo (F k) 10) c
      have S : Hid _ := hA.step hkm hn hFk
      have hb1 : ((mulHi (F k) 10 : Nat) : Int) + ((addHi (mulLo (F k) 10) c 0 : Nat) : Int) < 18446744073709551616 := by have := ten_le (F k) c hFk hA.2.2.1; omega
      clear hA r1 r2
      go_wp2_with fail
      refine (mul64_any (F k) 10 _ hFk (by omega)).mono ?_
      rintro e w1 ⟨rfl, rfl⟩
      go_wp2_with fail
      go_roundw
      case rel => exact ⟨k + 1, _, _, by omega, by go_num, by go_num, S.out⟩
      case measure => simp [intOf]; omega
    · obtain rfl : k = n := by omega
      have HA : Hid (Ten w wr g cap k F d k c H) := hA
      have hc9 : c ≤ 9 := hA.2.2.1
      clear hA
      by_cases hc0 : c = 0
      · subst hc0
        go_wp2_with fail
        go_ret
        obtain ⟨⟨f', r1, r2⟩, h3, h4, h5, h6, h7⟩ := HA.out
        refine ⟨_, k, H, rfl, .inr ⟨g, cap, f', rfl, HB.out.1, hn, HB.out.2, r1, r2⟩, h3, by omega, by omega, ⟨h7.os, h7.tape, h7.output, h7.size, fun j hj => h7.block j (by have := HG.out; have := HB.out.1; omega) (by have := HB.out.1; intro e; cases e; omega)⟩⟩
      · have hne : ((c : Int) == 0) = false := by simp; omega
        go_wp2_with (refine (id ?_ : wpList Try.prog _ _ (⟨some 42, _, _, _, _, _⟩ :: _) _ _); refine wpList_append_one rfl (.tmp 39) (.tmp 41) 25 rfl 22 (.int .u64 0) 8 Try.underlying25 Try.info22b rfl (by omega) base _ k (wd H) rfl (.inr ⟨g, cap, HA.out.1.choose, rfl, HB.out.1, hn, HB.out.2, HA.out.1.choose_spec.1.alloc _, HA.out.1.choose_spec.2⟩) _ _ rfl _ (by simp; rfl) rfl (by omega) (by simp; have := HB.out.1; have := HG.out; have := HA.out.2.2.2.2.2.size; omega) ?_)
        intro g2 cap2 w2 ho hg _ _
        have I2 : Hid _ := ho
        have G2 : Hid ((wr.alloc (Obj.cells #[Value.int IntKind.u64 (c : Int)] 22)).grownBy w2 (some g)) := hg
        clear ho hg
        go_wp2_with fail
        go_ret
        obtain ⟨⟨f', r1, r2⟩, h3, h4, h5, h6, h7⟩ := HA.out
        have hg1 := gb_to (gb_to ⟨h7.os, h7.tape, h7.output, h7.size, h7.block⟩ (World.grownBy_alloc wr _ (some g))) G2.out
        refine ⟨_, k + 1, put H k c, rfl, OR.congr I2.out fun i hi => ?_, fun i hi => ?_, ?_, Nat.le_refl _, ⟨hg1.os, hg1.tape, hg1.output, hg1.size, fun j hj => hg1.block j (by have := HG.out; have := HB.out.1; omega) (by have := HB.out.1; intro e; cases e; omega)⟩⟩
        · unfold wd put
          split <;> rfl
        · unfold put
          split
          · omega
          · exact h3 i (by omega)
        · rw [V_put_top]
          exact h5
set_option maxHeartbeats 1000000 in
theorem timesTen_nil (d : Nat) (w : World) (base : Nat) (hb : base ≤ w.heap.size) (hd : d ≤ 9) :
    Calls Try.prog 33 #[.slice none 0 0, .int .u64 (d : Int)] w (Tens w base d 0) := by
  by_cases hc0 : d = 0
  · subst hc0
    go_enter Try.func33, Try.ntmps33
    go_wp2_with fail
    refine wp_loop_rounds 1 ?_
    rw [rounds_succ]
    go_wp2_with fail
    go_ret
    exact ⟨_, 0, fun _ => 0, rfl, OR.nil _ _ _ _, fun i hi => absurd hi (by omega), rfl, by omega, Below.refl _ _⟩
  · have hne : ((d : Int) == 0) = false := by simp; omega
    have HB : Hid _ := hb
    go_enter Try.func33, Try.ntmps33
    go_wp2_with fail
    refine wp_loop_rounds 1 ?_
    rw [rounds_succ]
    go_wp2_with (refine (id ?_ : wpList Try.prog _ _ (⟨some 42, _, _, _, _, _⟩ :: _) _ _); refine wpList_append_one rfl (.tmp 39) (.tmp 41) 25 rfl 22 (.int .u64 0) 8 Try.underlying25 Try.info22b rfl (by omega) base _ 0 (wd fun _ => 0) rfl (OR.nil _ _ _ _) _ _ rfl _ (by simp; rfl) rfl (by omega) (by simp; have := HB.out; omega) ?_)
    intro g2 cap2 w2 ho hg _ _
    have I2 : Hid _ := ho
    have G2 : Hid ((w.alloc (Obj.cells #[Value.int IntKind.u64 (d : Int)] 22)).grownBy w2 none) := hg
    clear ho hg
    go_wp2_with fail
    go_ret
    have hg1 := gb_to (World.grownBy_alloc w _ none) G2.out
    refine ⟨_, 1, put (fun _ => 0) 0 d, rfl, OR.congr I2.out fun i hi => ?_, fun i hi => ?_, ?_, Nat.le_refl _, ⟨hg1.os, hg1.tape, hg1.output, hg1.size, fun j hj => hg1.block j (by have := HB.out; omega) (by intro e; cases e)⟩⟩
    · unfold wd put
      split <;> rfl
    · unfold put
      split <;> omega
    · rw [V_put_top, V_zero, P_zero]
      omega
theorem timesTen_any (v : Value) (n d : Nat) (F : Nat → Nat) (w : World) (base : Nat) (hO : OR w 22 base v n (wd F)) (hF : Ok F n) (hb : base ≤ w.heap.size) (hn2 : n < 1099511627776) (hd : d ≤ 9) :
    Calls Try.prog 33 #[v, .int .u64 (d : Int)] w (Tens w base (V F n * 10 + d) n) := by
  rcases hO with ⟨rfl, rfl⟩ | ⟨g, cap, f, rfl, h1, h2, h3, h4, h5⟩
  · rw [V_zero, Nat.zero_mul, Nat.zero_add]
    exact timesTen_nil d w base hb hd
  · exact timesTen_row g n cap d F w base f h4 h5 hF h1 h2 hn2 h3 hd
end Go.Proofs.Ytekigmkepfhdhaa
