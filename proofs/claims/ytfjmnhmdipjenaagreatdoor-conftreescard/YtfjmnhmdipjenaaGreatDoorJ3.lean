/- Contracts of the program's functions, part 3: own work, joined in build order. -/
import Derived.Test.YtfjmnhmdipjenaaGreatDoorJ2
import Derived.Laws.Externs
import Derived.Shelf.Spec.BitsCarry
import Derived.Laws.CopyOwn
import Derived.Laws.Bits64b
namespace Go.Proofs.YtfjmnhmdipjenaaGreatDoor
open Go.RowKit
set_option maxRecDepth 100000
def addLo (x y c : Nat) : Nat := (x + y + c) % 18446744073709551616
def addHi (x y c : Nat) : Nat := (x + y + c) / 18446744073709551616
def subLo (x y c : Nat) : Nat := (x + 18446744073709551616 - y - c) % 18446744073709551616
def subHi (x y c : Nat) : Nat := if x < y + c then 1 else 0
theorem add64 (x y c : Nat) (hc : c ≤ 1) (w : World) : (callFunc 141 #[.int .u64 (x : Int), .int .u64 (y : Int), .int .u64 (c : Int)]).run Tryz.prog w =
    .ok (.value (.tuple #[.int .u64 (addLo x y c : Nat), .int .u64 (addHi x y c : Nat)])) w := by
  rw [run_callFunc_extern Tryz.func141 (by kernel_rfl) (by kernel_rfl) (by kernel_rfl) (e := add64Entry) (by kernel_rfl), run_add64 x y c (by omega) (by omega) (by omega) (by omega)]
  simp only [Result.andThen, addLo, addHi]
  congr 5 <;> omega
theorem sub64 (x y c : Nat) (hc : c ≤ 1) (w : World) : (callFunc 149 #[.int .u64 (x : Int), .int .u64 (y : Int), .int .u64 (c : Int)]).run Tryz.prog w =
    .ok (.value (.tuple #[.int .u64 (subLo x y c : Nat), .int .u64 (subHi x y c : Nat)])) w := by
  rw [run_callFunc_extern Tryz.func149 (by kernel_rfl) (by kernel_rfl) (by kernel_rfl) (e := sub64Entry) (by kernel_rfl), run_sub64 x y c hc]
  rfl
theorem add64_y0 (x c : Nat) (hc : c ≤ 1) (w : World) : (callFunc 141 #[.int .u64 (x : Int), .int .u64 0, .int .u64 (c : Int)]).run Tryz.prog w =
    .ok (.value (.tuple #[.int .u64 (addLo x 0 c : Nat), .int .u64 (addHi x 0 c : Nat)])) w := add64 x 0 c hc w
theorem add64_c0 (x y : Nat) (w : World) : (callFunc 141 #[.int .u64 (x : Int), .int .u64 (y : Int), .int .u64 0]).run Tryz.prog w =
    .ok (.value (.tuple #[.int .u64 (addLo x y 0 : Nat), .int .u64 (addHi x y 0 : Nat)])) w := add64 x y 0 (by omega) w
theorem sub64_y0 (x c : Nat) (hc : c ≤ 1) (w : World) : (callFunc 149 #[.int .u64 (x : Int), .int .u64 0, .int .u64 (c : Int)]).run Tryz.prog w =
    .ok (.value (.tuple #[.int .u64 (subLo x 0 c : Nat), .int .u64 (subHi x 0 c : Nat)])) w := sub64 x 0 c hc w
theorem sub64_c0 (x y : Nat) (w : World) : (callFunc 149 #[.int .u64 (x : Int), .int .u64 (y : Int), .int .u64 0]).run Tryz.prog w =
    .ok (.value (.tuple #[.int .u64 (subLo x y 0 : Nat), .int .u64 (subHi x y 0 : Nat)])) w := sub64 x y 0 (by omega) w
theorem addLo_lt (x y c : Nat) : addLo x y c < 18446744073709551616 := Nat.mod_lt _ (by omega)
theorem subLo_lt (x y c : Nat) : subLo x y c < 18446744073709551616 := Nat.mod_lt _ (by omega)
theorem addHi_le (x y c : Nat) (hx : x < 18446744073709551616) (hy : y < 18446744073709551616) (hc : c ≤ 1) : addHi x y c ≤ 1 := by unfold addHi; omega
theorem subHi_le (x y c : Nat) : subHi x y c ≤ 1 := by unfold subHi; split <;> omega
theorem add_eq (x y c : Nat) : addLo x y c + addHi x y c * 18446744073709551616 = x + y + c := by unfold addLo addHi; omega
theorem sub_eq (x y c : Nat) (hx : x < 18446744073709551616) (hy : y < 18446744073709551616) (hc : c ≤ 1) : subLo x y c + y + c = x + subHi x y c * 18446744073709551616 := by
  unfold subLo subHi; split <;> omega
theorem add_step (V VF VY g f y c c' p : Nat) (h : g + c' * 18446744073709551616 = f + y + c) (hk : V + c * p = VF + VY) : (V + g * p) + c' * (p * 18446744073709551616) = (VF + f * p) + (VY + y * p) := by
  have h2 : (g + c' * 18446744073709551616) * p = (f + y + c) * p := by rw [h]
  simp only [Nat.add_mul] at h2
  have e : c' * (p * 18446744073709551616) = c' * 18446744073709551616 * p := by rw [Nat.mul_assoc, Nat.mul_comm p]
  omega
theorem sub_step (V VF VY g f y c c' p : Nat) (h : g + y + c = f + c' * 18446744073709551616) (hk : V + VY = VF + c * p) : (V + g * p) + (VY + y * p) = (VF + f * p) + c' * (p * 18446744073709551616) := by
  have h2 : (g + y + c) * p = (f + c' * 18446744073709551616) * p := by rw [h]
  simp only [Nat.add_mul] at h2
  have e : c' * (p * 18446744073709551616) = c' * 18446744073709551616 * p := by rw [Nat.mul_assoc, Nat.mul_comm p]
  omega
/-- Words from o on. -/
def fro (F : Nat → Nat) (o : Nat) : Nat → Nat := fun i => F (o + i)
/-- Block b is a row of N words that may be written. -/
def Row (w : World) (b N : Nat) (F : Nat → Nat) : Prop := w.rowIs b 93 N (fun j => .int .u64 ((F j : Nat) : Int)) ∧ Ok F N
def put (F : Nat → Nat) (i v : Nat) : Nat → Nat := fun j => if j = i then v else F j
theorem put_same (F : Nat → Nat) (i v : Nat) : put F i v i = v := by simp [put]
theorem put_other (F : Nat → Nat) {i j : Nat} (v : Nat) (h : j ≠ i) : put F i v j = F j := by simp [put, h]
theorem Row.cell {w : World} {b N : Nat} {F : Nat → Nat} (h : Row w b N F) {i : Nat} (hi : i < N) : w.cell? ⟨b, i, none⟩ = some (.int .u64 (F i : Nat)) := h.1.cell hi
theorem Row.frozen {w : World} {b N : Nat} {F : Nat → Nat} (h : Row w b N F) (i : Nat) : w.frozen? ⟨b, i, none⟩ = false := h.1.frozen i
theorem Row.set {w : World} {b N : Nat} {F : Nat → Nat} (h : Row w b N F) (i : Nat) {v : Nat} (hv : v < 18446744073709551616) : Row (w.setCell ⟨b, i, none⟩ (.int .u64 (v : Int))) b N (put F i v) := by
  refine ⟨(h.1.set i _).congr fun j hj => ?_, fun j hj => ?_⟩
  · unfold put
    by_cases e : j = i <;> simp [e]
  · unfold put
    split
    · exact hv
    · exact h.2 j hj
theorem Row.words {w : World} {b N o n : Nat} {F : Nat → Nat} (h : Row w b N F) (ho : o + n ≤ N) : Words w b o n (fro F o) := fun i hi => h.cell (by omega)
theorem Row.drew {w : World} {b N : Nat} {F : Nat → Nat} (h : Row w b N F) (k : Nat) : Row (w.drewN k) b N F := h
theorem Row.kept {w w' : World} {b N : Nat} {F : Nat → Nat} {row : Option Nat} (h : Row w b N F) (hg : w.grownBy w' row) (hne : some b ≠ row) : Row w' b N F := ⟨h.1.of_block (hg.block b h.1.lt hne), h.2⟩
theorem Row.below {w w' : World} {b N : Nat} {F : Nat → Nat} (h : Row w b N F) (hb : Below w.heap.size w w') : Row w' b N F := ⟨h.1.of_block (hb.block b h.1.lt), h.2⟩
theorem Words.kept {w w' : World} {b o n : Nat} {F : Nat → Nat} {row : Option Nat} (h : Words w b o n F) (hg : w.grownBy w' row) (hne : some b ≠ row) : Words w' b o n F := fun i hi => hg.cell (h i hi) hne
theorem Row.sl {w : World} {b N o n cap : Nat} {F : Nat → Nat} (h : Row w b N F) (ho : o + n ≤ N) (hc : n ≤ cap) (hm : cap ≤ 9223372036854775807) : Sl w (some ⟨b, o, none⟩) n cap (fro F o) :=
  ⟨hc, hm, fun i hi => h.2 _ (by omega), .inr ⟨b, o, rfl, h.words ho⟩⟩
theorem grown_set (w : World) {w' : World} {b : Nat} (h : w.grownBy w' (some b)) (i : Nat) (v : Value) : w.grownBy (w'.setCell ⟨b, i, none⟩ v) (some b) :=
  ⟨h.os, h.tape, h.output, by simpa using h.size, fun k hk hne => (Below.heap_setCell _ _ _ _ (fun e => hne (by rw [e]))).trans (h.block k hk hne)⟩
theorem grown_trans {a b c : World} {r : Option Nat} (h : a.grownBy b r) (k : b.grownBy c r) : a.grownBy c r :=
  ⟨k.os.trans h.os, k.tape.trans h.tape, k.output.trans h.output, Nat.le_trans h.size k.size, fun i hi hne => (k.block i (Nat.lt_of_lt_of_le hi h.size) hne).trans (h.block i hi hne)⟩
theorem grown_drew {a b : World} {r : Option Nat} (h : a.grownBy b r) (n : Nat) : a.grownBy (b.drewN n) r := ⟨h.os, h.tape, h.output, h.size, h.block⟩
/-- Two rows that are the same from k on. -/
theorem V_ext {F H : Nat → Nat} {k n : Nat} (hk : k ≤ n) (h : ∀ i, k ≤ i → i < n → H i = F i) : V H n + V F k = V F n + V H k := by
  obtain ⟨t, rfl⟩ : ∃ t, n = k + t := ⟨n - k, by omega⟩
  rw [V_split H, V_split F, V_congr (F := fun i => H (k + i)) (G := fun i => F (k + i)) fun i hi => h _ (by omega) (by omega)]
  omega
theorem V_put {F : Nat → Nat} {o k v : Nat} : V (fro (put F (o + k) v) o) k = V (fro F o) k := V_congr fun i hi => put_other _ _ (by omega)
end Go.Proofs.YtfjmnhmdipjenaaGreatDoor

namespace Go.Proofs.YtfjmnhmdipjenaaGreatDoor
open Go.RowKit
set_option maxRecDepth 100000
/-- What a loop that adds has made of the row F, k words far. -/
def Added (w wr : World) (b N o : Nat) (F : Nat → Nat) (y k c : Nat) (H : Nat → Nat) : Prop :=
  Row wr b N H ∧ (∀ j, j < o ∨ o + k ≤ j → H j = F j) ∧ c ≤ 1 ∧ V (fro H o) k + c * P k = V (fro F o) k + y ∧ w.grownBy wr (some b)
theorem Added.start {w : World} {b N : Nat} {F : Nat → Nat} (o : Nat) (h : Row w b N F) : Added w w b N o F 0 0 0 F :=
  ⟨h, fun _ _ => rfl, by omega, by simp [V_zero], World.grownBy.refl _ _⟩
theorem Added.step {w wr : World} {b N o : Nat} {F : Nat → Nat} {y k c : Nat} {H : Nat → Nat} (h : Added w wr b N o F y k c H) (hk : o + k < N) (g : Nat) (hg : g < 18446744073709551616) :
    Added w (wr.setCell ⟨b, o + k, none⟩ (.int .u64 (addLo (H (o + k)) g c : Nat))) b N o F (y + g * P k) (k + 1) (addHi (H (o + k)) g c) (put H (o + k) (addLo (H (o + k)) g c)) := by
  obtain ⟨h1, h2, h3, h4, h5⟩ := h
  refine ⟨h1.set _ (addLo_lt _ _ _), fun j hj => ?_, addHi_le _ _ _ (h1.2 _ hk) hg h3, ?_, grown_set _ h5 _ _⟩
  · rw [put_other _ _ (by omega)]
    exact h2 j (by omega)
  · have hF : F (o + k) = H (o + k) := (h2 _ (by omega)).symm
    rw [V_succ, V_succ, V_put, P_succ]
    show V (fro H o) k + put H (o + k) _ (o + k) * P k + _ = V (fro F o) k + F (o + k) * P k + _
    rw [put_same, hF]
    exact add_step _ _ _ _ _ _ _ _ _ (add_eq _ _ _) h4
theorem Added.fin {w wr : World} {b N o : Nat} {F : Nat → Nat} {y k c n : Nat} {H : Nat → Nat} (h : Added w wr b N o F y k c H) (hk : k ≤ n) (hc : c = 0 ∨ k = n) :
    Added w wr b N o F y n c H := by
  obtain ⟨h1, h2, h3, h4, h5⟩ := h
  refine ⟨h1, fun j hj => h2 j (by omega), h3, ?_, h5⟩
  rcases hc with rfl | rfl
  · have := V_ext (F := fro F o) (H := fro H o) hk fun i hi _ => h2 (o + i) (by omega)
    omega
  · exact h4
set_option maxHeartbeats 1000000 in
theorem addWords_any (b N o n cap : Nat) (F : Nat → Nat) (a : Option Addr) (m cap' : Nat) (G : Nat → Nat) (w : World) (hF : Row w b N F) (hG : Sl w a m cap' G) (ho : o + n ≤ N) (hn : n ≤ 1099511627776) (hm : m ≤ n)
    (hne : ∀ b' o', a = some ⟨b', o', none⟩ → b' ≠ b) :
    Calls Tryz.prog 123 #[.slice (some ⟨b, o, none⟩) n cap, .slice a m cap'] w fun e w' => ∃ c : Nat, e = .returned (.int .u64 (c : Int)) ∧ ∃ H, Added w w' b N o F (V G m) n c H := by
  have A0 := Added.start o hF
  have HG : Hid (Sl w a m cap' G) := hG
  have HN : Hid _ := hne
  clear hG hF hne
  go_enter Tryz.func123, Tryz.ntmps123
  go_wp2_with fail
  go_loopw [5, 11] (fun cv t wr => ∃ (k c : Nat) (H : Nat → Nat), k ≤ m ∧ t = .int .i64 (k : Int) ∧ cv = .int .u64 ((c : Nat) : Int) ∧ Added w wr b N o F (V G k) k c H) (fun _ t _ => m - (intOf t).toNat)
  case atStart => exact ⟨0, 0, F, by omega, rfl, rfl, A0⟩
  case round =>
    clear A0
    obtain ⟨k, c, H, hk, rfl, rfl, hA⟩ := hrel
    by_cases hkm : k < m
    · obtain ⟨b', o', rfl, hw⟩ := HG.out.at k hkm
      have hbb : b' ≠ b := HN.out b' o' rfl
      have hc1 : wr.cell? ⟨b', o' + k, none⟩ = some (.int .u64 (G k : Nat)) := hA.2.2.2.2.cell (hw k hkm) (by simpa using hbb)
      have hc2 : wr.cell? ⟨b, o + k, none⟩ = some (.int .u64 (H (o + k) : Nat)) := hA.1.cell (by omega)
      have hf2 : wr.frozen? ⟨b, o + k, none⟩ = false := hA.1.frozen _
      have ad := add64 (H (o + k)) (G k) c hA.2.2.1
      have S : Hid _ := hA.step (by omega) (G k) (HG.out.2.2.1 k hkm)
      clear hA hw hbb
      go_wp2_with (simp only [ad])
      go_roundw
      case rel => exact ⟨k + 1, _, _, by omega, by go_num, rfl, S.out⟩
      case measure => simp [intOf]; omega
    · obtain rfl : k = m := by omega
      have HA : Hid _ := hA
      clear hA hkm hk
      go_wp2_with fail
      go_loopw [5, 8] (fun cv t wr => ∃ (q c : Nat) (H : Nat → Nat), k ≤ q ∧ q ≤ n ∧ t = .int .i64 (q : Int) ∧ cv = .int .u64 ((c : Nat) : Int) ∧ Added w wr b N o F (V G k) q c H) (fun _ t _ => n - (intOf t).toNat)
      case atStart => exact ⟨k, c, H, by omega, by omega, rfl, rfl, HA.out⟩
      case round =>
        clear HA
        obtain ⟨q, c2, H2, hq, hqn, rfl, rfl, hA⟩ := hrel
        by_cases hgo : c2 = 0 ∨ q = n
        · have S : Hid _ := hA.fin hqn hgo
          clear hA
          by_cases hc : c2 = 0
          · subst hc
            go_wp2_with fail
            go_ret
            exact ⟨0, rfl, H2, S.out⟩
          · obtain rfl : q = n := by omega
            have hcb : (((c2 : Nat) : Int) != 0) = true := by simp; omega
            go_wp2_with fail
            go_ret
            exact ⟨c2, rfl, H2, S.out⟩
        · have hcb : (((c2 : Nat) : Int) != 0) = true := by simp; omega
          have hqn' : (q : Int) < n := by omega
          have hc2 : wr.cell? ⟨b, o + q, none⟩ = some (.int .u64 (H2 (o + q) : Nat)) := hA.1.cell (by omega)
          have hf2 : wr.frozen? ⟨b, o + q, none⟩ = false := hA.1.frozen _
          have ad := add64_y0 (H2 (o + q)) c2 hA.2.2.1
          have S : Hid _ := hA.step (by omega) 0 (by omega)
          clear hA
          go_wp2_with (simp only [ad])
          go_roundw
          case rel => exact ⟨q + 1, _, _, by omega, by omega, by go_num, rfl, by have := S.out; rw [Nat.zero_mul, Nat.add_zero] at this; exact this⟩
          case measure => simp [intOf]; omega
end Go.Proofs.YtfjmnhmdipjenaaGreatDoor

namespace Go.Proofs.YtfjmnhmdipjenaaGreatDoor
open Go.RowKit
set_option maxRecDepth 100000
/-- What a loop that takes away has made of the row F, k words far. -/
def Subbed (w wr : World) (b N o : Nat) (F : Nat → Nat) (y k c : Nat) (H : Nat → Nat) : Prop :=
  Row wr b N H ∧ (∀ j, j < o ∨ o + k ≤ j → H j = F j) ∧ c ≤ 1 ∧ V (fro H o) k + y = V (fro F o) k + c * P k ∧ w.grownBy wr (some b)
theorem Subbed.start {w : World} {b N : Nat} {F : Nat → Nat} (o : Nat) (h : Row w b N F) : Subbed w w b N o F 0 0 0 F :=
  ⟨h, fun _ _ => rfl, by omega, by simp [V_zero], World.grownBy.refl _ _⟩
theorem Subbed.step {w wr : World} {b N o : Nat} {F : Nat → Nat} {y k c : Nat} {H : Nat → Nat} (h : Subbed w wr b N o F y k c H) (hk : o + k < N) (g : Nat) (hg : g < 18446744073709551616) :
    Subbed w (wr.setCell ⟨b, o + k, none⟩ (.int .u64 (subLo (H (o + k)) g c : Nat))) b N o F (y + g * P k) (k + 1) (subHi (H (o + k)) g c) (put H (o + k) (subLo (H (o + k)) g c)) := by
  obtain ⟨h1, h2, h3, h4, h5⟩ := h
  refine ⟨h1.set _ (subLo_lt _ _ _), fun j hj => ?_, subHi_le _ _ _, ?_, grown_set _ h5 _ _⟩
  · rw [put_other _ _ (by omega)]
    exact h2 j (by omega)
  · have hF : F (o + k) = H (o + k) := (h2 _ (by omega)).symm
    rw [V_succ, V_succ, V_put, P_succ]
    show V (fro H o) k + put H (o + k) _ (o + k) * P k + _ = V (fro F o) k + F (o + k) * P k + _
    rw [put_same, hF]
    exact sub_step _ _ _ _ _ _ _ _ _ (sub_eq _ _ _ (h1.2 _ hk) hg h3) h4
theorem Subbed.fin {w wr : World} {b N o : Nat} {F : Nat → Nat} {y k c n : Nat} {H : Nat → Nat} (h : Subbed w wr b N o F y k c H) (hk : k ≤ n) (hc : c = 0 ∨ k = n) :
    Subbed w wr b N o F y n c H := by
  obtain ⟨h1, h2, h3, h4, h5⟩ := h
  refine ⟨h1, fun j hj => h2 j (by omega), h3, ?_, h5⟩
  rcases hc with rfl | rfl
  · have := V_ext (F := fro F o) (H := fro H o) hk fun i hi _ => h2 (o + i) (by omega)
    omega
  · exact h4
set_option maxHeartbeats 1000000 in
theorem subWords_any (b N o n cap : Nat) (F : Nat → Nat) (a : Option Addr) (m cap' : Nat) (G : Nat → Nat) (w : World) (hF : Row w b N F) (hG : Sl w a m cap' G) (ho : o + n ≤ N) (hn : n ≤ 1099511627776) (hm : m ≤ n)
    (hne : ∀ b' o', a = some ⟨b', o', none⟩ → b' ≠ b) :
    Calls Tryz.prog 142 #[.slice (some ⟨b, o, none⟩) n cap, .slice a m cap'] w fun e w' => e = .returned (.tuple #[]) ∧ ∃ c H, Subbed w w' b N o F (V G m) n c H := by
  have A0 := Subbed.start o hF
  have HG : Hid (Sl w a m cap' G) := hG
  have HN : Hid _ := hne
  clear hG hF hne
  go_enter Tryz.func142, Tryz.ntmps142
  go_wp2_with fail
  go_loopw [4, 10] (fun cv t wr => ∃ (k c : Nat) (H : Nat → Nat), k ≤ m ∧ t = .int .i64 (k : Int) ∧ cv = .int .u64 ((c : Nat) : Int) ∧ Subbed w wr b N o F (V G k) k c H) (fun _ t _ => m - (intOf t).toNat)
  case atStart => exact ⟨0, 0, F, by omega, rfl, rfl, A0⟩
  case round =>
    clear A0
    obtain ⟨k, c, H, hk, rfl, rfl, hA⟩ := hrel
    by_cases hkm : k < m
    · obtain ⟨b', o', rfl, hw⟩ := HG.out.at k hkm
      have hbb : b' ≠ b := HN.out b' o' rfl
      have hc1 : wr.cell? ⟨b', o' + k, none⟩ = some (.int .u64 (G k : Nat)) := hA.2.2.2.2.cell (hw k hkm) (by simpa using hbb)
      have hc2 : wr.cell? ⟨b, o + k, none⟩ = some (.int .u64 (H (o + k) : Nat)) := hA.1.cell (by omega)
      have hf2 : wr.frozen? ⟨b, o + k, none⟩ = false := hA.1.frozen _
      have ad := sub64 (H (o + k)) (G k) c hA.2.2.1
      have S : Hid _ := hA.step (by omega) (G k) (HG.out.2.2.1 k hkm)
      clear hA hw hbb
      go_wp2_with (simp only [ad])
      go_roundw
      case rel => exact ⟨k + 1, _, _, by omega, by go_num, rfl, S.out⟩
      case measure => simp [intOf]; omega
    · obtain rfl : k = m := by omega
      have HA : Hid _ := hA
      clear hA hkm hk
      go_wp2_with fail
      go_loopw [4, 7] (fun cv t wr => ∃ (q c : Nat) (H : Nat → Nat), k ≤ q ∧ q ≤ n ∧ t = .int .i64 (q : Int) ∧ cv = .int .u64 ((c : Nat) : Int) ∧ Subbed w wr b N o F (V G k) q c H) (fun _ t _ => n - (intOf t).toNat)
      case atStart => exact ⟨k, c, H, by omega, by omega, rfl, rfl, HA.out⟩
      case round =>
        clear HA
        obtain ⟨q, c2, H2, hq, hqn, rfl, rfl, hA⟩ := hrel
        by_cases hgo : c2 = 0 ∨ q = n
        · have S : Hid _ := hA.fin hqn hgo
          clear hA
          by_cases hc : c2 = 0
          · subst hc
            go_wp2_with fail
            go_end0
            exact ⟨rfl, 0, H2, S.out⟩
          · obtain rfl : q = n := by omega
            have hcb : (((c2 : Nat) : Int) != 0) = true := by simp; omega
            go_wp2_with fail
            go_end0
            exact ⟨rfl, c2, H2, S.out⟩
        · have hcb : (((c2 : Nat) : Int) != 0) = true := by simp; omega
          have hqn' : (q : Int) < n := by omega
          have hc2 : wr.cell? ⟨b, o + q, none⟩ = some (.int .u64 (H2 (o + q) : Nat)) := hA.1.cell (by omega)
          have hf2 : wr.frozen? ⟨b, o + q, none⟩ = false := hA.1.frozen _
          have ad := sub64_y0 (H2 (o + q)) c2 hA.2.2.1
          have S : Hid _ := hA.step (by omega) 0 (by omega)
          clear hA
          go_wp2_with (simp only [ad])
          go_roundw
          case rel => exact ⟨q + 1, _, _, by omega, by omega, by go_num, rfl, by have := S.out; rw [Nat.zero_mul, Nat.add_zero] at this; exact this⟩
          case measure => simp [intOf]; omega
end Go.Proofs.YtfjmnhmdipjenaaGreatDoor

namespace Go.Proofs.YtfjmnhmdipjenaaGreatDoor
open Go.RowKit
set_option maxRecDepth 100000
/-- m cells of 0. -/
def zeros (m : Nat) : Array Value := madeCells #[.int .u64 0] m
theorem make_at (L C : Int) (n m : Nat) (hL : L = n) (hC : C = m) (hnm : n ≤ m) (hm : m ≤ 1099511627776) (w : World) :
    (Instr.makeSlice 62 (.int .i64 L) (.int .i64 C)).run Tryz.prog w = .ok (.slice (some ⟨w.heap.size, 0, none⟩) n m) (w.alloc (.cells (zeros m) 93)) := by
  obtain ⟨i, hi, hz, hs, hb⟩ := info_parts Tryz.info22
  subst hL hC
  rw [run_make w 62 93 i (.int .u64 0) Tryz.underlying62 hi hz .i64 .i64 n m (by omega) (by omega) (by rw [hb]; omega) (by omega), hs]
  simp [zeros, Value.cells]
theorem row_zeros (w : World) (m : Nat) : Row (w.alloc (.cells (zeros m) 93)) w.heap.size m (fun _ => 0) :=
  ⟨World.rowIs_made w (.int .u64 0) m _, fun _ _ => by show (0 : Nat) < 18446744073709551616; omega⟩
theorem row_zeros_at (w : World) (m g : Nat) (hg : g = w.heap.size) : Row (w.alloc (.cells (zeros m) 93)) g m (fun _ => 0) := by
  subst hg
  exact row_zeros w m
/-- F with G's first n words laid over it from o on. -/
def over (F : Nat → Nat) (o : Nat) (G : Nat → Nat) (n : Nat) : Nat → Nat := fun j => if o ≤ j ∧ j < o + n then G (j - o) else F j
theorem over_in (F : Nat → Nat) (o : Nat) (G : Nat → Nat) (n : Nat) {i : Nat} (hi : i < n) : over F o G n (o + i) = G i := by
  unfold over
  rw [if_pos (by omega), Nat.add_sub_cancel_left]
theorem over_out (F : Nat → Nat) (o : Nat) (G : Nat → Nat) (n : Nat) {j : Nat} (hj : j < o ∨ o + n ≤ j) : over F o G n j = F j := by
  unfold over
  rw [if_neg (by omega)]
theorem size22 : (Tryz.prog.info? 93).map (·.size) = some 1 := by kernel_rfl
theorem words_add {w : World} {b o n : Nat} {G : Nat → Nat} (h : Words w b o n G) : ∀ j v, ((List.range n).map fun i => Value.int .u64 ((G i : Nat) : Int))[j]? = some v → w.cell? ((⟨b, o, none⟩ : Addr).add j) = some v := by
  intro j v hj
  have hjn : j < n := by
    rcases Nat.lt_or_ge j n with h' | h'
    · exact h'
    · rw [List.getElem?_eq_none (by simpa using h')] at hj
      cases hj
  have e : (⟨b, o, none⟩ : Addr).add j = ⟨b, o + j, none⟩ := by unfold Addr.add; split <;> simp_all
  rw [e, h j hjn]
  simpa [hjn] using hj
theorem wpList_copy_words {w : World} {ops : Array Oper} {rest : List Oper} {op : Oper} {ac : Act} {Q : Exit → Act → World → Prop} (hgd : op.guard = none) (d s : Operand)
    (ho : op.op = .call { callee := .builtin .copy, args := #[d, s], argTypes := #[62, 62] })
    (g o dLen dCap : Nat) (sp : Option Addr) (sLen sCap : Nat) (hd : ac.eval d = .slice (some ⟨g, o, none⟩) dLen dCap) (hs : ac.eval s = .slice sp sLen sCap)
    (N : Nat) (F G : Nat → Nat) (hF : Row w g N F) (hG : Sl w sp sLen sCap G) (hle : sLen ≤ dLen) (hfit : o + sLen ≤ N)
    (h : ∀ w', Row w' g N (over F o G sLen) → w.grownBy w' (some g) → wpList Tryz.prog ops Q rest (ac.put op.dst (goInt sLen)) w') : wpList Tryz.prog ops Q (op :: rest) ac w := by
  by_cases h0 : sLen = 0
  · subst h0
    refine wpList_copy_nothing hgd d s _ _ ho 93 Tryz.underlying62 size22 _ _ _ _ _ _ hd hs (Nat.zero_min _) ?_
    refine h w ⟨hF.1.congr fun j _ => ?_, fun j hj => ?_⟩ (World.grownBy.refl _ _)
    · rw [over_out _ _ _ _ (by omega)]
    · rw [over_out _ _ _ _ (by omega)]; exact hF.2 j hj
  · obtain ⟨b, so, rfl, hw⟩ := hG.at 0 (by omega)
    obtain ⟨cur, hg, hsz, hcur⟩ := hF.1
    have hcl : ((List.range sLen).map fun i => Value.int .u64 ((G i : Nat) : Int)).length = sLen := by simp
    refine wpList_copy_own hgd d s _ _ ho 93 Tryz.underlying62 size22 g o dLen dCap ⟨b, so, none⟩ sLen sCap hd hs cur 93 hg ((List.range sLen).map fun i => Value.int .u64 ((G i : Nat) : Int)) (by rw [hcl]; exact (Nat.min_eq_left hle).symm)
      (words_add hw) (by rw [hcl]; omega) (by intro v hv; obtain ⟨i, _, rfl⟩ := List.mem_map.1 hv; rfl) ?_
    rw [hcl]
    refine h _ ⟨⟨_, setRow_heap w g _ _ _ _ hg, ?_, fun j hj => ?_⟩, fun j hj => ?_⟩ ⟨rfl, rfl, rfl, by simp [World.setRow], fun k _ hne => setRow_other w g k _ (fun e => hne (by rw [e]))⟩
    · simp; omega
    · rw [List.getElem?_toArray]
      show _ = some (Value.int .u64 ((over F o G sLen j : Nat) : Int))
      by_cases h1 : j < o
      · rw [over_out _ _ _ _ (.inl h1), List.getElem?_append_left (by simp; omega), List.getElem?_take_of_lt h1]
        simpa using hcur j hj
      · obtain ⟨i, rfl⟩ : ∃ i, j = o + i := ⟨j - o, by omega⟩
        have e1 : (cur.toList.take o).length = o := by simp; omega
        rw [List.getElem?_append_right (by omega), e1, Nat.add_sub_cancel_left]
        by_cases h2 : i < sLen
        · rw [over_in _ _ _ _ h2, List.getElem?_append_left (by simpa using h2)]
          simp [h2]
        · rw [over_out _ _ _ _ (.inr (by omega)), List.getElem?_append_right (by simp; omega), hcl, List.getElem?_drop, show o + sLen + (i - sLen) = o + i by omega]
          simpa using hcur (o + i) hj
    · unfold over
      split
      · exact hG.2.2.1 _ (by omega)
      · exact hF.2 j hj
end Go.Proofs.YtfjmnhmdipjenaaGreatDoor

namespace Go.Proofs.YtfjmnhmdipjenaaGreatDoor
open Go.RowKit
set_option maxRecDepth 100000
theorem fro_zero (F : Nat → Nat) : fro F 0 = F := by funext i; simp [fro]
theorem V_over0 (F G : Nat → Nat) (n : Nat) : V (over F 0 G n) n = V G n := V_congr fun i hi => by have := over_in F 0 G n hi; rw [Nat.zero_add] at this; exact this
theorem IsNat.isAgg {w : World} {v : Value} {x : Nat} (h : IsNat w v x) : ∃ a n cap, v = .agg #[.slice a n cap] := by
  obtain ⟨a, n, cap, F, rfl, _⟩ := h
  exact ⟨a, n, cap, rfl⟩
theorem IsNat.fits {w : World} {a : Option Addr} {n cap : Nat} {x : Nat} (h : IsNat w (.agg #[.slice a n cap]) x) : ∃ F, Sl w a n cap F ∧ (n = 0 → a = none ∧ cap = 0) ∧ (0 < n → F (n - 1) ≠ 0) ∧ V F n = x := by
  obtain ⟨a', n', cap', F, e, h⟩ := h
  simp only [Value.agg.injEq, Array.mk.injEq, List.cons.injEq, Value.slice.injEq, and_true] at e
  obtain ⟨rfl, rfl, rfl⟩ := e
  exact ⟨F, h⟩
/-- What a call leaves that makes a number: the number, and all that was there as it was. -/
def Makes (w : World) (x : Nat) (e : Ending) (w' : World) : Prop := ∃ v, e = .returned v ∧ IsNat w' v x ∧ Below w.heap.size w w'
theorem Sl.ne_block {w : World} {a : Option Addr} {n cap : Nat} {F : Nat → Nat} (h : Sl w a n cap F) (hn : 0 < n) {g : Nat} (hg : w.heap.size ≤ g) : ∀ b o, a = some ⟨b, o, none⟩ → b ≠ g := by
  intro b o ha
  obtain ⟨b', o', e, hw⟩ := h.at 0 hn
  rw [ha] at e
  cases e
  have := World.block_lt_of_cell? _ _ (hw 0 hn)
  simp only at this
  omega
end Go.Proofs.YtfjmnhmdipjenaaGreatDoor

namespace Go.Proofs.YtfjmnhmdipjenaaGreatDoor
open Go.RowKit
set_option maxRecDepth 100000
/-- What a call leaves that makes a number and says whether there is one. -/
def Makes2 (w : World) (x : Nat) (ok : Bool) (e : Ending) (w' : World) : Prop := ∃ v, e = .returned (.tuple #[v, .bool ok]) ∧ IsNat w' v x ∧ Below w.heap.size w w'
end Go.Proofs.YtfjmnhmdipjenaaGreatDoor

namespace Go.Proofs.YtfjmnhmdipjenaaGreatDoor
open Go.RowKit
set_option maxRecDepth 100000
set_option linter.unusedVariables false
theorem wpList_append_word {w : World} {ops : Array Oper} {rest : List Oper} {op : Oper} {ac : Act} {Q : Exit → Act → World → Prop} (hgd : op.guard = none) (s x : Operand)
    (ho : op.op = .call { callee := .builtin .append, args := #[s, x], argTypes := #[62, 62] })
    (g n cap : Nat) (b : Nat) (cap' : Nat) (hs : ac.eval s = .slice (some ⟨g, 0, none⟩) n cap) (hx : ac.eval x = .slice (some ⟨b, 0, none⟩) 1 cap')
    (N : Nat) (F : Nat → Nat) (c : Nat) (hF : Row w g N F) (hc : w.cell? ⟨b, 0, none⟩ = some (.int .u64 (c : Int))) (hlt : c < 18446744073709551616) (hcap : n + 1 ≤ cap) (hfit : n < N)
    (h : ∀ w', Row w' g N (put F n c) → w.grownBy w' (some g) → wpList Tryz.prog ops Q rest (ac.put op.dst (.slice (some ⟨g, 0, none⟩) (n + 1) cap)) w') : wpList Tryz.prog ops Q (op :: rest) ac w := by
  obtain ⟨i, hi, hz, hsz, hb⟩ := info_parts Tryz.info22
  obtain ⟨cur, hg, hcs, hcur⟩ := hF.1
  have hr := run_append_room (P := Tryz.prog) w 62 op.type 93 i Tryz.underlying62 hi g n cap cur hg ⟨b, 0, none⟩ 1 cap' [.int .u64 (c : Int)] (by rw [hsz]; rfl)
    (by intro j u hj; match j, hj with | 0, hj => simp at hj; subst hj; simpa [Addr.add] using hc) (by intro u hu; simp at hu; subst hu; rfl) hcap (by rw [hsz]; simp; omega)
  refine wpList_plain hgd fun K hK => ?_
  unfold Oper.wp execOp
  simp only [ho, resolve, invoke, builtin, Sem.run_bind, Sem.run_pure, Result.andThen_ok, List.map_toArray, List.map_cons, List.map_nil, hs, hx, hr]
  refine hK _ _ (h _ ⟨⟨_, setRow_heap w g _ _ _ _ hg, ?_, fun j hj => ?_⟩, fun j hj => ?_⟩ ⟨rfl, rfl, rfl, by simp [World.setRow], fun k _ hne => setRow_other w g k _ (fun e => hne (by rw [e]))⟩)
  · simp [hsz]; omega
  · rw [List.getElem?_toArray, hsz, Nat.mul_one, List.append_assoc]
    show _ = some (Value.int .u64 ((put F n c j : Nat) : Int))
    have e1 : (cur.toList.take n).length = n := by simp; omega
    by_cases h1 : j < n
    · rw [put_other _ _ (by omega), List.getElem?_append_left (by omega), List.getElem?_take_of_lt h1]
      simpa using hcur j hj
    · by_cases h2 : j = n
      · subst h2
        rw [put_same, List.getElem?_append_right (by omega), e1]
        simp
      · rw [put_other _ _ h2, List.getElem?_append_right (by omega), e1, List.getElem?_append_right (by simp; omega), List.getElem?_drop]
        simp only [List.length_cons, List.length_nil]
        rw [show n + (0 + 1) + (j - n - (0 + 1)) = j by omega]
        simpa using hcur j hj
  · unfold put
    split
    · exact hlt
    · exact hF.2 j hj
theorem isNat_row {w : World} {g N n cap : Nat} {H : Nat → Nat} (h : Row w g N H) (hn : 0 < n) (hN : n ≤ N) (hc : n ≤ cap) (hm : cap ≤ 9223372036854775807) (hp : P (n - 1) ≤ V H n) : IsNat w (.agg #[.slice (some ⟨g, 0, none⟩) n cap]) (V H n) := by
  have hs := h.sl (o := 0) (n := n) (cap := cap) (by omega) hc hm
  rw [fro_zero] at hs
  refine ⟨_, n, cap, H, rfl, hs, fun e => absurd e (by omega), fun _ h0 => ?_, rfl⟩
  obtain ⟨t, rfl⟩ : ∃ t, n = t + 1 := ⟨n - 1, by omega⟩
  simp only [Nat.add_sub_cancel] at h0 hp
  rw [V_succ, h0, Nat.zero_mul, Nat.add_zero] at hp
  have := V_lt (h.2.mono (show t ≤ N by omega))
  omega
set_option maxHeartbeats 1000000 in
theorem add_ge (a : Option Addr) (n cap : Nat) (a' : Option Addr) (m cap' : Nat) (x y : Nat) (w : World) (h : IsNat w (.agg #[.slice a n cap]) x) (k : IsNat w (.agg #[.slice a' m cap']) y) (hx : Fits x) (hy : Fits y) (hmn : m ≤ n) :
    Calls Tryz.prog 95 #[.agg #[.slice a n cap], .agg #[.slice a' m cap']] w (Makes w (x + y)) := by
  obtain ⟨F, hs, h0, h1, hv⟩ := h.fits
  obtain ⟨G, ks, k0, k1, kv⟩ := k.fits
  have hn : n ≤ 4294967296 := fits_len (hv.symm ▸ hx) h1
  have hd : decide ((n : Int) < m) = false := decide_eq_false (by omega)
  have HL : Hid (Sl w a n cap F ∧ V F n = x ∧ (0 < n → F (n - 1) ≠ 0)) := ⟨hs, hv, h1⟩
  have HS : Hid (Sl w a' m cap' G ∧ V G m = y) := ⟨ks, kv⟩
  have HN : Hid (IsNat w (.agg #[.slice a n cap]) x) := h
  clear hs h0 h1 hv ks k0 k1 kv hx hy h k
  by_cases e0 : m = 0
  · have hne0 : ((m : Int) == 0) = true := by simp <;> omega
    have hy0 : y = 0 := by rw [← HS.out.2, e0]; rfl
    clear e0
    go_enter Tryz.func95, Tryz.ntmps95
    go_wp2_with fail
    go_region
    go_wp2_with fail
    have hB : Below w.heap.size w (((w.alloc (.cells #[.slice a n cap] 64)).alloc (.cells #[.slice a' m cap'] 64)).alloc (.cells #[.slice a n cap] 64)).drew := ((bel_alloc2 _ _ _).alloc (by simp <;> omega) _).drew
    refine bodyPost_ret (v := .agg #[.slice a n cap]) (by simp [results, Tryz.results95, go_sem]) rfl ⟨_, rfl, ?_, hB⟩
    rw [show x + y = x by omega]
    exact HN.out.mono hB
  · have hne0 : ((m : Int) == 0) = false := by simp <;> omega
    have mk := make_at (n : Int) ((n : Int) + 1) n (n + 1) rfl (by omega) (by omega) (by omega)
    have HB : Hid (Below w.heap.size w ((((w.alloc (.cells #[.slice a n cap] 64)).alloc (.cells #[.slice a' m cap'] 64)).alloc (.cells #[.slice none 0 0] 64)).alloc (.cells (zeros (n + 1)) 93)).drew) := (((bel_alloc2 _ _ _).alloc (by simp <;> omega) _).alloc (by simp <;> omega) _).drew
    clear HN
    go_enter Tryz.func95, Tryz.ntmps95
    go_wp2_with fail
    go_region
    go_wp2_with (refine (id ?_ : wpList Tryz.prog _ _ (⟨some 33, _, _, _, _, _⟩ :: _) _ _); refine wpList_copy_words rfl (.tmp 31) (.tmp 32) rfl _ _ _ _ _ _ _ rfl rfl (n + 1) (fun _ => 0) F (row_zeros_at _ (n + 1) _ (by simp)) (HL.out.1.mono HB.out) (by omega) (by omega) ?_)
    intro w1 hR1 hg1
    have hcr : w1.cell? ⟨w.heap.size + 1 + 1, 0, none⟩ = some (.slice none 0 0) := hg1.cell (by simp [go_sem]) (by simp <;> omega)
    have hfr : w1.frozen? ⟨w.heap.size + 1 + 1, 0, none⟩ = false := (World.frozen?_of_block (hg1.block _ (by simp <;> omega) (by simp <;> omega))).trans (by simp [go_sem])
    have B1 : Hid (Below w.heap.size w w1) := HB.out.grown hg1 (by simp <;> omega) (fun k hk => by cases hk; omega)
    have R1 : Hid (Row w1 (w.heap.size + 1 + 1 + 1) (n + 1) (over (fun _ => 0) 0 F n)) := hR1
    clear hR1 hg1 HB mk
    go_wp2_with fail
    refine (addWords_any _ (n + 1) 0 n (n + 1) _ a' m cap' G w1 R1.out (HS.out.1.mono B1.out) (by omega) (by omega) (by omega) (HS.out.1.ne_block (by omega) (by omega))).mono ?_
    rintro e w2 ⟨c, rfl, H, S⟩
    have hg2 := S.2.2.2.2
    have hcr2 : w2.cell? ⟨w.heap.size + 1 + 1, 0, none⟩ = some (.slice none 0 0) := hg2.cell hcr (by simp <;> omega)
    have hfr2 : w2.frozen? ⟨w.heap.size + 1 + 1, 0, none⟩ = false := (World.frozen?_of_block (hg2.block _ (World.block_lt_of_cell? _ _ hcr) (by simp <;> omega))).trans hfr
    have B2 : Hid (Below w.heap.size w w2) := B1.out.grown hg2 B1.out.size (fun k hk => by cases hk; omega)
    have S2 : Hid (Row w2 (w.heap.size + 1 + 1 + 1) (n + 1) H ∧ V H n + c * P n = x + y) := ⟨S.1, by
      obtain ⟨q1, q2, q3, q4, _⟩ := S
      rw [fro_zero, fro_zero, V_over0, HL.out.2.1, HS.out.2] at q4
      omega⟩
    have hc1 : c ≤ 1 := S.2.2.1
    have hw2 : w.heap.size + 1 + 1 + 1 < w2.heap.size := S.1.1.lt
    have HP : Hid (P (n - 1) ≤ x + y) := by
      obtain ⟨_, q2, q3⟩ := HL.out
      have := V_long (F := F) (n := n) (m := n - 1) (by omega) (q3 (by omega))
      show P (n - 1) ≤ x + y
      omega
    clear S hg2 hcr hfr R1 B1
    by_cases hc : c = 0
    · subst hc
      go_wp2_with fail
      refine bodyPost_ret (v := .agg #[.slice (some ⟨w.heap.size + 1 + 1 + 1, 0, none⟩) n (n + 1)]) (by simp [results, Tryz.results95, go_sem, hcr2]) rfl ⟨_, rfl, ?_, B2.out.setCell (by simp <;> omega) _⟩
      have e1 : V H n = x + y := by have := S2.out.2; omega
      rw [← e1]
      exact (isNat_row S2.out.1 (by omega) (by omega) (by omega) (by omega) (by rw [e1]; exact HP.out)).setCell (no_int_slice hcr2) _
    · have hcb : (((c : Nat) : Int) != 0) = true := by simp <;> omega
      go_wp2_with (refine (id ?_ : wpList Tryz.prog _ _ (⟨some 42, _, _, _, _, _⟩ :: _) _ _); refine wpList_append_word rfl (.tmp 39) (.tmp 41) rfl _ _ _ _ _ rfl rfl (n + 1) H c (S2.out.1.below (((Below.refl _ _).alloc (Nat.le_refl _) _))) (by simp) (by omega) (by omega) (by omega) ?_)
      intro w3 hR3 hg3
      have hcr3 : w3.cell? ⟨w.heap.size + 1 + 1, 0, none⟩ = some (.slice none 0 0) := hg3.cell (cell_later ((Below.refl _ _).alloc (Nat.le_refl _) _) hcr2) (by simp <;> omega)
      have hfr3 : w3.frozen? ⟨w.heap.size + 1 + 1, 0, none⟩ = false := (World.frozen?_of_block (hg3.block _ (by simp; have := World.block_lt_of_cell? _ _ hcr2; simp only at this; omega) (by simp <;> omega))).trans ((((Below.refl _ _).alloc (Nat.le_refl _) _).frozen (World.block_lt_of_cell? _ _ hcr2)).trans hfr2)
      have B3 : Hid (Below w.heap.size w w3) := (B2.out.alloc B2.out.size _).grown hg3 (by have := B2.out.size; simp; omega) (fun k hk => by cases hk; omega)
      have R3 : Hid (Row w3 (w.heap.size + 1 + 1 + 1) (n + 1) (put H n c)) := hR3
      clear hR3 hg3 hcr2 hfr2
      go_wp2_with fail
      have e1 : V (put H n c) (n + 1) = x + y := by
        rw [V_succ, put_same, V_congr (G := H) fun i hi => put_other _ _ (by omega)]
        exact S2.out.2
      refine bodyPost_ret (v := .agg #[.slice (some ⟨w.heap.size + 1 + 1 + 1, 0, none⟩) (n + 1) (n + 1)]) (by simp [results, Tryz.results95, go_sem, hcr3]) rfl ⟨_, rfl, ?_, B3.out.setCell (by simp <;> omega) _⟩
      rw [← e1]
      refine (isNat_row R3.out (by omega) (by omega) (by omega) (by omega) ?_).setCell (no_int_slice hcr3) _
      rw [V_succ, put_same, Nat.add_sub_cancel]
      have : 1 * P n ≤ c * P n := Nat.mul_le_mul_right _ (by omega)
      omega
set_option maxHeartbeats 1000000 in
theorem add_lt (a : Option Addr) (n cap : Nat) (a' : Option Addr) (m cap' : Nat) (x y : Nat) (w : World) (h : IsNat w (.agg #[.slice a n cap]) x) (k : IsNat w (.agg #[.slice a' m cap']) y) (hx : Fits x) (hy : Fits y) (hmn : n < m) :
    Calls Tryz.prog 95 #[.agg #[.slice a n cap], .agg #[.slice a' m cap']] w (Makes w (x + y)) := by
  obtain ⟨F, hs, h0, h1, hv⟩ := h.fits
  obtain ⟨G, ks, k0, k1, kv⟩ := k.fits
  have hn : m ≤ 4294967296 := fits_len (kv.symm ▸ hy) k1
  have hd : (n : Int) < m := by omega
  have HL : Hid (Sl w a' m cap' G ∧ V G m = y ∧ (0 < m → G (m - 1) ≠ 0)) := ⟨ks, kv, k1⟩
  have HS : Hid (Sl w a n cap F ∧ V F n = x) := ⟨hs, hv⟩
  have HN : Hid (IsNat w (.agg #[.slice a' m cap']) y) := k
  clear hs h0 h1 hv ks k0 k1 kv hx hy h k
  by_cases e0 : n = 0
  · have hne0 : ((n : Int) == 0) = true := by simp <;> omega
    have hy0 : x = 0 := by rw [← HS.out.2, e0]; rfl
    clear e0
    go_enter Tryz.func95, Tryz.ntmps95
    go_wp2_with fail
    go_region
    go_wp2_with fail
    have hB : Below w.heap.size w (((w.alloc (.cells #[.slice a n cap] 64)).alloc (.cells #[.slice a' m cap'] 64)).alloc (.cells #[.slice a' m cap'] 64)).drew := ((bel_alloc2 _ _ _).alloc (by simp <;> omega) _).drew
    refine bodyPost_ret (v := .agg #[.slice a' m cap']) (by simp [results, Tryz.results95, go_sem]) rfl ⟨_, rfl, ?_, hB⟩
    rw [show x + y = y by omega]
    exact HN.out.mono hB
  · have hne0 : ((n : Int) == 0) = false := by simp <;> omega
    have mk := make_at (m : Int) ((m : Int) + 1) m (m + 1) rfl (by omega) (by omega) (by omega)
    have HB : Hid (Below w.heap.size w ((((w.alloc (.cells #[.slice a n cap] 64)).alloc (.cells #[.slice a' m cap'] 64)).alloc (.cells #[.slice none 0 0] 64)).alloc (.cells (zeros (m + 1)) 93)).drew) := (((bel_alloc2 _ _ _).alloc (by simp <;> omega) _).alloc (by simp <;> omega) _).drew
    clear HN
    go_enter Tryz.func95, Tryz.ntmps95
    go_wp2_with fail
    go_region
    go_wp2_with (refine (id ?_ : wpList Tryz.prog _ _ (⟨some 33, _, _, _, _, _⟩ :: _) _ _); refine wpList_copy_words rfl (.tmp 31) (.tmp 32) rfl _ _ _ _ _ _ _ rfl rfl (m + 1) (fun _ => 0) G (row_zeros_at _ (m + 1) _ (by simp)) (HL.out.1.mono HB.out) (by omega) (by omega) ?_)
    intro w1 hR1 hg1
    have hcr : w1.cell? ⟨w.heap.size + 1 + 1, 0, none⟩ = some (.slice none 0 0) := hg1.cell (by simp [go_sem]) (by simp <;> omega)
    have hfr : w1.frozen? ⟨w.heap.size + 1 + 1, 0, none⟩ = false := (World.frozen?_of_block (hg1.block _ (by simp <;> omega) (by simp <;> omega))).trans (by simp [go_sem])
    have B1 : Hid (Below w.heap.size w w1) := HB.out.grown hg1 (by simp <;> omega) (fun k hk => by cases hk; omega)
    have R1 : Hid (Row w1 (w.heap.size + 1 + 1 + 1) (m + 1) (over (fun _ => 0) 0 G m)) := hR1
    clear hR1 hg1 HB mk
    go_wp2_with fail
    refine (addWords_any _ (m + 1) 0 m (m + 1) _ a n cap F w1 R1.out (HS.out.1.mono B1.out) (by omega) (by omega) (by omega) (HS.out.1.ne_block (by omega) (by omega))).mono ?_
    rintro e w2 ⟨c, rfl, H, S⟩
    have hg2 := S.2.2.2.2
    have hcr2 : w2.cell? ⟨w.heap.size + 1 + 1, 0, none⟩ = some (.slice none 0 0) := hg2.cell hcr (by simp <;> omega)
    have hfr2 : w2.frozen? ⟨w.heap.size + 1 + 1, 0, none⟩ = false := (World.frozen?_of_block (hg2.block _ (World.block_lt_of_cell? _ _ hcr) (by simp <;> omega))).trans hfr
    have B2 : Hid (Below w.heap.size w w2) := B1.out.grown hg2 B1.out.size (fun k hk => by cases hk; omega)
    have S2 : Hid (Row w2 (w.heap.size + 1 + 1 + 1) (m + 1) H ∧ V H m + c * P m = x + y) := ⟨S.1, by
      obtain ⟨q1, q2, q3, q4, _⟩ := S
      rw [fro_zero, fro_zero, V_over0, HL.out.2.1, HS.out.2] at q4
      omega⟩
    have hc1 : c ≤ 1 := S.2.2.1
    have hw2 : w.heap.size + 1 + 1 + 1 < w2.heap.size := S.1.1.lt
    have HP : Hid (P (m - 1) ≤ x + y) := by
      obtain ⟨_, q2, q3⟩ := HL.out
      have := V_long (F := G) (n := m) (m := m - 1) (by omega) (q3 (by omega))
      show P (m - 1) ≤ x + y
      omega
    clear S hg2 hcr hfr R1 B1
    by_cases hc : c = 0
    · subst hc
      go_wp2_with fail
      refine bodyPost_ret (v := .agg #[.slice (some ⟨w.heap.size + 1 + 1 + 1, 0, none⟩) m (m + 1)]) (by simp [results, Tryz.results95, go_sem, hcr2]) rfl ⟨_, rfl, ?_, B2.out.setCell (by simp <;> omega) _⟩
      have e1 : V H m = x + y := by have := S2.out.2; omega
      rw [← e1]
      exact (isNat_row S2.out.1 (by omega) (by omega) (by omega) (by omega) (by rw [e1]; exact HP.out)).setCell (no_int_slice hcr2) _
    · have hcb : (((c : Nat) : Int) != 0) = true := by simp <;> omega
      go_wp2_with (refine (id ?_ : wpList Tryz.prog _ _ (⟨some 42, _, _, _, _, _⟩ :: _) _ _); refine wpList_append_word rfl (.tmp 39) (.tmp 41) rfl _ _ _ _ _ rfl rfl (m + 1) H c (S2.out.1.below (((Below.refl _ _).alloc (Nat.le_refl _) _))) (by simp) (by omega) (by omega) (by omega) ?_)
      intro w3 hR3 hg3
      have hcr3 : w3.cell? ⟨w.heap.size + 1 + 1, 0, none⟩ = some (.slice none 0 0) := hg3.cell (cell_later ((Below.refl _ _).alloc (Nat.le_refl _) _) hcr2) (by simp <;> omega)
      have hfr3 : w3.frozen? ⟨w.heap.size + 1 + 1, 0, none⟩ = false := (World.frozen?_of_block (hg3.block _ (by simp; have := World.block_lt_of_cell? _ _ hcr2; simp only at this; omega) (by simp <;> omega))).trans ((((Below.refl _ _).alloc (Nat.le_refl _) _).frozen (World.block_lt_of_cell? _ _ hcr2)).trans hfr2)
      have B3 : Hid (Below w.heap.size w w3) := (B2.out.alloc B2.out.size _).grown hg3 (by have := B2.out.size; simp; omega) (fun k hk => by cases hk; omega)
      have R3 : Hid (Row w3 (w.heap.size + 1 + 1 + 1) (m + 1) (put H m c)) := hR3
      clear hR3 hg3 hcr2 hfr2
      go_wp2_with fail
      have e1 : V (put H m c) (m + 1) = x + y := by
        rw [V_succ, put_same, V_congr (G := H) fun i hi => put_other _ _ (by omega)]
        exact S2.out.2
      refine bodyPost_ret (v := .agg #[.slice (some ⟨w.heap.size + 1 + 1 + 1, 0, none⟩) (m + 1) (m + 1)]) (by simp [results, Tryz.results95, go_sem, hcr3]) rfl ⟨_, rfl, ?_, B3.out.setCell (by simp <;> omega) _⟩
      rw [← e1]
      refine (isNat_row R3.out (by omega) (by omega) (by omega) (by omega) ?_).setCell (no_int_slice hcr3) _
      rw [V_succ, put_same, Nat.add_sub_cancel]
      have : 1 * P m ≤ c * P m := Nat.mul_le_mul_right _ (by omega)
      omega
theorem add_any (v u : Value) (x y : Nat) (w : World) (h : IsNat w v x) (k : IsNat w u y) (hx : Fits x) (hy : Fits y) :
    Calls Tryz.prog 95 #[v, u] w (Makes w (x + y)) := by
  obtain ⟨a, n, cap, rfl⟩ := h.isAgg
  obtain ⟨a', m, cap', rfl⟩ := k.isAgg
  rcases Nat.lt_or_ge n m with hh | hh
  · exact add_lt a n cap a' m cap' x y w h k hx hy hh
  · exact add_ge a n cap a' m cap' x y w h k hx hy hh
end Go.Proofs.YtfjmnhmdipjenaaGreatDoor

namespace Go.Proofs.YtfjmnhmdipjenaaGreatDoor
open Go.RowKit
theorem or_add (h e s : Nat) (hm : h % 2 ^ s = 0) (he : e < 2 ^ s) : h ||| e = h + e := by
  obtain ⟨A, rfl⟩ : ∃ A, h = A <<< s := ⟨h / 2 ^ s, by rw [Nat.shiftLeft_eq]; exact (Nat.div_mul_cancel (Nat.dvd_of_mod_eq_zero hm)).symm⟩
  exact (Nat.shiftLeft_add_eq_or_of_lt he A).symm
theorem cast_pow2 (s : Nat) : ((2 ^ s : Nat) : Int) = (2 : Int) ^ s := by simp
theorem wrapU_nat (a : Nat) (ha : a < 18446744073709551616) : IntKind.u64.wrap (a : Int) = (a : Int) := by rw [IntKind.wrap_u64]; omega
theorem wrapU_mod (a : Nat) : IntKind.u64.wrap (a : Int) = ((a % 18446744073709551616 : Nat) : Int) := by rw [IntKind.wrap_u64]; omega
end Go.Proofs.YtfjmnhmdipjenaaGreatDoor

namespace Go.Proofs.YtfjmnhmdipjenaaGreatDoor
open Go.RowKit
set_option maxRecDepth 100000
set_option linter.unusedVariables false
/-- A slice of bytes. -/
def BSl (w : World) (a : Option Addr) (n cap : Nat) (D : Nat → Nat) : Prop :=
  n ≤ cap ∧ cap ≤ 9223372036854775807 ∧ (∀ i, i < n → D i < 256) ∧ (n = 0 ∨ ∃ b o, a = some ⟨b, o, none⟩ ∧ ∀ i, i < n → w.cell? ⟨b, o + i, none⟩ = some (.int .u8 (D i : Nat)))
/-- The number of n bytes, the highest first. -/
def BV (D : Nat → Nat) : Nat → Nat
  | 0 => 0
  | n + 1 => BV D n * 256 + D n
theorem BSl.mono {w w' : World} {a : Option Addr} {n cap : Nat} {D : Nat → Nat} (h : BSl w a n cap D) (hb : Below w.heap.size w w') : BSl w' a n cap D := by
  obtain ⟨h1, h2, h3, h4⟩ := h
  refine ⟨h1, h2, h3, h4.imp id ?_⟩
  rintro ⟨b, o, ha, hw⟩
  exact ⟨b, o, ha, fun i hi => cell_later hb (hw i hi)⟩
/-- How far the words of some bytes are made: of n bytes i. -/
def Filled (D : Nat → Nat) (n N i : Nat) (H : Nat → Nat) : Prop :=
  V H N = BV D i * 256 ^ (n - i) ∧ ∀ q, q < N → H q % 256 ^ (min 8 (n - i - 8 * q)) = 0
theorem P_256 (n : Nat) : P n = 256 ^ (8 * n) := by
  unfold P
  rw [show (18446744073709551616 : Nat) = 256 ^ 8 from rfl, ← Nat.pow_mul]
theorem BSl.cut {w : World} {a : Option Addr} {n cap : Nat} {D : Nat → Nat} (h : BSl w a n cap D) (k m c : Nat) (a' : Option Addr) (hk : k + m = n) (hc : k + c = cap) (ha : ∀ b o, 0 < m → a = some ⟨b, o, none⟩ → a' = some ⟨b, o + k, none⟩) : BSl w a' m c (fun i => D (k + i)) := by
  obtain ⟨h1, h2, h3, h4⟩ := h
  refine ⟨by omega, by omega, fun i hi => h3 _ (by omega), ?_⟩
  by_cases h0 : m = 0
  · exact .inl h0
  · rcases h4 with h4 | ⟨b, o, rfl, hw⟩
    · omega
    · refine .inr ⟨b, o + k, ha b o (by omega) rfl, fun i hi => ?_⟩
      rw [Nat.add_assoc]
      exact hw _ (by omega)
theorem V_put_add (H : Nat → Nat) (q N e : Nat) (hq : q < N) : V (put H q (H q + e)) N = V H N + e * P q := by
  obtain ⟨t, rfl⟩ : ∃ t, N = q + 1 + t := ⟨N - (q + 1), by omega⟩
  rw [V_split _ (q + 1), V_split H (q + 1), V_succ, V_succ, put_same, V_congr (F := put H q (H q + e)) (G := H) (n := q) fun i hi => put_other _ _ (by omega),
    V_congr (F := fun i => put H q (H q + e) (q + 1 + i)) (G := fun i => H (q + 1 + i)) fun i hi => put_other _ _ (by omega), Nat.add_mul]
  omega
theorem Filled.mod {D : Nat → Nat} {n N i : Nat} {H : Nat → Nat} (h : Filled D n N i H) (hi : i < n) (hN : N = (n + 7) / 8) : H ((n - 1 - i) / 8) % 256 ^ ((n - 1 - i) % 8 + 1) = 0 := by
  have := h.2 ((n - 1 - i) / 8) (by omega)
  rwa [show min 8 (n - i - 8 * ((n - 1 - i) / 8)) = (n - 1 - i) % 8 + 1 by omega] at this
theorem Filled.step {D : Nat → Nat} {n N i : Nat} {H : Nat → Nat} (h : Filled D n N i H) (hi : i < n) (hN : N = (n + 7) / 8) :
    Filled D n N (i + 1) (put H ((n - 1 - i) / 8) (H ((n - 1 - i) / 8) + D i * 256 ^ ((n - 1 - i) % 8))) := by
  have hm := h.mod hi hN
  obtain ⟨h1, h2⟩ := h
  refine ⟨?_, fun q hq => ?_⟩
  · rw [V_put_add _ _ _ _ (by omega), h1, P_256, Nat.mul_assoc, ← Nat.pow_add, show n - i = (n - 1 - i) + 1 by omega, show n - (i + 1) = n - 1 - i by omega, show (n - 1 - i) % 8 + 8 * ((n - 1 - i) / 8) = n - 1 - i by omega, BV, Nat.add_mul, Nat.pow_succ, Nat.mul_comm (256 ^ (n - 1 - i)) 256, Nat.mul_assoc]
  · by_cases e : q = (n - 1 - i) / 8
    · subst e
      rw [put_same, show min 8 (n - (i + 1) - 8 * ((n - 1 - i) / 8)) = (n - 1 - i) % 8 by omega]
      have d1 : 256 ^ ((n - 1 - i) % 8) ∣ H ((n - 1 - i) / 8) := Nat.dvd_trans (Nat.pow_dvd_pow 256 (Nat.le_succ _)) (Nat.dvd_of_mod_eq_zero hm)
      exact Nat.mod_eq_zero_of_dvd (Nat.dvd_add d1 (Nat.dvd_mul_left _ _))
    · rw [put_other _ _ e]
      rcases Nat.lt_or_ge q ((n - 1 - i) / 8) with hl | hl
      · have := h2 q hq
        rwa [show min 8 (n - i - 8 * q) = min 8 (n - (i + 1) - 8 * q) by omega] at this
      · rw [show min 8 (n - (i + 1) - 8 * q) = 0 by omega, Nat.pow_zero, Nat.mod_one]
end Go.Proofs.YtfjmnhmdipjenaaGreatDoor

namespace Go.Proofs.YtfjmnhmdipjenaaGreatDoor
open Go.RowKit
set_option maxRecDepth 100000
set_option linter.unusedVariables false
/-- The byte of x at a place. -/
def byteAt (x p : Nat) : Nat := x / 256 ^ p % 256
/-- How many bytes x has. -/
def byteLen (x : Nat) : Nat := (bitLen x + 7) / 8
theorem word_at {F : Nat → Nat} {n q : Nat} (h : Ok F n) (hq : q < n) : V F n / P q % 18446744073709551616 = F q := by
  obtain ⟨t, rfl⟩ : ∃ t, n = q + (1 + t) := ⟨n - (q + 1), by omega⟩
  rw [V_split, Nat.add_mul_div_left _ _ (P_pos q), Nat.div_eq_of_lt (V_lt (h.mono (by omega))), Nat.zero_add, V_split, P_one, V_succ, V_zero, P_zero, Nat.zero_add, Nat.mul_one, Nat.add_zero, Nat.add_mul_mod_self_left]
  exact Nat.mod_eq_of_lt (h q hq)
theorem Tryz.info5 : (Tryz.prog.info? 5).map (fun i => (i.zero, i.size, i.bytes)) = some (some (.int .u8 0), 1, 1) := by kernel_rfl
/-- m bytes of 0. -/
def zeroB (m : Nat) : Array Value := madeCells #[.int .u8 0] m
theorem makeB_at (L C : Int) (n m : Nat) (hL : L = n) (hC : C = m) (hnm : n ≤ m) (hm : m ≤ 1099511627776) (w : World) :
    (Instr.makeSlice 84 (.int .i64 L) (.int .i64 C)).run Tryz.prog w = .ok (.slice (some ⟨w.heap.size, 0, none⟩) n m) (w.alloc (.cells (zeroB m) 5)) := by
  obtain ⟨i, hi, hz, hs, hb⟩ := info_parts Tryz.info5
  subst hL hC
  rw [run_make w 84 5 i (.int .u8 0) Tryz.underlying84 hi hz .i64 .i64 n m (by omega) (by omega) (by rw [hb]; omega) (by omega), hs]
  simp [zeroB, Value.cells]
/-- Block b is a row of N bytes that may be written. -/
def BRow (w : World) (b N : Nat) (D : Nat → Nat) : Prop := w.rowIs b 5 N (fun j => .int .u8 ((D j : Nat) : Int)) ∧ ∀ i, i < N → D i < 256
theorem brow_zeros_at (w : World) (m g : Nat) (hg : g = w.heap.size) : BRow (w.alloc (.cells (zeroB m) 5)) g m (fun _ => 0) := by
  subst hg
  exact ⟨World.rowIs_made w (.int .u8 0) m _, fun _ _ => by show (0 : Nat) < 256; omega⟩
theorem BRow.set {w : World} {b N : Nat} {F : Nat → Nat} (h : BRow w b N F) (i : Nat) {v : Nat} (hv : v < 256) : BRow (w.setCell ⟨b, i, none⟩ (.int .u8 (v : Int))) b N (put F i v) := by
  refine ⟨(h.1.set i _).congr fun j hj => ?_, fun j hj => ?_⟩
  · unfold put
    by_cases e : j = i <;> simp [e]
  · unfold put
    split
    · exact hv
    · exact h.2 j hj
theorem BRow.cell {w : World} {b N : Nat} {F : Nat → Nat} (h : BRow w b N F) {i : Nat} (hi : i < N) : w.cell? ⟨b, i, none⟩ = some (.int .u8 (F i : Nat)) := h.1.cell hi
theorem BRow.frozen {w : World} {b N : Nat} {F : Nat → Nat} (h : BRow w b N F) (i : Nat) : w.frozen? ⟨b, i, none⟩ = false := h.1.frozen i
theorem BRow.below {w w' : World} {b N : Nat} {F : Nat → Nat} (h : BRow w b N F) (hb : Below w.heap.size w w') : BRow w' b N F := ⟨h.1.of_block (hb.block b h.1.lt), h.2⟩
theorem BRow.congr {w : World} {b N : Nat} {F G : Nat → Nat} (h : BRow w b N F) (e : ∀ i, i < N → F i = G i) : BRow w b N G :=
  ⟨h.1.congr fun i hi => by rw [e i hi], fun i hi => by rw [← e i hi]; exact h.2 i hi⟩
end Go.Proofs.YtfjmnhmdipjenaaGreatDoor

namespace Go.Proofs.YtfjmnhmdipjenaaGreatDoor
open Go.RowKit
theorem two64 (r : Nat) (hr : r ≤ 64) : (18446744073709551616 : Nat) = 2 ^ r * 2 ^ (64 - r) := by rw [← Nat.pow_add, show r + (64 - r) = 64 by omega]
theorem shl_lo (f r : Nat) (hr : r ≤ 64) : f * 2 ^ r % 18446744073709551616 + f / 2 ^ (64 - r) * 18446744073709551616 = f * 2 ^ r := by
  have e : f * 2 ^ r / 18446744073709551616 = f / 2 ^ (64 - r) := by
    rw [two64 r hr, Nat.mul_comm f, Nat.mul_div_mul_left _ _ (Nat.two_pow_pos r)]
  rw [← e]
  have := Nat.mod_add_div (f * 2 ^ r) 18446744073709551616
  omega
theorem shl_mod (f r : Nat) (hr : r ≤ 64) : f * 2 ^ r % 18446744073709551616 = f % 2 ^ (64 - r) * 2 ^ r := by
  rw [two64 r hr, Nat.mul_comm f, Nat.mul_mod_mul_left, Nat.mul_comm]
theorem or_low (h f r : Nat) (hh : h < 2 ^ r) (hr : r ≤ 63) :
    bits .or .u64 (h : Int) (IntKind.u64.wrap ((f : Int) * 2 ^ r)) = ((h + f * 2 ^ r % 18446744073709551616 : Nat) : Int) ∧ h + f * 2 ^ r % 18446744073709551616 < 18446744073709551616 := by
  have e : (f : Int) * 2 ^ r = ((f * 2 ^ r : Nat) : Int) := by rw [Int.natCast_mul, cast_pow2]
  have hm := shl_mod f r (by omega)
  have hlt : f % 2 ^ (64 - r) + 1 ≤ 2 ^ (64 - r) := Nat.mod_lt _ (Nat.two_pow_pos _)
  have hlt2 : (f % 2 ^ (64 - r) + 1) * 2 ^ r ≤ 2 ^ (64 - r) * 2 ^ r := Nat.mul_le_mul_right _ hlt
  rw [Nat.mul_comm (2 ^ (64 - r)), ← two64 r (by omega), Nat.add_mul, ← hm] at hlt2
  have h64 : h < 18446744073709551616 := by omega
  have hor : f * 2 ^ r % 18446744073709551616 ||| h = f * 2 ^ r % 18446744073709551616 + h := or_add _ _ r (by rw [hm]; exact Nat.mul_mod_left _ _) hh
  refine ⟨?_, by omega⟩
  rw [e, wrapU_mod, bits_or_u64_nat _ _ h64 (Nat.mod_lt _ (by omega)), Nat.or_comm, hor, Nat.add_comm]
theorem or_high (u v r : Nat) (hu : u < 18446744073709551616) (hr : r ≤ 63) :
    bits .or .u64 ((u / 2 ^ r : Nat) : Int) (IntKind.u64.wrap ((v : Int) * 2 ^ (64 - r))) = ((u / 2 ^ r + v * 2 ^ (64 - r) % 18446744073709551616 : Nat) : Int) ∧ u / 2 ^ r + v * 2 ^ (64 - r) % 18446744073709551616 < 18446744073709551616 := by
  have e : (v : Int) * 2 ^ (64 - r) = ((v * 2 ^ (64 - r) : Nat) : Int) := by rw [Int.natCast_mul, cast_pow2]
  have hm := shl_mod v (64 - r) (by omega)
  rw [show 64 - (64 - r) = r by omega] at hm
  have hd : u / 2 ^ r < 2 ^ (64 - r) := by
    rw [Nat.div_lt_iff_lt_mul (Nat.two_pow_pos r), Nat.mul_comm, ← two64 r (by omega)]
    exact hu
  have hlt : v % 2 ^ r + 1 ≤ 2 ^ r := Nat.mod_lt _ (Nat.two_pow_pos _)
  have hlt2 : (v % 2 ^ r + 1) * 2 ^ (64 - r) ≤ 2 ^ r * 2 ^ (64 - r) := Nat.mul_le_mul_right _ hlt
  rw [← two64 r (by omega), Nat.add_mul, ← hm] at hlt2
  have hor : v * 2 ^ (64 - r) % 18446744073709551616 ||| u / 2 ^ r = v * 2 ^ (64 - r) % 18446744073709551616 + u / 2 ^ r := or_add _ _ (64 - r) (by rw [hm]; exact Nat.mul_mod_left _ _) hd
  refine ⟨?_, by omega⟩
  rw [e, wrapU_mod, bits_or_u64_nat _ _ (by omega) (Nat.mod_lt _ (by omega)), Nat.or_comm, hor, Nat.add_comm]
/-- k words of F, shifted up by r binary digits and f words, lie in the row H of N words. -/
def Upped (F : Nat → Nat) (N f r k : Nat) (H : Nat → Nat) : Prop :=
  V H N = V F k * 2 ^ r * P f ∧ H (f + k) < 2 ^ r ∧ ∀ j, f + k < j → H j = 0
theorem upped_start (F : Nat → Nat) (N f r : Nat) : Upped F N f r 0 (fun _ => 0) := ⟨by rw [V_const0, V_zero]; simp, Nat.two_pow_pos r, fun _ _ => rfl⟩
theorem Upped.step {F : Nat → Nat} {N f r k : Nat} {H : Nat → Nat} (h : Upped F N f r k H) (hk : f + k + 1 < N) (hr : r ≤ 63) (hF : F k < 18446744073709551616) :
    Upped F N f r (k + 1) (put (put H (f + k) (H (f + k) + F k * 2 ^ r % 18446744073709551616)) (f + k + 1) (F k / 2 ^ (64 - r))) := by
  obtain ⟨h1, h2, h3⟩ := h
  have z : put H (f + k) (H (f + k) + F k * 2 ^ r % 18446744073709551616) (f + k + 1) = 0 := by rw [put_other _ _ (by omega)]; exact h3 _ (by omega)
  refine ⟨?_, ?_, fun j hj => ?_⟩
  · have e1 := V_put_add (put H (f + k) (H (f + k) + F k * 2 ^ r % 18446744073709551616)) (f + k + 1) N (F k / 2 ^ (64 - r)) hk
    rw [z, Nat.zero_add] at e1
    rw [e1, V_put_add _ _ _ _ (by omega), h1, V_succ, P_succ, Nat.add_mul, Nat.add_mul, P_add]
    have e2 := congrArg (· * (P f * P k)) (shl_lo (F k) r (by omega))
    simp only [Nat.add_mul] at e2
    have e3 : F k / 2 ^ (64 - r) * (P f * P k * 18446744073709551616) = F k / 2 ^ (64 - r) * 18446744073709551616 * (P f * P k) := by rw [Nat.mul_comm (P f * P k) 18446744073709551616, ← Nat.mul_assoc]
    have e4 : F k * P k * 2 ^ r * P f = F k * 2 ^ r * (P f * P k) := by rw [Nat.mul_right_comm (F k), Nat.mul_assoc, Nat.mul_comm (P k)]
    omega
  · rw [show f + (k + 1) = f + k + 1 by omega, put_same, Nat.div_lt_iff_lt_mul (Nat.two_pow_pos _), ← two64 r (by omega)]
    exact hF
  · rw [put_other _ _ (by omega), put_other _ _ (by omega)]
    exact h3 j (by omega)
/-- Words shifted down by r binary digits. -/
def downW (U : Nat → Nat) (r i : Nat) : Nat := U i / 2 ^ r + U (i + 1) * 2 ^ (64 - r) % 18446744073709551616
theorem down_eq (U : Nat → Nat) (r : Nat) (hr : r ≤ 63) : ∀ k, V (downW U r) k * 2 ^ r + U 0 % 2 ^ r = V U k + U k % 2 ^ r * P k
  | 0 => by rw [V_zero, V_zero, P_zero, Nat.zero_mul, Nat.mul_one]
  | k + 1 => by
    have ih := down_eq U r hr k
    rw [V_succ, V_succ, P_succ, Nat.add_mul]
    have hm := shl_mod (U (k + 1)) (64 - r) (by omega)
    rw [show 64 - (64 - r) = r by omega] at hm
    have e1 : downW U r k * 2 ^ r + U k % 2 ^ r = U k + U (k + 1) % 2 ^ r * 18446744073709551616 := by
      unfold downW
      rw [hm, Nat.add_mul, Nat.mul_assoc, Nat.mul_comm (2 ^ (64 - r)), ← two64 r (by omega)]
      have := Nat.div_add_mod (U k) (2 ^ r)
      rw [Nat.mul_comm] at this
      omega
    have e2 := congrArg (· * P k) e1
    simp only [Nat.add_mul] at e2
    have e3 : downW U r k * P k * 2 ^ r = downW U r k * 2 ^ r * P k := Nat.mul_right_comm ..
    have e4 : U (k + 1) % 2 ^ r * (P k * 18446744073709551616) = U (k + 1) % 2 ^ r * 18446744073709551616 * P k := by rw [Nat.mul_assoc, Nat.mul_comm (P k)]
    omega
theorem down_val {U : Nat → Nat} {r m : Nat} (hr : r ≤ 63) (h0 : U m = 0) : V (downW U r) m = V U m / 2 ^ r := by
  have h := down_eq U r hr m
  rw [h0, Nat.zero_mod, Nat.zero_mul, Nat.add_zero] at h
  rw [← h, Nat.mul_comm, Nat.mul_add_div (Nat.two_pow_pos r), Nat.div_eq_of_lt (Nat.mod_lt _ (Nat.two_pow_pos r)), Nat.add_zero]
theorem div_int (f k : Nat) : ((f : Nat) : Int) / 2 ^ k = ((f / 2 ^ k : Nat) : Int) := by simp
end Go.Proofs.YtfjmnhmdipjenaaGreatDoor

