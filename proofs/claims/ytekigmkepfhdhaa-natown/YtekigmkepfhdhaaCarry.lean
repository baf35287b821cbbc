/- math/bits.Add64 and Sub64 over the program, and rows of words that are written. -/
import Derived.Test.YtekigmkepfhdhaaCmp
import Derived.Laws.Externs
import Derived.Shelf.Spec.BitsCarry
namespace Go.Proofs.Ytekigmkepfhdhaa
open Go.RowKit
set_option maxRecDepth 100000
def addLo (x y c : Nat) : Nat := (x + y + c) % 18446744073709551616
def addHi (x y c : Nat) : Nat := (x + y + c) / 18446744073709551616
def subLo (x y c : Nat) : Nat := (x + 18446744073709551616 - y - c) % 18446744073709551616
def subHi (x y c : Nat) : Nat := if x < y + c then 1 else 0
theorem add64 (x y c : Nat) (hc : c ≤ 1) (w : World) : (callFunc 58 #[.int .u64 (x : Int), .int .u64 (y : Int), .int .u64 (c : Int)]).run Try.prog w =
    .ok (.value (.tuple #[.int .u64 (addLo x y c : Nat), .int .u64 (addHi x y c : Nat)])) w := by
  rw [run_callFunc_extern Try.func58 (by kernel_rfl) (by kernel_rfl) (by kernel_rfl) (e := add64Entry) (by kernel_rfl), run_add64 x y c (by omega) (by omega) (by omega) (by omega)]
  simp only [Result.andThen, addLo, addHi]
  congr 5 <;> omega
theorem sub64 (x y c : Nat) (hc : c ≤ 1) (w : World) : (callFunc 73 #[.int .u64 (x : Int), .int .u64 (y : Int), .int .u64 (c : Int)]).run Try.prog w =
    .ok (.value (.tuple #[.int .u64 (subLo x y c : Nat), .int .u64 (subHi x y c : Nat)])) w := by
  rw [run_callFunc_extern Try.func73 (by kernel_rfl) (by kernel_rfl) (by kernel_rfl) (e := sub64Entry) (by kernel_rfl), run_sub64 x y c hc]
  rfl
theorem add64_y0 (x c : Nat) (hc : c ≤ 1) (w : World) : (callFunc 58 #[.int .u64 (x : Int), .int .u64 0, .int .u64 (c : Int)]).run Try.prog w =
    .ok (.value (.tuple #[.int .u64 (addLo x 0 c : Nat), .int .u64 (addHi x 0 c : Nat)])) w := add64 x 0 c hc w
theorem add64_c0 (x y : Nat) (w : World) : (callFunc 58 #[.int .u64 (x : Int), .int .u64 (y : Int), .int .u64 0]).run Try.prog w =
    .ok (.value (.tuple #[.int .u64 (addLo x y 0 : Nat), .int .u64 (addHi x y 0 : Nat)])) w := add64 x y 0 (by omega) w
theorem sub64_y0 (x c : Nat) (hc : c ≤ 1) (w : World) : (callFunc 73 #[.int .u64 (x : Int), .int .u64 0, .int .u64 (c : Int)]).run Try.prog w =
    .ok (.value (.tuple #[.int .u64 (subLo x 0 c : Nat), .int .u64 (subHi x 0 c : Nat)])) w := sub64 x 0 c hc w
theorem sub64_c0 (x y : Nat) (w : World) : (callFunc 73 #[.int .u64 (x : Int), .int .u64 (y : Int), .int .u64 0]).run Try.prog w =
    .ok (.value (.tuple #[.int .u64 (subLo x y 0 : Nat), .int .u64 (subHi x y 0 : Nat)])) w := sub64 x y 0 (by omega) w
theorem addLo_lt (x y c : Nat) : addLo x y c < 18446744073709551616 := Nat.mod_lt _ (by omega)
theorem subLo_lt (x y c : Nat) : subLo x y c < 18446744073709551616 := Nat.mod_lt _ (by omega)
theorem addHi_le (x y c : Nat) (hx : x < 18446744073709551616) (hy : y < 18446744073709551616) (hc : c ≤ 1) : addHi x y c ≤ 1 := by unfold addHi; omega
theorem subHi_le (x y c : Nat) : subHi x y c ≤ 1 := by unfold subHi; split <;> omega
theorem add_eq (x y c : Nat) : addLo x y c + addHi x y c * 18446744073709551616 = x + y + c := by unfold addLo addHi; omega
theorem sub_eq (x y c : Nat) (hx : x < 18446744073709551616) (hy : y < 18446744073709551616) (hc : c ≤ 1) : subLo x y c + y + c = x + subHi x y c * 18446744073709551616 := by
  unfold subLo subHi; split <;> omega
theorem add_step (V VF VY g f y c c' p : Nat) (h : g + c' * 18446744073709551616 = f + y + c) (hk : V + c * p = VF + VY) : (V + g * p) + c' * (p * 18446744073709551616) = (VF + f * p) + (VY + y * p) := by
  have h2 : (g + c' * 18446744073709551616) * p = (f + y + c) * p := by rw [h]
  simp only [Nat.add_mul] at h2
  have e : c' * (p * 18446744073709551616) = c' * 18446744073709551616 * p := by rw [Nat.mul_assoc, Nat.mul_comm p]
  omega
theorem sub_step (V VF VY g f y c c' p : Nat) (h : g + y + c = f + c' * 18446744073709551616) (hk : V + VY = VF + c * p) : (V + g * p) + (VY + y * p) = (VF + f * p) + c' * (p * 18446744073709551616) := by
  have h2 : (g + y + c) * p = (f + c' * 18446744073709551616) * p := by rw [h]
  simp only [Nat.add_mul] at h2
  have e : c' * (p * 18446744073709551616) = c' * 18446744073709551616 * p := by rw [Nat.mul_assoc, Nat.mul_comm p]
  omega
/-- Words from o on. -/
def fro (F : Nat → Nat) (o : Nat) : Nat → Nat := fun i => F (o + i)
/-- Block b is a row of N words that may be written. -/
def Row (w : World) (b N : Nat) (F : Nat → Nat) : Prop := w.rowIs b 22 N (fun j => .int .u64 ((F j : Nat) : Int)) ∧ Ok F N
def put (F : Nat → Nat) (i v : Nat) : Nat → Nat := fun j => if j = i then v else F j
theorem put_same (F : Nat → Nat) (i v : Nat) : put F i v i = v := by simp [put]
theorem put_other (F : Nat → Nat) {i j : Nat} (v : Nat) (h : j ≠ i) : put F i v j = F j := by simp [put, h]
theorem Row.cell {w : World} {b N : Nat} {F : Nat → Nat} (h : Row w b N F) {i : Nat} (hi : i < N) : w.cell? ⟨b, i, none⟩ = some (.int .u64 (F i : Nat)) := h.1.cell hi
theorem Row.frozen {w : World} {b N : Nat} {F : Nat → Nat} (h : Row w b N F) (i : Nat) : w.frozen? ⟨b, i, none⟩ = false := h.1.frozen i
theorem Row.set {w : World} {b N : Nat} {F : Nat → Nat} (h : Row w b N F) (i : Nat) {v : Nat} (hv : v < 18446744073709551616) : Row (w.setCell ⟨b, i, none⟩ (.int .u64 (v : Int))) b N (put F i v) := by
  refine ⟨(h.1.set i _).congr fun j hj => ?_, fun j hj => ?_⟩
  · unfold put
    by_cases e : j = i <;> simp [e]
  · unfold put
    split
    · exact hv
    · exact h.2 j hj
theorem Row.words {w : World} {b N o n : Nat} {F : Nat → Nat} (h : Row w b N F) (ho : o + n ≤ N) : Words w b o n (fro F o) := fun i hi => h.cell (by omega)
theorem Row.drew {w : World} {b N : Nat} {F : Nat → Nat} (h : Row w b N F) (k : Nat) : Row (w.drewN k) b N F := h
theorem Row.kept {w w' : World} {b N : Nat} {F : Nat → Nat} {row : Option Nat} (h : Row w b N F) (hg : w.grownBy w' row) (hne : some b ≠ row) : Row w' b N F := ⟨h.1.of_block (hg.block b h.1.lt hne), h.2⟩
theorem Row.below {w w' : World} {b N : Nat} {F : Nat → Nat} (h : Row w b N F) (hb : Below w.heap.size w w') : Row w' b N F := ⟨h.1.of_block (hb.block b h.1.lt), h.2⟩
theorem Words.kept {w w' : World} {b o n : Nat} {F : Nat → Nat} {row : Option Nat} (h : Words w b o n F) (hg : w.grownBy w' row) (hne : some b ≠ row) : Words w' b o n F := fun i hi => hg.cell (h i hi) hne
theorem Row.sl {w : World} {b N o n cap : Nat} {F : Nat → Nat} (h : Row w b N F) (ho : o + n ≤ N) (hc : n ≤ cap) (hm : cap ≤ 9223372036854775807) : Sl w (some ⟨b, o, none⟩) n cap (fro F o) :=
  ⟨hc, hm, fun i hi => h.2 _ (by omega), .inr ⟨b, o, rfl, h.words ho⟩⟩
theorem grown_set (w : World) {w' : World} {b : Nat} (h : w.grownBy w' (some b)) (i : Nat) (v : Value) : w.grownBy (w'.setCell ⟨b, i, none⟩ v) (some b) :=
  ⟨h.os, h.tape, h.output, by simpa using h.size, fun k hk hne => (Below.heap_setCell _ _ _ _ (fun e => hne (by rw [e]))).trans (h.block k hk hne)⟩
theorem grown_trans {a b c : World} {r : Option Nat} (h : a.grownBy b r) (k : b.grownBy c r) : a.grownBy c r :=
  ⟨k.os.trans h.os, k.tape.trans h.tape, k.output.trans h.output, Nat.le_trans h.size k.size, fun i hi hne => (k.block i (Nat.lt_of_lt_of_le hi h.size) hne).trans (h.block i hi hne)⟩
theorem grown_drew {a b : World} {r : Option Nat} (h : a.grownBy b r) (n : Nat) : a.grownBy (b.drewN n) r := ⟨h.os, h.tape, h.output, h.size, h.block⟩
/-- Two rows that are the same from k on. -/
theorem V_ext {F H : Nat → Nat} {k n : Nat} (hk : k ≤ n) (h : ∀ i, k ≤ i → i < n → H i = F i) : V H n + V F k = V F n + V H k := by
  obtain ⟨t, rfl⟩ : ∃ t, n = k + t := ⟨n - k, by omega⟩
  rw [V_split H, V_split F, V_congr (F := fun i => H (k + i)) (G := fun i => F (k + i)) fun i hi => h _ (by omega) (by omega)]
  omega
theorem V_put {F : Nat → Nat} {o k v : Nat} : V (fro (put F (o + k) v) o) k = V (fro F o) k := V_congr fun i hi => put_other _ _ (by omega)
end Go.Proofs.Ytekigmkepfhdhaa
