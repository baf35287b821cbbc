/- Contracts of the program's functions, part 1: own work, joined in build order. -/
import Derived.Test.YtmghkkaoblkmpaaRows
import Derived.WalkKit
import Derived.WalkSpells
import Derived.WalkLawsBesides
import Derived.Deep.OwnRows
import Derived.Deep.QuietTactic
import Derived.BigQuiet
import Derived.Deep.RegionHeld3
import Derived.Laws.CopyOwn
namespace Go.Proofs.Ytmghkkaoblkmpaa
open Go.RowKit
/-- All but the blocks r and g is as it was. -/
structure Chg (w w' : World) (r g : Nat) : Prop where
  os : w'.os = w.os
  tape : w'.tape = w.tape
  output : w'.output = w.output
  size : w.heap.size ≤ w'.heap.size
  block : ∀ k, k < w.heap.size → k ≠ r → k ≠ g → w'.heap[k]? = w.heap[k]?
theorem Chg.refl (w : World) (r g : Nat) : Chg w w r g := ⟨rfl, rfl, rfl, Nat.le_refl _, fun _ _ _ _ => rfl⟩
theorem Chg.trans {a b c : World} {r g g' : Nat} (h : Chg a b r g) (k : Chg b c r g') (hg : g' = g ∨ g' = r ∨ a.heap.size ≤ g') : Chg a c r g :=
  ⟨k.os.trans h.os, k.tape.trans h.tape, k.output.trans h.output, Nat.le_trans h.size k.size, fun i hi h1 h2 => (k.block i (Nat.lt_of_lt_of_le hi h.size) h1 (by rcases hg with e | e | e <;> omega)).trans (h.block i hi h1 h2)⟩
theorem Chg.setR {a b : World} {r g : Nat} (h : Chg a b r g) (i : Nat) (v : Value) : Chg a (b.setCell ⟨r, i, none⟩ v) r g :=
  ⟨h.os, h.tape, h.output, by simpa using h.size, fun k hk h1 h2 => (Below.heap_setCell _ _ _ k h1).trans (h.block k hk h1 h2)⟩
theorem Chg.setG {a b : World} {r g : Nat} (h : Chg a b r g) (i : Nat) (v : Value) : Chg a (b.setCell ⟨g, i, none⟩ v) r g :=
  ⟨h.os, h.tape, h.output, by simpa using h.size, fun k hk h1 h2 => (Below.heap_setCell _ _ _ k h2).trans (h.block k hk h1 h2)⟩
theorem Chg.drew {a b : World} {r g : Nat} (h : Chg a b r g) : Chg a b.drew r g := ⟨h.os, h.tape, h.output, h.size, h.block⟩
theorem Chg.drewN {a b : World} {r g : Nat} (h : Chg a b r g) (n : Nat) : Chg a (b.drewN n) r g := ⟨h.os, h.tape, h.output, h.size, h.block⟩
theorem Chg.alloc {a b : World} {r g : Nat} (h : Chg a b r g) (o : Obj) : Chg a (b.alloc o) r g :=
  ⟨h.os, h.tape, h.output, by simpa using Nat.le_trans h.size (Nat.le_succ _), fun k hk h1 h2 => (Below.heap_alloc _ _ k (Nat.lt_of_lt_of_le hk h.size)).trans (h.block k hk h1 h2)⟩
theorem Chg.below {n : Nat} {a b : World} {r g : Nat} (h : Chg a b r g) (hr : n ≤ r) (hg : n ≤ g) (hn : n ≤ a.heap.size) : Below n a b :=
  ⟨h.os, h.tape, h.output, h.size, fun k hk => h.block k (by omega) (by omega) (by omega)⟩
theorem Chg.of_below {a b : World} (h : Below a.heap.size a b) (r g : Nat) : Chg a b r g := ⟨h.os, h.tape, h.output, h.size, fun k hk _ _ => h.block k hk⟩
theorem Chg.row {a b : World} {r g k : Nat} {t : TypeId} {n : Nat} {f : Nat → Value} (h : Chg a b r g) (hr : a.rowIs k t n f) (h1 : k ≠ r) (h2 : k ≠ g) : b.rowIs k t n f := hr.of_block (h.block k hr.lt h1 h2)
theorem Chg.cell {a b : World} {r g : Nat} {p : Addr} {v : Value} (h : Chg a b r g) (hc : a.cell? p = some v) (h1 : p.block ≠ r) (h2 : p.block ≠ g) : b.cell? p = some v :=
  (World.cell?_of_block (w := a) (h.block p.block (World.block_lt_of_cell? _ _ hc) h1 h2)).trans hc
/-- The same world, but for draws. -/
def Alk (w w' : World) : Prop := ∃ n, w' = w.drewN n
theorem Alk.one (w : World) : Alk w w.drew := ⟨1, rfl⟩
theorem Alk.refl (w : World) : Alk w w := ⟨0, rfl⟩
theorem Alk.cell {w w' : World} (h : Alk w w') {p : Addr} {v : Value} (hc : w.cell? p = some v) : w'.cell? p = some v := by obtain ⟨n, rfl⟩ := h; exact hc
theorem Alk.frozen {w w' : World} (h : Alk w w') {p : Addr} {b : Bool} (hc : w.frozen? p = b) : w'.frozen? p = b := by obtain ⟨n, rfl⟩ := h; exact hc
/-- Where the places lie. -/
def pt (g N : Nat) : Option Addr := if N = 0 then none else some ⟨g, 0, none⟩
theorem pt_pos {g N : Nat} (h : 0 < N) : pt g N = some ⟨g, 0, none⟩ := if_neg (by omega)
theorem pt_zero (g : Nat) : pt g 0 = none := rfl
def hdr (g N f c : Nat) : Nat → Value
  | 0 => .slice (pt g N) N N
  | 1 => .int .i64 (f : Int)
  | _ => .int .i64 (c : Int)
/-- What lies at the j-th of N places, if xs begins at the f-th. -/
def pl {α : Type} (enc : α → Value) (z : α) (N f : Nat) (xs : List α) : Nat → Value := fun j => enc (xs.getD ((j + N - f) % N) z)
/-- r is a ring whose places hold xs, and that says that it holds c things. -/
structure Rw {α : Type} (enc : α → Value) (z : α) (T t : TypeId) (w : World) (r g N f c : Nat) (xs : List α) : Prop where
  hd : w.rowIs r T 3 (hdr g N f c)
  row : 0 < N → w.rowIs g t N (pl enc z N f xs)
  ne : 0 < N → g ≠ r
  zr : N = 0 → g = r ∧ f = 0
  fl : 0 < N → f < N
  cl : c ≤ N
  len : xs.length ≤ N
  pow : 0 < N → ∃ k, N = 2 ^ (k + 2)
  lim : N ≤ 1099511627776
section
variable {α : Type} {enc : α → Value} {z : α} {T t : TypeId} {w : World} {r g N f c : Nat} {xs : List α}
theorem Rw.c0 (h : Rw enc z T t w r g N f c xs) (hN : 0 < N) : w.cell? ⟨r, 0, none⟩ = some (.slice (some ⟨g, 0, none⟩) N N) := by
  have := h.hd.cell (i := 0) (by omega)
  rw [this]
  simp [hdr, pt_pos hN]
theorem Rw.c0z (h : Rw enc z T t w r g 0 f c xs) : w.cell? ⟨r, 0, none⟩ = some (.slice none 0 0) := h.hd.cell (i := 0) (by omega)
theorem Rw.c1 (h : Rw enc z T t w r g N f c xs) : w.cell? ⟨r, 1, none⟩ = some (.int .i64 (f : Int)) := h.hd.cell (i := 1) (by omega)
theorem Rw.c2 (h : Rw enc z T t w r g N f c xs) : w.cell? ⟨r, 2, none⟩ = some (.int .i64 (c : Int)) := h.hd.cell (i := 2) (by omega)
theorem Rw.fz (h : Rw enc z T t w r g N f c xs) (i : Nat) : w.frozen? ⟨r, i, none⟩ = false := h.hd.frozen i
theorem Rw.fg (h : Rw enc z T t w r g N f c xs) (hN : 0 < N) (i : Nat) : w.frozen? ⟨g, i, none⟩ = false := (h.row hN).frozen i
theorem Rw.rlt (h : Rw enc z T t w r g N f c xs) : r < w.heap.size := h.hd.lt
theorem Rw.glt (h : Rw enc z T t w r g N f c xs) : g < w.heap.size := by
  rcases Nat.eq_zero_or_pos N with e | e
  · rw [(h.zr e).1]; exact h.rlt
  · exact (h.row e).lt
theorem Rw.fl' (h : Rw enc z T t w r g N f c xs) : f ≤ N := by
  rcases Nat.eq_zero_or_pos N with e | e
  · have := (h.zr e).2; omega
  · exact Nat.le_of_lt (h.fl e)
theorem Rw.four (h : Rw enc z T t w r g N f c xs) (hN : 0 < N) : 4 ≤ N := by
  obtain ⟨k, hk⟩ := h.pow hN
  have : 0 < 2 ^ k := Nat.pow_pos (by decide)
  rw [Nat.pow_add] at hk
  omega
/-- Other worlds in which both blocks are the same. -/
theorem Rw.of_blocks {w' : World} (h : Rw enc z T t w r g N f c xs) (h1 : w'.heap[r]? = w.heap[r]?) (h2 : w'.heap[g]? = w.heap[g]?) : Rw enc z T t w' r g N f c xs :=
  ⟨h.hd.of_block h1, fun hN => (h.row hN).of_block h2, h.ne, h.zr, h.fl, h.cl, h.len, h.pow, h.lim⟩
theorem Rw.mono {w' : World} (h : Rw enc z T t w r g N f c xs) (hb : Below w.heap.size w w') : Rw enc z T t w' r g N f c xs := h.of_blocks (hb.block _ h.rlt) (hb.block _ h.glt)
theorem Rw.chg {w' : World} {r' g' : Nat} (h : Rw enc z T t w r g N f c xs) (hb : Chg w w' r' g') (h1 : r ≠ r') (h2 : r ≠ g') (h3 : g ≠ r') (h4 : g ≠ g') : Rw enc z T t w' r g N f c xs := h.of_blocks (hb.block _ h.rlt h1 h2) (hb.block _ h.glt h3 h4)
theorem Rw.drew (h : Rw enc z T t w r g N f c xs) : Rw enc z T t w.drew r g N f c xs := h.of_blocks rfl rfl
theorem Rw.congr {ys : List α} (h : Rw enc z T t w r g N f c xs) (hl : ys.length ≤ N) (e : ∀ i, i < N → xs.getD i z = ys.getD i z) : Rw enc z T t w r g N f c ys :=
  ⟨h.hd, fun hN => (h.row hN).congr fun j hj => by unfold pl; rw [e _ (Nat.mod_lt _ hN)], h.ne, h.zr, h.fl, h.cl, hl, h.pow, h.lim⟩
theorem pl_at (hf : f < N) {i : Nat} (hi : i < N) : ((f + i) % N + N - f) % N = i := by
  rcases Nat.lt_or_ge (f + i) N with h | h
  · rw [Nat.mod_eq_of_lt h, show f + i + N - f = i + N by omega, Nat.add_mod_right, Nat.mod_eq_of_lt hi]
  · rw [Nat.mod_eq_sub_mod h, Nat.mod_eq_of_lt (show f + i - N < N by omega), show f + i - N + N - f = i by omega, Nat.mod_eq_of_lt hi]
theorem pl_of (hf : f < N) {j : Nat} (hj : j < N) : (f + (j + N - f) % N) % N = j := by
  rcases Nat.lt_or_ge j f with h | h
  · rw [Nat.mod_eq_of_lt (show j + N - f < N by omega), show f + (j + N - f) = j + N by omega, Nat.add_mod_right, Nat.mod_eq_of_lt hj]
  · rw [show j + N - f = j - f + N by omega, Nat.add_mod_right, Nat.mod_eq_of_lt (show j - f < N by omega), show f + (j - f) = j by omega, Nat.mod_eq_of_lt hj]
theorem Rw.at (h : Rw enc z T t w r g N f c xs) {i : Nat} (hi : i < N) : w.cell? ⟨g, (f + i) % N, none⟩ = some (enc (xs.getD i z)) := by
  rw [(h.row (by omega)).cell (Nat.mod_lt _ (by omega))]
  unfold pl
  rw [pl_at (h.fl (by omega)) hi]
/-- A thing is laid at the place i of the row. -/
theorem Rw.set {i : Nat} (h : Rw enc z T t w r g N f c xs) (hi : i < N) (v : α) {ys : List α} (hl : ys.length ≤ N) (hy : ∀ j, j < N → ys.getD j z = if j = i then v else xs.getD j z) : Rw enc z T t (w.setCell ⟨g, (f + i) % N, none⟩ (enc v)) r g N f c ys := by
  have hN : 0 < N := by omega
  have hne := h.ne hN
  refine ⟨h.hd.setOther (Ne.symm hne) _, fun _ => ((h.row hN).set _ _).congr fun j hj => ?_, h.ne, h.zr, h.fl, h.cl, hl, h.pow, h.lim⟩
  unfold pl
  rw [hy _ (Nat.mod_lt _ hN)]
  by_cases e : j = (f + i) % N
  · rw [if_pos e, if_pos (by rw [e]; exact pl_at (h.fl hN) hi)]
  · rw [if_neg e, if_neg fun e2 => e (by rw [← e2]; exact (pl_of (h.fl hN) hj).symm)]
theorem getD_set (xs : List α) (i : Nat) (v z : α) (hi : i < xs.length) (j : Nat) : (xs.set i v).getD j z = if j = i then v else xs.getD j z := by
  simp only [List.getD_eq_getElem?_getD, List.getElem?_set]
  by_cases e : i = j
  · subst e; simp [hi]
  · simp [e, Ne.symm e]
theorem getD_snoc (xs : List α) (v z : α) (j : Nat) : (xs ++ [v]).getD j z = if j = xs.length then v else xs.getD j z := by
  simp only [List.getD_eq_getElem?_getD]
  rcases Nat.lt_trichotomy j xs.length with h | h | h
  · rw [List.getElem?_append_left h, if_neg (by omega)]
  · subst h; simp
  · rw [List.getElem?_append_right (by omega), if_neg (by omega), List.getElem?_eq_none (l := xs) (by omega), List.getElem?_eq_none (by simp; omega)]
/-- The header is written anew. -/
theorem Rw.setCount (h : Rw enc z T t w r g N f c xs) {c' : Nat} (hc : c' ≤ N) : Rw enc z T t (w.setCell ⟨r, 2, none⟩ (.int .i64 (c' : Int))) r g N f c' xs :=
  ⟨(h.hd.set 2 _).congr fun i hi => by
      rcases i with _ | _ | _ | i
      · rfl
      · rfl
      · rfl
      · omega, fun hN => (h.row hN).setOther (h.ne hN) _, h.ne, h.zr, h.fl, hc, h.len, h.pow, h.lim⟩
theorem Rw.setFirst (h : Rw enc z T t w r g N f c xs) (hN : 0 < N) {f' : Nat} (hf : f' < N) {ys : List α} (hl : ys.length ≤ N) (hy : ∀ j, j < N → ys.getD ((j + N - f') % N) z = xs.getD ((j + N - f) % N) z) :
    Rw enc z T t (w.setCell ⟨r, 1, none⟩ (.int .i64 (f' : Int))) r g N f' c ys :=
  ⟨(h.hd.set 1 _).congr fun i hi => by
      rcases i with _ | _ | _ | i
      · rfl
      · rfl
      · rfl
      · omega, fun hN => ((h.row hN).setOther (h.ne hN) _).congr fun j hj => by unfold pl; rw [hy j hj], h.ne, fun e => by omega, fun _ => hf, h.cl, hl, h.pow, h.lim⟩
end
theorem Rw.moved {α : Type} {enc : α → Value} {z : α} {T t : TypeId} {w w1 : World} {r g N f c m G : Nat} {xs : List α} (h : Rw enc z T t w r g N f c xs) (hb : Below w.heap.size w w1) (hG : w.heap.size ≤ G) (hr : w1.rowIs G t m (fun j => enc (xs.getD j z))) (hc : c ≤ m) (hx : xs.length ≤ m)
    (hp : ∃ k, m = 2 ^ (k + 2)) (hl : m ≤ 1099511627776) : Rw enc z T t ((w1.setCell ⟨r, 0, none⟩ (.slice (some ⟨G, 0, none⟩) m m)).setCell ⟨r, 1, none⟩ (.int .i64 0)) r G m 0 c xs ∧ Chg w ((w1.setCell ⟨r, 0, none⟩ (.slice (some ⟨G, 0, none⟩) m m)).setCell ⟨r, 1, none⟩ (.int .i64 0)) r r := by
  have hm : 0 < m := by obtain ⟨k, rfl⟩ := hp; exact Nat.pow_pos (by decide)
  have hne : G ≠ r := by have := h.rlt; omega
  refine ⟨⟨(((h.hd.of_block (hb.block _ h.rlt)).set 0 _).set 1 _).congr fun i hi => ?_, fun _ => (((hr.setOther (by simpa using hne) _).setOther (by simpa using hne) _).congr fun j hj => ?_), fun _ => hne, fun e => by omega, fun _ => hm, hc, hx, fun _ => hp, hl⟩, ((Chg.of_below hb r r).setR 0 _).setR 1 _⟩
  · rcases i with _ | _ | _ | i
    · simp [hdr, pt_pos hm]
    · rfl
    · rfl
    · omega
  · unfold pl
    rw [Nat.sub_zero, Nat.add_mod_right, Nat.mod_eq_of_lt hj]
theorem Rw.snoc {α : Type} {enc : α → Value} {z : α} {T t : TypeId} {w : World} {r g N f : Nat} {xs : List α} (h : Rw enc z T t w r g N f xs.length xs) (hx : xs.length < N) (v : α) :
    Rw enc z T t ((w.setCell ⟨g, (f + xs.length) % N, none⟩ (enc v)).setCell ⟨r, 2, none⟩ (.int .i64 ((xs.length : Int) + 1))) r g N f (xs ++ [v]).length (xs ++ [v]) := by
  have h1 := h.set hx v (ys := xs ++ [v]) (by simp; omega) (fun j _ => getD_snoc xs v z j)
  have h2 := h1.setCount (c' := (xs ++ [v]).length) (by simp; omega)
  rw [show (((xs ++ [v]).length : Nat) : Int) = (xs.length : Int) + 1 by simp] at h2
  exact h2
theorem i64_mask (n : Int) (k : Nat) (hk : k ≤ 40) (m : Int) (hm : m = ((2 ^ k : Nat) : Int) - 1) : bits .and .i64 n m = n % ((2 ^ k : Nat) : Int) := by
  subst hm
  have hp : 2 ^ k ≤ 2 ^ 40 := Nat.pow_le_pow_right (by decide) hk
  have hp0 : 0 < 2 ^ k := Nat.pow_pos (by decide)
  have h127 : (BitVec.ofInt 64 (((2 ^ k : Nat) : Int) - 1)).toNat = 2 ^ k - 1 := by
    rw [BitVec.toNat_ofInt]
    omega
  have key : (BitVec.ofInt 64 n &&& BitVec.ofInt 64 (((2 ^ k : Nat) : Int) - 1)).toNat = (n % ((2 ^ 64 : Nat) : Int)).toNat % 2 ^ k := by
    rw [BitVec.toNat_and, BitVec.toNat_ofInt, h127, Nat.and_two_pow_sub_one_eq_mod]
  show IntKind.i64.wrap ((BitVec.ofInt 64 n &&& BitVec.ofInt 64 (((2 ^ k : Nat) : Int) - 1)).toNat : Nat) = n % ((2 ^ k : Nat) : Int)
  have hd : (2 ^ k : Nat) ∣ 2 ^ 64 := Nat.pow_dvd_pow 2 (by omega)
  have e1 : (((n % ((2 ^ 64 : Nat) : Int)).toNat % 2 ^ k : Nat) : Int) = n % ((2 ^ k : Nat) : Int) := by
    rw [Int.natCast_emod, Int.toNat_of_nonneg (Int.emod_nonneg _ (by decide))]
    exact Int.emod_emod_of_dvd _ (by exact_mod_cast hd)
  rw [key, e1, IntKind.wrap_i64]
  have h1 := Int.emod_nonneg n (show ((2 ^ k : Nat) : Int) ≠ 0 by omega)
  have h2 := Int.emod_lt_of_pos n (show (0 : Int) < ((2 ^ k : Nat) : Int) by omega)
  omega
end Go.Proofs.Ytmghkkaoblkmpaa
