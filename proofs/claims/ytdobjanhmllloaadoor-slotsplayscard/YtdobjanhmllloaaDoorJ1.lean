/- Contracts of the program's functions, part 1: own work, joined in build order. -/
import Derived.Test.YtdobjanhmllloaaDoorRows
import Derived.WalkKit
import Derived.WalkSpells
import Derived.WalkLawsBesides
import Derived.Deep.OwnRows
import Derived.Deep.QuietTactic
import Derived.BigQuiet
import Derived.Deep.RegionHeld3
import Derived.Laws.CopyOwn
import Derived.Deep.RegionLaw
import Derived.Laws.CopyRow
import Derived.Laws.Bits64b
import Derived.Laws.BitsAllLaws
import Derived.Lib.TrailingZeros
import Derived.Deep.Cut
namespace Go.Proofs.YtdobjanhmllloaaDoor
open Go.RowKit
structure Chg (w w' : World) (r g : Nat) : Prop where
  os : w'.os = w.os
  tape : w'.tape = w.tape
  output : w'.output = w.output
  size : w.heap.size ≤ w'.heap.size
  block : ∀ k, k < w.heap.size → k ≠ r → k ≠ g → w'.heap[k]? = w.heap[k]?
theorem Chg.refl (w : World) (r g : Nat) : Chg w w r g := ⟨rfl, rfl, rfl, Nat.le_refl _, fun _ _ _ _ => rfl⟩
theorem Chg.trans {a b c : World} {r g g' : Nat} (h : Chg a b r g) (k : Chg b c r g') (hg : g' = g ∨ g' = r ∨ a.heap.size ≤ g') : Chg a c r g :=
  ⟨k.os.trans h.os, k.tape.trans h.tape, k.output.trans h.output, Nat.le_trans h.size k.size, fun i hi h1 h2 => (k.block i (Nat.lt_of_lt_of_le hi h.size) h1 (by rcases hg with e | e | e <;> omega)).trans (h.block i hi h1 h2)⟩
theorem Chg.setR {a b : World} {r g : Nat} (h : Chg a b r g) (i : Nat) (v : Value) : Chg a (b.setCell ⟨r, i, none⟩ v) r g :=
  ⟨h.os, h.tape, h.output, by simpa using h.size, fun k hk h1 h2 => (Below.heap_setCell _ _ _ k h1).trans (h.block k hk h1 h2)⟩
theorem Chg.setG {a b : World} {r g : Nat} (h : Chg a b r g) (i : Nat) (v : Value) : Chg a (b.setCell ⟨g, i, none⟩ v) r g :=
  ⟨h.os, h.tape, h.output, by simpa using h.size, fun k hk h1 h2 => (Below.heap_setCell _ _ _ k h2).trans (h.block k hk h1 h2)⟩
theorem Chg.drew {a b : World} {r g : Nat} (h : Chg a b r g) : Chg a b.drew r g := ⟨h.os, h.tape, h.output, h.size, h.block⟩
theorem Chg.drewN {a b : World} {r g : Nat} (h : Chg a b r g) (n : Nat) : Chg a (b.drewN n) r g := ⟨h.os, h.tape, h.output, h.size, h.block⟩
theorem Chg.alloc {a b : World} {r g : Nat} (h : Chg a b r g) (o : Obj) : Chg a (b.alloc o) r g :=
  ⟨h.os, h.tape, h.output, by simpa using Nat.le_trans h.size (Nat.le_succ _), fun k hk h1 h2 => (Below.heap_alloc _ _ k (Nat.lt_of_lt_of_le hk h.size)).trans (h.block k hk h1 h2)⟩
theorem Chg.below {n : Nat} {a b : World} {r g : Nat} (h : Chg a b r g) (hr : n ≤ r) (hg : n ≤ g) (hn : n ≤ a.heap.size) : Below n a b :=
  ⟨h.os, h.tape, h.output, h.size, fun k hk => h.block k (by omega) (by omega) (by omega)⟩
theorem Chg.of_below {a b : World} (h : Below a.heap.size a b) (r g : Nat) : Chg a b r g := ⟨h.os, h.tape, h.output, h.size, fun k hk _ _ => h.block k hk⟩
theorem Chg.row {a b : World} {r g k : Nat} {t : TypeId} {n : Nat} {f : Nat → Value} (h : Chg a b r g) (hr : a.rowIs k t n f) (h1 : k ≠ r) (h2 : k ≠ g) : b.rowIs k t n f := hr.of_block (h.block k hr.lt h1 h2)
theorem Chg.cell {a b : World} {r g : Nat} {p : Addr} {v : Value} (h : Chg a b r g) (hc : a.cell? p = some v) (h1 : p.block ≠ r) (h2 : p.block ≠ g) : b.cell? p = some v :=
  (World.cell?_of_block (w := a) (h.block p.block (World.block_lt_of_cell? _ _ hc) h1 h2)).trans hc
def pt (g N : Nat) : Option Addr := if N = 0 then none else some ⟨g, 0, none⟩
theorem pt_pos {g N : Nat} (h : 0 < N) : pt g N = some ⟨g, 0, none⟩ := if_neg (by omega)
def hdr (g N f c : Nat) : Nat → Value
  | 0 => .slice (pt g N) N N
  | 1 => .int .i64 (f : Int)
  | _ => .int .i64 (c : Int)
def setL (w : World) (g : Nat) : Nat → List Value → World
  | _, [] => w
  | off, v :: l => setL (w.setCell ⟨g, off, none⟩ v) g (off + 1) l
theorem setL_heap (w : World) (g : Nat) (l : List Value) (off : Nat) {k : Nat} (hk : k ≠ g) : (setL w g off l).heap[k]? = w.heap[k]? := by
  induction l generalizing w off with
  | nil => rfl
  | cons v l ih => exact (ih _ _).trans (Below.heap_setCell _ _ _ k hk)
theorem rowIs_setL {w : World} {b : Nat} {t : TypeId} {n : Nat} {F : Nat → Value} (h : w.rowIs b t n F) (l : List Value) (off : Nat) : (setL w b off l).rowIs b t n (fun q => if off ≤ q ∧ q < off + l.length then l.getD (q - off) undef else F q) := by
  induction l generalizing w off F with
  | nil => exact h.congr fun i _ => by rw [if_neg (by simp)]
  | cons v l ih =>
    refine (ih (h.set off v) (off + 1)).congr fun i hi => ?_
    simp only [List.length_cons]
    by_cases e : i = off
    · subst e
      rw [if_neg (by omega), if_pos rfl, if_pos (by omega), Nat.sub_self]
      rfl
    by_cases e2 : off + 1 ≤ i ∧ i < off + 1 + l.length
    · rw [if_pos e2, if_pos (by omega), show i - off = (i - (off + 1)) + 1 by omega]
      rfl
    rw [if_neg e2, if_neg e, if_neg (by omega)]
theorem Chg.setL {a b : World} {r g : Nat} (h : Chg a b r g) (off : Nat) (l : List Value) : Chg a (setL b g off l) r g := by
  induction l generalizing b off with
  | nil => exact h
  | cons v l ih => exact ih (h.setG off v) _
def plK {α : Type} (K : Nat) (enc : α → Nat → Value) (z : α) (N f : Nat) (xs : List α) : Nat → Value := fun q => enc (xs.getD ((q / K + N - f) % N) z) (q % K)
structure RwK {α : Type} (K : Nat) (enc : α → Nat → Value) (z : α) (T t : TypeId) (w : World) (r g N f c : Nat) (xs : List α) : Prop where
  hd : w.rowIs r T 3 (hdr g N f c)
  row : 0 < N → w.rowIs g t (N * K) (plK K enc z N f xs)
  ne : 0 < N → g ≠ r
  zr : N = 0 → g = r ∧ f = 0
  fl : 0 < N → f < N
  cl : c ≤ N
  len : xs.length ≤ N
  pow : 0 < N → ∃ k, N = 2 ^ (k + 2)
  lim : N ≤ 1099511627776
section
variable {α : Type} {K : Nat} {enc : α → Nat → Value} {z : α} {T t : TypeId} {w : World} {r g N f c : Nat} {xs : List α}
theorem RwK.c0 (h : RwK K enc z T t w r g N f c xs) (hN : 0 < N) : w.cell? ⟨r, 0, none⟩ = some (.slice (some ⟨g, 0, none⟩) N N) := by
  have := h.hd.cell (i := 0) (by omega)
  rw [this]
  simp [hdr, pt_pos hN]
theorem RwK.c1 (h : RwK K enc z T t w r g N f c xs) : w.cell? ⟨r, 1, none⟩ = some (.int .i64 (f : Int)) := h.hd.cell (i := 1) (by omega)
theorem RwK.c2 (h : RwK K enc z T t w r g N f c xs) : w.cell? ⟨r, 2, none⟩ = some (.int .i64 (c : Int)) := h.hd.cell (i := 2) (by omega)
theorem RwK.fz (h : RwK K enc z T t w r g N f c xs) (i : Nat) : w.frozen? ⟨r, i, none⟩ = false := h.hd.frozen i
theorem RwK.fg (h : RwK K enc z T t w r g N f c xs) (hN : 0 < N) (i : Nat) : w.frozen? ⟨g, i, none⟩ = false := (h.row hN).frozen i
theorem RwK.rlt (h : RwK K enc z T t w r g N f c xs) : r < w.heap.size := h.hd.lt
theorem RwK.glt (h : RwK K enc z T t w r g N f c xs) : g < w.heap.size := by
  rcases Nat.eq_zero_or_pos N with e | e
  · rw [(h.zr e).1]; exact h.rlt
  exact (h.row e).lt
theorem RwK.fl' (h : RwK K enc z T t w r g N f c xs) : f ≤ N := by
  rcases Nat.eq_zero_or_pos N with e | e
  · have := (h.zr e).2; omega
  exact Nat.le_of_lt (h.fl e)
theorem RwK.four (h : RwK K enc z T t w r g N f c xs) (hN : 0 < N) : 4 ≤ N := by
  obtain ⟨k, hk⟩ := h.pow hN
  have : 0 < 2 ^ k := Nat.pow_pos (by decide)
  rw [Nat.pow_add] at hk
  omega
theorem RwK.of_blocks {w' : World} (h : RwK K enc z T t w r g N f c xs) (h1 : w'.heap[r]? = w.heap[r]?) (h2 : w'.heap[g]? = w.heap[g]?) : RwK K enc z T t w' r g N f c xs :=
  ⟨h.hd.of_block h1, fun hN => (h.row hN).of_block h2, h.ne, h.zr, h.fl, h.cl, h.len, h.pow, h.lim⟩
theorem RwK.mono {w' : World} (h : RwK K enc z T t w r g N f c xs) (hb : Below w.heap.size w w') : RwK K enc z T t w' r g N f c xs := h.of_blocks (hb.block _ h.rlt) (hb.block _ h.glt)
theorem RwK.drew (h : RwK K enc z T t w r g N f c xs) : RwK K enc z T t w.drew r g N f c xs := h.of_blocks rfl rfl
theorem RwK.congr {ys : List α} (h : RwK K enc z T t w r g N f c xs) (hl : ys.length ≤ N) (e : ∀ i, i < N → xs.getD i z = ys.getD i z) : RwK K enc z T t w r g N f c ys :=
  ⟨h.hd, fun hN => (h.row hN).congr fun j hj => by unfold plK; rw [e _ (Nat.mod_lt _ hN)], h.ne, h.zr, h.fl, h.cl, hl, h.pow, h.lim⟩
theorem pl_at (hf : f < N) {i : Nat} (hi : i < N) : ((f + i) % N + N - f) % N = i := by
  rcases Nat.lt_or_ge (f + i) N with h | h
  · rw [Nat.mod_eq_of_lt h, show f + i + N - f = i + N by omega, Nat.add_mod_right, Nat.mod_eq_of_lt hi]
  rw [Nat.mod_eq_sub_mod h, Nat.mod_eq_of_lt (show f + i - N < N by omega), show f + i - N + N - f = i by omega, Nat.mod_eq_of_lt hi]
theorem pl_of (hf : f < N) {j : Nat} (hj : j < N) : (f + (j + N - f) % N) % N = j := by
  rcases Nat.lt_or_ge j f with h | h
  · rw [Nat.mod_eq_of_lt (show j + N - f < N by omega), show f + (j + N - f) = j + N by omega, Nat.add_mod_right, Nat.mod_eq_of_lt hj]
  rw [show j + N - f = j - f + N by omega, Nat.add_mod_right, Nat.mod_eq_of_lt (show j - f < N by omega), show f + (j - f) = j by omega, Nat.mod_eq_of_lt hj]
theorem RwK.at (h : RwK K enc z T t w r g N f c xs) (hK : 0 < K) {i : Nat} (hi : i < N) {j : Nat} (hj : j < K) : w.cell? ⟨g, (f + i) % N * K + j, none⟩ = some (enc (xs.getD i z) j) := by
  have hm := Nat.mod_lt (f + i) (show 0 < N by omega)
  have hlt : (f + i) % N * K + j < N * K := by
    have : ((f + i) % N + 1) * K ≤ N * K := Nat.mul_le_mul_right _ hm
    rw [Nat.add_mul] at this
    omega
  rw [(h.row (by omega)).cell hlt]
  unfold plK
  rw [Nat.mul_comm, Nat.mul_add_div hK, Nat.div_eq_of_lt hj, Nat.add_zero, Nat.mul_add_mod, Nat.mod_eq_of_lt hj, pl_at (h.fl (by omega)) hi]
theorem RwK.set {i : Nat} (h : RwK K enc z T t w r g N f c xs) (hK : 0 < K) (hi : i < N) (v : α) {ys : List α} (hl : ys.length ≤ N) (hy : ∀ j, j < N → ys.getD j z = if j = i then v else xs.getD j z) : RwK K enc z T t (setL w g ((f + i) % N * K) ((List.range K).map (enc v))) r g N f c ys := by
  have hN : 0 < N := by omega
  have hne := h.ne hN
  refine ⟨h.hd.of_block (setL_heap _ _ _ _ (Ne.symm hne)), fun _ => (rowIs_setL (h.row hN) _ _).congr fun q hq => ?_, h.ne, h.zr, h.fl, h.cl, hl, h.pow, h.lim⟩
  simp only [List.length_map, List.length_range]
  unfold plK
  rw [hy _ (Nat.mod_lt _ hN)]
  have hqN : q / K < N := (Nat.div_lt_iff_lt_mul hK).2 hq
  have hdm := Nat.div_add_mod q K
  have hml := Nat.mod_lt q hK
  by_cases e : q / K = (f + i) % N
  · have e2 : (q / K + N - f) % N = i := by rw [e]; exact pl_at (h.fl hN) hi
    have e3 : K * (q / K) = (f + i) % N * K := by rw [e, Nat.mul_comm]
    rw [if_pos (by omega), if_pos e2, show q - (f + i) % N * K = q % K by omega]
    simp [List.getD_eq_getElem?_getD, hml]
  have e2 : (q / K + N - f) % N ≠ i := fun e2 => e (by rw [← e2]; exact (pl_of (h.fl hN) hqN).symm)
  rw [if_neg e2, if_neg]
  rintro ⟨h1, h2⟩
  refine e ?_
  have h3 : (f + i) % N ≤ q / K := (Nat.le_div_iff_mul_le hK).2 h1
  have h4 : q / K < (f + i) % N + 1 := (Nat.div_lt_iff_lt_mul hK).2 (by rw [Nat.add_mul]; omega)
  omega
theorem getD_set (xs : List α) (i : Nat) (v z : α) (hi : i < xs.length) (j : Nat) : (xs.set i v).getD j z = if j = i then v else xs.getD j z := by
  simp only [List.getD_eq_getElem?_getD, List.getElem?_set]
  by_cases e : i = j
  · subst e; simp [hi]
  simp [e, Ne.symm e]
theorem getD_snoc (xs : List α) (v z : α) (j : Nat) : (xs ++ [v]).getD j z = if j = xs.length then v else xs.getD j z := by
  simp only [List.getD_eq_getElem?_getD]
  rcases Nat.lt_trichotomy j xs.length with h | h | h
  · rw [List.getElem?_append_left h, if_neg (by omega)]
  · subst h; simp
  rw [List.getElem?_append_right (by omega), if_neg (by omega), List.getElem?_eq_none (l := xs) (by omega), List.getElem?_eq_none (by simp; omega)]
theorem RwK.setCount (h : RwK K enc z T t w r g N f c xs) {c' : Nat} (hc : c' ≤ N) : RwK K enc z T t (w.setCell ⟨r, 2, none⟩ (.int .i64 (c' : Int))) r g N f c' xs :=
  ⟨(h.hd.set 2 _).congr fun i hi => by
      rcases i with _ | _ | _ | i
      · rfl
      · rfl
      · rfl
      omega, fun hN => (h.row hN).setOther (h.ne hN) _, h.ne, h.zr, h.fl, hc, h.len, h.pow, h.lim⟩
end
theorem RwK.moved {α : Type} {K : Nat} {enc : α → Nat → Value} {z : α} {T t : TypeId} {w w1 : World} {r g N f c m G : Nat} {xs : List α} (h : RwK K enc z T t w r g N f c xs) (hb : Below w.heap.size w w1) (hG : w.heap.size ≤ G) (hr : w1.rowIs G t (m * K) (fun q => enc (xs.getD (q / K) z) (q % K))) (hc : c ≤ m) (hx : xs.length ≤ m)
    (hp : ∃ k, m = 2 ^ (k + 2)) (hl : m ≤ 1099511627776) : RwK K enc z T t ((w1.setCell ⟨r, 0, none⟩ (.slice (some ⟨G, 0, none⟩) m m)).setCell ⟨r, 1, none⟩ (.int .i64 0)) r G m 0 c xs ∧ Chg w ((w1.setCell ⟨r, 0, none⟩ (.slice (some ⟨G, 0, none⟩) m m)).setCell ⟨r, 1, none⟩ (.int .i64 0)) r r := by
  have hm : 0 < m := by obtain ⟨k, rfl⟩ := hp; exact Nat.pow_pos (by decide)
  have hne : G ≠ r := by have := h.rlt; omega
  refine ⟨⟨(((h.hd.of_block (hb.block _ h.rlt)).set 0 _).set 1 _).congr fun i hi => ?_, fun _ => (((hr.setOther (by simpa using hne) _).setOther (by simpa using hne) _).congr fun j hj => ?_), fun _ => hne, fun e => by omega, fun _ => hm, hc, hx, fun _ => hp, hl⟩, ((Chg.of_below hb r r).setR 0 _).setR 1 _⟩
  · rcases i with _ | _ | _ | i
    · simp [hdr, pt_pos hm]
    · rfl
    · rfl
    omega
  unfold plK
  have hK : 0 < K := by
    rcases Nat.eq_zero_or_pos K with e | e
    · subst e
      omega
    exact e
  rw [Nat.sub_zero, Nat.add_mod_right, Nat.mod_eq_of_lt ((Nat.div_lt_iff_lt_mul hK).2 hj)]
theorem RwK.snoc {α : Type} {K : Nat} {enc : α → Nat → Value} {z : α} {T t : TypeId} {w : World} {r g N f : Nat} {xs : List α} (h : RwK K enc z T t w r g N f xs.length xs) (hK : 0 < K) (hx : xs.length < N) (v : α) :
    RwK K enc z T t ((setL w g ((f + xs.length) % N * K) ((List.range K).map (enc v))).setCell ⟨r, 2, none⟩ (.int .i64 ((xs.length : Int) + 1))) r g N f (xs ++ [v]).length (xs ++ [v]) := by
  have h1 := h.set hK hx v (ys := xs ++ [v]) (by simp; omega) (fun j _ => getD_snoc xs v z j)
  have h2 := h1.setCount (c' := (xs ++ [v]).length) (by simp; omega)
  rw [show (((xs ++ [v]).length : Nat) : Int) = (xs.length : Int) + 1 by simp] at h2
  exact h2
theorem i64_mask (n : Int) (k : Nat) (hk : k ≤ 40) (m : Int) (hm : m = ((2 ^ k : Nat) : Int) - 1) : bits .and .i64 n m = n % ((2 ^ k : Nat) : Int) := by
  subst hm
  have hp : 2 ^ k ≤ 2 ^ 40 := Nat.pow_le_pow_right (by decide) hk
  have hp0 : 0 < 2 ^ k := Nat.pow_pos (by decide)
  have h127 : (BitVec.ofInt 64 (((2 ^ k : Nat) : Int) - 1)).toNat = 2 ^ k - 1 := by
    rw [BitVec.toNat_ofInt]
    omega
  have key : (BitVec.ofInt 64 n &&& BitVec.ofInt 64 (((2 ^ k : Nat) : Int) - 1)).toNat = (n % ((2 ^ 64 : Nat) : Int)).toNat % 2 ^ k := by
    rw [BitVec.toNat_and, BitVec.toNat_ofInt, h127, Nat.and_two_pow_sub_one_eq_mod]
  show IntKind.i64.wrap ((BitVec.ofInt 64 n &&& BitVec.ofInt 64 (((2 ^ k : Nat) : Int) - 1)).toNat : Nat) = n % ((2 ^ k : Nat) : Int)
  have hd : (2 ^ k : Nat) ∣ 2 ^ 64 := Nat.pow_dvd_pow 2 (by omega)
  have e1 : (((n % ((2 ^ 64 : Nat) : Int)).toNat % 2 ^ k : Nat) : Int) = n % ((2 ^ k : Nat) : Int) := by
    rw [Int.natCast_emod, Int.toNat_of_nonneg (Int.emod_nonneg _ (by decide))]
    exact Int.emod_emod_of_dvd _ (by exact_mod_cast hd)
  rw [key, e1, IntKind.wrap_i64]
  have h1 := Int.emod_nonneg n (show ((2 ^ k : Nat) : Int) ≠ 0 by omega)
  have h2 := Int.emod_lt_of_pos n (show (0 : Int) < ((2 ^ k : Nat) : Int) by omega)
  omega
end Go.Proofs.YtdobjanhmllloaaDoor
namespace Go.Proofs.YtdobjanhmllloaaDoor
open Go.RowKit
theorem row_list {w : World} {b : Nat} {t : TypeId} {n : Nat} {f : Nat → Value} (h : w.rowIs b t n f) : w.heap[b]? = some (.cells ((List.range n).map f).toArray t (0, 0)) := by
  obtain ⟨c, hb, hn, hc⟩ := h
  rw [hb]
  congr 2
  refine Array.ext (by simp [hn]) fun i h1 h2 => ?_
  have := hc i (by omega)
  simp at h2
  rw [Array.getElem?_eq_getElem h1] at this
  simpa using this
theorem list_row {w : World} {b : Nat} {t : TypeId} {n : Nat} {l : List Value} {f : Nat → Value} (h : w.heap[b]? = some (.cells l.toArray t (0, 0))) (hl : l.length = n) (hf : ∀ i, i < n → l[i]? = some (f i)) : w.rowIs b t n f :=
  ⟨_, h, by simpa using hl, fun i hi => by simpa using hf i hi⟩
def laid (F : Nat → Value) (o : Nat) (G : Nat → Value) (n : Nat) : Nat → Value := fun j => if o ≤ j ∧ j < o + n then G (j - o) else F j
theorem splice_row (n o m : Nat) (F G : Nat → Value) (h : o + m ≤ n) : ∀ i, i < n → (splice ((List.range n).map F) o ((List.range m).map G))[i]? = some (laid F o G m i) := by
  intro i hi
  unfold splice laid
  rcases Nat.lt_or_ge i o with h1 | h1
  · rw [List.getElem?_append_left (by simp; omega), List.getElem?_take_of_lt h1, if_neg (by omega)]
    simp [hi]
  rw [List.getElem?_append_right (by simp; omega)]
  have e : ((List.range n).map F |>.take o).length = o := by simp; omega
  rw [e]
  rcases Nat.lt_or_ge (i - o) m with h2 | h2
  · rw [List.getElem?_append_left (by simpa using h2), if_pos (by omega)]
    simp [h2]
  rw [List.getElem?_append_right (by simpa using h2), if_neg (by omega), List.getElem?_drop]
  simp only [List.length_map, List.length_range]
  rw [show o + m + (i - o - m) = i by omega]
  simp [hi]
theorem run_copy_rowK {P : Program} (K : Nat) (w : World) (dT sT ty elem : TypeId) (g o dLen dCap : Nat) (a : Addr) (sLen sCap : Nat) (cur : Array Value) (t : TypeId) (cs : List Value)
    (hu : P.underlying dT = some (.slice elem)) (hs : (P.info? elem).map (·.size) = some K)
    (hg : w.heap[g]? = some (.cells cur t (0, 0))) (n : Nat) (hn : n = Nat.min sLen dLen) (hcs : cs.length = n * K)
    (hsrc : ∀ j v, cs[j]? = some v → w.cell? (a.add j) = some v) (hfit : o + cs.length ≤ cur.size) (h1 : ∀ v ∈ cs, v.oneCell' = true) :
    (Builtin.copy_ #[dT, sT] ty #[.slice (some ⟨g, o, none⟩) dLen dCap, .slice (some a) sLen sCap]).run P w =
      .ok (goInt n) (w.setRow g (cur.toList.take o ++ cs ++ cur.toList.drop (o + cs.length)).toArray) := by
  have hl := run_loadCells_list (P := P) w a cs hsrc
  have hst := run_storeCells_at P g o t cs 0 cur w hg (by simpa using hfit) h1
  rw [hcs] at hl
  cases hq : P.info? elem with
  | none => simp [hq] at hs
  | some i =>
    have hi : i.size = K := by simpa [hq] using hs
    simp [Builtin.copy_, run_underlying hu, Builtin.lenOf, Builtin.firstCells, sizeOf, typeInfo, hq, hi, ← hn, hl, hst]
theorem run_copy_noneK {P : Program} (K : Nat) (w : World) (dT sT ty elem : TypeId) (d a : Option Addr) (dLen dCap sLen sCap : Nat) (hu : P.underlying dT = some (.slice elem)) (hs : (P.info? elem).map (·.size) = some K) (hn : Nat.min sLen dLen = 0) :
    (Builtin.copy_ #[dT, sT] ty #[.slice d dLen dCap, .slice a sLen sCap]).run P w = .ok (goInt 0) w := by
  cases hq : P.info? elem with
  | none => simp [hq] at hs
  | some i =>
    have hl : ∀ (x : Addr), (loadCells x 0).run P w = .ok #[] w := fun x => by simpa using run_loadCells_list (P := P) w x [] (by simp)
    cases d <;> cases a <;> simp [Builtin.copy_, run_underlying hu, Builtin.lenOf, Builtin.firstCells, sizeOf, typeInfo, hq, hn, storeCells, hl]
theorem step_copyK {P : Program} (Kc : Nat) {ops : Array Oper} {o : Oper} {a : Act} {w : World} {K : Act → World → Prop} {Q : Exit → Act → World → Prop} {E : Prop} (hgd : o.guard = none) (d s : Operand) (dT sT : TypeId)
    (ho : o.op = .call { callee := .builtin .copy, args := #[d, s], argTypes := #[dT, sT] }) (elem : TypeId) (hu : P.underlying dT = some (.slice elem)) (hsz : (P.info? elem).map (·.size) = some Kc)
    (dp sp : Option Addr) (dLen dCap sLen sCap : Nat) (hd : a.eval d = .slice dp dLen dCap) (hs : a.eval s = .slice sp sLen sCap)
    (g off M : Nat) (F G : Nat → Value) (t : TypeId) (hg : w.rowIs g t M F) (hn : sLen ≤ dLen)
    (hpos : 0 < sLen → dp = some ⟨g, off, none⟩ ∧ ∃ ad, sp = some ad ∧ ∀ j, j < sLen * Kc → w.cell? (ad.add j) = some (G j))
    (hfit : off + sLen * Kc ≤ M) (h1 : ∀ j, (G j).oneCell' = true) (B : Nat) (w0 : World) (hb : Below B w0 w) (hBg : B ≤ g)
    (h : ∀ w', Hid (w'.rowIs g t M (laid F off G (sLen * Kc)) ∧ Below B w0 w') → K (a.put o.dst (goInt sLen)) w') :
    if Region.wanted o (yielded ops a.tmps) = true then Oper.wp P o a w K Q else E := by
  have hw : Region.wanted o (yielded ops a.tmps) = true := by simp [Region.wanted, hgd]
  rw [if_pos hw]
  rcases Nat.eq_zero_or_pos sLen with h0 | h0
  · subst h0
    have hrun := run_copy_noneK (P := P) Kc w dT sT o.type elem dp sp dLen dCap 0 sCap hu hsz (by simp)
    unfold Oper.wp
    simp [execOp, ho, resolve, invoke, builtin, hd, hs, hrun, Result.andThen]
    refine h w ⟨hg.congr fun i hi => ?_, hb⟩
    unfold laid
    rw [if_neg (by omega)]
  obtain ⟨rfl, ad, rfl, hsrc⟩ := hpos h0
  have hl : ((List.range (sLen * Kc)).map G).length = sLen * Kc := by simp
  have hrun := run_copy_rowK (P := P) Kc w dT sT o.type elem g off dLen dCap ad sLen sCap ((List.range M).map F).toArray t ((List.range (sLen * Kc)).map G) hu hsz (row_list hg) sLen (Nat.min_eq_left hn).symm hl
    (fun j v hj => by
      rcases Nat.lt_or_ge j (sLen * Kc) with h4 | h4
      · rw [hsrc j h4]
        simpa [h4] using hj
      rw [List.getElem?_eq_none (by simpa using h4)] at hj
      cases hj) (by simpa using hfit) (fun v hv => by obtain ⟨j, _, rfl⟩ := List.mem_map.1 hv; exact h1 j)
  unfold Oper.wp
  simp [execOp, ho, resolve, invoke, builtin, hd, hs, hrun, Result.andThen]
  refine h _ ⟨list_row (l := splice ((List.range M).map F) off ((List.range (sLen * Kc)).map G)) ?_ (by unfold splice; simp; omega) (splice_row M off (sLen * Kc) F G hfit), below_setRow hb hBg _⟩
  simpa [splice] using setRow_heap w g _ _ t _ (row_list hg)
theorem addr_add (b o j : Nat) : (⟨b, o, none⟩ : Addr).add j = ⟨b, o + j, none⟩ := by unfold Addr.add; split <;> simp_all
theorem bel_drewN {B : Nat} {a w : World} (h : Below B a w) (n : Nat) : Below B a (w.drewN n) := ⟨h.os, h.tape, h.output, h.size, h.block⟩
theorem bel_drew {B : Nat} {a w : World} (h : Below B a w) : Below B a w.drew := ⟨h.os, h.tape, h.output, h.size, h.block⟩
theorem rowIs_madeK (w : World) (zs : Array Value) (n : Nat) (t : TypeId) : (w.alloc (.cells (madeCells zs n) t)).rowIs w.heap.size t n (fun i => zs[i % zs.size]!) :=
  ⟨_, (MapKept.heap_alloc _ _).1, size_madeCells _ _, fun i hi => by simp [madeCells, hi]⟩
end Go.Proofs.YtdobjanhmllloaaDoor
namespace Go.Proofs.YtdobjanhmllloaaDoor
open Go.RowKit
set_option maxRecDepth 100000
set_option linter.unusedVariables false
def Wd (S : Nat → Prop) (j x : Nat) : Prop := x < 18446744073709551616 ∧ ∀ b, b < 64 → (x.testBit b = true ↔ S (64 * j + b))
theorem Wd.congr {S S' : Nat → Prop} {j x : Nat} (h : Wd S j x) (e : ∀ b, b < 64 → (S (64 * j + b) ↔ S' (64 * j + b))) : Wd S' j x := ⟨h.1, fun b hb => (h.2 b hb).trans (e b hb)⟩
theorem pow_lt64 {t : Nat} (h : t < 64) : 2 ^ t < 18446744073709551616 := by
  have : 2 ^ t < 2 ^ 64 := Nat.pow_lt_pow_right (by decide) h
  exact this
theorem tb_high {x b : Nat} (h : x < 18446744073709551616) (hb : 64 ≤ b) : x.testBit b = false := by
  refine Nat.testBit_lt_two_pow (Nat.lt_of_lt_of_le (show x < 2 ^ 64 from h) (Nat.pow_le_pow_right (by decide) hb))
theorem Wd.or {S S' : Nat → Prop} {j x t : Nat} (h : Wd S j x) (ht : t < 64) (e : ∀ b, b < 64 → (S' (64 * j + b) ↔ S (64 * j + b) ∨ b = t)) : Wd S' j (x ||| 2 ^ t) := by
  refine ⟨Nat.or_lt_two_pow (n := 64) h.1 (pow_lt64 ht), fun b hb => ?_⟩
  rw [e b hb, Nat.testBit_or, Bool.or_eq_true, h.2 b hb, Nat.testBit_two_pow]
  simp
  constructor
  · rintro (h1 | h1)
    · exact .inl h1
    exact .inr h1.symm
  rintro (h1 | h1)
  · exact .inl h1
  exact .inr h1.symm
theorem Wd.not {S S' : Nat → Prop} {j x t : Nat} (h : Wd S j x) (ht : t < 64) (e : ∀ b, b < 64 → (S' (64 * j + b) ↔ S (64 * j + b) ∧ b ≠ t)) : Wd S' j (x &&& (18446744073709551615 - 2 ^ t)) := by
  refine ⟨Nat.lt_of_le_of_lt Nat.and_le_left h.1, fun b hb => ?_⟩
  have e1 : 18446744073709551615 - 2 ^ t = 2 ^ 64 - (2 ^ t + 1) := by
    have := pow_lt64 ht
    have e2 : (2 : Nat) ^ 64 = 18446744073709551616 := by decide
    rw [e2]
    omega
  rw [e b hb, Nat.testBit_and, Bool.and_eq_true, h.2 b hb, e1, Nat.testBit_two_pow_sub_succ (pow_lt64 ht), Nat.testBit_two_pow]
  simp [hb]
  intro _
  constructor
  · intro h1 h2
    exact h1 h2.symm
  intro h1 h2
  exact h1 h2.symm
theorem Wd.zero {S : Nat → Prop} {j x : Nat} (h : Wd S j x) : x = 0 ↔ ∀ b, b < 64 → ¬ S (64 * j + b) := by
  constructor
  · intro e b hb hS
    have := (h.2 b hb).2 hS
    rw [e] at this
    simp at this
  intro hS
  refine Nat.eq_of_testBit_eq fun b => ?_
  rw [Nat.zero_testBit]
  rcases Nat.lt_or_ge b 64 with hb | hb
  · rcases Bool.eq_false_or_eq_true (x.testBit b) with e | e
    · exact absurd ((h.2 b hb).1 e) (hS b hb)
    exact e
  exact tb_high h.1 hb
theorem wd_empty {S : Nat → Prop} {j : Nat} (h : ∀ b, b < 64 → ¬ S (64 * j + b)) : Wd S j 0 := ⟨by omega, fun b hb => by simp [h b hb]⟩
theorem Wd.low {S : Nat → Prop} {j x k m : Nat} (h : Wd S j x) (hk : k < 64) (e : x = 2 ^ k * (2 * m + 1)) : S (64 * j + k) ∧ ∀ b, b < k → ¬ S (64 * j + b) := by
  refine ⟨(h.2 k hk).1 ?_, fun b hb hS => ?_⟩
  · rw [e, Nat.testBit_two_pow_mul]
    simp
  have h1 := (h.2 b (by omega)).2 hS
  rw [e, Nat.testBit_two_pow_mul] at h1
  simp at h1
  omega
def Lv (S : Nat → Prop) (k : Nat) : Nat → Prop := fun y => ∃ i, S i ∧ i / 64 ^ k = y
theorem Lv.zero (S : Nat → Prop) (y : Nat) : Lv S 0 y ↔ S y := by
  unfold Lv
  simp
theorem div_succ (i k : Nat) : i / 64 ^ (k + 1) = i / 64 ^ k / 64 := by rw [Nat.pow_succ, ← Nat.div_div_eq_div_mul]
theorem Lv.succ (S : Nat → Prop) (k y : Nat) : Lv S (k + 1) y ↔ ∃ b, b < 64 ∧ Lv S k (64 * y + b) := by
  unfold Lv
  constructor
  · rintro ⟨i, hi, e⟩
    rw [div_succ] at e
    exact ⟨i / 64 ^ k % 64, by omega, i, hi, by omega⟩
  rintro ⟨b, hb, i, hi, e⟩
  exact ⟨i, hi, by rw [div_succ]; omega⟩
theorem Lv.add (S : Nat → Prop) (i k y : Nat) : Lv (fun x => S x ∨ x = i) k y ↔ Lv S k y ∨ y = i / 64 ^ k := by
  unfold Lv
  constructor
  · rintro ⟨x, h | h, e⟩
    · exact .inl ⟨x, h, e⟩
    subst h
    exact .inr e.symm
  rintro (⟨x, h, e⟩ | e)
  · exact ⟨x, .inl h, e⟩
  exact ⟨i, .inr rfl, e.symm⟩
theorem Lv.mono {S S' : Nat → Prop} (h : ∀ x, S x → S' x) {k y : Nat} (hl : Lv S k y) : Lv S' k y := by
  obtain ⟨x, h1, h2⟩ := hl
  exact ⟨x, h x h1, h2⟩
def cl (n : Nat) : Nat → Nat
  | 0 => n
  | k + 1 => (cl n k + 63) / 64
theorem cl_pos {n : Nat} (h : 1 ≤ n) (k : Nat) : 1 ≤ cl n k := by
  induction k with
  | zero => exact h
  | succ k ih => unfold cl; omega
theorem cl_le {n : Nat} (h : n ≤ 65536) (k : Nat) : cl n k ≤ 65536 := by
  induction k with
  | zero => exact h
  | succ k ih => unfold cl; omega
theorem cl_lt {n i : Nat} (h : i < n) (k : Nat) : i / 64 ^ k < cl n k := by
  induction k with
  | zero => simpa [cl] using h
  | succ k ih => rw [div_succ]; unfold cl; omega
theorem cl_word {n y k : Nat} (h : y < cl n k) : y / 64 < cl n (k + 1) := by
  unfold cl
  omega
structure NmX (W : World) (b L cap : Nat) (G : Nat → Nat) (n : Nat) (T : Nat → Nat → Prop) (lb : Nat) : Prop where
  le : L ≤ cap
  lim : cap ≤ 9223372036854775807
  one : 1 ≤ L
  last : cl n L = 1
  nlim : 1 ≤ n ∧ n ≤ 65536
  lo : lb ≤ b
  rows : ∃ cs : Array Value, W.heap[b]? = some (.cells cs 113) ∧ ∀ k, k < L → cs[k]? = some (.slice (some ⟨G k, 0, none⟩) (cl n (k + 1)) (cl n (k + 1)))
  row : ∀ k, k < L → lb ≤ G k ∧ ∃ cs : Array Value, W.heap[G k]? = some (.cells cs 114) ∧ ∀ j, j < cl n (k + 1) → ∃ x : Nat, cs[j]? = some (.int .u64 (x : Int)) ∧ Wd (T k) j x
  inj : ∀ k k', k < L → k' < L → k ≠ k' → G k ≠ G k'
section
variable {W W' : World} {b L cap : Nat} {G : Nat → Nat} {n : Nat} {T T' : Nat → Nat → Prop} {lb : Nat}
theorem NmX.crow (h : NmX W b L cap G n T lb) {k : Nat} (hk : k < L) : W.cell? ⟨b, k, none⟩ = some (.slice (some ⟨G k, 0, none⟩) (cl n (k + 1)) (cl n (k + 1))) := by
  obtain ⟨cs, e, h1⟩ := h.rows
  simp [World.cell?, e, h1 k hk]
theorem NmX.cword (h : NmX W b L cap G n T lb) {k : Nat} (hk : k < L) {j : Nat} (hj : j < cl n (k + 1)) : ∃ x : Nat, W.cell? ⟨G k, j, none⟩ = some (.int .u64 (x : Int)) ∧ W.frozen? ⟨G k, j, none⟩ = false ∧ Wd (T k) j x := by
  obtain ⟨_, cs, e, h1⟩ := h.row k hk
  obtain ⟨x, h2, h3⟩ := h1 j hj
  exact ⟨x, by simp [World.cell?, e, h2], by simp [World.frozen?, e], h3⟩
theorem NmX.congr (h : NmX W b L cap G n T lb) (e : ∀ k, k < L → ∀ y, T k y ↔ T' k y) : NmX W b L cap G n T' lb := by
  refine { h with row := fun k hk => ?_ }
  obtain ⟨h0, cs, h1, h2⟩ := h.row k hk
  refine ⟨h0, cs, h1, fun j hj => ?_⟩
  obtain ⟨x, h3, h4⟩ := h2 j hj
  exact ⟨x, h3, h4.congr fun b _ => e k hk _⟩
theorem NmX.kept (h : NmX W b L cap G n T lb) (hk : ∀ (k : Nat) (cs : Array Value) (t : TypeId), W.heap[k]? = some (.cells cs t) → (t = 113 ∨ t = 114) → W'.heap[k]? = W.heap[k]?) : NmX W' b L cap G n T lb := by
  obtain ⟨cs, e, h1⟩ := h.rows
  refine { h with rows := ⟨cs, (hk _ _ _ e (.inl rfl)).trans e, h1⟩, row := fun k hk' => ?_ }
  obtain ⟨h0, cs, h1, h2⟩ := h.row k hk'
  exact ⟨h0, cs, (hk _ _ _ h1 (.inr rfl)).trans h1, h2⟩
theorem NmX.set (h : NmX W b L cap G n T lb) {k : Nat} (hk : k < L) {j : Nat} (hj : j < cl n (k + 1)) {y : Nat} {S' : Nat → Prop} (hy : Wd S' j y) (hS : ∀ j', j' ≠ j → ∀ c, c < 64 → (T k (64 * j' + c) ↔ S' (64 * j' + c))) :
    NmX (W.setCell ⟨G k, j, none⟩ (.int .u64 (y : Int))) b L cap G n (fun k' => if k' = k then S' else T k') lb := by
  obtain ⟨csb, eb, hb1⟩ := h.rows
  obtain ⟨_, csk, ek, hk1⟩ := h.row k hk
  refine { h with rows := ⟨csb, (Below.heap_setCell _ _ _ b ?_).trans eb, hb1⟩, row := fun k' hk' => ?_ }
  · rintro e
    have e' : b = G k := e
    rw [e', ek] at eb
    injection eb with eb
    injection eb with _ e2
    exact absurd e2 (by decide)
  by_cases e : k' = k
  · subst e
    simp only [if_true]
    refine ⟨(h.row _ hk').1, _, heap_setCell_same W (G k') j _ _ _ ek, fun j' hj' => ?_⟩
    by_cases ej : j' = j
    · subst ej
      refine ⟨y, ?_, hy⟩
      have : j' < csk.size := by
        obtain ⟨x, h2, _⟩ := hk1 j' hj'
        exact (Array.getElem?_eq_some_iff.1 h2).1
      simp [this]
    obtain ⟨x, h2, h3⟩ := hk1 j' hj'
    refine ⟨x, ?_, h3.congr fun c hc => hS j' ej c hc⟩
    rw [Array.getElem?_setIfInBounds_ne (Ne.symm ej)]
    exact h2
  rw [if_neg e]
  obtain ⟨h0, cs, h1, h2⟩ := h.row k' hk'
  exact ⟨h0, cs, (Below.heap_setCell _ _ _ _ (h.inj _ _ hk' hk e)).trans h1, h2⟩
end
structure Ft (P : TypeId → Prop) (lb : Nat) (W W' : World) : Prop where
  os : W'.os = W.os
  tape : W'.tape = W.tape
  output : W'.output = W.output
  size : W.heap.size ≤ W'.heap.size
  low : ∀ k, k < lb → k < W.heap.size → W'.heap[k]? = W.heap[k]?
  oth : ∀ (k : Nat) (o : Obj), W.heap[k]? = some o → (∀ cs t z, o = .cells cs t z → ¬ P t) → W'.heap[k]? = some o
theorem Ft.refl (P : TypeId → Prop) (lb : Nat) (W : World) : Ft P lb W W := ⟨rfl, rfl, rfl, Nat.le_refl _, fun _ _ _ => rfl, fun _ _ h _ => h⟩
theorem Ft.trans {P : TypeId → Prop} {lb : Nat} {a b c : World} (h : Ft P lb a b) (k : Ft P lb b c) : Ft P lb a c :=
  ⟨k.os.trans h.os, k.tape.trans h.tape, k.output.trans h.output, Nat.le_trans h.size k.size, fun x h1 h2 => (k.low x h1 (Nat.lt_of_lt_of_le h2 h.size)).trans (h.low x h1 h2), fun x o e ho => k.oth x o (h.oth x o e ho) ho⟩
theorem Ft.weak {P P' : TypeId → Prop} {lb : Nat} {a b : World} (h : Ft P lb a b) (hp : ∀ t, P t → P' t) : Ft P' lb a b := ⟨h.os, h.tape, h.output, h.size, h.low, fun x o e ho => h.oth x o e fun cs t z e2 hP => ho cs t z e2 (hp t hP)⟩
theorem Ft.of_below {P : TypeId → Prop} {lb : Nat} {a b : World} (h : Below a.heap.size a b) : Ft P lb a b := ⟨h.os, h.tape, h.output, h.size, fun x _ h2 => h.block x h2, fun x o e _ => (h.block x (Array.getElem?_eq_some_iff.1 e).1).trans e⟩
theorem Ft.set {P : TypeId → Prop} {lb : Nat} {a b : World} (h : Ft P lb a b) {x : Nat} {cs : Array Value} {t : TypeId} (hx : b.heap[x]? = some (.cells cs t)) (ht : P t) (hl : lb ≤ x) (i : Nat) (v : Value) : Ft P lb a (b.setCell ⟨x, i, none⟩ v) := by
  refine ⟨h.os, h.tape, h.output, by simpa using h.size, fun k h1 h2 => (Below.heap_setCell _ _ _ k (show k ≠ x by omega)).trans (h.low k h1 h2), fun k o e ho => (Below.heap_setCell _ _ _ k (show k ≠ x from fun e2 => ?_)).trans (h.oth k o e ho)⟩
  have e3 := h.oth k o e ho
  rw [e2, hx] at e3
  cases e3
  exact ho _ _ _ rfl ht
theorem Ft.drewN {P : TypeId → Prop} {lb : Nat} {a b : World} (h : Ft P lb a b) (n : Nat) : Ft P lb a (b.drewN n) := ⟨h.os, h.tape, h.output, h.size, h.low, h.oth⟩
theorem Ft.below {P : TypeId → Prop} {lb : Nat} {a b : World} (h : Ft P lb a b) (hl : lb ≤ a.heap.size) : Below lb a b := ⟨h.os, h.tape, h.output, h.size, fun k hk => h.low k hk (by omega)⟩
theorem Ft.blk {P : TypeId → Prop} {lb : Nat} {a b : World} (h : Ft P lb a b) {k : Nat} {cs : Array Value} {t : TypeId} (hk : a.heap[k]? = some (.cells cs t)) (ht : ¬ P t) : b.heap[k]? = a.heap[k]? :=
  (h.oth k _ hk fun cs' t' z e => by cases e; exact ht).trans hk.symm
end Go.Proofs.YtdobjanhmllloaaDoor
namespace Go.Proofs.YtdobjanhmllloaaDoor
open Go.RowKit
set_option maxRecDepth 100000
set_option linter.unusedVariables false
theorem wrap_pow {t : Nat} (h : t < 64) : IntKind.u64.wrap (2 ^ t) = ((2 ^ t : Nat) : Int) := by
  have := pow_lt64 h
  have e : ((2 : Int) ^ t) = ((2 ^ t : Nat) : Int) := by simp
  rw [e]
  generalize 2 ^ t = p at this
  rw [IntKind.wrap_u64]
  omega
def isW (t : TypeId) : Prop := t = 114
theorem NmX.ft {W : World} {b L cap : Nat} {G : Nat → Nat} {n : Nat} {T : Nat → Nat → Prop} {lb : Nat} {W0 : World} (h : NmX W b L cap G n T lb) {k : Nat} (hk : k < L) (hF : Ft isW lb W0 W) (j : Nat) (v : Value) : Ft isW lb W0 (W.setCell ⟨G k, j, none⟩ v) := by
  obtain ⟨h0, cs, e, _⟩ := h.row k hk
  exact hF.set e rfl h0 _ _
theorem div64 {i k i0 : Nat} (e : i = i0 / 64 ^ k) : i / 64 = i0 / 64 ^ (k + 1) := by rw [div_succ, e]
set_option maxHeartbeats 1000000 in
theorem add_any (w : World) (b L cap : Nat) (G : Nat → Nat) (n i0 lb : Nat) (S : Nat → Prop) (h : NmX w b L cap G n (Lv S) lb) (hi : i0 < n) :
    Calls Tryd.prog 36 #[.slice (some ⟨b, 0, none⟩) L cap, .int .i64 (i0 : Int)] w fun e w' => e = .returned (.tuple #[]) ∧ NmX w' b L cap G n (Lv fun x => S x ∨ x = i0) lb ∧ Ft isW lb w w' := by
  have hle := h.le
  have hlim := h.lim
  have HH : Hid (NmX w b L cap G n (Lv S) lb) := h
  have hn := h.nlim.2
  clear h
  go_enter Tryd.func36, Tryd.ntmps36
  go_wp2_with fail
  go_loopw [1, 8] (fun p q wr => ∃ (k i : Nat), k ≤ L ∧ q = .int .i64 (k : Int) ∧ p = .int .i64 (i : Int) ∧ i = i0 / 64 ^ k ∧ Hid (NmX wr b L cap G n (fun k' => if k' < k then Lv (fun x => S x ∨ x = i0) k' else Lv S k') lb ∧ Ft isW lb w wr)) (fun _ q _ => L - (intOf q).toNat)
  case atStart => exact ⟨0, i0, Nat.zero_le _, rfl, rfl, by simp, ⟨HH.out.congr fun k hk y => by simp, Ft.refl _ _ _⟩⟩
  case round =>
    obtain ⟨k, i, hk, rfl, rfl, ei, hI⟩ := hrel
    have HEI : Hid (i = i0 / 64 ^ k) := ei
    have hic : i < cl n k := by rw [ei]; exact cl_lt hi k
    have hcn : cl n k ≤ 65536 := cl_le hn k
    clear ei
    by_cases hkL : k < L
    · have ck := hI.out.1.crow hkL
      obtain ⟨j, ej⟩ : ∃ j, j = i / 64 := ⟨_, rfl⟩
      obtain ⟨t, et⟩ : ∃ t, t = i % 64 := ⟨_, rfl⟩
      have hj : j < cl n (k + 1) := by rw [ej]; exact cl_word hic
      obtain ⟨x, cw, fw, hw⟩ := hI.out.1.cword hkL hj
      have hw' : Wd (Lv S k) j x := by simpa using hw
      have ht : t < 64 := by omega
      have q1 : (i : Int) / 64 = (j : Int) := by omega
      have q3 : (i : Int).tmod 64 = (t : Int) := by rw [Int.tmod_eq_emod_of_nonneg (by omega)]; omega
      have hjw : IntKind.i64.wrap (j : Int) = (j : Int) := by rw [IntKind.wrap_i64]; omega
      have hlc : cl n (k + 1) ≤ 65536 := cl_le hn (k + 1)
      obtain ⟨M, eM⟩ : ∃ M : Int, M = ((2 ^ t : Nat) : Int) := ⟨_, rfl⟩
      have hP : IntKind.u64.wrap (2 ^ t) = M := by rw [eM]; exact wrap_pow ht
      obtain ⟨y, ey⟩ : ∃ y : Int, y = ((x ||| 2 ^ t : Nat) : Int) := ⟨_, rfl⟩
      have hy : bits .or .u64 (x : Int) M = y := by rw [eM, ey]; exact bits_or_u64_nat x (2 ^ t) hw'.1 (pow_lt64 ht)
      have H5 : Hid (NmX (wr.drew.setCell ⟨G k, j, none⟩ (.int .u64 y)) b L cap G n (fun k' => if k' < k + 1 then Lv (fun x => S x ∨ x = i0) k' else Lv S k') lb ∧ Ft isW lb w (wr.drew.setCell ⟨G k, j, none⟩ (.int .u64 y))) := by
        have hD : NmX wr.drew b L cap G n (fun k' => if k' < k then Lv (fun x => S x ∨ x = i0) k' else Lv S k') lb := hI.out.1.kept fun _ _ _ _ _ => rfl
        have hI0 := HEI.out
        rw [ey]
        refine ⟨(hD.set hkL hj (S' := Lv (fun x => S x ∨ x = i0) k) (hw'.or ht fun c hc => ?_) fun j' hj' c hc => ?_).congr fun k' hk' z => ?_, hD.ft hkL ((hI.out.2.drewN 1)) _ _⟩
        · rw [Lv.add, ← hI0]
          constructor
          · rintro (h1 | h1)
            · exact .inl h1
            exact .inr (by omega)
          rintro (h1 | h1)
          · exact .inl h1
          exact .inr (by omega)
        · rw [if_neg (by omega), Lv.add, ← hI0]
          constructor
          · exact .inl
          rintro (h1 | h1)
          · exact h1
          omega
        by_cases e1 : k' = k
        · subst e1
          simp
        rw [if_neg e1]
        by_cases e2 : k' < k
        · rw [if_pos e2, if_pos (by omega)]
        rw [if_neg e2, if_neg (by omega)]
      have HD : Hid (j = i0 / 64 ^ (k + 1)) := by show j = _; rw [ej]; exact div64 HEI.out
      obtain ⟨ln, eln⟩ : ∃ ln, ln = cl n (k + 1) := ⟨_, rfl⟩
      rw [← eln] at ck hj hlc
      obtain ⟨Gk, eG⟩ : ∃ Gk, Gk = G k := ⟨_, rfl⟩
      rw [← eG] at ck cw fw H5
      clear hw hw' ej et eM ey hI eln eG
      go_wp2_with fail
      refine wp_region_held_drew (S := fun _ => True) (by kernel_rfl) trivial (fun hHeld => ?_)
      refine wpAnyH_take (i := 0) (v := .slice (some ⟨Gk, 0, none⟩) ln ln) rfl (by kernel_rfl) (by kernel_rfl) (by kernel_rfl) (fun _ _ _ h => h) (Or.inl ⟨by rfl, fun w hSw => by go_simp⟩) (by assumption) ?_
      refine wpAnyH_take (i := 1) (v := .int .i64 (i : Int)) rfl (by kernel_rfl) (by kernel_rfl) (by kernel_rfl) (fun _ _ _ h => h) (Or.inl ⟨by rfl, fun w hSw => by go_simp⟩) (by assumption) ?_
      refine wpAnyH_take (i := 2) (v := .int .i64 (j : Int)) rfl (by kernel_rfl) (by kernel_rfl) (by kernel_rfl) (fun _ _ _ h => h) (Or.inl ⟨by rfl, fun w hSw => by go_simp⟩) (by assumption) ?_
      refine wpAnyH_take (i := 3) (v := .pointer (some ⟨Gk, j, none⟩)) rfl (by kernel_rfl) (by kernel_rfl) (by kernel_rfl) (fun _ _ _ h => h) (Or.inl ⟨by rfl, fun w hSw => by go_simp⟩) (by assumption) ?_
      refine wpAnyH_take (i := 5) (v := .int .i64 (i : Int)) rfl (by kernel_rfl) (by kernel_rfl) (by kernel_rfl) (fun _ _ _ h => h) (Or.inl ⟨by rfl, fun w hSw => by go_simp⟩) (by assumption) ?_
      refine wpAnyH_take (i := 6) (v := .int .i64 (t : Int)) rfl (by kernel_rfl) (by kernel_rfl) (by kernel_rfl) (fun _ _ _ h => h) (Or.inl ⟨by rfl, fun w hSw => by go_simp⟩) (by assumption) ?_
      refine wpAnyH_take (i := 7) (v := .int .u64 M) rfl (by kernel_rfl) (by kernel_rfl) (by kernel_rfl) (fun _ _ _ h => h) (Or.inl ⟨by rfl, fun w hSw => by go_simp⟩) (by assumption) ?_
      refine wpAnyH_ready (rs := [4]) (by kernel_rfl) (by simp) ?_
      refine AllReadyH.cons rfl (fun K9 hK9 => ?_) AllReadyH.nil
      go_simp
      refine hK9.out _ _ trivial (fun _ => ?_)
      clear hK9 K9
      refine wpAnyH_take (i := 8) (v := .int .u64 y) rfl (by kernel_rfl) (by kernel_rfl) (by kernel_rfl) (fun _ _ _ h => h) (Or.inl ⟨by rfl, fun w hSw => by go_simp⟩) (by assumption) ?_
      refine wpAnyH_take (i := 9) (v := .pointer (some ⟨Gk, j, none⟩)) rfl (by kernel_rfl) (by kernel_rfl) (by kernel_rfl) (fun _ _ _ h => h) (Or.inl ⟨by rfl, fun w hSw => by go_simp⟩) (by assumption) ?_
      refine wpAnyH_ready (rs := [10]) (by kernel_rfl) (by simp) ?_
      refine AllReadyH.cons rfl (fun K9 hK9 => ?_) AllReadyH.nil
      go_simp
      refine hK9.out _ _ trivial (fun _ => ?_)
      clear hK9 K9
      refine wpAnyH_done (by kernel_rfl) ?_ _
      go_wp2_with fail
      go_roundw
      case rel => exact ⟨k + 1, j, by omega, by go_num, rfl, HD.out, H5⟩
      case measure => simp [intOf]; omega
    obtain rfl : k = L := by omega
    go_wp2_with fail
    refine bodyPost_end (v := .tuple #[]) (by simp [results, Tryd.results36, go_sem]) rfl ⟨rfl, hI.out.1.congr fun k' hk' z => by rw [if_pos hk'], hI.out.2⟩
theorem Lv.sub (S : Nat → Prop) (i k y : Nat) (hy : y ≠ i / 64 ^ k) : Lv (fun x => S x ∧ x ≠ i) k y ↔ Lv S k y := by
  constructor
  · exact Lv.mono fun x h => h.1
  rintro ⟨x, h1, h2⟩
  exact ⟨x, ⟨h1, by rintro rfl; exact hy h2.symm⟩, h2⟩
set_option maxHeartbeats 1000000 in
theorem remove_any (w : World) (b L cap : Nat) (G : Nat → Nat) (n i0 lb : Nat) (S : Nat → Prop) (h : NmX w b L cap G n (Lv S) lb) (hi : i0 < n) :
    Calls Tryd.prog 32 #[.slice (some ⟨b, 0, none⟩) L cap, .int .i64 (i0 : Int)] w fun e w' => e = .returned (.tuple #[]) ∧ NmX w' b L cap G n (Lv fun x => S x ∧ x ≠ i0) lb ∧ Ft isW lb w w' := by
  have hle := h.le
  have hlim := h.lim
  have HH : Hid (NmX w b L cap G n (Lv S) lb) := h
  have hn := h.nlim.2
  clear h
  go_enter Tryd.func32, Tryd.ntmps32
  go_wp2_with fail
  go_loopw [1, 8] (fun p q wr => ∃ (k i : Nat), k ≤ L ∧ q = .int .i64 (k : Int) ∧ p = .int .i64 (i : Int) ∧ i = i0 / 64 ^ k ∧ Hid (NmX wr b L cap G n (fun k' => if k' < k then Lv (fun x => S x ∧ x ≠ i0) k' else Lv S k') lb ∧ Ft isW lb w wr ∧ ∀ x, S x → x ≠ i0 → x / 64 ^ k ≠ i0 / 64 ^ k)) (fun _ q _ => L - (intOf q).toNat)
  case atStart => exact ⟨0, i0, Nat.zero_le _, rfl, rfl, by simp, ⟨HH.out.congr fun k hk y => by simp, Ft.refl _ _ _, fun x _ hx => by simpa using hx⟩⟩
  case round =>
    obtain ⟨k, i, hk, rfl, rfl, ei, hI⟩ := hrel
    have HEI : Hid (i = i0 / 64 ^ k) := ei
    have hic : i < cl n k := by rw [ei]; exact cl_lt hi k
    have hcn : cl n k ≤ 65536 := cl_le hn k
    clear ei
    by_cases hkL : k < L
    · have ck := hI.out.1.crow hkL
      obtain ⟨j, ej⟩ : ∃ j, j = i / 64 := ⟨_, rfl⟩
      obtain ⟨t, et⟩ : ∃ t, t = i % 64 := ⟨_, rfl⟩
      have hj : j < cl n (k + 1) := by rw [ej]; exact cl_word hic
      obtain ⟨x, cw, fw, hw⟩ := hI.out.1.cword hkL hj
      have hw' : Wd (Lv S k) j x := by simpa using hw
      have ht : t < 64 := by omega
      have q1 : (i : Int) / 64 = (j : Int) := by omega
      have q3 : (i : Int).tmod 64 = (t : Int) := by rw [Int.tmod_eq_emod_of_nonneg (by omega)]; omega
      have hjw : IntKind.i64.wrap (j : Int) = (j : Int) := by rw [IntKind.wrap_i64]; omega
      have hlc : cl n (k + 1) ≤ 65536 := cl_le hn (k + 1)
      obtain ⟨M, eM⟩ : ∃ M : Int, M = ((2 ^ t : Nat) : Int) := ⟨_, rfl⟩
      have hP : IntKind.u64.wrap (2 ^ t) = M := by rw [eM]; exact wrap_pow ht
      obtain ⟨y, ey⟩ : ∃ y : Nat, y = x &&& (18446744073709551615 - 2 ^ t) := ⟨_, rfl⟩
      have hy : bits .andNot .u64 (x : Int) M = (y : Int) := by rw [eM, ey]; exact u64_andNot_nat x (2 ^ t) hw'.1 (pow_lt64 ht)
      have hW : Wd (Lv (fun x => S x ∧ x ≠ i0) k) j y := by
        rw [ey]
        refine hw'.not ht fun c hc => ?_
        have hI0 := HEI.out
        by_cases e : 64 * j + c = i
        · constructor
          · rintro ⟨z, ⟨h1, h2⟩, h3⟩
            exact absurd (h3.trans (e.trans hI0)) (hI.out.2.2 z h1 h2)
          rintro ⟨_, h2⟩
          omega
        rw [Lv.sub _ _ _ _ (by rw [← hI0]; exact e)]
        exact ⟨fun h1 => ⟨h1, by omega⟩, fun h1 => h1.1⟩
      have H5 : Hid (NmX (wr.drew.setCell ⟨G k, j, none⟩ (.int .u64 (y : Int))) b L cap G n (fun k' => if k' < k + 1 then Lv (fun x => S x ∧ x ≠ i0) k' else Lv S k') lb ∧ Ft isW lb w (wr.drew.setCell ⟨G k, j, none⟩ (.int .u64 (y : Int)))) := by
        have hD : NmX wr.drew b L cap G n (fun k' => if k' < k then Lv (fun x => S x ∧ x ≠ i0) k' else Lv S k') lb := hI.out.1.kept fun _ _ _ _ _ => rfl
        have hI0 := HEI.out
        refine ⟨(hD.set hkL hj (S' := Lv (fun x => S x ∧ x ≠ i0) k) hW fun j' hj' c hc => ?_).congr fun k' hk' z => ?_, hD.ft hkL ((hI.out.2.1.drewN 1)) _ _⟩
        · rw [if_neg (by omega), Lv.sub _ _ _ _ (by rw [← hI0]; omega)]
        by_cases e1 : k' = k
        · subst e1
          simp
        rw [if_neg e1]
        by_cases e2 : k' < k
        · rw [if_pos e2, if_pos (by omega)]
        rw [if_neg e2, if_neg (by omega)]
      have HD : Hid (j = i0 / 64 ^ (k + 1)) := by show j = _; rw [ej]; exact div64 HEI.out
      have HZ : Hid (y = 0 → ∀ x, S x → x ≠ i0 → x / 64 ^ (k + 1) ≠ i0 / 64 ^ (k + 1)) := by
        intro e0 z h1 h2 h3
        have h4 := hW.zero.1 e0 (z / 64 ^ k % 64) (by omega)
        refine h4 ⟨z, ⟨h1, h2⟩, ?_⟩
        rw [← HD.out, div_succ] at h3
        omega
      have HN : Hid (y ≠ 0 → NmX (wr.drew.setCell ⟨G k, j, none⟩ (.int .u64 (y : Int))) b L cap G n (Lv fun x => S x ∧ x ≠ i0) lb) := by
        intro e0
        refine H5.out.1.congr fun k' hk' z => ?_
        by_cases e1 : k' < k + 1
        · rw [if_pos e1]
        rw [if_neg e1]
        by_cases e2 : z = i0 / 64 ^ k'
        · have hne : ∃ c, c < 64 ∧ Lv (fun x => S x ∧ x ≠ i0) k (64 * j + c) := by
            refine Classical.byContradiction fun hno => e0 (hW.zero.2 fun c hc hL => hno ⟨c, hc, hL⟩)
          obtain ⟨c, hc, z', ⟨z1, z2⟩, z3⟩ := hne
          have e3 : z' / 64 ^ (k + 1) = i0 / 64 ^ (k + 1) := by rw [← HD.out, div_succ]; omega
          have e4 : z' / 64 ^ k' = i0 / 64 ^ k' := by
            obtain ⟨d, rfl⟩ : ∃ d, k' = k + 1 + d := ⟨k' - (k + 1), by omega⟩
            rw [Nat.pow_add, ← Nat.div_div_eq_div_mul, ← Nat.div_div_eq_div_mul, e3]
          exact ⟨fun _ => ⟨z', ⟨z1, z2⟩, e4.trans e2.symm⟩, fun _ => ⟨z', z1, e4.trans e2.symm⟩⟩
        exact (Lv.sub _ _ _ _ e2).symm
      have cw2 : (wr.drew.setCell ⟨G k, j, none⟩ (.int .u64 (y : Int))).cell? ⟨G k, j, none⟩ = some (.int .u64 (y : Int)) := World.cell?_setCell_same _ _ _ cw
      obtain ⟨ln, eln⟩ : ∃ ln, ln = cl n (k + 1) := ⟨_, rfl⟩
      rw [← eln] at ck hj hlc
      obtain ⟨Gk, eG⟩ : ∃ Gk, Gk = G k := ⟨_, rfl⟩
      rw [← eG] at ck cw fw H5 HN cw2
      clear hw hw' ej et eM ey hI eln eG hW
      go_wp2_with fail
      refine wp_region_held_drew (S := fun _ => True) (by kernel_rfl) trivial (fun hHeld => ?_)
      refine wpAnyH_take (i := 0) (v := .slice (some ⟨Gk, 0, none⟩) ln ln) rfl (by kernel_rfl) (by kernel_rfl) (by kernel_rfl) (fun _ _ _ h => h) (Or.inl ⟨by rfl, fun w hSw => by go_simp⟩) (by assumption) ?_
      refine wpAnyH_take (i := 1) (v := .int .i64 (i : Int)) rfl (by kernel_rfl) (by kernel_rfl) (by kernel_rfl) (fun _ _ _ h => h) (Or.inl ⟨by rfl, fun w hSw => by go_simp⟩) (by assumption) ?_
      refine wpAnyH_take (i := 2) (v := .int .i64 (j : Int)) rfl (by kernel_rfl) (by kernel_rfl) (by kernel_rfl) (fun _ _ _ h => h) (Or.inl ⟨by rfl, fun w hSw => by go_simp⟩) (by assumption) ?_
      refine wpAnyH_take (i := 3) (v := .pointer (some ⟨Gk, j, none⟩)) rfl (by kernel_rfl) (by kernel_rfl) (by kernel_rfl) (fun _ _ _ h => h) (Or.inl ⟨by rfl, fun w hSw => by go_simp⟩) (by assumption) ?_
      refine wpAnyH_take (i := 5) (v := .int .i64 (i : Int)) rfl (by kernel_rfl) (by kernel_rfl) (by kernel_rfl) (fun _ _ _ h => h) (Or.inl ⟨by rfl, fun w hSw => by go_simp⟩) (by assumption) ?_
      refine wpAnyH_take (i := 6) (v := .int .i64 (t : Int)) rfl (by kernel_rfl) (by kernel_rfl) (by kernel_rfl) (fun _ _ _ h => h) (Or.inl ⟨by rfl, fun w hSw => by go_simp⟩) (by assumption) ?_
      refine wpAnyH_take (i := 7) (v := .int .u64 M) rfl (by kernel_rfl) (by kernel_rfl) (by kernel_rfl) (fun _ _ _ h => h) (Or.inl ⟨by rfl, fun w hSw => by go_simp⟩) (by assumption) ?_
      refine wpAnyH_ready (rs := [4]) (by kernel_rfl) (by simp) ?_
      refine AllReadyH.cons rfl (fun K9 hK9 => ?_) AllReadyH.nil
      go_simp
      refine hK9.out _ _ trivial (fun _ => ?_)
      clear hK9 K9
      refine wpAnyH_take (i := 8) (v := .int .u64 (y : Int)) rfl (by kernel_rfl) (by kernel_rfl) (by kernel_rfl) (fun _ _ _ h => h) (Or.inl ⟨by rfl, fun w hSw => by go_simp⟩) (by assumption) ?_
      refine wpAnyH_take (i := 9) (v := .pointer (some ⟨Gk, j, none⟩)) rfl (by kernel_rfl) (by kernel_rfl) (by kernel_rfl) (fun _ _ _ h => h) (Or.inl ⟨by rfl, fun w hSw => by go_simp⟩) (by assumption) ?_
      refine wpAnyH_ready (rs := [10]) (by kernel_rfl) (by simp) ?_
      refine AllReadyH.cons rfl (fun K9 hK9 => ?_) AllReadyH.nil
      go_simp
      refine hK9.out _ _ trivial (fun _ => ?_)
      clear hK9 K9
      refine wpAnyH_done (by kernel_rfl) ?_ _
      by_cases hy0 : y = 0
      · have hz := HZ.out hy0
        have HZ2 : Hid (∀ x, S x → x ≠ i0 → x / 64 ^ (k + 1) ≠ i0 / 64 ^ (k + 1)) := hz
        have hd : ((y : Int) == 0) = true := by simp [hy0]
        have hd2 : (!((y : Int) == 0)) = false := by simp [hy0]
        have HY : Hid (y = 0) := hy0
        clear hz hy0
        go_wp2_with fail
        all_goals first
          | (exfalso; have := HY.out; omega)
          | (go_roundw
             case rel => exact ⟨k + 1, j, by omega, by go_num, rfl, HD.out, ⟨H5.out.1, H5.out.2, HZ2.out⟩⟩
             case measure => simp [intOf]; omega)
      go_wp2_with fail
      all_goals first
        | (exfalso; omega)
        | (refine bodyPost_ret (v := .tuple #[]) (by simp [results, Tryd.results32, go_sem]) rfl ⟨rfl, HN.out hy0, H5.out.2⟩)
    obtain rfl : k = L := by omega
    go_wp2_with fail
    refine bodyPost_end (v := .tuple #[]) (by simp [results, Tryd.results32, go_sem]) rfl ⟨rfl, hI.out.1.congr fun k' hk' z => by rw [if_pos hk'], hI.out.2.1⟩
end Go.Proofs.YtdobjanhmllloaaDoor
