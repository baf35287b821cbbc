/- Contracts of the program's functions, part 1: own work, joined in build order. -/
import Derived.Test.YtcndbmccediknaaRows
import Derived.WalkKit
import Derived.WalkSpells
import Derived.WalkLawsBesides
import Derived.Deep.OwnRows
import Derived.Deep.QuietTactic
import Derived.BigQuiet
import Derived.Deep.RegionHeld3
import Derived.Laws.CopyOwn
import Derived.Deep.RegionLaw
import Derived.Laws.CopyRow
namespace Go.Proofs.Ytcndbmccediknaa
open Go.RowKit
structure Chg (w w' : World) (r g : Nat) : Prop where
  os : w'.os = w.os
  tape : w'.tape = w.tape
  output : w'.output = w.output
  size : w.heap.size ≤ w'.heap.size
  block : ∀ k, k < w.heap.size → k ≠ r → k ≠ g → w'.heap[k]? = w.heap[k]?
theorem Chg.refl (w : World) (r g : Nat) : Chg w w r g := ⟨rfl, rfl, rfl, Nat.le_refl _, fun _ _ _ _ => rfl⟩
theorem Chg.trans {a b c : World} {r g g' : Nat} (h : Chg a b r g) (k : Chg b c r g') (hg : g' = g ∨ g' = r ∨ a.heap.size ≤ g') : Chg a c r g :=
  ⟨k.os.trans h.os, k.tape.trans h.tape, k.output.trans h.output, Nat.le_trans h.size k.size, fun i hi h1 h2 => (k.block i (Nat.lt_of_lt_of_le hi h.size) h1 (by rcases hg with e | e | e <;> omega)).trans (h.block i hi h1 h2)⟩
theorem Chg.setR {a b : World} {r g : Nat} (h : Chg a b r g) (i : Nat) (v : Value) : Chg a (b.setCell ⟨r, i, none⟩ v) r g :=
  ⟨h.os, h.tape, h.output, by simpa using h.size, fun k hk h1 h2 => (Below.heap_setCell _ _ _ k h1).trans (h.block k hk h1 h2)⟩
theorem Chg.setG {a b : World} {r g : Nat} (h : Chg a b r g) (i : Nat) (v : Value) : Chg a (b.setCell ⟨g, i, none⟩ v) r g :=
  ⟨h.os, h.tape, h.output, by simpa using h.size, fun k hk h1 h2 => (Below.heap_setCell _ _ _ k h2).trans (h.block k hk h1 h2)⟩
theorem Chg.drew {a b : World} {r g : Nat} (h : Chg a b r g) : Chg a b.drew r g := ⟨h.os, h.tape, h.output, h.size, h.block⟩
theorem Chg.drewN {a b : World} {r g : Nat} (h : Chg a b r g) (n : Nat) : Chg a (b.drewN n) r g := ⟨h.os, h.tape, h.output, h.size, h.block⟩
theorem Chg.alloc {a b : World} {r g : Nat} (h : Chg a b r g) (o : Obj) : Chg a (b.alloc o) r g :=
  ⟨h.os, h.tape, h.output, by simpa using Nat.le_trans h.size (Nat.le_succ _), fun k hk h1 h2 => (Below.heap_alloc _ _ k (Nat.lt_of_lt_of_le hk h.size)).trans (h.block k hk h1 h2)⟩
theorem Chg.below {n : Nat} {a b : World} {r g : Nat} (h : Chg a b r g) (hr : n ≤ r) (hg : n ≤ g) (hn : n ≤ a.heap.size) : Below n a b :=
  ⟨h.os, h.tape, h.output, h.size, fun k hk => h.block k (by omega) (by omega) (by omega)⟩
theorem Chg.of_below {a b : World} (h : Below a.heap.size a b) (r g : Nat) : Chg a b r g := ⟨h.os, h.tape, h.output, h.size, fun k hk _ _ => h.block k hk⟩
theorem Chg.row {a b : World} {r g k : Nat} {t : TypeId} {n : Nat} {f : Nat → Value} (h : Chg a b r g) (hr : a.rowIs k t n f) (h1 : k ≠ r) (h2 : k ≠ g) : b.rowIs k t n f := hr.of_block (h.block k hr.lt h1 h2)
theorem Chg.cell {a b : World} {r g : Nat} {p : Addr} {v : Value} (h : Chg a b r g) (hc : a.cell? p = some v) (h1 : p.block ≠ r) (h2 : p.block ≠ g) : b.cell? p = some v :=
  (World.cell?_of_block (w := a) (h.block p.block (World.block_lt_of_cell? _ _ hc) h1 h2)).trans hc
def Alk (w w' : World) : Prop := ∃ n, w' = w.drewN n
theorem Alk.one (w : World) : Alk w w.drew := ⟨1, rfl⟩
theorem Alk.refl (w : World) : Alk w w := ⟨0, rfl⟩
theorem Alk.cell {w w' : World} (h : Alk w w') {p : Addr} {v : Value} (hc : w.cell? p = some v) : w'.cell? p = some v := by obtain ⟨n, rfl⟩ := h; exact hc
theorem Alk.frozen {w w' : World} (h : Alk w w') {p : Addr} {b : Bool} (hc : w.frozen? p = b) : w'.frozen? p = b := by obtain ⟨n, rfl⟩ := h; exact hc
def pt (g N : Nat) : Option Addr := if N = 0 then none else some ⟨g, 0, none⟩
theorem pt_pos {g N : Nat} (h : 0 < N) : pt g N = some ⟨g, 0, none⟩ := if_neg (by omega)
def hdr (g N f c : Nat) : Nat → Value
  | 0 => .slice (pt g N) N N
  | 1 => .int .i64 (f : Int)
  | _ => .int .i64 (c : Int)
def pl {α : Type} (enc : α → Value) (z : α) (N f : Nat) (xs : List α) : Nat → Value := fun j => enc (xs.getD ((j + N - f) % N) z)
structure Rw {α : Type} (enc : α → Value) (z : α) (T t : TypeId) (w : World) (r g N f c : Nat) (xs : List α) : Prop where
  hd : w.rowIs r T 3 (hdr g N f c)
  row : 0 < N → w.rowIs g t N (pl enc z N f xs)
  ne : 0 < N → g ≠ r
  zr : N = 0 → g = r ∧ f = 0
  fl : 0 < N → f < N
  cl : c ≤ N
  len : xs.length ≤ N
  pow : 0 < N → ∃ k, N = 2 ^ (k + 2)
  lim : N ≤ 1099511627776
section
variable {α : Type} {enc : α → Value} {z : α} {T t : TypeId} {w : World} {r g N f c : Nat} {xs : List α}
theorem Rw.c0 (h : Rw enc z T t w r g N f c xs) (hN : 0 < N) : w.cell? ⟨r, 0, none⟩ = some (.slice (some ⟨g, 0, none⟩) N N) := by
  have := h.hd.cell (i := 0) (by omega)
  rw [this]
  simp [hdr, pt_pos hN]
theorem Rw.c1 (h : Rw enc z T t w r g N f c xs) : w.cell? ⟨r, 1, none⟩ = some (.int .i64 (f : Int)) := h.hd.cell (i := 1) (by omega)
theorem Rw.c2 (h : Rw enc z T t w r g N f c xs) : w.cell? ⟨r, 2, none⟩ = some (.int .i64 (c : Int)) := h.hd.cell (i := 2) (by omega)
theorem Rw.fz (h : Rw enc z T t w r g N f c xs) (i : Nat) : w.frozen? ⟨r, i, none⟩ = false := h.hd.frozen i
theorem Rw.fg (h : Rw enc z T t w r g N f c xs) (hN : 0 < N) (i : Nat) : w.frozen? ⟨g, i, none⟩ = false := (h.row hN).frozen i
theorem Rw.rlt (h : Rw enc z T t w r g N f c xs) : r < w.heap.size := h.hd.lt
theorem Rw.glt (h : Rw enc z T t w r g N f c xs) : g < w.heap.size := by
  rcases Nat.eq_zero_or_pos N with e | e
  · rw [(h.zr e).1]; exact h.rlt
  exact (h.row e).lt
theorem Rw.fl' (h : Rw enc z T t w r g N f c xs) : f ≤ N := by
  rcases Nat.eq_zero_or_pos N with e | e
  · have := (h.zr e).2; omega
  exact Nat.le_of_lt (h.fl e)
theorem Rw.four (h : Rw enc z T t w r g N f c xs) (hN : 0 < N) : 4 ≤ N := by
  obtain ⟨k, hk⟩ := h.pow hN
  have : 0 < 2 ^ k := Nat.pow_pos (by decide)
  rw [Nat.pow_add] at hk
  omega
theorem Rw.of_blocks {w' : World} (h : Rw enc z T t w r g N f c xs) (h1 : w'.heap[r]? = w.heap[r]?) (h2 : w'.heap[g]? = w.heap[g]?) : Rw enc z T t w' r g N f c xs :=
  ⟨h.hd.of_block h1, fun hN => (h.row hN).of_block h2, h.ne, h.zr, h.fl, h.cl, h.len, h.pow, h.lim⟩
theorem Rw.mono {w' : World} (h : Rw enc z T t w r g N f c xs) (hb : Below w.heap.size w w') : Rw enc z T t w' r g N f c xs := h.of_blocks (hb.block _ h.rlt) (hb.block _ h.glt)
theorem Rw.drew (h : Rw enc z T t w r g N f c xs) : Rw enc z T t w.drew r g N f c xs := h.of_blocks rfl rfl
theorem Rw.congr {ys : List α} (h : Rw enc z T t w r g N f c xs) (hl : ys.length ≤ N) (e : ∀ i, i < N → xs.getD i z = ys.getD i z) : Rw enc z T t w r g N f c ys :=
  ⟨h.hd, fun hN => (h.row hN).congr fun j hj => by unfold pl; rw [e _ (Nat.mod_lt _ hN)], h.ne, h.zr, h.fl, h.cl, hl, h.pow, h.lim⟩
theorem pl_at (hf : f < N) {i : Nat} (hi : i < N) : ((f + i) % N + N - f) % N = i := by
  rcases Nat.lt_or_ge (f + i) N with h | h
  · rw [Nat.mod_eq_of_lt h, show f + i + N - f = i + N by omega, Nat.add_mod_right, Nat.mod_eq_of_lt hi]
  rw [Nat.mod_eq_sub_mod h, Nat.mod_eq_of_lt (show f + i - N < N by omega), show f + i - N + N - f = i by omega, Nat.mod_eq_of_lt hi]
theorem pl_of (hf : f < N) {j : Nat} (hj : j < N) : (f + (j + N - f) % N) % N = j := by
  rcases Nat.lt_or_ge j f with h | h
  · rw [Nat.mod_eq_of_lt (show j + N - f < N by omega), show f + (j + N - f) = j + N by omega, Nat.add_mod_right, Nat.mod_eq_of_lt hj]
  rw [show j + N - f = j - f + N by omega, Nat.add_mod_right, Nat.mod_eq_of_lt (show j - f < N by omega), show f + (j - f) = j by omega, Nat.mod_eq_of_lt hj]
theorem Rw.at (h : Rw enc z T t w r g N f c xs) {i : Nat} (hi : i < N) : w.cell? ⟨g, (f + i) % N, none⟩ = some (enc (xs.getD i z)) := by
  rw [(h.row (by omega)).cell (Nat.mod_lt _ (by omega))]
  unfold pl
  rw [pl_at (h.fl (by omega)) hi]
theorem Rw.set {i : Nat} (h : Rw enc z T t w r g N f c xs) (hi : i < N) (v : α) {ys : List α} (hl : ys.length ≤ N) (hy : ∀ j, j < N → ys.getD j z = if j = i then v else xs.getD j z) : Rw enc z T t (w.setCell ⟨g, (f + i) % N, none⟩ (enc v)) r g N f c ys := by
  have hN : 0 < N := by omega
  have hne := h.ne hN
  refine ⟨h.hd.setOther (Ne.symm hne) _, fun _ => ((h.row hN).set _ _).congr fun j hj => ?_, h.ne, h.zr, h.fl, h.cl, hl, h.pow, h.lim⟩
  unfold pl
  rw [hy _ (Nat.mod_lt _ hN)]
  by_cases e : j = (f + i) % N
  · rw [if_pos e, if_pos (by rw [e]; exact pl_at (h.fl hN) hi)]
  rw [if_neg e, if_neg fun e2 => e (by rw [← e2]; exact (pl_of (h.fl hN) hj).symm)]
theorem getD_set (xs : List α) (i : Nat) (v z : α) (hi : i < xs.length) (j : Nat) : (xs.set i v).getD j z = if j = i then v else xs.getD j z := by
  simp only [List.getD_eq_getElem?_getD, List.getElem?_set]
  by_cases e : i = j
  · subst e; simp [hi]
  simp [e, Ne.symm e]
theorem getD_snoc (xs : List α) (v z : α) (j : Nat) : (xs ++ [v]).getD j z = if j = xs.length then v else xs.getD j z := by
  simp only [List.getD_eq_getElem?_getD]
  rcases Nat.lt_trichotomy j xs.length with h | h | h
  · rw [List.getElem?_append_left h, if_neg (by omega)]
  · subst h; simp
  rw [List.getElem?_append_right (by omega), if_neg (by omega), List.getElem?_eq_none (l := xs) (by omega), List.getElem?_eq_none (by simp; omega)]
theorem Rw.setCount (h : Rw enc z T t w r g N f c xs) {c' : Nat} (hc : c' ≤ N) : Rw enc z T t (w.setCell ⟨r, 2, none⟩ (.int .i64 (c' : Int))) r g N f c' xs :=
  ⟨(h.hd.set 2 _).congr fun i hi => by
      rcases i with _ | _ | _ | i
      · rfl
      · rfl
      · rfl
      omega, fun hN => (h.row hN).setOther (h.ne hN) _, h.ne, h.zr, h.fl, hc, h.len, h.pow, h.lim⟩
theorem Rw.setFirst (h : Rw enc z T t w r g N f c xs) (hN : 0 < N) {f' : Nat} (hf : f' < N) {ys : List α} (hl : ys.length ≤ N) (hy : ∀ j, j < N → ys.getD ((j + N - f') % N) z = xs.getD ((j + N - f) % N) z) :
    Rw enc z T t (w.setCell ⟨r, 1, none⟩ (.int .i64 (f' : Int))) r g N f' c ys :=
  ⟨(h.hd.set 1 _).congr fun i hi => by
      rcases i with _ | _ | _ | i
      · rfl
      · rfl
      · rfl
      omega, fun hN => ((h.row hN).setOther (h.ne hN) _).congr fun j hj => by unfold pl; rw [hy j hj], h.ne, fun e => by omega, fun _ => hf, h.cl, hl, h.pow, h.lim⟩
end
theorem Rw.moved {α : Type} {enc : α → Value} {z : α} {T t : TypeId} {w w1 : World} {r g N f c m G : Nat} {xs : List α} (h : Rw enc z T t w r g N f c xs) (hb : Below w.heap.size w w1) (hG : w.heap.size ≤ G) (hr : w1.rowIs G t m (fun j => enc (xs.getD j z))) (hc : c ≤ m) (hx : xs.length ≤ m)
    (hp : ∃ k, m = 2 ^ (k + 2)) (hl : m ≤ 1099511627776) : Rw enc z T t ((w1.setCell ⟨r, 0, none⟩ (.slice (some ⟨G, 0, none⟩) m m)).setCell ⟨r, 1, none⟩ (.int .i64 0)) r G m 0 c xs ∧ Chg w ((w1.setCell ⟨r, 0, none⟩ (.slice (some ⟨G, 0, none⟩) m m)).setCell ⟨r, 1, none⟩ (.int .i64 0)) r r := by
  have hm : 0 < m := by obtain ⟨k, rfl⟩ := hp; exact Nat.pow_pos (by decide)
  have hne : G ≠ r := by have := h.rlt; omega
  refine ⟨⟨(((h.hd.of_block (hb.block _ h.rlt)).set 0 _).set 1 _).congr fun i hi => ?_, fun _ => (((hr.setOther (by simpa using hne) _).setOther (by simpa using hne) _).congr fun j hj => ?_), fun _ => hne, fun e => by omega, fun _ => hm, hc, hx, fun _ => hp, hl⟩, ((Chg.of_below hb r r).setR 0 _).setR 1 _⟩
  · rcases i with _ | _ | _ | i
    · simp [hdr, pt_pos hm]
    · rfl
    · rfl
    omega
  unfold pl
  rw [Nat.sub_zero, Nat.add_mod_right, Nat.mod_eq_of_lt hj]
theorem Rw.snoc {α : Type} {enc : α → Value} {z : α} {T t : TypeId} {w : World} {r g N f : Nat} {xs : List α} (h : Rw enc z T t w r g N f xs.length xs) (hx : xs.length < N) (v : α) :
    Rw enc z T t ((w.setCell ⟨g, (f + xs.length) % N, none⟩ (enc v)).setCell ⟨r, 2, none⟩ (.int .i64 ((xs.length : Int) + 1))) r g N f (xs ++ [v]).length (xs ++ [v]) := by
  have h1 := h.set hx v (ys := xs ++ [v]) (by simp; omega) (fun j _ => getD_snoc xs v z j)
  have h2 := h1.setCount (c' := (xs ++ [v]).length) (by simp; omega)
  rw [show (((xs ++ [v]).length : Nat) : Int) = (xs.length : Int) + 1 by simp] at h2
  exact h2
theorem i64_mask (n : Int) (k : Nat) (hk : k ≤ 40) (m : Int) (hm : m = ((2 ^ k : Nat) : Int) - 1) : bits .and .i64 n m = n % ((2 ^ k : Nat) : Int) := by
  subst hm
  have hp : 2 ^ k ≤ 2 ^ 40 := Nat.pow_le_pow_right (by decide) hk
  have hp0 : 0 < 2 ^ k := Nat.pow_pos (by decide)
  have h127 : (BitVec.ofInt 64 (((2 ^ k : Nat) : Int) - 1)).toNat = 2 ^ k - 1 := by
    rw [BitVec.toNat_ofInt]
    omega
  have key : (BitVec.ofInt 64 n &&& BitVec.ofInt 64 (((2 ^ k : Nat) : Int) - 1)).toNat = (n % ((2 ^ 64 : Nat) : Int)).toNat % 2 ^ k := by
    rw [BitVec.toNat_and, BitVec.toNat_ofInt, h127, Nat.and_two_pow_sub_one_eq_mod]
  show IntKind.i64.wrap ((BitVec.ofInt 64 n &&& BitVec.ofInt 64 (((2 ^ k : Nat) : Int) - 1)).toNat : Nat) = n % ((2 ^ k : Nat) : Int)
  have hd : (2 ^ k : Nat) ∣ 2 ^ 64 := Nat.pow_dvd_pow 2 (by omega)
  have e1 : (((n % ((2 ^ 64 : Nat) : Int)).toNat % 2 ^ k : Nat) : Int) = n % ((2 ^ k : Nat) : Int) := by
    rw [Int.natCast_emod, Int.toNat_of_nonneg (Int.emod_nonneg _ (by decide))]
    exact Int.emod_emod_of_dvd _ (by exact_mod_cast hd)
  rw [key, e1, IntKind.wrap_i64]
  have h1 := Int.emod_nonneg n (show ((2 ^ k : Nat) : Int) ≠ 0 by omega)
  have h2 := Int.emod_lt_of_pos n (show (0 : Int) < ((2 ^ k : Nat) : Int) by omega)
  omega
end Go.Proofs.Ytcndbmccediknaa
namespace Go.Proofs.Ytcndbmccediknaa
open Go.RowKit
def setL (w : World) (g : Nat) : Nat → List Value → World
  | _, [] => w
  | off, v :: l => setL (w.setCell ⟨g, off, none⟩ v) g (off + 1) l
theorem setL_heap (w : World) (g : Nat) (l : List Value) (off : Nat) {k : Nat} (hk : k ≠ g) : (setL w g off l).heap[k]? = w.heap[k]? := by
  induction l generalizing w off with
  | nil => rfl
  | cons v l ih => exact (ih _ _).trans (Below.heap_setCell _ _ _ k hk)
theorem rowIs_setL {w : World} {b : Nat} {t : TypeId} {n : Nat} {F : Nat → Value} (h : w.rowIs b t n F) (l : List Value) (off : Nat) : (setL w b off l).rowIs b t n (fun q => if off ≤ q ∧ q < off + l.length then l.getD (q - off) undef else F q) := by
  induction l generalizing w off F with
  | nil => exact h.congr fun i _ => by rw [if_neg (by simp)]
  | cons v l ih =>
    refine (ih (h.set off v) (off + 1)).congr fun i hi => ?_
    simp only [List.length_cons]
    by_cases e : i = off
    · subst e
      rw [if_neg (by omega), if_pos rfl, if_pos (by omega), Nat.sub_self]
      rfl
    by_cases e2 : off + 1 ≤ i ∧ i < off + 1 + l.length
    · rw [if_pos e2, if_pos (by omega), show i - off = (i - (off + 1)) + 1 by omega]
      rfl
    rw [if_neg e2, if_neg e, if_neg (by omega)]
theorem Chg.setL {a b : World} {r g : Nat} (h : Chg a b r g) (off : Nat) (l : List Value) : Chg a (setL b g off l) r g := by
  induction l generalizing b off with
  | nil => exact h
  | cons v l ih => exact ih (h.setG off v) _
def plK {α : Type} (K : Nat) (enc : α → Nat → Value) (z : α) (N f : Nat) (xs : List α) : Nat → Value := fun q => enc (xs.getD ((q / K + N - f) % N) z) (q % K)
structure RwK {α : Type} (K : Nat) (enc : α → Nat → Value) (z : α) (T t : TypeId) (w : World) (r g N f c : Nat) (xs : List α) : Prop where
  hd : w.rowIs r T 3 (hdr g N f c)
  row : 0 < N → w.rowIs g t (N * K) (plK K enc z N f xs)
  ne : 0 < N → g ≠ r
  zr : N = 0 → g = r ∧ f = 0
  fl : 0 < N → f < N
  cl : c ≤ N
  len : xs.length ≤ N
  pow : 0 < N → ∃ k, N = 2 ^ (k + 2)
  lim : N ≤ 1099511627776
section
variable {α : Type} {K : Nat} {enc : α → Nat → Value} {z : α} {T t : TypeId} {w : World} {r g N f c : Nat} {xs : List α}
theorem RwK.c0 (h : RwK K enc z T t w r g N f c xs) (hN : 0 < N) : w.cell? ⟨r, 0, none⟩ = some (.slice (some ⟨g, 0, none⟩) N N) := by
  have := h.hd.cell (i := 0) (by omega)
  rw [this]
  simp [hdr, pt_pos hN]
theorem RwK.c1 (h : RwK K enc z T t w r g N f c xs) : w.cell? ⟨r, 1, none⟩ = some (.int .i64 (f : Int)) := h.hd.cell (i := 1) (by omega)
theorem RwK.c2 (h : RwK K enc z T t w r g N f c xs) : w.cell? ⟨r, 2, none⟩ = some (.int .i64 (c : Int)) := h.hd.cell (i := 2) (by omega)
theorem RwK.fz (h : RwK K enc z T t w r g N f c xs) (i : Nat) : w.frozen? ⟨r, i, none⟩ = false := h.hd.frozen i
theorem RwK.fg (h : RwK K enc z T t w r g N f c xs) (hN : 0 < N) (i : Nat) : w.frozen? ⟨g, i, none⟩ = false := (h.row hN).frozen i
theorem RwK.rlt (h : RwK K enc z T t w r g N f c xs) : r < w.heap.size := h.hd.lt
theorem RwK.glt (h : RwK K enc z T t w r g N f c xs) : g < w.heap.size := by
  rcases Nat.eq_zero_or_pos N with e | e
  · rw [(h.zr e).1]; exact h.rlt
  exact (h.row e).lt
theorem RwK.fl' (h : RwK K enc z T t w r g N f c xs) : f ≤ N := by
  rcases Nat.eq_zero_or_pos N with e | e
  · have := (h.zr e).2; omega
  exact Nat.le_of_lt (h.fl e)
theorem RwK.four (h : RwK K enc z T t w r g N f c xs) (hN : 0 < N) : 4 ≤ N := by
  obtain ⟨k, hk⟩ := h.pow hN
  have : 0 < 2 ^ k := Nat.pow_pos (by decide)
  rw [Nat.pow_add] at hk
  omega
theorem RwK.of_blocks {w' : World} (h : RwK K enc z T t w r g N f c xs) (h1 : w'.heap[r]? = w.heap[r]?) (h2 : w'.heap[g]? = w.heap[g]?) : RwK K enc z T t w' r g N f c xs :=
  ⟨h.hd.of_block h1, fun hN => (h.row hN).of_block h2, h.ne, h.zr, h.fl, h.cl, h.len, h.pow, h.lim⟩
theorem RwK.mono {w' : World} (h : RwK K enc z T t w r g N f c xs) (hb : Below w.heap.size w w') : RwK K enc z T t w' r g N f c xs := h.of_blocks (hb.block _ h.rlt) (hb.block _ h.glt)
theorem RwK.drew (h : RwK K enc z T t w r g N f c xs) : RwK K enc z T t w.drew r g N f c xs := h.of_blocks rfl rfl
theorem RwK.congr {ys : List α} (h : RwK K enc z T t w r g N f c xs) (hl : ys.length ≤ N) (e : ∀ i, i < N → xs.getD i z = ys.getD i z) : RwK K enc z T t w r g N f c ys :=
  ⟨h.hd, fun hN => (h.row hN).congr fun j hj => by unfold plK; rw [e _ (Nat.mod_lt _ hN)], h.ne, h.zr, h.fl, h.cl, hl, h.pow, h.lim⟩
theorem RwK.at (h : RwK K enc z T t w r g N f c xs) (hK : 0 < K) {i : Nat} (hi : i < N) {j : Nat} (hj : j < K) : w.cell? ⟨g, (f + i) % N * K + j, none⟩ = some (enc (xs.getD i z) j) := by
  have hm := Nat.mod_lt (f + i) (show 0 < N by omega)
  have hlt : (f + i) % N * K + j < N * K := by
    have : ((f + i) % N + 1) * K ≤ N * K := Nat.mul_le_mul_right _ hm
    rw [Nat.add_mul] at this
    omega
  rw [(h.row (by omega)).cell hlt]
  unfold plK
  rw [Nat.mul_comm, Nat.mul_add_div hK, Nat.div_eq_of_lt hj, Nat.add_zero, Nat.mul_add_mod, Nat.mod_eq_of_lt hj, pl_at (h.fl (by omega)) hi]
theorem RwK.set {i : Nat} (h : RwK K enc z T t w r g N f c xs) (hK : 0 < K) (hi : i < N) (v : α) {ys : List α} (hl : ys.length ≤ N) (hy : ∀ j, j < N → ys.getD j z = if j = i then v else xs.getD j z) : RwK K enc z T t (setL w g ((f + i) % N * K) ((List.range K).map (enc v))) r g N f c ys := by
  have hN : 0 < N := by omega
  have hne := h.ne hN
  refine ⟨h.hd.of_block (setL_heap _ _ _ _ (Ne.symm hne)), fun _ => (rowIs_setL (h.row hN) _ _).congr fun q hq => ?_, h.ne, h.zr, h.fl, h.cl, hl, h.pow, h.lim⟩
  simp only [List.length_map, List.length_range]
  unfold plK
  rw [hy _ (Nat.mod_lt _ hN)]
  have hqN : q / K < N := (Nat.div_lt_iff_lt_mul hK).2 hq
  have hdm := Nat.div_add_mod q K
  have hml := Nat.mod_lt q hK
  by_cases e : q / K = (f + i) % N
  · have e2 : (q / K + N - f) % N = i := by rw [e]; exact pl_at (h.fl hN) hi
    have e3 : K * (q / K) = (f + i) % N * K := by rw [e, Nat.mul_comm]
    rw [if_pos (by omega), if_pos e2, show q - (f + i) % N * K = q % K by omega]
    simp [List.getD_eq_getElem?_getD, hml]
  have e2 : (q / K + N - f) % N ≠ i := fun e2 => e (by rw [← e2]; exact (pl_of (h.fl hN) hqN).symm)
  rw [if_neg e2, if_neg]
  rintro ⟨h1, h2⟩
  refine e ?_
  have h3 : (f + i) % N ≤ q / K := (Nat.le_div_iff_mul_le hK).2 h1
  have h4 : q / K < (f + i) % N + 1 := (Nat.div_lt_iff_lt_mul hK).2 (by rw [Nat.add_mul]; omega)
  omega
theorem RwK.setCount (h : RwK K enc z T t w r g N f c xs) {c' : Nat} (hc : c' ≤ N) : RwK K enc z T t (w.setCell ⟨r, 2, none⟩ (.int .i64 (c' : Int))) r g N f c' xs :=
  ⟨(h.hd.set 2 _).congr fun i hi => by
      rcases i with _ | _ | _ | i
      · rfl
      · rfl
      · rfl
      omega, fun hN => (h.row hN).setOther (h.ne hN) _, h.ne, h.zr, h.fl, hc, h.len, h.pow, h.lim⟩
theorem RwK.setFirst (h : RwK K enc z T t w r g N f c xs) (hN : 0 < N) {f' : Nat} (hf : f' < N) {ys : List α} (hl : ys.length ≤ N) (hy : ∀ j, j < N → ys.getD ((j + N - f') % N) z = xs.getD ((j + N - f) % N) z) :
    RwK K enc z T t (w.setCell ⟨r, 1, none⟩ (.int .i64 (f' : Int))) r g N f' c ys :=
  ⟨(h.hd.set 1 _).congr fun i hi => by
      rcases i with _ | _ | _ | i
      · rfl
      · rfl
      · rfl
      omega, fun hN => ((h.row hN).setOther (h.ne hN) _).congr fun j hj => by unfold plK; rw [hy _ ((Nat.div_lt_iff_lt_mul (by rcases Nat.eq_zero_or_pos K with e | e; subst e; omega; exact e)).2 hj)], h.ne, fun e => by omega, fun _ => hf, h.cl, hl, h.pow, h.lim⟩
end
theorem RwK.moved {α : Type} {K : Nat} {enc : α → Nat → Value} {z : α} {T t : TypeId} {w w1 : World} {r g N f c m G : Nat} {xs : List α} (h : RwK K enc z T t w r g N f c xs) (hb : Below w.heap.size w w1) (hG : w.heap.size ≤ G) (hr : w1.rowIs G t (m * K) (fun q => enc (xs.getD (q / K) z) (q % K))) (hc : c ≤ m) (hx : xs.length ≤ m)
    (hp : ∃ k, m = 2 ^ (k + 2)) (hl : m ≤ 1099511627776) : RwK K enc z T t ((w1.setCell ⟨r, 0, none⟩ (.slice (some ⟨G, 0, none⟩) m m)).setCell ⟨r, 1, none⟩ (.int .i64 0)) r G m 0 c xs ∧ Chg w ((w1.setCell ⟨r, 0, none⟩ (.slice (some ⟨G, 0, none⟩) m m)).setCell ⟨r, 1, none⟩ (.int .i64 0)) r r := by
  have hm : 0 < m := by obtain ⟨k, rfl⟩ := hp; exact Nat.pow_pos (by decide)
  have hne : G ≠ r := by have := h.rlt; omega
  refine ⟨⟨(((h.hd.of_block (hb.block _ h.rlt)).set 0 _).set 1 _).congr fun i hi => ?_, fun _ => (((hr.setOther (by simpa using hne) _).setOther (by simpa using hne) _).congr fun j hj => ?_), fun _ => hne, fun e => by omega, fun _ => hm, hc, hx, fun _ => hp, hl⟩, ((Chg.of_below hb r r).setR 0 _).setR 1 _⟩
  · rcases i with _ | _ | _ | i
    · simp [hdr, pt_pos hm]
    · rfl
    · rfl
    omega
  unfold plK
  have hK : 0 < K := by
    rcases Nat.eq_zero_or_pos K with e | e
    · subst e
      omega
    exact e
  rw [Nat.sub_zero, Nat.add_mod_right, Nat.mod_eq_of_lt ((Nat.div_lt_iff_lt_mul hK).2 hj)]
theorem RwK.snoc {α : Type} {K : Nat} {enc : α → Nat → Value} {z : α} {T t : TypeId} {w : World} {r g N f : Nat} {xs : List α} (h : RwK K enc z T t w r g N f xs.length xs) (hK : 0 < K) (hx : xs.length < N) (v : α) :
    RwK K enc z T t ((setL w g ((f + xs.length) % N * K) ((List.range K).map (enc v))).setCell ⟨r, 2, none⟩ (.int .i64 ((xs.length : Int) + 1))) r g N f (xs ++ [v]).length (xs ++ [v]) := by
  have h1 := h.set hK hx v (ys := xs ++ [v]) (by simp; omega) (fun j _ => getD_snoc xs v z j)
  have h2 := h1.setCount (c' := (xs ++ [v]).length) (by simp; omega)
  rw [show (((xs ++ [v]).length : Nat) : Int) = (xs.length : Int) + 1 by simp] at h2
  exact h2
end Go.Proofs.Ytcndbmccediknaa
namespace Go.Proofs.Ytcndbmccediknaa
open Go.RowKit
theorem row_list {w : World} {b : Nat} {t : TypeId} {n : Nat} {f : Nat → Value} (h : w.rowIs b t n f) : w.heap[b]? = some (.cells ((List.range n).map f).toArray t (0, 0)) := by
  obtain ⟨c, hb, hn, hc⟩ := h
  rw [hb]
  congr 2
  refine Array.ext (by simp [hn]) fun i h1 h2 => ?_
  have := hc i (by omega)
  simp at h2
  rw [Array.getElem?_eq_getElem h1] at this
  simpa using this
theorem list_row {w : World} {b : Nat} {t : TypeId} {n : Nat} {l : List Value} {f : Nat → Value} (h : w.heap[b]? = some (.cells l.toArray t (0, 0))) (hl : l.length = n) (hf : ∀ i, i < n → l[i]? = some (f i)) : w.rowIs b t n f :=
  ⟨_, h, by simpa using hl, fun i hi => by simpa using hf i hi⟩
def laid (F : Nat → Value) (o : Nat) (G : Nat → Value) (n : Nat) : Nat → Value := fun j => if o ≤ j ∧ j < o + n then G (j - o) else F j
theorem splice_row (n o m : Nat) (F G : Nat → Value) (h : o + m ≤ n) : ∀ i, i < n → (splice ((List.range n).map F) o ((List.range m).map G))[i]? = some (laid F o G m i) := by
  intro i hi
  unfold splice laid
  rcases Nat.lt_or_ge i o with h1 | h1
  · rw [List.getElem?_append_left (by simp; omega), List.getElem?_take_of_lt h1, if_neg (by omega)]
    simp [hi]
  rw [List.getElem?_append_right (by simp; omega)]
  have e : ((List.range n).map F |>.take o).length = o := by simp; omega
  rw [e]
  rcases Nat.lt_or_ge (i - o) m with h2 | h2
  · rw [List.getElem?_append_left (by simpa using h2), if_pos (by omega)]
    simp [h2]
  rw [List.getElem?_append_right (by simpa using h2), if_neg (by omega), List.getElem?_drop]
  simp only [List.length_map, List.length_range]
  rw [show o + m + (i - o - m) = i by omega]
  simp [hi]
theorem step_copy {P : Program} {ops : Array Oper} {o : Oper} {a : Act} {w : World} {K : Act → World → Prop} {Q : Exit → Act → World → Prop} {E : Prop} (hgd : o.guard = none) (d s : Operand) (dT sT : TypeId)
    (ho : o.op = .call { callee := .builtin .copy, args := #[d, s], argTypes := #[dT, sT] }) (elem : TypeId) (hu : P.underlying dT = some (.slice elem)) (hsz : (P.info? elem).map (·.size) = some 1)
    (dp sp : Option Addr) (dLen dCap sLen sCap : Nat) (hd : a.eval d = .slice dp dLen dCap) (hs : a.eval s = .slice sp sLen sCap)
    (g off M : Nat) (F G : Nat → Value) (t : TypeId) (hg : w.rowIs g t M F) (hn : sLen ≤ dLen)
    (hpos : 0 < sLen → dp = some ⟨g, off, none⟩ ∧ ∃ ad, sp = some ad ∧ ∀ j, j < sLen → w.cell? (ad.add j) = some (G j))
    (hfit : off + sLen ≤ M) (h1 : ∀ j, (G j).oneCell' = true) (B : Nat) (w0 : World) (hb : Below B w0 w) (hBg : B ≤ g)
    (h : ∀ w', Hid (w'.rowIs g t M (laid F off G sLen) ∧ Below B w0 w') → K (a.put o.dst (goInt sLen)) w') :
    if Region.wanted o (yielded ops a.tmps) = true then Oper.wp P o a w K Q else E := by
  have hl : ((List.range sLen).map G).length = sLen := by simp
  refine step_copy_splice hgd d s dT sT ho elem hu hsz dp sp dLen dCap sLen sCap hd hs g off ((List.range M).map F) t (row_list hg) ((List.range sLen).map G) (by rw [hl]; exact (Nat.min_eq_left hn).symm) ?_ (by simpa using hfit) ?_ B w0 hb hBg ?_
  · intro h0
    rw [hl] at h0
    obtain ⟨e1, ad, e2, h3⟩ := hpos h0
    refine ⟨e1, ad, e2, fun j v hj => ?_⟩
    rcases Nat.lt_or_ge j sLen with h4 | h4
    · rw [h3 j h4]
      simpa [h4] using hj
    rw [List.getElem?_eq_none (by simpa using h4)] at hj
    cases hj
  · intro v hv
    obtain ⟨j, _, rfl⟩ := List.mem_map.1 hv
    exact h1 j
  intro w' h2 h3
  rw [hl]
  exact h w' ⟨list_row h2.out (by unfold splice; simp; omega) (splice_row M off sLen F G hfit), h3⟩
theorem addr_add (b o j : Nat) : (⟨b, o, none⟩ : Addr).add j = ⟨b, o + j, none⟩ := by unfold Addr.add; split <;> simp_all
theorem bel_drewN {B : Nat} {a w : World} (h : Below B a w) (n : Nat) : Below B a (w.drewN n) := ⟨h.os, h.tape, h.output, h.size, h.block⟩
theorem bel_drew {B : Nat} {a w : World} (h : Below B a w) : Below B a w.drew := ⟨h.os, h.tape, h.output, h.size, h.block⟩
theorem run_copy_rowK {P : Program} (K : Nat) (w : World) (dT sT ty elem : TypeId) (g o dLen dCap : Nat) (a : Addr) (sLen sCap : Nat) (cur : Array Value) (t : TypeId) (cs : List Value)
    (hu : P.underlying dT = some (.slice elem)) (hs : (P.info? elem).map (·.size) = some K)
    (hg : w.heap[g]? = some (.cells cur t (0, 0))) (n : Nat) (hn : n = Nat.min sLen dLen) (hcs : cs.length = n * K)
    (hsrc : ∀ j v, cs[j]? = some v → w.cell? (a.add j) = some v) (hfit : o + cs.length ≤ cur.size) (h1 : ∀ v ∈ cs, v.oneCell' = true) :
    (Builtin.copy_ #[dT, sT] ty #[.slice (some ⟨g, o, none⟩) dLen dCap, .slice (some a) sLen sCap]).run P w =
      .ok (goInt n) (w.setRow g (cur.toList.take o ++ cs ++ cur.toList.drop (o + cs.length)).toArray) := by
  have hl := run_loadCells_list (P := P) w a cs hsrc
  have hst := run_storeCells_at P g o t cs 0 cur w hg (by simpa using hfit) h1
  rw [hcs] at hl
  cases hq : P.info? elem with
  | none => simp [hq] at hs
  | some i =>
    have hi : i.size = K := by simpa [hq] using hs
    simp [Builtin.copy_, run_underlying hu, Builtin.lenOf, Builtin.firstCells, sizeOf, typeInfo, hq, hi, ← hn, hl, hst]
theorem run_copy_noneK {P : Program} (K : Nat) (w : World) (dT sT ty elem : TypeId) (d a : Option Addr) (dLen dCap sLen sCap : Nat) (hu : P.underlying dT = some (.slice elem)) (hs : (P.info? elem).map (·.size) = some K) (hn : Nat.min sLen dLen = 0) :
    (Builtin.copy_ #[dT, sT] ty #[.slice d dLen dCap, .slice a sLen sCap]).run P w = .ok (goInt 0) w := by
  cases hq : P.info? elem with
  | none => simp [hq] at hs
  | some i =>
    have hl : ∀ (x : Addr), (loadCells x 0).run P w = .ok #[] w := fun x => by simpa using run_loadCells_list (P := P) w x [] (by simp)
    cases d <;> cases a <;> simp [Builtin.copy_, run_underlying hu, Builtin.lenOf, Builtin.firstCells, sizeOf, typeInfo, hq, hn, storeCells, hl]
theorem step_copyK {P : Program} (Kc : Nat) {ops : Array Oper} {o : Oper} {a : Act} {w : World} {K : Act → World → Prop} {Q : Exit → Act → World → Prop} {E : Prop} (hgd : o.guard = none) (d s : Operand) (dT sT : TypeId)
    (ho : o.op = .call { callee := .builtin .copy, args := #[d, s], argTypes := #[dT, sT] }) (elem : TypeId) (hu : P.underlying dT = some (.slice elem)) (hsz : (P.info? elem).map (·.size) = some Kc)
    (dp sp : Option Addr) (dLen dCap sLen sCap : Nat) (hd : a.eval d = .slice dp dLen dCap) (hs : a.eval s = .slice sp sLen sCap)
    (g off M : Nat) (F G : Nat → Value) (t : TypeId) (hg : w.rowIs g t M F) (hn : sLen ≤ dLen)
    (hpos : 0 < sLen → dp = some ⟨g, off, none⟩ ∧ ∃ ad, sp = some ad ∧ ∀ j, j < sLen * Kc → w.cell? (ad.add j) = some (G j))
    (hfit : off + sLen * Kc ≤ M) (h1 : ∀ j, (G j).oneCell' = true) (B : Nat) (w0 : World) (hb : Below B w0 w) (hBg : B ≤ g)
    (h : ∀ w', Hid (w'.rowIs g t M (laid F off G (sLen * Kc)) ∧ Below B w0 w') → K (a.put o.dst (goInt sLen)) w') :
    if Region.wanted o (yielded ops a.tmps) = true then Oper.wp P o a w K Q else E := by
  have hw : Region.wanted o (yielded ops a.tmps) = true := by simp [Region.wanted, hgd]
  rw [if_pos hw]
  rcases Nat.eq_zero_or_pos sLen with h0 | h0
  · subst h0
    have hrun := run_copy_noneK (P := P) Kc w dT sT o.type elem dp sp dLen dCap 0 sCap hu hsz (by simp)
    unfold Oper.wp
    simp [execOp, ho, resolve, invoke, builtin, hd, hs, hrun, Result.andThen]
    refine h w ⟨hg.congr fun i hi => ?_, hb⟩
    unfold laid
    rw [if_neg (by omega)]
  obtain ⟨rfl, ad, rfl, hsrc⟩ := hpos h0
  have hl : ((List.range (sLen * Kc)).map G).length = sLen * Kc := by simp
  have hrun := run_copy_rowK (P := P) Kc w dT sT o.type elem g off dLen dCap ad sLen sCap ((List.range M).map F).toArray t ((List.range (sLen * Kc)).map G) hu hsz (row_list hg) sLen (Nat.min_eq_left hn).symm hl
    (fun j v hj => by
      rcases Nat.lt_or_ge j (sLen * Kc) with h4 | h4
      · rw [hsrc j h4]
        simpa [h4] using hj
      rw [List.getElem?_eq_none (by simpa using h4)] at hj
      cases hj) (by simpa using hfit) (fun v hv => by obtain ⟨j, _, rfl⟩ := List.mem_map.1 hv; exact h1 j)
  unfold Oper.wp
  simp [execOp, ho, resolve, invoke, builtin, hd, hs, hrun, Result.andThen]
  refine h _ ⟨list_row (l := splice ((List.range M).map F) off ((List.range (sLen * Kc)).map G)) ?_ (by unfold splice; simp; omega) (splice_row M off (sLen * Kc) F G hfit), below_setRow hb hBg _⟩
  simpa [splice] using setRow_heap w g _ _ t _ (row_list hg)
theorem rowIs_madeK (w : World) (zs : Array Value) (n : Nat) (t : TypeId) : (w.alloc (.cells (madeCells zs n) t)).rowIs w.heap.size t n (fun i => zs[i % zs.size]!) :=
  ⟨_, (MapKept.heap_alloc _ _).1, size_madeCells _ _, fun i hi => by simp [madeCells, hi]⟩
structure Pk where
  slot : Int
  gen : Int
  id : Int
  size : Int
  seq : Int
  came : Int
def Pk.zero : Pk := ⟨0, 0, 0, 0, 0, 0⟩
def encPk (x : Pk) : Nat → Value
  | 0 => .int .i64 x.slot
  | 1 => .int .i64 x.gen
  | 2 => .int .i64 x.id
  | 3 => .int .i64 x.size
  | 4 => .int .i64 x.seq
  | _ => .int .i64 x.came
def Pk.cells (x : Pk) : Array Value := #[.int .i64 x.slot, .int .i64 x.gen, .int .i64 x.id, .int .i64 x.size, .int .i64 x.seq, .int .i64 x.came]
def Pk.val (x : Pk) : Value := .agg #[.int .i64 x.slot, .int .i64 x.gen, .int .i64 x.id, .int .i64 x.size, .int .i64 x.seq, .int .i64 x.came]
theorem encPk_one (x : Pk) (j : Nat) : (encPk x j).oneCell' = true := by
  unfold encPk
  split <;> rfl
theorem encPk_zero (j : Nat) (h : j < 6) : (#[Value.int .i64 0, Value.int .i64 0, Value.int .i64 0, Value.int .i64 0, Value.int .i64 0, Value.int .i64 0] : Array Value)[j]! = encPk Pk.zero j := by
  match j, h with
  | 0, _ => rfl
  | 1, _ => rfl
  | 2, _ => rfl
  | 3, _ => rfl
  | 4, _ => rfl
  | 5, _ => rfl
theorem encPk_list (x : Pk) : (List.range 6).map (encPk x) = [.int .i64 x.slot, .int .i64 x.gen, .int .i64 x.id, .int .i64 x.size, .int .i64 x.seq, .int .i64 x.came] := rfl
set_option maxRecDepth 100000
set_option linter.unusedVariables false
abbrev RP (w : World) (r g N f c : Nat) (xs : List Pk) : Prop := RwK 6 encPk Pk.zero 95 49 w r g N f c xs
set_option maxHeartbeats 1000000 in
theorem indexP_any (r g N f c : Nat) (xs : List Pk) (i : Int) (k : Nat) (w : World) (h : RP w r g N f c xs) (hN : 0 < N) (hi : -1 ≤ i) (hi2 : i ≤ N) (hk : k < N) (e : ((k : Nat) : Int) = ((f : Int) + i) % (N : Int)) :
    Calls Try.prog 45 #[.pointer (some ⟨r, 0, none⟩), .int .i64 i] w fun e w' => e = .returned (.int .i64 (k : Int)) ∧ ∃ n, w' = w.drewN n := by
  have c0 := h.c0 hN
  have c1 := h.c1
  have hf := h.fl hN
  have hl := h.lim
  obtain ⟨p, hp⟩ := h.pow hN
  have hp40 : p + 2 ≤ 40 := by
    rcases Nat.lt_or_ge 40 (p + 2) with h' | h'
    · have : 2 ^ 41 ≤ 2 ^ (p + 2) := Nat.pow_le_pow_right (by decide) h'
      omega
    exact h'
  have hm := i64_mask ((f : Int) + i) (p + 2) hp40 ((N : Int) - 1) (by rw [hp])
  rw [← hp, ← e] at hm
  have HH : Hid (RP w r g N f c xs) := h
  clear h hp hp40 e
  go_enter Try.func45, Try.ntmps45
  go_wp2_with fail
  go_quiet (fail)
  go_wp2_with fail
  go_ret
  exact ⟨rfl, nq, rfl⟩
theorem Try.infoP : (Try.prog.info? 49).map (fun i => (i.zero, i.size, i.bytes)) = some (some (.agg #[.int .i64 0, .int .i64 0, .int .i64 0, .int .i64 0, .int .i64 0, .int .i64 0]), 6, 48) := by kernel_rfl
theorem makeP_at (L C : Int) (n m : Nat) (hL : L = n) (hC : C = m) (hnm : n ≤ m) (hm : m ≤ 1099511627776) (w : World) :
    (Instr.makeSlice 33 (.int .i64 L) (.int .i64 C)).run Try.prog w = .ok (.slice (some ⟨w.heap.size, 0, none⟩) n m) (w.alloc (.cells (madeCells #[.int .i64 0, .int .i64 0, .int .i64 0, .int .i64 0, .int .i64 0, .int .i64 0] (m * 6)) 49)) := by
  obtain ⟨i, hi, hz, hs, hb⟩ := info_parts Try.infoP
  subst hL hC
  rw [run_make w 33 49 i (.agg #[.int .i64 0, .int .i64 0, .int .i64 0, .int .i64 0, .int .i64 0, .int .i64 0]) Try.underlying33 hi hz .i64 .i64 n m (by omega) (by omega) (by rw [hb]; omega) (by omega), hs]
  simp [Value.cells]
theorem cutP (p : Option Addr) (len cap l n : Nat) (h2 : l + n ≤ cap) : ∃ q : Option Addr, (∀ b, p = some ⟨b, 0, none⟩ → l < cap → q = some ⟨b, l * 6, none⟩) ∧
    ∀ (L H : Int) (w : World), L = l → H = (l : Int) + n → (Instr.slice 33 (.slice p len cap) (some (.int .i64 L)) (some (.int .i64 H)) none).run Try.prog w = .ok (.slice q n (cap - l)) w := by
  refine ⟨if cap = l then p else p.map (·.add (l * 6)), fun b e h3 => ?_, fun L H w eL eH => ?_⟩
  · subst e
    rw [if_neg (by omega)]
    simp only [Option.map_some, Option.some.injEq]
    unfold Addr.add
    split <;> simp_all
  subst eL eH
  rw [run_slice_lh (P := Try.prog) (kl := .i64) (kh := .i64) (l := (l : Int)) (h := (l : Int) + n) (ht := by kernel_rfl) (h0 := by omega) (h1 := by omega) (h2 := by omega)]
  have hz : (sizeOf (Try.prog.elem 33)).run Try.prog w = .ok 6 w := by kernel_rfl
  rw [hz]
  rw [show ((l : Int) + (n : Int)).toNat = l + n by omega]
  simp only [Result.andThen, sliced, Int.toNat_natCast, Nat.add_sub_cancel_left]
theorem fromP (p : Option Addr) (len cap l : Nat) (h1 : l ≤ len) : ∃ q : Option Addr, (∀ b, p = some ⟨b, 0, none⟩ → l < cap → q = some ⟨b, l * 6, none⟩) ∧
    ∀ (L : Int) (w : World), L = l → (Instr.slice 33 (.slice p len cap) (some (.int .i64 L)) none none).run Try.prog w = .ok (.slice q (len - l) (cap - l)) w := by
  refine ⟨if cap = l then p else p.map (·.add (l * 6)), fun b e h3 => ?_, fun L w eL => ?_⟩
  · subst e
    rw [if_neg (by omega)]
    simp only [Option.map_some, Option.some.injEq]
    unfold Addr.add
    split <;> simp_all
  subst eL
  rw [run_slice_l (P := Try.prog) (kl := .i64) (l := (l : Int)) (ht := by kernel_rfl) (h0 := by omega) (h1 := by omega)]
  have hz : (sizeOf (Try.prog.elem 33)).run Try.prog w = .ok 6 w := by kernel_rfl
  rw [hz]
  simp only [Result.andThen, sliced, Int.toNat_natCast]
theorem uptoP (p : Option Addr) (len cap h : Nat) (h2 : h ≤ cap) : ∃ q : Option Addr, (∀ b, p = some ⟨b, 0, none⟩ → 0 < cap → q = some ⟨b, 0, none⟩) ∧
    ∀ (H : Int) (w : World), H = h → (Instr.slice 33 (.slice p len cap) none (some (.int .i64 H)) none).run Try.prog w = .ok (.slice q h cap) w := by
  refine ⟨if cap = 0 then p else p.map (·.add 0), fun b e h3 => ?_, fun H w eH => ?_⟩
  · subst e
    rw [if_neg (by omega)]
    simp only [Option.map_some, Option.some.injEq]
    unfold Addr.add
    split <;> simp_all
  subst eH
  rw [run_slice_h (P := Try.prog) (kh := .i64) (h := (h : Int)) (ht := by kernel_rfl) (h0 := by omega) (h2 := by omega)]
  have hz : (sizeOf (Try.prog.elem 33)).run Try.prog w = .ok 6 w := by kernel_rfl
  rw [hz]
  simp only [Result.andThen, sliced, Int.toNat_natCast, Nat.zero_mul, Nat.sub_zero]
theorem sizeP : (Try.prog.info? 49).map (·.size) = some 6 := by kernel_rfl
set_option maxHeartbeats 2000000 in
theorem rowP_any (r g N f c m : Nat) (xs : List Pk) (w : World) (h : RP w r g N f c xs) (hc : xs.length = c) (hm : c ≤ m) (hm2 : m ≤ 1099511627776) :
    Calls Try.prog 68 #[.pointer (some ⟨r, 0, none⟩), .int .i64 (m : Int)] w fun e w' => e = .returned (.slice (some ⟨w.heap.size, 0, none⟩) m m) ∧ w'.rowIs w.heap.size 49 (m * 6) (fun q => encPk (xs.getD (q / 6) Pk.zero) (q % 6)) ∧ Below w.heap.size w w' := by
  obtain ⟨p, ep⟩ : ∃ p, p = pt g N := ⟨_, rfl⟩
  have c0 : w.cell? ⟨r, 0, none⟩ = some (.slice p N N) := by rw [ep]; exact h.hd.cell (i := 0) (by omega)
  have c1 := h.c1
  have c2 := h.c2
  have hf := h.fl'
  have hl := h.lim
  have hcN := h.cl
  obtain ⟨fr, hfr⟩ : ∃ fr, fr = min c (N - f) := ⟨_, rfl⟩
  have hfr1 : fr ≤ c := by omega
  have hfr2 : f + fr ≤ N := by omega
  have hfr3 : fr < c → N = f + fr := by omega
  have mn : (if (N : Int) - (f : Int) < (c : Int) then (N : Int) - (f : Int) else (c : Int)) = (fr : Int) := by split <;> omega
  have wr1 : IntKind.i64.wrap ((f : Int) + (fr : Int)) = (f : Int) + (fr : Int) := by rw [IntKind.wrap_i64]; omega
  have wr2 : IntKind.i64.wrap ((c : Int) - (fr : Int)) = (c : Int) - (fr : Int) := by rw [IntKind.wrap_i64]; omega
  obtain ⟨q1, hq1, s1⟩ := cutP p N N f fr hfr2
  obtain ⟨q2, hq2, s2⟩ := fromP (some ⟨w.heap.size, 0, none⟩) m m fr (by omega)
  obtain ⟨q3, hq3, s3⟩ := uptoP p N N (c - fr) (by omega)
  have S1 := fun w' => s1 (f : Int) ((f : Int) + (fr : Int)) w' rfl rfl
  have S2 := fun w' => s2 (fr : Int) w' rfl
  have S3 := fun w' => s3 ((c : Int) - (fr : Int)) w' (by omega)
  have mk := makeP_at (m : Int) (m : Int) m m rfl rfl (Nat.le_refl _) hm2
  have C1 : 0 < fr → q1 = some ⟨g, f * 6, none⟩ ∧ ∀ j, j < fr * 6 → w.cell? ((⟨g, f * 6, none⟩ : Addr).add j) = some (encPk (xs.getD (j / 6) Pk.zero) (j % 6)) := fun h0 => by
    have hN : 0 < N := by omega
    refine ⟨hq1 g (by rw [ep, pt_pos hN]) (by omega), fun j hj => ?_⟩
    have := h.at (by omega) (i := j / 6) (by omega) (j := j % 6) (by omega)
    rw [Nat.mod_eq_of_lt (by omega), show (f + j / 6) * 6 + j % 6 = f * 6 + j by omega] at this
    rw [addr_add]
    exact this
  have C2 : 0 < c - fr → q3 = some ⟨g, 0, none⟩ ∧ ∀ j, j < (c - fr) * 6 → w.cell? ((⟨g, 0, none⟩ : Addr).add j) = some (encPk (xs.getD (fr + j / 6) Pk.zero) (j % 6)) := fun h0 => by
    have hN : 0 < N := by omega
    have hf := h.fl hN
    have hN2 : N = f + fr := hfr3 (by omega)
    refine ⟨hq3 g (by rw [ep, pt_pos hN]) hN, fun j hj => ?_⟩
    have := h.at (by omega) (i := fr + j / 6) (by omega) (j := j % 6) (by omega)
    rw [show f + (fr + j / 6) = j / 6 + N by omega, Nat.add_mod_right, Nat.mod_eq_of_lt (show j / 6 < N by omega), show j / 6 * 6 + j % 6 = j by omega] at this
    rw [addr_add, Nat.zero_add]
    exact this
  have D2 : 0 < c - fr → q2 = some ⟨w.heap.size, fr * 6, none⟩ := fun h0 => hq2 _ rfl (by omega)
  have B0 : Below w.heap.size w (w.alloc (.cells (madeCells #[.int .i64 0, .int .i64 0, .int .i64 0, .int .i64 0, .int .i64 0, .int .i64 0] (m * 6)) 49)) := (Below.refl _ _).alloc (Nat.le_refl _) _
  have R0 := rowIs_madeK w #[.int .i64 0, .int .i64 0, .int .i64 0, .int .i64 0, .int .i64 0, .int .i64 0] (m * 6) 49
  have e0 : (w.alloc (.cells (madeCells #[.int .i64 0, .int .i64 0, .int .i64 0, .int .i64 0, .int .i64 0, .int .i64 0] (m * 6)) 49)).cell? ⟨r, 0, none⟩ = some (.slice p N N) := cell_later B0 c0
  have e1 := cell_later B0 c1
  have e2 := cell_later B0 c2
  have hrl := h.rlt
  have HH : Hid (RP w r g N f c xs ∧ xs.length = c) := ⟨h, hc⟩
  have K1 : Hid _ := C1
  have K2 : Hid _ := C2
  have K3 : Hid _ := D2
  have K4 : Hid (Below w.heap.size w (w.alloc (.cells (madeCells #[.int .i64 0, .int .i64 0, .int .i64 0, .int .i64 0, .int .i64 0, .int .i64 0] (m * 6)) 49))) := B0
  have K5 : Hid ((w.alloc (.cells (madeCells #[.int .i64 0, .int .i64 0, .int .i64 0, .int .i64 0, .int .i64 0, .int .i64 0] (m * 6)) 49)).rowIs w.heap.size 49 (m * 6) (fun i => #[.int .i64 0, .int .i64 0, .int .i64 0, .int .i64 0, .int .i64 0, .int .i64 0][i % 6]!)) := R0
  clear h hc ep hfr hfr3 hq1 hq2 hq3 s1 s2 s3 C1 C2 D2 B0 R0
  go_enter Try.func68, Try.ntmps68
  go_wp2_with fail
  go_quiet (fail)
  go_wp2_with fail
  go_region_held3 (fun w' => w'.cell? ⟨r, 0, none⟩ = some (.slice p N N) ∧ w'.cell? ⟨r, 1, none⟩ = some (.int .i64 (f : Int)) ∧ w'.cell? ⟨r, 2, none⟩ = some (.int .i64 (c : Int))) (first | (simp [go_sem, *]; done) | (trace_state; fail))
    (first
      | (refine step_copyK 6 rfl (.tmp 24) (.tmp 39) 33 33 rfl 49 Try.underlying33 sizeP _ _ _ _ _ _ rfl rfl w.heap.size 0 (m * 6) (fun i => #[.int .i64 0, .int .i64 0, .int .i64 0, .int .i64 0, .int .i64 0, .int .i64 0][i % 6]!) (fun j => encPk (xs.getD (j / 6) Pk.zero) (j % 6)) 49 K5.out (by omega) (fun h0 => ⟨rfl, _, (K1.out h0).1, fun j hj => cell_later (bel_drew (bel_drewN K4.out _)) ((K1.out h0).2 j hj)⟩) (by omega) (fun j => encPk_one _ _) w.heap.size w (bel_drew (bel_drewN K4.out _)) (Nat.le_refl _) ?_; intro w4 H4; have x0 := cell_later H4.out.2 c0; have x1 := cell_later H4.out.2 c1; have x2 := cell_later H4.out.2 c2))
  clear e0 e1 e2 S1
  go_wp2_with fail
  go_region_held3 (fun w' => w'.cell? ⟨r, 0, none⟩ = some (.slice p N N) ∧ w'.cell? ⟨r, 1, none⟩ = some (.int .i64 (f : Int)) ∧ w'.cell? ⟨r, 2, none⟩ = some (.int .i64 (c : Int))) (first | (simp [go_sem, *]; done) | (trace_state; fail))
    (first
      | (refine step_copyK 6 rfl (.tmp 43) (.tmp 54) 33 33 rfl 49 Try.underlying33 sizeP _ _ _ _ _ _ rfl rfl w.heap.size (fr * 6) (m * 6) (laid (fun i => #[.int .i64 0, .int .i64 0, .int .i64 0, .int .i64 0, .int .i64 0, .int .i64 0][i % 6]!) 0 (fun j => encPk (xs.getD (j / 6) Pk.zero) (j % 6)) (fr * 6)) (fun j => encPk (xs.getD (fr + j / 6) Pk.zero) (j % 6)) 49 H4.out.1 (by omega) (fun h0 => ⟨K3.out h0, _, (K2.out h0).1, fun j hj => cell_later (bel_drew H4.out.2) ((K2.out h0).2 j hj)⟩) (by omega) (fun j => encPk_one _ _) w.heap.size w (bel_drew H4.out.2) (Nat.le_refl _) ?_; intro w5 H5; have y0 := cell_later H5.out.2 c0; have y1 := cell_later H5.out.2 c1; have y2 := cell_later H5.out.2 c2))
  go_wp2_with fail
  go_ret
  refine ⟨rfl, H5.out.1.congr fun j hj => ?_, H5.out.2⟩
  have hlen := HH.out.2
  unfold laid
  by_cases h1 : j < fr * 6
  · rw [if_neg (by omega), if_pos (by omega), Nat.sub_zero]
  by_cases h2 : j < c * 6
  · rw [if_pos (by omega)]
    show encPk (xs.getD (fr + (j - fr * 6) / 6) Pk.zero) ((j - fr * 6) % 6) = _
    rw [show fr + (j - fr * 6) / 6 = j / 6 by omega, show (j - fr * 6) % 6 = j % 6 by omega]
  rw [if_neg (by omega), if_neg (by omega)]
  have e1 : xs.getD (j / 6) Pk.zero = Pk.zero := by simp [show xs.length ≤ j / 6 by omega]
  rw [e1]
  exact encPk_zero _ (by omega)
set_option maxHeartbeats 1000000 in
theorem moveP_any (r g N f c m : Nat) (xs : List Pk) (w : World) (h : RP w r g N f c xs) (hc : xs.length = c) (hm : c ≤ m) (hp : ∃ k, m = 2 ^ (k + 2)) (hm2 : m ≤ 1099511627776) :
    Calls Try.prog 55 #[.pointer (some ⟨r, 0, none⟩), .int .i64 (m : Int)] w fun e w' => e = .returned (.tuple #[]) ∧ RP w' r w.heap.size m 0 c xs ∧ Chg w w' r r := by
  have HH : Hid (RP w r g N f c xs ∧ xs.length = c ∧ c ≤ m ∧ (∃ k, m = 2 ^ (k + 2)) ∧ m ≤ 1099511627776) := ⟨h, hc, hm, hp, hm2⟩
  clear h hc hm hp hm2
  go_enter Try.func55, Try.ntmps55
  go_wp2_with fail
  refine (rowP_any r g N f c m xs _ HH.out.1 HH.out.2.1 HH.out.2.2.1 HH.out.2.2.2.2).mono ?_
  rintro e w1 ⟨rfl, h1, h2⟩
  obtain ⟨h, hc, hm, hp, hm2⟩ := HH.out
  have x := h.mono h2
  have c0 := x.hd.cell (i := 0) (by omega)
  have c1 := x.c1
  have f0 := x.fz 0
  have f1 := x.fz 1
  have FF : Hid _ := h.moved h2 (Nat.le_refl _) h1 (by omega) (by omega) hp hm2
  clear h1 h2 x h hc hm hp hm2
  go_wp2_with fail
  exact bodyPost_end (v := .tuple #[]) (by simp [results, Try.results55, go_sem]) rfl ⟨rfl, FF.out⟩
def RingsP (w : World) (r g : Nat) (xs : List Pk) (w' : World) : Prop := ∃ g' N' f', RP w' r g' N' f' xs.length xs ∧ Chg w w' r g ∧ (g' = g ∨ g' = r ∨ w.heap.size ≤ g')
theorem RingsP.intro {w w' : World} {r g : Nat} {xs : List Pk} {g' N' f' : Nat} (h : RP w' r g' N' f' xs.length xs) (k : Chg w w' r g) (e : g' = g ∨ g' = r ∨ w.heap.size ≤ g') : RingsP w r g xs w' := ⟨g', N', f', h, k, e⟩
set_option maxHeartbeats 1000000 in
theorem widenP_any (r g N f : Nat) (xs : List Pk) (w : World) (h : RP w r g N f xs.length xs) (hx : xs.length ≤ 4294967296) :
    Calls Try.prog 44 #[.pointer (some ⟨r, 0, none⟩)] w fun e w' => e = .returned (.tuple #[]) ∧ ∃ g' N' f', RP w' r g' N' f' xs.length xs ∧ Chg w w' r g ∧ (g' = g ∨ g' = r ∨ w.heap.size ≤ g') ∧ xs.length < N' := by
  obtain ⟨p, ep⟩ : ∃ p, p = pt g N := ⟨_, rfl⟩
  have c0 : w.cell? ⟨r, 0, none⟩ = some (.slice p N N) := by rw [ep]; exact h.hd.cell (i := 0) (by omega)
  have c2 := h.c2
  have hl := h.lim
  have hcN := h.cl
  obtain ⟨n, en⟩ : ∃ n, n = xs.length := ⟨_, rfl⟩
  rw [← en] at c2 hcN hx
  have HH : Hid (RP w r g N f xs.length xs ∧ n = xs.length) := ⟨h, en⟩
  by_cases e : n = N
  · have hd : ((n : Int) == (N : Int)) = true := by simp <;> omega
    obtain ⟨m, em⟩ : ∃ m, m = max 4 (2 * n) := ⟨_, rfl⟩
    have mx : (if (4 : Int) < 2 * (n : Int) then 2 * (n : Int) else 4) = (m : Int) := by split <;> omega
    have HM : Hid ((∃ k, m = 2 ^ (k + 2)) ∧ n ≤ m ∧ n < m ∧ m ≤ 1099511627776) := by
      refine ⟨?_, by omega, by omega, by omega⟩
      rcases Nat.eq_zero_or_pos N with e0 | e0
      · exact ⟨0, by omega⟩
      obtain ⟨k, hk⟩ := h.pow e0
      have := h.four e0
      have hk2 : 2 ^ (k + 1 + 2) = 2 ^ (k + 2) * 2 := Nat.pow_succ ..
      exact ⟨k + 1, by rw [hk2, ← hk]; omega⟩
    subst e
    clear h ep em en
    go_enter Try.func44, Try.ntmps44
    go_wp2_with fail
    go_quiet (fail)
    go_wp2_with fail
    refine (moveP_any r g _ f _ m xs (w.drewN nq) (HH.out.1.of_blocks rfl rfl) rfl (by have := HH.out.2; have := HM.out.2.1; omega) HM.out.1 HM.out.2.2.2).mono ?_
    rintro e w1 ⟨rfl, h1, h2⟩
    go_wp2_with fail
    refine bodyPost_end (v := .tuple #[]) (by simp [results, Try.results44, go_sem]) rfl ⟨rfl, _, _, _, h1, ?_, .inr (.inr (Nat.le_refl _)), by have := HH.out.2; have := HM.out.2.2.1; omega⟩
    exact ((Chg.refl w r g).drewN nq).trans h2 (.inr (.inl rfl))
  have hd : ((n : Int) == (N : Int)) = false := by simp <;> omega
  have HL : Hid (n < N) := by show n < N; omega
  clear h ep en e
  go_enter Try.func44, Try.ntmps44
  go_wp2_with fail
  go_quiet (fail)
  go_wp2_with fail
  exact bodyPost_end (v := .tuple #[]) (by simp [results, Try.results44, go_sem]) rfl ⟨rfl, _, _, _, HH.out.1.of_blocks rfl rfl, (Chg.refl w r g).drewN nq, .inl rfl, by have := HH.out.2; have := HL.out; omega⟩
set_option maxHeartbeats 4000000 in
theorem pushBackP_any (r g N f : Nat) (xs : List Pk) (x : Pk) (w : World) (h : RP w r g N f xs.length xs) (hx : xs.length ≤ 4294967296) :
    Calls Try.prog 30 #[.pointer (some ⟨r, 0, none⟩), x.val] w fun e w' => e = .returned (.tuple #[]) ∧ RingsP w r g (xs ++ [x]) w' := by
  obtain ⟨a0, a1, a2, a3, a4, a5⟩ := x
  show Calls Try.prog 30 #[.pointer (some ⟨r, 0, none⟩), .agg #[.int .i64 a0, .int .i64 a1, .int .i64 a2, .int .i64 a3, .int .i64 a4, .int .i64 a5]] w _
  obtain ⟨W, hW⟩ : ∃ W, W = w.alloc (.cells #[.int .i64 a0, .int .i64 a1, .int .i64 a2, .int .i64 a3, .int .i64 a4, .int .i64 a5] 49) := ⟨_, rfl⟩
  obtain ⟨v, ev⟩ : ∃ v, v = w.heap.size := ⟨_, rfl⟩
  have B0 : Below w.heap.size w W := by rw [hW]; exact (Below.refl _ _).alloc (Nat.le_refl _) _
  have hB : W.heap[v]? = some (.cells #[.int .i64 a0, .int .i64 a1, .int .i64 a2, .int .i64 a3, .int .i64 a4, .int .i64 a5] 49) := by rw [hW, ev]; exact (MapKept.heap_alloc _ _).1
  have HW : Hid (RP W r g N f xs.length xs ∧ W.heap[v]? = some (.cells #[.int .i64 a0, .int .i64 a1, .int .i64 a2, .int .i64 a3, .int .i64 a4, .int .i64 a5] 49) ∧ v = w.heap.size ∧ r < v ∧ g < v ∧ Below w.heap.size w W) := ⟨h.mono B0, hB, ev, by rw [ev]; exact h.rlt, by rw [ev]; exact h.glt, B0⟩
  have HE : Hid (w.alloc (.cells #[.int .i64 a0, .int .i64 a1, .int .i64 a2, .int .i64 a3, .int .i64 a4, .int .i64 a5] 49) = W ∧ w.heap.size = v) := ⟨hW.symm, ev.symm⟩
  clear h B0 hB hW ev
  go_enter Try.func30, Try.ntmps30
  go_wp2_with fail
  rw [HE.out.1, HE.out.2]
  refine (widenP_any r g N f xs W HW.out.1 hx).mono ?_
  rintro e w1 ⟨rfl, g1, N1, f1, h1, hg1, hg2, hlt⟩
  have hN : 0 < N1 := by omega
  have hl := h1.lim
  have hne := h1.ne hN
  have c0 := h1.c0 hN
  have c2 := h1.c2
  have f2 := h1.fz 2
  have hv : w1.heap[v]? = some (.cells #[.int .i64 a0, .int .i64 a1, .int .i64 a2, .int .i64 a3, .int .i64 a4, .int .i64 a5] 49) := (hg1.block v (Array.getElem?_eq_some_iff.1 HW.out.2.1).1 (by have := HW.out.2.2.2.1; omega) (by have := HW.out.2.2.2.2.1; omega)).trans HW.out.2.1
  have hvlt : v < W.heap.size := (Array.getElem?_eq_some_iff.1 HW.out.2.1).1
  have v0 : w1.cell? ⟨v, 0, none⟩ = some (.int .i64 a0) := by simp [World.cell?, hv]
  have v1 : w1.cell? ⟨v, 1, none⟩ = some (.int .i64 a1) := by simp [World.cell?, hv]
  have v2 : w1.cell? ⟨v, 2, none⟩ = some (.int .i64 a2) := by simp [World.cell?, hv]
  have v3 : w1.cell? ⟨v, 3, none⟩ = some (.int .i64 a3) := by simp [World.cell?, hv]
  have v4 : w1.cell? ⟨v, 4, none⟩ = some (.int .i64 a4) := by simp [World.cell?, hv]
  have v5 : w1.cell? ⟨v, 5, none⟩ = some (.int .i64 a5) := by simp [World.cell?, hv]
  obtain ⟨k, ek⟩ : ∃ k, k = (f1 + xs.length) % N1 := ⟨_, rfl⟩
  have hk : k < N1 := by rw [ek]; exact Nat.mod_lt _ hN
  have ck0 := h1.at (by omega) (i := xs.length) hlt (j := 0) (by omega)
  have fk0 := h1.fg hN (k * 6)
  have ck1 := h1.at (by omega) (i := xs.length) hlt (j := 1) (by omega)
  have fk1 := h1.fg hN (k * 6 + 1)
  have ck2 := h1.at (by omega) (i := xs.length) hlt (j := 2) (by omega)
  have fk2 := h1.fg hN (k * 6 + 2)
  have ck3 := h1.at (by omega) (i := xs.length) hlt (j := 3) (by omega)
  have fk3 := h1.fg hN (k * 6 + 3)
  have ck4 := h1.at (by omega) (i := xs.length) hlt (j := 4) (by omega)
  have fk4 := h1.fg hN (k * 6 + 4)
  have ck5 := h1.at (by omega) (i := xs.length) hlt (j := 5) (by omega)
  have fk5 := h1.fg hN (k * 6 + 5)
  rw [← ek] at ck0 ck1 ck2 ck3 ck4 ck5
  simp only [Nat.add_zero] at ck0
  obtain ⟨y0, ck0⟩ : ∃ y, w1.cell? ⟨g1, k * 6, none⟩ = some y := ⟨_, ck0⟩
  obtain ⟨y1, ck1⟩ : ∃ y, w1.cell? ⟨g1, k * 6 + 1, none⟩ = some y := ⟨_, ck1⟩
  obtain ⟨y2, ck2⟩ : ∃ y, w1.cell? ⟨g1, k * 6 + 2, none⟩ = some y := ⟨_, ck2⟩
  obtain ⟨y3, ck3⟩ : ∃ y, w1.cell? ⟨g1, k * 6 + 3, none⟩ = some y := ⟨_, ck3⟩
  obtain ⟨y4, ck4⟩ : ∃ y, w1.cell? ⟨g1, k * 6 + 4, none⟩ = some y := ⟨_, ck4⟩
  obtain ⟨y5, ck5⟩ : ∃ y, w1.cell? ⟨g1, k * 6 + 5, none⟩ = some y := ⟨_, ck5⟩
  obtain ⟨n, en⟩ : ∃ n, n = xs.length := ⟨_, rfl⟩
  have IX : Hid (∀ nd, Calls Try.prog 45 #[.pointer (some ⟨r, 0, none⟩), .int .i64 (n : Int)] (w1.drewN nd) fun e w' => e = .returned (.int .i64 (k : Int)) ∧ ∃ n, w' = (w1.drewN nd).drewN n) := fun nd => indexP_any r g1 N1 f1 _ xs (n : Int) k (w1.drewN nd) (h1.of_blocks rfl rfl) hN (by omega) (by omega) hk (by rw [ek, en]; simp)
  have hgw : g1 = g ∨ g1 = r ∨ w.heap.size ≤ g1 := by
    have := HW.out.2.2.1
    rcases hg2 with e | e | e
    · exact .inl e
    · exact .inr (.inl e)
    exact .inr (.inr (by omega))
  have FH : Hid (∀ nd, RingsP w r g (xs ++ [⟨a0, a1, a2, a3, a4, a5⟩]) (((((((((((((w1.drewN nd).setCell ⟨g1, k * 6, none⟩ (.int .i64 a0))).setCell ⟨g1, k * 6 + 1, none⟩ (.int .i64 a1))).setCell ⟨g1, k * 6 + 2, none⟩ (.int .i64 a2))).setCell ⟨g1, k * 6 + 3, none⟩ (.int .i64 a3))).setCell ⟨g1, k * 6 + 4, none⟩ (.int .i64 a4))).setCell ⟨g1, k * 6 + 5, none⟩ (.int .i64 a5)).setCell ⟨r, 2, none⟩ (.int .i64 ((n : Int) + 1)))) := fun nd => by
    have h2 := (show RP (w1.drewN nd) r g1 N1 f1 xs.length xs from h1.of_blocks rfl rfl).snoc (by omega) hlt ⟨a0, a1, a2, a3, a4, a5⟩
    rw [← ek, ← en, encPk_list] at h2
    exact RingsP.intro h2 ((Chg.of_below HW.out.2.2.2.2.2 r g).trans (hg1.trans (((((((((Chg.refl w1 r g1).drewN nd).setG _ _).setG _ _).setG _ _).setG _ _).setG _ _).setG _ _).setR 2 _) hg2) (.inl rfl)) hgw
  have n1 : ¬ v = g1 := by
    have := HW.out.2.2.2
    rcases hg2 with e | e | e <;> omega
  have n2 : ¬ g1 = v := fun e => n1 e.symm
  rw [← en] at c2 hx
  clear h1 hg1 hg2 ek hlt en hv hgw
  go_wp2_with fail
  go_region_held3 (fun w' => w'.cell? ⟨r, 0, none⟩ = some (.slice (some ⟨g1, 0, none⟩) N1 N1) ∧ w'.cell? ⟨r, 2, none⟩ = some (.int .i64 (n : Int)) ∧ w'.cell? ⟨v, 0, none⟩ = some (.int .i64 a0) ∧ w'.cell? ⟨v, 1, none⟩ = some (.int .i64 a1) ∧ w'.cell? ⟨v, 2, none⟩ = some (.int .i64 a2) ∧ w'.cell? ⟨v, 3, none⟩ = some (.int .i64 a3) ∧ w'.cell? ⟨v, 4, none⟩ = some (.int .i64 a4) ∧ w'.cell? ⟨v, 5, none⟩ = some (.int .i64 a5)) (first | (simp [go_sem, *]; done) | (trace_state; fail))
    (first
      | (go_at_call 45; refine Calls.mono (IX.out 1) ?_; rintro e w1 ⟨rfl, n, rfl⟩))
  go_wp2_with fail
  exact bodyPost_end (v := .tuple #[]) (by simp [results, Try.results30, go_sem]) rfl ⟨rfl, FH.out _⟩
end Go.Proofs.Ytcndbmccediknaa
