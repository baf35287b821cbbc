/- Contracts of the program's functions, part 37: own work, joined in build order. -/
import Derived.Test.YtjnfcihichaonaaJ36
namespace Go.Proofs.Ytjnfcihichaonaa
open Go.RowKit
set_option maxRecDepth 100000
set_option linter.unusedVariables false
theorem i64_mask (n : Int) (k : Nat) (hk : k ≤ 40) (m : Int) (hm : m = ((2 ^ k : Nat) : Int) - 1) : bits .and .i64 n m = n % ((2 ^ k : Nat) : Int) := by
  subst hm
  have hp : 2 ^ k ≤ 2 ^ 40 := Nat.pow_le_pow_right (by decide) hk
  have hp0 : 0 < 2 ^ k := Nat.pow_pos (by decide)
  have h127 : (BitVec.ofInt 64 (((2 ^ k : Nat) : Int) - 1)).toNat = 2 ^ k - 1 := by
    rw [BitVec.toNat_ofInt]
    omega
  have key : (BitVec.ofInt 64 n &&& BitVec.ofInt 64 (((2 ^ k : Nat) : Int) - 1)).toNat = (n % ((2 ^ 64 : Nat) : Int)).toNat % 2 ^ k := by
    rw [BitVec.toNat_and, BitVec.toNat_ofInt, h127, Nat.and_two_pow_sub_one_eq_mod]
  show IntKind.i64.wrap ((BitVec.ofInt 64 n &&& BitVec.ofInt 64 (((2 ^ k : Nat) : Int) - 1)).toNat : Nat) = n % ((2 ^ k : Nat) : Int)
  have hd : (2 ^ k : Nat) ∣ 2 ^ 64 := Nat.pow_dvd_pow 2 (by omega)
  have e1 : (((n % ((2 ^ 64 : Nat) : Int)).toNat % 2 ^ k : Nat) : Int) = n % ((2 ^ k : Nat) : Int) := by
    rw [Int.natCast_emod, Int.toNat_of_nonneg (Int.emod_nonneg _ (by decide))]
    exact Int.emod_emod_of_dvd _ (by exact_mod_cast hd)
  rw [key, e1, IntKind.wrap_i64]
  have h1 := Int.emod_nonneg n (show ((2 ^ k : Nat) : Int) ≠ 0 by omega)
  have h2 := Int.emod_lt_of_pos n (show (0 : Int) < ((2 ^ k : Nat) : Int) by omega)
  omega
/-- Between two calls: a heap of n things, of which pu were laid in. -/
structure Mn (w W : World) (xb hb ob : Nat) (md : Int) (n : Nat) (pu : Int) (R : (Nat → Nat) → (Nat → Int) → (Nat → Int) → Prop) : Prop where
  pair : W.heap[xb]? = some (.cells #[.pointer (some ⟨hb, 0, none⟩), .pointer (some ⟨ob, 0, none⟩)] 26)
  ge : w.heap.size ≤ xb
  ex : ∃ a cap mb nn f it ke va N, HsI W w.heap.size hb ob a n cap mb nn pu f it ke va ∧ Ordr W ob (.slice none 0 0) 0 md false 0 N ∧ Ord (leB md false it ke) n f n ∧ N ≤ 1000 ∧ R f it ke
  bel : Below w.heap.size w W
theorem Mn.cells {w W : World} {xb hb ob : Nat} {md : Int} {n : Nat} {pu : Int} {R : (Nat → Nat) → (Nat → Int) → (Nat → Int) → Prop} (h : Mn w W xb hb ob md n pu R) : W.cell? ⟨xb, 0, none⟩ = some (.pointer (some ⟨hb, 0, none⟩)) ∧ W.cell? ⟨xb, 1, none⟩ = some (.pointer (some ⟨ob, 0, none⟩)) ∧ (∃ N : Int, W.cell? ⟨ob, 5, none⟩ = some (.int .i64 N)) ∧ W.frozen? ⟨ob, 5, none⟩ = false := by
  obtain ⟨a, cap, mb, nn, f, it, ke, va, N, hS, hO, _⟩ := h.ex
  exact ⟨by simp [World.cell?, h.pair], by simp [World.cell?, h.pair], ⟨_, hO.cells.2.2.2.2.2⟩, by simp [World.frozen?, hO.at']⟩
theorem Mn.weak {w W : World} {xb hb ob : Nat} {md : Int} {n : Nat} {pu : Int} {R R' : (Nat → Nat) → (Nat → Int) → (Nat → Int) → Prop} (h : Mn w W xb hb ob md n pu R) (hr : ∀ f it ke, R f it ke → R' f it ke) : Mn w W xb hb ob md n pu R' := by
  obtain ⟨a, cap, mb, nn, f, it, ke, va, N, h1, h2, h3, h4, h5⟩ := h.ex
  exact ⟨h.pair, h.ge, ⟨a, cap, mb, nn, f, it, ke, va, N, h1, h2, h3, h4, hr _ _ _ h5⟩, h.bel⟩
theorem Mn.mono {w W W' : World} {xb hb ob : Nat} {md : Int} {n : Nat} {pu : Int} {R : (Nat → Nat) → (Nat → Int) → (Nat → Int) → Prop} (h : Mn w W xb hb ob md n pu R) (hB : Below W.heap.size W W') : Mn w W' xb hb ob md n pu R := by
  obtain ⟨a, cap, mb, nn, f, it, ke, va, N, h1, h2, h3, h4, h5⟩ := h.ex
  exact ⟨(hB.block _ (Array.getElem?_eq_some_iff.1 h.pair).1).trans h.pair, h.ge, ⟨a, cap, mb, nn, f, it, ke, va, N, h1.keep fun k o e _ _ => hB.block k (Array.getElem?_eq_some_iff.1 e).1, h2.kept (hB.block _ h2.lt), h3, h4, h5⟩, h.bel.trans (hB.mono h.bel.size)⟩
/-- The count is set to 0. -/
theorem Mn.zero {w W : World} {xb hb ob : Nat} {md : Int} {n : Nat} {pu : Int} {R : (Nat → Nat) → (Nat → Int) → (Nat → Int) → Prop} (h : Mn w W xb hb ob md n pu R) : ∃ a cap mb nn f it ke va, HsI (W.setCell ⟨ob, 5, none⟩ (.int .i64 0)) w.heap.size hb ob a n cap mb nn pu f it ke va ∧ Ordr (W.setCell ⟨ob, 5, none⟩ (.int .i64 0)) ob (.slice none 0 0) 0 md false 0 0 ∧ Ord (leB md false it ke) n f n ∧ R f it ke ∧ Below w.heap.size w (W.setCell ⟨ob, 5, none⟩ (.int .i64 0)) ∧ (W.setCell ⟨ob, 5, none⟩ (.int .i64 0)).heap[xb]? = some (.cells #[.pointer (some ⟨hb, 0, none⟩), .pointer (some ⟨ob, 0, none⟩)] 26) := by
  obtain ⟨a, cap, mb, nn, f, it, ke, va, N, hS, hO, hR, _, hQ⟩ := h.ex
  refine ⟨a, cap, mb, nn, f, it, ke, va, hS.keep fun k o e h1 h2 => Below.heap_setCell _ _ _ k fun e2 => ?_, hO.ask 0, hR, hQ, h.bel.setCell hS.ge.2.1 _, (Below.heap_setCell _ _ _ xb (ne_of_type h.pair hO.at' (by decide))).trans h.pair⟩
  have e3 : k = ob := e2
  rw [e3, hO.at'] at e
  injection e with e
  exact h1 _ e.symm
theorem hs_ge {W : World} {base hb ob : Nat} {a : Option Addr} {n cap mb nn : Nat} {pu : Int} {f : Nat → Nat} {it ke va : Nat → Int} (h : HsI W base hb ob a n cap mb nn pu f it ke va) : ∀ k, (k = hb ∨ k = mb ∨ k = ob ∨ (Value.slice a n cap).ownBlock = some k ∨ Img n f n k) → base ≤ k := by
  rintro k (e | e | e | e | e)
  · rw [e]; exact h.ge.1
  · rw [e]; exact h.ge.2.2.1
  · rw [e]; exact h.ge.2.1
  · exact (h.own e).1
  · obtain ⟨i, hi, _, rfl⟩ := e
    exact h.ge.2.2.2 i hi
theorem hs_pair {W : World} {base hb ob xb : Nat} {a : Option Addr} {n cap mb nn : Nat} {pu : Int} {f : Nat → Nat} {it ke va : Nat → Int} {lv : Value} {nx mod : Int} {tur : Bool} {lies : Int} {N : Nat} {cs : Array Value} (h : HsI W base hb ob a n cap mb nn pu f it ke va) (ho : Ordr W ob lv nx mod tur lies N) (hp : W.heap[xb]? = some (.cells cs 26)) : ¬ (xb = hb ∨ xb = mb ∨ xb = ob ∨ (Value.slice a n cap).ownBlock = some xb ∨ Img n f n xb) := by
  obtain ⟨g, hm, _⟩ := h.map
  obtain ⟨es, ck, hmb⟩ := hm.block
  rintro (e | e | e | e | e)
  · exact ne_of_type hp h.hd (by decide) e
  · exact map_ne hmb hp e.symm
  · exact ne_of_type hp ho.at' (by decide) e
  · obtain ⟨_, cs2, e2⟩ := h.own e
    exact ne_of_type hp e2 (by decide) rfl
  · obtain ⟨i, hi, _, e2⟩ := e
    exact ne_of_type hp (h.pl i hi) (by decide) e2.symm
/-- One thing more. -/
theorem Mn.push {w W : World} {xb hb ob : Nat} {md : Int} {i : Nat} (h : Mn w W xb hb ob md i (i : Int) (fun _ _ _ => True)) (k : Int) (hi : i < 2047) (hk : 0 ≤ k) (hk2 : k ≤ 2000) : Calls Try.prog 13 #[.pointer (some ⟨hb, 0, none⟩), .int .i64 k, .int .i64 (i : Int)] (W.setCell ⟨ob, 5, none⟩ (.int .i64 0)) fun e w' => (∃ v, e = .returned (.int .i64 v)) ∧ Mn w w' xb hb ob md (i + 1) ((i + 1 : Nat) : Int) (fun _ _ _ => True) ∧ ∃ M : Nat, w'.cell? ⟨ob, 5, none⟩ = some (.int .i64 (M : Int)) ∧ ∀ d, i < 2 ^ d → M ≤ 12 * d + 12 := by
  obtain ⟨a, cap, mb, nn, f, it, ke, va, hS, hO, hR, _, hB, hp⟩ := h.zero
  refine (pushI_any k (i : Int) _ hS hO (by omega) (by omega) (by omega) (by omega) (by omega) hB.size).mono ?_
  rintro e w' ⟨rfl, a', cap', f', M, q1, q2, q3, q4, q5, q6, q7⟩
  have hM : M ≤ 1000 := by
    have h1 : M ≤ 12 * 11 + 12 := few_pushed (n := i) (d := 11) q4 (by omega)
    omega
  have e1 : (i : Int) + 1 = ((i + 1 : Nat) : Int) := by omega
  rw [e1] at q1 q5
  refine ⟨⟨_, rfl⟩, ⟨(q7.block xb (Array.getElem?_eq_some_iff.1 hp).1 (hs_pair hS hO hp)).trans hp, h.ge, ⟨a', cap', mb, nn + 1, f', _, _, _, M, q1, q2, q5 rfl hR, hM, trivial⟩, tn_below hB q7.toTn (hs_ge hS)⟩, M, q2.cells.2.2.2.2.2, fun d hd => few_pushed (n := i) q4 hd⟩
/-- All that lie in it come behind what came out last. -/
def Rst (md : Int) (n : Nat) (last frm : Int) (f : Nat → Nat) (it ke : Nat → Int) : Prop := ∀ b, Img n f n b → rk md false last < rk md false (ke b) ∨ (rk md false last = rk md false (ke b) ∧ frm ≤ it b)
/-- The first one comes out. -/
theorem Mn.pop {w W : World} {xb hb ob : Nat} {md : Int} {n : Nat} {pu last frm : Int} {c : Prop} (h : Mn w W xb hb ob md (n + 1) pu (fun f it ke => c → Rst md (n + 1) last frm f it ke)) (hn : n < 2047) : Calls Try.prog 19 #[.pointer (some ⟨hb, 0, none⟩)] (W.setCell ⟨ob, 5, none⟩ (.int .i64 0)) fun e w' => ∃ i k v, e = .returned (.tuple #[.int .i64 i, .int .i64 k, .int .i64 v, .bool true]) ∧ (-9223372036854775808 ≤ k ∧ k ≤ 9223372036854775807) ∧ (c → rk md false last < rk md false k ∨ (rk md false last = rk md false k ∧ frm ≤ i)) ∧ Mn w w' xb hb ob md n pu (fun f it ke => True → Rst md n k i f it ke) ∧ ∃ M : Nat, w'.cell? ⟨ob, 5, none⟩ = some (.int .i64 (M : Int)) ∧ ∀ d, n < 2 ^ d → M ≤ 12 * d + 12 := by
  obtain ⟨a, cap, mb, nn, f, it, ke, va, hS, hO, hR, hQ, hB, hp⟩ := h.zero
  refine (popMinI_any _ hS hO (by omega) hB.size).mono ?_
  rintro e w' ⟨rfl, a', cap', mb', nn', f', M, q1, q2, q3, q4, q5, q6, q7, q8⟩
  have hM : M ≤ 1000 := by
    have h1 : M ≤ 12 * 11 + 12 := few_asked (n := n) (d := 11) q4 (by omega)
    omega
  have h0 : Img (n + 1) f (n + 1) (f 0) := ⟨0, by omega, by omega, rfl⟩
  refine ⟨_, _, _, rfl, hS.wf 0 (by omega), fun hc => hQ hc _ h0, ⟨(q7.block xb (Array.getElem?_eq_some_iff.1 hp).1 (hs_pair hS hO hp)).trans hp, h.ge, ⟨a', cap', mb', nn', f', it, ke, va, M, q1, q2, q5 rfl hR, hM, fun _ b hb' => ?_⟩, tn_below hB q7.toTn (hs_ge hS)⟩, M, q2.cells.2.2.2.2.2, fun d hd => few_asked (n := n) q4 hd⟩
  exact ord_min (leB_total _ _ _ _) hR ((q6 b).1 hb').1
end Go.Proofs.Ytjnfcihichaonaa
