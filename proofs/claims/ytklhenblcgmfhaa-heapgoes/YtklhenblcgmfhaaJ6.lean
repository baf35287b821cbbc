/- Contracts of the program's functions, part 6: own work, joined in build order. -/
import Derived.Test.YtklhenblcgmfhaaJ5
import Derived.Shelf.SlSortCmp.QuietGrown
import Derived.Maps.AppendAt
import Derived.Laws.AppendOwnNone
import Derived.Laws.MakeOwn
import Derived.Shelf.SlSortCmp.InsertionK
import Derived.RangeFuncNested
import Derived.RangeFuncBound
import Derived.RangeFuncCalls
import Derived.RangeFuncLeaves
import Derived.Shelf.Abstract
import Derived.Shelf.RegionOpen
import Derived.OwnWalkIn
import Derived.TacticsInMore
import Derived.LoopNIn
import Derived.LoopIn
import Derived.Stop.RegionWithIn
namespace Go.Proofs.Ytklhenblcgmfhaa
open Go.RowKit
set_option maxRecDepth 100000
set_option linter.unusedVariables false
/-- A block of another kind than a heap's. -/
def Oth (o : Obj) : Prop := ∃ cs t z, o = .cells cs t z ∧ t ≠ 70 ∧ t ≠ 57 ∧ t ≠ 77 ∧ t ≠ 81
/-- The blocks of a heap and of its order. -/
def Bk (W : World) (hb ob k : Nat) : Prop := k = hb ∨ k = ob ∨ W.cell? ⟨hb, 2, none⟩ = some (.map (some k)) ∨ ∃ a n c, W.cell? ⟨hb, 1, none⟩ = some (.slice a n c) ∧ ((Value.slice a n c).ownBlock = some k ∨ ∃ g j, a = some ⟨g, 0, none⟩ ∧ j < n ∧ W.cell? ⟨g, j, none⟩ = some (.pointer (some ⟨k, 0, none⟩)))
theorem HsI.bk {W : World} {base hb ob : Nat} {a : Option Addr} {n cap mb nn : Nat} {pu : Int} {f : Nat → Nat} {it ke va : Nat → Int} (h : HsI W base hb ob a n cap mb nn pu f it ke va) (k : Nat) : Bk W hb ob k ↔ (k = hb ∨ k = mb ∨ k = ob ∨ (Value.slice a n cap).ownBlock = some k ∨ Img n f n k) := by
  obtain ⟨c1, c2, _, _⟩ := h.cells
  have ptr : ∀ g j, a = some ⟨g, 0, none⟩ → j < n → W.cell? ⟨g, j, none⟩ = some (.pointer (some ⟨f j, 0, none⟩)) := fun g j e hj => by
    obtain ⟨gp, e2, _, _, _, cs, e3, _, e4⟩ := h.some' (by omega)
    rw [e] at e2
    cases e2
    simp [World.cell?, e3, e4 j hj]
  unfold Bk
  rw [c1, c2]
  constructor
  · rintro (e | e | e | ⟨a', n', c', e, e2 | ⟨g, j, e2, hj, e3⟩⟩)
    · exact .inl e
    · exact .inr (.inr (.inl e))
    · cases e
      exact .inr (.inl rfl)
    · cases e
      exact .inr (.inr (.inr (.inl e2)))
    · cases e
      rw [ptr g j e2 hj] at e3
      cases e3
      exact .inr (.inr (.inr (.inr ⟨j, hj, by omega, rfl⟩)))
  · rintro (e | e | e | e | ⟨j, hj, _, rfl⟩)
    · exact .inl e
    · subst e
      exact .inr (.inr (.inl rfl))
    · exact .inr (.inl e)
    · exact .inr (.inr (.inr ⟨_, _, _, rfl, .inl e⟩))
    · obtain ⟨gp, e2, _⟩ := h.some' (by omega)
      exact .inr (.inr (.inr ⟨_, _, _, rfl, .inr ⟨gp, j, e2, hj, ptr gp j e2 hj⟩⟩))
/-- From W to W' nothing turned below base, no block of another kind, and none but the heap's own. -/
structure Fr (hb ob base : Nat) (W W' : World) : Prop where
  bel : Below base W W'
  oth : ∀ (k : Nat) (o : Obj), W.heap[k]? = some o → Oth o → W'.heap[k]? = some o
  own : ∀ k, k < W.heap.size → ¬ Bk W hb ob k → W'.heap[k]? = W.heap[k]?
  new : ∀ k, Bk W' hb ob k → Bk W hb ob k ∨ W.heap.size ≤ k
theorem Fr.refl (hb ob base : Nat) (W : World) : Fr hb ob base W W := ⟨Below.refl _ _, fun _ _ h _ => h, fun _ _ _ => rfl, fun _ h => .inl h⟩
theorem Fr.trans {hb ob base : Nat} {a b c : World} (h : Fr hb ob base a b) (k : Fr hb ob base b c) : Fr hb ob base a c := by
  refine ⟨h.bel.trans k.bel, fun x o e ho => k.oth x o (h.oth x o e ho) ho, fun x hx hn => (k.own x (Nat.lt_of_lt_of_le hx h.bel.size) fun e => ?_).trans (h.own x hx hn), fun x hx => ?_⟩
  · rcases h.new x e with h1 | h1
    · exact hn h1
    · omega
  · rcases k.new x hx with h1 | h1
    · exact h.new x h1
    · exact .inr (Nat.le_trans h.bel.size h1)
theorem Fr.of_tn {base hb ob : Nat} {W W' : World} {a : Option Addr} {n cap mb nn : Nat} {pu : Int} {f : Nat → Nat} {it ke va : Nat → Int} {lv : Value} {nx mod : Int} {tur : Bool} {lies : Int} {N : Nat} (h : HsI W base hb ob a n cap mb nn pu f it ke va) (ho : Ordr W ob lv nx mod tur lies N) (hb0 : base ≤ W.heap.size) (hT : Tn (fun k => k = hb ∨ k = mb ∨ k = ob ∨ (Value.slice a n cap).ownBlock = some k ∨ Img n f n k) W W') (hnew : ∀ k, Bk W' hb ob k → Bk W hb ob k ∨ W.heap.size ≤ k) : Fr hb ob base W W' := by
  refine ⟨⟨hT.os, hT.tape, hT.output, hT.size, fun k hk => hT.block k (by omega) fun e => ?_⟩, fun k o e ht => ?_, fun k hk hn => hT.block k hk fun e => hn ((h.bk k).2 e), hnew⟩
  · have := hs_ge h k e
    omega
  · obtain ⟨cs, t, z, rfl, t1, t2, t3, t4⟩ := ht
    refine (hT.block k (Array.getElem?_eq_some_iff.1 e).1 fun e2 => ?_).trans e
    obtain ⟨g, hm, _⟩ := h.map
    obtain ⟨es, ck, hmb⟩ := hm.block
    rcases e2 with rfl | rfl | rfl | e2 | e2
    · rw [h.hd] at e
      cases e
      exact t1 rfl
    · rw [hmb] at e
      cases e
    · rw [ho.at'] at e
      cases e
      exact t2 rfl
    · obtain ⟨_, cs2, e3⟩ := h.own e2
      rw [e3] at e
      cases e
      exact t3 rfl
    · obtain ⟨i, hi, _, rfl⟩ := e2
      rw [h.pl i hi] at e
      cases e
      exact t4 rfl
/-- The table with one row changed. -/
def updT (T : Int → Option (Int × Int)) (i : Int) (o : Option (Int × Int)) : Int → Option (Int × Int) := fun j => if j = i then o else T j
/-- The one comes ahead of the other, or is it. -/
def leT (md : Int) (tur : Bool) (i k j l : Int) : Prop := rk md tur k < rk md tur l ∨ (rk md tur k = rk md tur l ∧ i ≤ j)
/-- A heap: n things, by their numbers. -/
structure Hp (base : Nat) (W : World) (hb ob : Nat) (lv : Value) (nx md : Int) (tur : Bool) (lies : Int) (N n : Nat) (pu : Int) (T : Int → Option (Int × Int)) : Prop where
  ex : ∃ a cap mb nn f it ke va, HsI W base hb ob a n cap mb nn pu f it ke va ∧ (lies = 0 → Ord (leB md tur it ke) n f n) ∧ ∀ i k v, T i = some (k, v) ↔ ∃ b, Img n f n b ∧ it b = i ∧ ke b = k ∧ va b = v
  od : Ordr W ob lv nx md tur lies N
  le : base ≤ W.heap.size
section
variable {base : Nat} {W W' : World} {hb ob : Nat} {lv : Value} {nx md : Int} {tur : Bool} {lies : Int} {N n : Nat} {pu : Int} {T : Int → Option (Int × Int)}
theorem Hp.keep (h : Hp base W hb ob lv nx md tur lies N n pu T) (hB : Below W.heap.size W W') : Hp base W' hb ob lv nx md tur lies N n pu T := by
  obtain ⟨a, cap, mb, nn, f, it, ke, va, h1, h2, h3⟩ := h.ex
  exact ⟨⟨a, cap, mb, nn, f, it, ke, va, h1.keep fun k o e _ _ => hB.block k (Array.getElem?_eq_some_iff.1 e).1, h2, h3⟩, h.od.kept (hB.block _ h.od.lt), Nat.le_trans h.le hB.size⟩
theorem Hp.bk_keep (h : Hp base W hb ob lv nx md tur lies N n pu T) (hk : ∀ (k : Nat) (o : Obj), W.heap[k]? = some o → (∀ cs, o ≠ .cells cs 57) → (∀ cs, o ≠ .cells cs 26) → W'.heap[k]? = W.heap[k]?) (k : Nat) : Bk W' hb ob k ↔ Bk W hb ob k := by
  obtain ⟨a, cap, mb, nn, f, it, ke, va, h1, h2, h3⟩ := h.ex
  exact ((h1.keep hk).bk k).trans (h1.bk k).symm
theorem Fr.of_below (hB : Below W.heap.size W W') (h : Hp base W hb ob lv nx md tur lies N n pu T) : Fr hb ob base W W' :=
  ⟨hB.mono h.le, fun k o e _ => (hB.block k (Array.getElem?_eq_some_iff.1 e).1).trans e, fun k hk _ => hB.block k hk, fun k hk => .inl ((h.bk_keep (fun k o e _ _ => hB.block k (Array.getElem?_eq_some_iff.1 e).1) k).1 hk)⟩
theorem Hp.range (h : Hp base W hb ob lv nx md tur lies N n pu T) {i k v : Int} (e : T i = some (k, v)) : 1 ≤ i ∧ i ≤ pu ∧ -9223372036854775808 ≤ k ∧ k ≤ 9223372036854775807 := by
  obtain ⟨a, cap, mb, nn, f, it, ke, va, h1, h2, h3⟩ := h.ex
  obtain ⟨b, ⟨j, hj, _, rfl⟩, rfl, rfl, rfl⟩ := (h3 _ _ _).1 e
  have q1 := h1.itr j hj
  have q2 := h1.wf j hj
  omega
theorem Hp.pus (h : Hp base W hb ob lv nx md tur lies N n pu T) : 0 ≤ pu ∧ pu ≤ 1000000000 := by
  obtain ⟨a, cap, mb, nn, f, it, ke, va, h1, h2, h3⟩ := h.ex
  exact ⟨h1.pu0, h1.pu1⟩
/-- Another block is written. -/
theorem Hp.other (h : Hp base W hb ob lv nx md tur lies N n pu T) (hk : ∀ (k : Nat) (o : Obj), W.heap[k]? = some o → ¬ Oth o → W'.heap[k]? = some o) (hz : base ≤ W'.heap.size) : Hp base W' hb ob lv nx md tur lies N n pu T := by
  obtain ⟨a, cap, mb, nn, f, it, ke, va, h1, h2, h3⟩ := h.ex
  have q1 : ∀ (k : Nat) (cs : Array Value) (t : TypeId), W.heap[k]? = some (.cells cs t) → (t = 70 ∨ t = 57 ∨ t = 77 ∨ t = 81) → W'.heap[k]? = W.heap[k]? := fun k cs t e ht => (hk k _ e (by
    rintro ⟨cs2, t2, z2, e2, n1, n2, n3, n4⟩
    cases e2
    rcases ht with e | e | e | e
    · exact n1 e
    · exact n2 e
    · exact n3 e
    · exact n4 e)).trans e.symm
  refine ⟨⟨a, cap, mb, nn, f, it, ke, va, ?_, h2, h3⟩, h.od.kept (q1 _ _ _ h.od.at' (.inr (.inl rfl))), hz⟩
  refine { h1 with hd := (q1 _ _ _ h1.hd (.inl rfl)).trans h1.hd, row := own_kept h1.row fun k hk2 => ?_, pl := fun i hi => (q1 _ _ _ (h1.pl i hi) (.inr (.inr (.inr rfl)))).trans (h1.pl i hi), mp := ?_ }
  · obtain ⟨_, cs, e⟩ := h1.own hk2
    exact q1 _ _ _ e (.inr (.inr (.inl rfl)))
  · obtain ⟨g, hm, hg⟩ := h1.mp
    obtain ⟨es, ck, hmb⟩ := hm.block
    exact ⟨g, hm.kept ((hk _ _ hmb (by rintro ⟨_, _, _, e2, _⟩; cases e2)).trans hmb.symm), hg⟩
theorem Hp.bk_other (h : Hp base W hb ob lv nx md tur lies N n pu T) (hk : ∀ (k : Nat) (o : Obj), W.heap[k]? = some o → ¬ Oth o → W'.heap[k]? = some o) (k : Nat) : Bk W' hb ob k ↔ Bk W hb ob k := by
  obtain ⟨a, cap, mb, nn, f, it, ke, va, h1, h2, h3⟩ := h.ex
  have q1 : ∀ (k : Nat) (cs : Array Value) (t : TypeId), W.heap[k]? = some (.cells cs t) → (t = 70 ∨ t = 77) → W'.heap[k]? = W.heap[k]? := fun k cs t e ht => (hk k _ e (by
    rintro ⟨cs2, t2, z2, e2, n1, n2, n3, n4⟩
    cases e2
    rcases ht with e | e
    · exact n1 e
    · exact n3 e)).trans e.symm
  have c : ∀ i, W'.cell? ⟨hb, i, none⟩ = W.cell? ⟨hb, i, none⟩ := fun i => World.cell?_of_block (q1 _ _ _ h1.hd (.inl rfl))
  have r : ∀ g, (Value.slice a n cap).ownBlock = some g → ∀ i, W'.cell? ⟨g, i, none⟩ = W.cell? ⟨g, i, none⟩ := fun g hg i => by
    obtain ⟨_, cs, e⟩ := h1.own hg
    exact World.cell?_of_block (q1 _ _ _ e (.inr rfl))
  unfold Bk
  rw [c, c, h1.cells.1]
  refine or_congr Iff.rfl (or_congr Iff.rfl (or_congr Iff.rfl ⟨?_, ?_⟩))
  · rintro ⟨a', n', c', e, e2 | ⟨g, j, e2, hj, e3⟩⟩
    · exact ⟨a', n', c', e, .inl e2⟩
    · cases e
      exact ⟨_, _, _, rfl, .inr ⟨g, j, e2, hj, by rw [← r g (by rw [e2]; rfl)]; exact e3⟩⟩
  · rintro ⟨a', n', c', e, e2 | ⟨g, j, e2, hj, e3⟩⟩
    · exact ⟨a', n', c', e, .inl e2⟩
    · cases e
      exact ⟨_, _, _, rfl, .inr ⟨g, j, e2, hj, by rw [r g (by rw [e2]; rfl)]; exact e3⟩⟩
/-- So seldom. -/
theorem pow_few {M N n d : Nat} (h : 2 ^ (M - N) ≤ 4 * (n + 1) * (n + 1)) (hn : n < 2 ^ d) : M ≤ N + (12 * d + 12) := by
  have := few_asked h hn
  omega
theorem Hp.push (h : Hp base W hb ob lv nx md tur lies N n pu T) (k v : Int) (hn : n < 100000) (hpu : pu < 100000) (hN : N < 999999999) (hk : -9223372036854775808 ≤ k) (hk2 : k ≤ 9223372036854775807) :
    Calls Try.prog 13 #[.pointer (some ⟨hb, 0, none⟩), .int .i64 k, .int .i64 v] W fun e w' => e = .returned (.int .i64 (pu + 1)) ∧ ∃ M, Hp base w' hb ob lv nx md tur lies M (n + 1) (pu + 1) (updT T (pu + 1) (some (k, v))) ∧ N ≤ M ∧ 2 ^ (M - N) ≤ 4 * (n + 1) ∧ Fr hb ob base W w' := by
  obtain ⟨a, cap, mb, nn, f, it, ke, va, h1, h2, h3⟩ := h.ex
  refine (pushI_any k v _ h1 h.od (by omega) (by omega) (by omega) hk hk2 h.le).mono ?_
  rintro e w' ⟨rfl, a', cap', f', M, q1, q2, q3, q4, q5, q6, q7⟩
  have old : ∀ b, Img n f n b → b ≠ W.heap.size := fun b hb' => by
    obtain ⟨i, hi, _, rfl⟩ := hb'
    have := (Array.getElem?_eq_some_iff.1 (h1.pl i hi)).1
    omega
  have oit : ∀ b, Img n f n b → it b ≠ pu + 1 := fun b hb' => by
    obtain ⟨i, hi, _, rfl⟩ := hb'
    have := h1.itr i hi
    omega
  refine ⟨rfl, M, ⟨⟨a', cap', mb, nn + 1, f', _, _, _, q1, fun e => q5 e (h2 e), fun i k' v' => ?_⟩, q2, Nat.le_trans h.le q7.size⟩, q3, q4, Fr.of_tn h1 h.od h.le q7.toTn fun k hk => ?_⟩
  rotate_left
  · rw [q1.bk] at hk
    rw [h1.bk]
    rcases hk with e | e | e | e | e
    · exact .inl (.inl e)
    · exact .inl (.inr (.inl e))
    · exact .inl (.inr (.inr (.inl e)))
    · rcases q7.new k e with h5 | h5
      · exact .inr h5
      · exact .inl (.inr (.inr (.inr (.inl h5))))
    · rcases (q6 k).1 e with h5 | h5
      · exact .inl (.inr (.inr (.inr (.inr h5))))
      · exact .inr (by omega)
  unfold updT
  split
  · rename_i e
    subst e
    constructor
    · intro e
      cases e
      exact ⟨_, (q6 _).2 (.inr rfl), upN_eq, upN_eq, upN_eq⟩
    · rintro ⟨b, hb', e1, e2, e3⟩
      rcases (q6 b).1 hb' with h5 | rfl
      · rw [upN_ne (old b h5)] at e1
        exact absurd e1 (oit b h5)
      · rw [upN_eq] at e2 e3
        rw [e2, e3]
  · rename_i hne
    rw [h3]
    constructor
    · rintro ⟨b, hb', e1, e2, e3⟩
      exact ⟨b, (q6 b).2 (.inl hb'), by rw [upN_ne (old b hb')]; exact e1, by rw [upN_ne (old b hb')]; exact e2, by rw [upN_ne (old b hb')]; exact e3⟩
    · rintro ⟨b, hb', e1, e2, e3⟩
      rcases (q6 b).1 hb' with h5 | rfl
      · rw [upN_ne (old b h5)] at e1 e2 e3
        exact ⟨b, h5, e1, e2, e3⟩
      · rw [upN_eq] at e1
        exact absurd e1.symm hne
/-- What is left where x came out. -/
theorem Hp.taken {a : Option Addr} {cap mb nn : Nat} {f : Nat → Nat} {it ke va : Nat → Int} {x : Nat} (hle : base ≤ W.heap.size) (ho : Ordr W ob lv nx md tur lies N) (h1 : HsI W base hb ob a (n + 1) cap mb nn pu f it ke va) (h2 : lies = 0 → Ord (leB md tur it ke) (n + 1) f (n + 1)) (h3 : ∀ i k v, T i = some (k, v) ↔ ∃ b, Img (n + 1) f (n + 1) b ∧ it b = i ∧ ke b = k ∧ va b = v) (hx : Img (n + 1) f (n + 1) x) (ht : TakI W base hb ob a n cap mb pu f it ke va lv nx md tur lies N x W') :
    ∃ M, Hp base W' hb ob lv nx md tur lies M n pu (updT T (it x) none) ∧ T (it x) = some (ke x, va x) ∧ N ≤ M ∧ 2 ^ (M - N) ≤ 4 * (n + 1) * (n + 1) ∧ Fr hb ob base W W' := by
  obtain ⟨a', cap', mb', nn', f', M, q1, q2, q3, q4, q5, q6, q7, q8⟩ := ht
  refine ⟨M, ⟨⟨a', cap', mb', nn', f', it, ke, va, q1, fun e => q5 e (h2 e), fun i k v => ?_⟩, q2, Nat.le_trans hle q7.size⟩, (h3 _ _ _).2 ⟨x, hx, rfl, rfl, rfl⟩, q3, q4, Fr.of_tn h1 ho hle q7.toTn fun k hk => ?_⟩
  rotate_left
  · rw [q1.bk] at hk
    rw [h1.bk]
    rcases hk with e | e | e | e | e
    · exact .inl (.inl e)
    · rcases q7.new.2 with h5 | h5
      · exact .inr (by omega)
      · exact .inl (.inr (.inl (e.trans h5)))
    · exact .inl (.inr (.inr (.inl e)))
    · rcases q7.new.1 k e with h5 | h5
      · exact .inr h5
      · exact .inl (.inr (.inr (.inr (.inl h5))))
    · exact .inl (.inr (.inr (.inr (.inr ((q6 k).1 e).1))))
  have inj : ∀ b, Img (n + 1) f (n + 1) b → it b = it x → b = x := fun b hb' e => by
    obtain ⟨i, hi, _, rfl⟩ := hb'
    obtain ⟨j, hj, _, rfl⟩ := hx
    rw [h1.iti i j hi hj e]
  unfold updT
  split
  · rename_i e
    subst e
    constructor
    · intro e
      cases e
    · rintro ⟨b, hb', e1, _, _⟩
      exact absurd (inj b ((q6 b).1 hb').1 e1) ((q6 b).1 hb').2
  · rename_i hne
    rw [h3]
    constructor
    · rintro ⟨b, hb', e1, e2, e3⟩
      exact ⟨b, (q6 b).2 ⟨hb', fun e => hne (by rw [← e1, e])⟩, e1, e2, e3⟩
    · rintro ⟨b, hb', e⟩
      exact ⟨b, ((q6 b).1 hb').1, e⟩
/-- A thing came out: which, of which none is ahead (behind), what is left. -/
def Outs (base : Nat) (W : World) (hb ob : Nat) (lv : Value) (nx md : Int) (tur : Bool) (lies : Int) (N n : Nat) (pu : Int) (T : Int → Option (Int × Int)) (up : Bool) (e : Ending) (w' : World) : Prop :=
  ∃ i k v M, e = .returned (.tuple #[.int .i64 i, .int .i64 k, .int .i64 v, .bool true]) ∧ T i = some (k, v) ∧ Hp base w' hb ob lv nx md tur lies M n pu (updT T i none) ∧ N ≤ M ∧ 2 ^ (M - N) ≤ 4 * (n + 1) * (n + 1) ∧ Fr hb ob base W w' ∧
    (lies = 0 → ∀ j l u, T j = some (l, u) → if up then leT md tur j l i k else leT md tur i k j l)
theorem Hp.popMin (h : Hp base W hb ob lv nx md tur lies N (n + 1) pu T) (hN : N < 999999999) :
    Calls Try.prog 19 #[.pointer (some ⟨hb, 0, none⟩)] W (Outs base W hb ob lv nx md tur lies N n pu T false) := by
  obtain ⟨a, cap, mb, nn, f, it, ke, va, h1, h2, h3⟩ := h.ex
  refine (popMinI_any _ h1 h.od (by omega) h.le).mono ?_
  rintro e w' ⟨rfl, ht⟩
  have h0 : Img (n + 1) f (n + 1) (f 0) := ⟨0, by omega, by omega, rfl⟩
  obtain ⟨M, q1, q2, q3, q4, q5⟩ := Hp.taken h.le h.od h1 h2 h3 h0 ht
  refine ⟨_, _, _, M, rfl, q2, q1, q3, q4, q5, fun e j l u hj => ?_⟩
  obtain ⟨b, hb', rfl, rfl, rfl⟩ := (h3 _ _ _).1 hj
  exact ord_min (leB_total _ _ _ _) (h2 e) hb'
theorem Hp.popMax (h : Hp base W hb ob lv nx md tur lies N (n + 1) pu T) (hN : N < 999999999) :
    Calls Try.prog 21 #[.pointer (some ⟨hb, 0, none⟩)] W (Outs base W hb ob lv nx md tur lies N n pu T true) := by
  obtain ⟨a, cap, mb, nn, f, it, ke, va, h1, h2, h3⟩ := h.ex
  refine (popMaxI_any _ h1 h.od (by omega) h.le).mono ?_
  rintro e w' ⟨rfl, ht⟩
  have h0 : Img (n + 1) f (n + 1) (f (if n = 0 then 0 else 1)) := ⟨if n = 0 then 0 else 1, by split <;> omega, by split <;> omega, rfl⟩
  obtain ⟨M, q1, q2, q3, q4, q5⟩ := Hp.taken h.le h.od h1 h2 h3 h0 ht
  refine ⟨_, _, _, M, rfl, q2, q1, q3, q4, q5, fun e j l u hj => ?_⟩
  obtain ⟨b, hb', rfl, rfl, rfl⟩ := (h3 _ _ _).1 hj
  exact ord_max (leB_total _ _ _ _) (h2 e) hb'
theorem Hp.noMin (h : Hp base W hb ob lv nx md tur lies N 0 pu T) :
    Calls Try.prog 19 #[.pointer (some ⟨hb, 0, none⟩)] W fun e w' => e = .returned (.tuple #[.int .i64 0, .int .i64 0, .int .i64 0, .bool false]) ∧ ∃ m, w' = W.drewN m := by
  obtain ⟨a, cap, mb, nn, f, it, ke, va, h1, h2, h3⟩ := h.ex
  exact popMinI_none W h1
theorem Hp.noMax (h : Hp base W hb ob lv nx md tur lies N 0 pu T) :
    Calls Try.prog 21 #[.pointer (some ⟨hb, 0, none⟩)] W fun e w' => e = .returned (.tuple #[.int .i64 0, .int .i64 0, .int .i64 0, .bool false]) ∧ ∃ m, w' = W.drewN m := by
  obtain ⟨a, cap, mb, nn, f, it, ke, va, h1, h2, h3⟩ := h.ex
  exact popMaxI_none W h1
theorem Hp.len (h : Hp base W hb ob lv nx md tur lies N n pu T) :
    Calls Try.prog 17 #[.pointer (some ⟨hb, 0, none⟩)] W fun e w' => e = .returned (.int .i64 (n : Int)) ∧ w' = W := by
  obtain ⟨a, cap, mb, nn, f, it, ke, va, h1, h2, h3⟩ := h.ex
  exact lenI_any W h1
theorem Hp.none' (h : Hp base W hb ob lv nx md tur lies N 0 pu T) (i : Int) : T i = none := by
  obtain ⟨a, cap, mb, nn, f, it, ke, va, h1, h2, h3⟩ := h.ex
  cases e : T i with
  | none => rfl
  | some p =>
    obtain ⟨b, ⟨j, hj, _⟩, _⟩ := (h3 i p.1 p.2).1 e
    omega
theorem Hp.some' (h : Hp base W hb ob lv nx md tur lies N (n + 1) pu T) : ∃ i k v, T i = some (k, v) := by
  obtain ⟨a, cap, mb, nn, f, it, ke, va, h1, h2, h3⟩ := h.ex
  exact ⟨_, _, _, (h3 _ _ _).2 ⟨f 0, ⟨0, by omega, by omega, rfl⟩, rfl, rfl, rfl⟩⟩
/-- The first or the last one, looked at. -/
def Tells (W : World) (md : Int) (tur : Bool) (lies : Int) (T : Int → Option (Int × Int)) (up : Bool) (e : Ending) (w' : World) : Prop :=
  (∃ i k v, e = .returned (.tuple #[.int .i64 i, .int .i64 k, .int .i64 v, .bool true]) ∧ T i = some (k, v) ∧ (lies = 0 → ∀ j l u, T j = some (l, u) → if up then leT md tur j l i k else leT md tur i k j l)) ∧ ∃ m, w' = W.drewN m
theorem Hp.min (h : Hp base W hb ob lv nx md tur lies N (n + 1) pu T) :
    Calls Try.prog 46 #[.pointer (some ⟨hb, 0, none⟩)] W (Tells W md tur lies T false) := by
  obtain ⟨a, cap, mb, nn, f, it, ke, va, h1, h2, h3⟩ := h.ex
  have := minI_any W h1
  rw [show fst? (n + 1) f = some (f 0) by unfold fst?; rw [if_neg (by omega)]] at this
  refine this.mono ?_
  rintro e w' ⟨rfl, m, rfl⟩
  refine ⟨⟨_, _, _, rfl, (h3 _ _ _).2 ⟨f 0, ⟨0, by omega, by omega, rfl⟩, rfl, rfl, rfl⟩, fun e j l u hj => ?_⟩, m, rfl⟩
  obtain ⟨b, hb', rfl, rfl, rfl⟩ := (h3 _ _ _).1 hj
  exact ord_min (leB_total _ _ _ _) (h2 e) hb'
theorem Hp.max (h : Hp base W hb ob lv nx md tur lies N (n + 1) pu T) :
    Calls Try.prog 47 #[.pointer (some ⟨hb, 0, none⟩)] W (Tells W md tur lies T true) := by
  obtain ⟨a, cap, mb, nn, f, it, ke, va, h1, h2, h3⟩ := h.ex
  have := maxI_any W h1
  rw [show lst? (n + 1) f = some (f (if n = 0 then 0 else 1)) by unfold lst?; rw [if_neg (by omega)]; split <;> split <;> first | rfl | omega] at this
  refine this.mono ?_
  rintro e w' ⟨rfl, m, rfl⟩
  refine ⟨⟨_, _, _, rfl, (h3 _ _ _).2 ⟨f (if n = 0 then 0 else 1), ⟨if n = 0 then 0 else 1, by split <;> omega, by split <;> omega, rfl⟩, rfl, rfl, rfl⟩, fun e j l u hj => ?_⟩, m, rfl⟩
  obtain ⟨b, hb', rfl, rfl, rfl⟩ := (h3 _ _ _).1 hj
  exact ord_max (leB_total _ _ _ _) (h2 e) hb'
theorem Hp.minNo (h : Hp base W hb ob lv nx md tur lies N 0 pu T) :
    Calls Try.prog 46 #[.pointer (some ⟨hb, 0, none⟩)] W fun e w' => e = .returned (.tuple #[.int .i64 0, .int .i64 0, .int .i64 0, .bool false]) ∧ ∃ m, w' = W.drewN m := by
  obtain ⟨a, cap, mb, nn, f, it, ke, va, h1, h2, h3⟩ := h.ex
  have := minI_any W h1
  rw [show fst? 0 f = none by unfold fst?; rw [if_pos rfl]] at this
  exact this
theorem Hp.maxNo (h : Hp base W hb ob lv nx md tur lies N 0 pu T) :
    Calls Try.prog 47 #[.pointer (some ⟨hb, 0, none⟩)] W fun e w' => e = .returned (.tuple #[.int .i64 0, .int .i64 0, .int .i64 0, .bool false]) ∧ ∃ m, w' = W.drewN m := by
  obtain ⟨a, cap, mb, nn, f, it, ke, va, h1, h2, h3⟩ := h.ex
  have := maxI_any W h1
  rw [show lst? 0 f = none by unfold lst?; rw [if_pos rfl]] at this
  exact this
end
/-- made: an empty heap and its order. -/
theorem made_hp (mod : Int) (tur : Bool) (lies : Int) (w : World) (h1 : -9223372036854775808 ≤ mod) (h2 : mod ≤ 9223372036854775807) (h3 : 0 ≤ lies) (h4 : lies ≤ 100) :
    Calls Try.prog 9 #[.int .i64 mod, .bool tur, .int .i64 lies] w fun e w' => ∃ hb ob md, e = .returned (.agg #[.pointer (some ⟨hb, 0, none⟩), .pointer (some ⟨ob, 0, none⟩)]) ∧ Hp w.heap.size w' hb ob (.slice none 0 0) 0 md tur lies 0 0 0 (fun _ => none) ∧ (0 ≤ md ∧ md ≤ 12) ∧ Below w.heap.size w w' := by
  refine (made_any mod tur lies w h1 h2 h3 h4).mono ?_
  rintro e w1 ⟨hb, ob, mb, md, rfl, S1, O1, B1⟩
  exact ⟨hb, ob, md, rfl, ⟨⟨none, 0, mb, 0, _, _, _, _, S1, fun _ a b ha => by omega, fun i k v => ⟨fun e => (by cases e), fun h => (by obtain ⟨b, ⟨j, hj, _⟩, _⟩ := h; omega)⟩⟩, O1, B1.size⟩, ⟨O1.mod0, O1.mod1⟩, B1⟩
end Go.Proofs.Ytklhenblcgmfhaa
namespace Go.Proofs.Ytklhenblcgmfhaa
open Go.RowKit
set_option maxRecDepth 100000
set_option linter.unusedVariables false
section
variable {base : Nat} {W W' : World} {hb ob : Nat} {lv : Value} {nx md : Int} {tur : Bool} {lies : Int} {N n : Nat} {pu : Int} {T : Int → Option (Int × Int)}
/-- What a number's row tells. -/
def rowT : Option (Int × Int) → Value
  | some (k, v) => .tuple #[.int .i64 k, .int .i64 v, .bool true]
  | none => .tuple #[.int .i64 0, .int .i64 0, .bool false]
theorem Hp.get (h : Hp base W hb ob lv nx md tur lies N n pu T) (i : Int) (hi : -9223372036854775808 ≤ i) (hi2 : i ≤ 9223372036854775807) :
    Calls Try.prog 27 #[.pointer (some ⟨hb, 0, none⟩), .int .i64 i] W fun e w' => e = .returned (rowT (T i)) ∧ ∃ m, w' = W.drewN m := by
  obtain ⟨a, cap, mb, nn, f, it, ke, va, h1, h2, h3⟩ := h.ex
  refine (getI_any i W h1 hi hi2).mono ?_
  rintro e w' ⟨h4, m, rfl⟩
  refine ⟨?_, m, rfl⟩
  rcases h4 with ⟨b, hb', rfl, rfl⟩ | ⟨h4, rfl⟩
  · rw [(h3 _ _ _).2 ⟨b, hb', rfl, rfl, rfl⟩]
    rfl
  · cases e : T i with
    | none => rfl
    | some p =>
      obtain ⟨b, h5, h6, _⟩ := (h3 i p.1 p.2).1 e
      exact absurd h6 (h4 b h5)
theorem Hp.absent {a : Option Addr} {cap mb nn : Nat} {f : Nat → Nat} {it ke va : Nat → Int} {i : Int} (h3 : ∀ i k v, T i = some (k, v) ↔ ∃ b, Img n f n b ∧ it b = i ∧ ke b = k ∧ va b = v) (e : T i = none) : ∀ b, Img n f n b → it b ≠ i := fun b hb' e2 => by
  have := (h3 i (ke b) (va b)).2 ⟨b, hb', e2, rfl, rfl⟩
  rw [e] at this
  cases this
theorem Hp.removeNo (h : Hp base W hb ob lv nx md tur lies N n pu T) (i : Int) (hi : -9223372036854775808 ≤ i) (hi2 : i ≤ 9223372036854775807) (e : T i = none) :
    Calls Try.prog 15 #[.pointer (some ⟨hb, 0, none⟩), .int .i64 i] W fun e w' => e = .returned (rowT none) ∧ ∃ m, w' = W.drewN m := by
  obtain ⟨a, cap, mb, nn, f, it, ke, va, h1, h2, h3⟩ := h.ex
  exact removeI_none i W h1 hi hi2 (Hp.absent (a := a) (cap := cap) (mb := mb) (nn := nn) h3 e)
theorem Hp.remove (h : Hp base W hb ob lv nx md tur lies N (n + 1) pu T) (hN : N < 999999999) {i k v : Int} (e : T i = some (k, v)) :
    Calls Try.prog 15 #[.pointer (some ⟨hb, 0, none⟩), .int .i64 i] W fun e w' => e = .returned (rowT (some (k, v))) ∧ ∃ M, Hp base w' hb ob lv nx md tur lies M n pu (updT T i none) ∧ N ≤ M ∧ 2 ^ (M - N) ≤ 4 * (n + 1) * (n + 1) ∧ Fr hb ob base W w' := by
  obtain ⟨a, cap, mb, nn, f, it, ke, va, h1, h2, h3⟩ := h.ex
  obtain ⟨x, hx, rfl, rfl, rfl⟩ := (h3 _ _ _).1 e
  refine (removeI_any x W h1 h.od (by omega) h.le hx).mono ?_
  rintro e w' ⟨rfl, ht⟩
  obtain ⟨M, q1, q2, q3, q4, q5⟩ := Hp.taken h.le h.od h1 h2 h3 hx ht
  exact ⟨rfl, M, q1, q3, q4, q5⟩
theorem Hp.updateNo (h : Hp base W hb ob lv nx md tur lies N n pu T) (i k : Int) (hi : -9223372036854775808 ≤ i) (hi2 : i ≤ 9223372036854775807) (e : T i = none) :
    Calls Try.prog 16 #[.pointer (some ⟨hb, 0, none⟩), .int .i64 i, .int .i64 k] W fun e w' => e = .returned (.int .i64 50) ∧ w' = W := by
  obtain ⟨a, cap, mb, nn, f, it, ke, va, h1, h2, h3⟩ := h.ex
  exact updateI_none i k W h1 hi hi2 (Hp.absent (a := a) (cap := cap) (mb := mb) (nn := nn) h3 e)
theorem Hp.update (h : Hp base W hb ob lv nx md tur lies N n pu T) (hN : N < 999999999) {i k v : Int} (e : T i = some (k, v)) (l : Int) (hl : -9223372036854775808 ≤ l) (hl2 : l ≤ 9223372036854775807) :
    Calls Try.prog 16 #[.pointer (some ⟨hb, 0, none⟩), .int .i64 i, .int .i64 l] W fun e w' => e = .returned (.int .i64 0) ∧ ∃ M, Hp base w' hb ob lv nx md tur lies M n pu (updT T i (some (l, v))) ∧ N ≤ M ∧ 2 ^ (M - N) ≤ 4 * (n + 1) * (n + 1) ∧ Fr hb ob base W w' := by
  obtain ⟨a, cap, mb, nn, f, it, ke, va, h1, h2, h3⟩ := h.ex
  obtain ⟨x, hx, rfl, rfl, rfl⟩ := (h3 _ _ _).1 e
  refine (updateI_any x l W h1 h.od (by omega) hl hl2 hx).mono ?_
  rintro e w' ⟨rfl, f', M, q1, q2, q3, q4, q5, q6, q7⟩
  refine ⟨rfl, M, ⟨⟨_, _, _, _, f', it, _, va, q1, fun e => q5 e (h2 e), fun i k v => ?_⟩, q2, Nat.le_trans h.le q7.size⟩, q3, q4, Fr.of_tn h1 h.od h.le q7 fun k hk => .inl ((h1.bk k).2 (((q1.bk k).1 hk).imp id fun e => e.imp id fun e => e.imp id fun e => e.imp id fun e => (q6 k).1 e))⟩
  have inj : ∀ b, Img n f n b → it b = it x → b = x := fun b hb' e => by
    obtain ⟨i, hi, _, rfl⟩ := hb'
    obtain ⟨j, hj, _, rfl⟩ := hx
    rw [h1.iti i j hi hj e]
  unfold updT
  split
  · rename_i e
    subst e
    constructor
    · intro e
      cases e
      exact ⟨x, (q6 x).2 hx, rfl, upN_eq, rfl⟩
    · rintro ⟨b, hb', e1, e2, e3⟩
      have eb := inj b ((q6 b).1 hb') e1
      subst eb
      rw [upN_eq] at e2
      rw [e2, e3]
  · rename_i hne
    rw [h3]
    constructor
    · rintro ⟨b, hb', e1, e2, e3⟩
      exact ⟨b, (q6 b).2 hb', e1, by rw [upN_ne (fun e => hne (by rw [← e1, e]))]; exact e2, e3⟩
    · rintro ⟨b, hb', e1, e2, e3⟩
      rw [upN_ne (fun e => hne (by rw [← e1, e]))] at e2
      exact ⟨b, (q6 b).1 hb', e1, e2, e3⟩
/-- The order's own block is written: what it is told by is another. -/
theorem Hp.turn (h : Hp base W hb ob lv nx md tur lies N n pu T) {lv' : Value} {nx' : Int} {M : Nat} (hz : base ≤ W'.heap.size) (hk : ∀ k, k ≠ ob → k < W.heap.size → W'.heap[k]? = W.heap[k]?) (ho : Ordr W' ob lv' nx' md tur lies M) : Hp base W' hb ob lv' nx' md tur lies M n pu T := by
  obtain ⟨a, cap, mb, nn, f, it, ke, va, h1, h2, h3⟩ := h.ex
  refine ⟨⟨a, cap, mb, nn, f, it, ke, va, h1.keep fun k o e t1 _ => hk k (fun e2 => ?_) (Array.getElem?_eq_some_iff.1 e).1, h2, h3⟩, ho, hz⟩
  rw [e2, h.od.at'] at e
  cases e
  exact t1 _ rfl
theorem Hp.zero (h : Hp base W hb ob lv nx md tur lies N n pu T) (M : Nat) : Hp base (W.setCell ⟨ob, 5, none⟩ (.int .i64 (M : Int))) hb ob lv nx md tur lies M n pu T :=
  h.turn (by simpa using h.le) (fun k hk _ => Below.heap_setCell _ _ _ k hk) (h.od.ask M)
end
end Go.Proofs.Ytklhenblcgmfhaa
namespace Go.Proofs.Ytklhenblcgmfhaa
open Go.RowKit Go.Sort
set_option maxRecDepth 100000
set_option linter.unusedVariables false
def digs (n : Nat) : Nat := if h : n = 0 then 0 else digs (n / 2) + 1
theorem digs_lt : ∀ n, n < 2 ^ digs n := by
  intro n
  induction n using Nat.strongRecOn with
  | _ n ih =>
    rw [digs]
    split
    · omega
    · have := ih (n / 2) (by omega)
      rw [Nat.pow_succ]
      omega
theorem asked_is (n : Nat) (hn : n ≤ 1000000) (w : World) : Calls Try.prog 26 #[.int .i64 (n : Int)] w fun e w' => e = .returned (.int .i64 ((12 * digs n + 12 : Nat) : Int)) ∧ w' = w := by
  go_enter Try.func26, Try.ntmps26
  go_wp2_with fail
  go_loopw [0, 3] (fun t s wr => ∃ (m d : Nat), t = .int .i64 (m : Int) ∧ s = .int .i64 (d : Int) ∧ wr = w ∧ Hid (d + digs m = digs n ∧ d ≤ 1000000 - m ∧ m ≤ 1000000)) (fun t _ _ => (intOf t).toNat)
  case atStart => exact ⟨n, 0, rfl, rfl, rfl, ⟨by omega, by omega, hn⟩⟩
  case round =>
    obtain ⟨m, d, rfl, rfl, rfl, hH⟩ := hrel
    have hm := hH.out.2.2
    have hd := hH.out.2.1
    by_cases c : 0 < m
    · have e1 : (m : Int).tdiv 2 = ((m / 2 : Nat) : Int) := by rw [Int.tdiv_eq_ediv_of_nonneg (by omega)]; omega
      have e2 : (m : Int) / 2 = ((m / 2 : Nat) : Int) := by omega
      have w1 : IntKind.i64.wrap ((m / 2 : Nat) : Int) = ((m / 2 : Nat) : Int) := by rw [IntKind.wrap_i64]; omega
      have w2 : IntKind.i64.wrap ((d : Int) + 1) = (d : Int) + 1 := by rw [IntKind.wrap_i64]; omega
      obtain ⟨q, eq⟩ : ∃ q, q = m / 2 := ⟨_, rfl⟩
      rw [← eq] at e1 e2 w1
      have HQ : Hid (q = m / 2) := eq
      clear eq
      go_wp2_with fail
      go_roundw
      case rel =>
        have eq := HQ.out
        have h1 := hH.out.1
        rw [digs, dif_neg (by omega : ¬ m = 0), ← eq] at h1
        exact ⟨q, d + 1, rfl, by go_num, by first | rfl | trivial, ⟨by omega, by omega, by omega⟩⟩
      case measure =>
        have eq := HQ.out
        simp [intOf]
        omega
    · obtain rfl : m = 0 := by omega
      have h1 := hH.out.1
      rw [digs, dif_pos rfl] at h1
      have w3 : IntKind.i64.wrap (12 * (d : Int)) = 12 * (d : Int) := by rw [IntKind.wrap_i64]; omega
      have w4 : IntKind.i64.wrap (12 * (d : Int) + 12) = ((12 * d + 12 : Nat) : Int) := by rw [IntKind.wrap_i64]; omega
      have HD : Hid (d = digs n) := by show d = digs n; omega
      clear h1 hH
      go_wp2_with fail
      go_ret
      refine ⟨?_, rfl⟩
      rw [← HD.out]
      simp
theorem rank_is (lv : Value) (hl : ∃ a n c, lv = .slice a n c) (nx mod : Int) (tur : Bool) (k : Int) (w : World) (h0 : 0 ≤ mod) (h1 : mod ≤ 12) (hk : -9223372036854775808 ≤ k) (hk2 : k ≤ 9223372036854775807) :
    Calls Try.prog 44 #[.agg #[lv, .int .i64 nx, .int .i64 mod, .bool tur], .int .i64 k] w fun e w' => e = .returned (.int .i64 (rank mod k)) ∧ w' = w.alloc (.cells #[lv, .int .i64 nx, .int .i64 mod, .bool tur] 55) := by
  obtain ⟨la, ln, lc, rfl⟩ := hl
  go_enter Try.func44, Try.ntmps44
  by_cases c : 0 < mod
  · have e1 : IntKind.i64.wrap (k.tmod mod) = k.tmod mod := by
      have h2 := Int.tmod_lt_of_pos k c
      have h3 := Int.lt_tmod_of_pos k c
      rw [IntKind.wrap_i64]
      omega
    have e2 : IntKind.i64.wrap (k.tmod mod + mod) = k.tmod mod + mod := by
      have h2 := Int.tmod_lt_of_pos k c
      have h3 := Int.lt_tmod_of_pos k c
      rw [IntKind.wrap_i64]
      omega
    have hne : mod ≠ 0 := by omega
    have hkm : k % mod = if k.tmod mod < 0 then k.tmod mod + mod else k.tmod mod := by
      have h4 := Int.emod_nonneg k hne
      have h5 := Int.emod_lt_of_pos k c
      have h6 := Int.tmod_lt_of_pos k c
      have h7 := Int.lt_tmod_of_pos k c
      have h8 := Int.mul_tdiv_add_tmod k mod
      have h9 := Int.mul_ediv_add_emod k mod
      have h10 : mod * (k.tdiv mod - k / mod) = k % mod - k.tmod mod := by rw [Int.mul_sub]; omega
      generalize k.tdiv mod - k / mod = d at h10
      split
      · have : d = 1 := by
          rcases Int.lt_trichotomy d 1 with h | h | h
          · have : mod * d ≤ mod * 0 := Int.mul_le_mul_of_nonneg_left (by omega) h0
            omega
          · exact h
          · have : mod * 2 ≤ mod * d := Int.mul_le_mul_of_nonneg_left (by omega) h0
            omega
        subst this
        omega
      · have : d = 0 := by
          rcases Int.lt_trichotomy d 0 with h | h | h
          · have : mod * d ≤ mod * (-1) := Int.mul_le_mul_of_nonneg_left (by omega) h0
            omega
          · exact h
          · have : mod * 1 ≤ mod * d := Int.mul_le_mul_of_nonneg_left (by omega) h0
            omega
        subst this
        omega
    by_cases c2 : k.tmod mod < 0
    · go_wp2_with fail
      go_ret
      refine ⟨?_, rfl⟩
      simp [rank, c, hkm, c2]
    · go_wp2_with fail
      go_ret
      refine ⟨?_, rfl⟩
      rw [rank, if_pos c, hkm, if_neg (by omega)]
      rfl
  · go_wp2_with fail
    go_ret
    refine ⟨?_, rfl⟩
    rw [rank, if_neg (by omega)]
    rfl
theorem ahead_is (lv : Value) (hl : ∃ a n c, lv = .slice a n c) (nx mod : Int) (tur : Bool) (a b : Int) (w : World) (h0 : 0 ≤ mod) (h1 : mod ≤ 12) (ha : -9223372036854775808 ≤ a) (ha2 : a ≤ 9223372036854775807) (hb : -9223372036854775808 ≤ b) (hb2 : b ≤ 9223372036854775807) :
    Calls Try.prog 20 #[.agg #[lv, .int .i64 nx, .int .i64 mod, .bool tur], .int .i64 a, .int .i64 b] w fun e w' => e = .returned (.bool (decide (rk mod tur a < rk mod tur b))) ∧ ∃ q os', w' = grow (w.drewN q) os' := by
  have mixed : Try.prog.follows .mixedOrders = true := by kernel_rfl
  obtain ⟨s, hs⟩ : ∃ s, s = w.heap.size := ⟨_, rfl⟩
  obtain ⟨W, hW⟩ : ∃ W, W = w.alloc (.cells #[lv, .int .i64 nx, .int .i64 mod, .bool tur] 55) := ⟨_, rfl⟩
  have R : Hid (∀ k n os, -9223372036854775808 ≤ k → k ≤ 9223372036854775807 → Calls Try.prog 44 #[.agg #[lv, .int .i64 nx, .int .i64 mod, .bool tur], .int .i64 k] (grow (W.drewN n) os) fun e w'' => e = .returned (.int .i64 (rank mod k)) ∧ ∃ p : GrownBy, w'' = grow (W.drewN p.n) p.os) := fun k n os g1 g2 => Calls.grown_of ((rank_is lv hl nx mod tur k _ h0 h1 g1 g2).mono fun e w' ⟨e1, e2⟩ => ⟨e1, 0, #[_], e2⟩)
  have hlt : s < W.heap.size := by rw [hW, hs]; simp
  have eW : W.heap[s]? = some (.cells #[lv, .int .i64 nx, .int .i64 mod, .bool tur] 55) := by rw [hW, hs]; exact (MapKept.heap_alloc w _).1
  have c0 : ∀ n os, (grow (W.drewN n) os).cell? ⟨s, 0, none⟩ = some lv := fun n os => cell_grown hlt (by simp [World.cell?, eW]) n os
  have c1 : ∀ n os, (grow (W.drewN n) os).cell? ⟨s, 1, none⟩ = some (.int .i64 nx) := fun n os => cell_grown hlt (by simp [World.cell?, eW]) n os
  have c2 : ∀ n os, (grow (W.drewN n) os).cell? ⟨s, 2, none⟩ = some (.int .i64 mod) := fun n os => cell_grown hlt (by simp [World.cell?, eW]) n os
  have c3 : ∀ n os, (grow (W.drewN n) os).cell? ⟨s, 3, none⟩ = some (.bool tur) := fun n os => cell_grown hlt (by simp [World.cell?, eW]) n os
  obtain ⟨la, ln, lc, rfl⟩ := hl
  have HW : Hid (w.alloc (.cells #[.slice la ln lc, .int .i64 nx, .int .i64 mod, .bool tur] 55) = W ∧ w.heap.size = s) := ⟨hW.symm, hs.symm⟩
  have HE : Hid (∀ n os, ∃ q os', grow (W.drewN n) os = grow (w.drewN q) os') := fun n os => ⟨n, #[.cells #[.slice la ln lc, .int .i64 nx, .int .i64 mod, .bool tur] 55] ++ os, by rw [← grow_grow, hW]; rfl⟩
  clear hW hs eW hlt
  go_enter Try.func20, Try.ntmps20
  cases tur
  · go_wp2_with fail
    rw [HW.out.1, HW.out.2]
    go_quiet_grown (first | (go_at_call_of 44 (a); exact R.out a _ _ ha ha2) | (go_at_call_of 44 (b); exact R.out b _ _ hb hb2))
    go_wp2_with fail
    go_ret
    refine ⟨?_, HE.out _ _⟩
    simp [rk]
  · go_wp2_with fail
    rw [HW.out.1, HW.out.2]
    go_quiet_grown (first | (go_at_call_of 44 (a); exact R.out a _ _ ha ha2) | (go_at_call_of 44 (b); exact R.out b _ _ hb hb2))
    go_wp2_with fail
    go_ret
    refine ⟨?_, HE.out _ _⟩
    simp [rk]
end Go.Proofs.Ytklhenblcgmfhaa
namespace Go.Proofs.Ytklhenblcgmfhaa
open Go.RowKit Go.Sort
set_option maxRecDepth 100000
set_option linter.unusedVariables false
theorem bel_grow (W : World) (n : Nat) (os : Array Obj) : Below W.heap.size W (grow (W.drewN n) os) :=
  ⟨rfl, rfl, rfl, by simp [grow], fun k hk => by
    show (W.heap ++ os)[k]? = W.heap[k]?
    rw [Array.getElem?_append_left hk]⟩
/-- A slice of numbers that came in. -/
structure ISl (w : World) (a : Option Addr) (n cap : Nat) (xs : Nat → Int) : Prop where
  le : n ≤ cap
  lim : cap ≤ 9223372036854775807
  wf : ∀ i, i < n → -9223372036854775808 ≤ xs i ∧ xs i ≤ 9223372036854775807
  at' : n = 0 ∨ ∃ b o, a = some ⟨b, o, none⟩ ∧ ∀ i, i < n → w.cell? ⟨b, o + i, none⟩ = some (.int .i64 (xs i))
theorem ISl.at {w W : World} {a : Option Addr} {n cap : Nat} {xs : Nat → Int} (h : ISl w a n cap xs) (hB : Below w.heap.size w W) (hn : 0 < n) : ∃ b o, a = some ⟨b, o, none⟩ ∧ ∀ i, i < n → W.cell? ⟨b, o + i, none⟩ = some (.int .i64 (xs i)) := by
  rcases h.at' with e | ⟨b, o, e, hc⟩
  · omega
  · exact ⟨b, o, e, fun i hi => cell_later hB (hc i hi)⟩
/-- A slice of truths that came in. -/
structure BSl (w : World) (a : Option Addr) (n cap : Nat) (xs : Nat → Bool) : Prop where
  le : n ≤ cap
  lim : cap ≤ 9223372036854775807
  at' : n = 0 ∨ ∃ b o, a = some ⟨b, o, none⟩ ∧ ∀ i, i < n → w.cell? ⟨b, o + i, none⟩ = some (.bool (xs i))
theorem BSl.at {w W : World} {a : Option Addr} {n cap : Nat} {xs : Nat → Bool} (h : BSl w a n cap xs) (hB : Below w.heap.size w W) (hn : 0 < n) : ∃ b o, a = some ⟨b, o, none⟩ ∧ ∀ i, i < n → W.cell? ⟨b, o + i, none⟩ = some (.bool (xs i)) := by
  rcases h.at' with e | ⟨b, o, e, hc⟩
  · omega
  · exact ⟨b, o, e, fun i hi => cell_later hB (hc i hi)⟩
/-- A row of numbers of one's own. -/
def Rw (base : Nat) (W : World) (v : Value) (xs : List Int) : Prop := W.ownsRow base 3 1 v xs.length (xs.map (Value.int .i64))
theorem Rw.nil (base : Nat) (W : World) : Rw base W (.slice none 0 0) [] := ⟨rfl, .inl ⟨rfl, rfl⟩⟩
theorem Rw.sl {base : Nat} {W : World} {v : Value} {xs : List Int} (h : Rw base W v xs) : ∃ a cap, v = .slice a xs.length cap ∧ (0 < xs.length → ∃ g, a = some ⟨g, 0, none⟩ ∧ ∀ i, i < xs.length → W.cell? ⟨g, i, none⟩ = some (.int .i64 (xs.getD i 0))) := by
  rcases h.2 with ⟨e, e0⟩ | ⟨g, cap, cur, e, hb', hg, h1, h2, h3, h4⟩
  · refine ⟨none, 0, by rw [e]; congr 1; omega, fun h => by omega⟩
  · refine ⟨_, cap, e, fun _ => ⟨g, rfl, fun i hi => ?_⟩⟩
    have q4 := congrArg (fun l => l[i]?) h4
    simp only [Nat.mul_one] at q4
    rw [List.getElem?_take_of_lt hi, Array.getElem?_toList] at q4
    simp only [World.cell?, hg]
    simp [q4, hi]
theorem Rw.own {base : Nat} {W : World} {v : Value} {xs : List Int} (h : Rw base W v xs) {k : Nat} (hk : v.ownBlock = some k) : base ≤ k ∧ ∃ cs, W.heap[k]? = some (.cells cs 3) := by
  rcases h.2 with ⟨e, _⟩ | ⟨g, cap', cur, e, hb', hg, _⟩
  · rw [e] at hk
    cases hk
  · rw [e] at hk
    cases hk
    exact ⟨hb', cur, hg⟩
theorem Rw.kept {base : Nat} {W W' : World} {v : Value} {xs : List Int} (h : Rw base W v xs) (hk : ∀ k, v.ownBlock = some k → W'.heap[k]? = W.heap[k]?) : Rw base W' v xs := own_kept h hk
theorem Try.infoI : (Try.prog.info? 3).map (fun i => (i.zero, i.size, i.bytes)) = some (some (.int .i64 0), 1, 8) := by kernel_rfl
/-- append of one number. -/
theorem wp_appI {w : World} {ops : Array Oper} {rest : List Oper} {o : Oper} {a : Act} {Q : Exit → Act → World → Prop} (hgd : o.guard = none) (s x : Operand)
    (ho : o.op = .call { callee := .builtin .append, args := #[s, x], argTypes := #[35, 35] }) (base : Nat) (v : Value) (xs : List Int) (k : Int) (hs : a.eval s = v) (hown : Rw base w v xs)
    (b : Nat) (hx : a.eval x = .slice (some ⟨b, 0, none⟩) 1 1) (hc : w.cell? ⟨b, 0, none⟩ = some (.int .i64 k)) (hlim : xs.length ≤ 1000000) (hb : base ≤ w.heap.size)
    (h : ∀ v' w', Hid (Rw base w' v' (xs ++ [k]) ∧ w.grownBy w' v.ownBlock ∧ (v'.ownBlock = v.ownBlock ∨ v'.ownBlock = some w.heap.size)) → wpList Try.prog ops Q rest (a.put o.dst v') w') : wpList Try.prog ops Q (o :: rest) a w := by
  obtain ⟨i, hi, hz, hsz, hby⟩ := info_parts Try.infoI
  refine wpList_append_own_at w hgd s x 35 ho base 3 i _ 1 8 Try.underlying35 hi hz hsz hby rfl (by omega) v _ _ hs hown ⟨b, 0, none⟩ 1 1 [.int .i64 k] hx rfl (fun j u' hj => ?_) (fun u' hu' => ?_) (by simp only [maxLen]; omega) (by omega) hb ?_
  · rcases j with _ | j
    · simp at hj
      subst hj
      rw [addr_add]
      exact hc
    · simp at hj
  · simp at hu'
    subst hu'
    rfl
  · intro v' w' h1 h2 _ h4
    refine h v' w' ⟨?_, h2, h4⟩
    unfold Rw
    rw [List.length_append, List.length_singleton, List.map_append]
    exact h1
/-- What came from below, and from above. -/
structure Srt (md : Int) (tur : Bool) (Lo Hi : List Int) : Prop where
  lo : ∀ i, i + 1 < Lo.length → rk md tur (Lo.getD i 0) ≤ rk md tur (Lo.getD (i + 1) 0)
  hi : ∀ i, i + 1 < Hi.length → rk md tur (Hi.getD (i + 1) 0) ≤ rk md tur (Hi.getD i 0)
  mid : 0 < Lo.length → 0 < Hi.length → rk md tur (Lo.getD (Lo.length - 1) 0) ≤ rk md tur (Hi.getD (Hi.length - 1) 0)
  wl : ∀ i, i < Lo.length → -9223372036854775808 ≤ Lo.getD i 0 ∧ Lo.getD i 0 ≤ 9223372036854775807
  wh : ∀ i, i < Hi.length → -9223372036854775808 ≤ Hi.getD i 0 ∧ Hi.getD i 0 ≤ 9223372036854775807
theorem getD_snoc (l : List Int) (k : Int) (i : Nat) : (l ++ [k]).getD i 0 = if i = l.length then k else l.getD i 0 := by
  simp only [List.getD_eq_getElem?_getD]
  rcases Nat.lt_trichotomy i l.length with h | h | h
  · rw [List.getElem?_append_left h, if_neg (by omega)]
  · subst h
    simp
  · rw [if_neg (by omega), List.getElem?_eq_none (by simp; omega), List.getElem?_eq_none (by omega)]
theorem Srt.low {md : Int} {tur : Bool} {Lo Hi : List Int} (h : Srt md tur Lo Hi) (k : Int) (h1 : 0 < Lo.length → rk md tur (Lo.getD (Lo.length - 1) 0) ≤ rk md tur k) (h2 : 0 < Hi.length → rk md tur k ≤ rk md tur (Hi.getD (Hi.length - 1) 0)) (hk : -9223372036854775808 ≤ k ∧ k ≤ 9223372036854775807) : Srt md tur (Lo ++ [k]) Hi := by
  refine ⟨fun i hi => ?_, h.hi, fun _ h0 => ?_, fun i hi => ?_, h.wh⟩
  · rw [List.length_append, List.length_singleton] at hi
    rw [getD_snoc, getD_snoc, if_neg (by omega)]
    split
    · have := h1 (by omega)
      rw [show Lo.length - 1 = i by omega] at this
      exact this
    · exact h.lo i (by omega)
  · rw [getD_snoc, if_pos (by simp)]
    exact h2 h0
  · rw [List.length_append, List.length_singleton] at hi
    rw [getD_snoc]
    split
    · exact hk
    · exact h.wl i (by omega)
theorem Srt.high {md : Int} {tur : Bool} {Lo Hi : List Int} (h : Srt md tur Lo Hi) (k : Int) (h1 : 0 < Lo.length → rk md tur (Lo.getD (Lo.length - 1) 0) ≤ rk md tur k) (h2 : 0 < Hi.length → rk md tur k ≤ rk md tur (Hi.getD (Hi.length - 1) 0)) (hk : -9223372036854775808 ≤ k ∧ k ≤ 9223372036854775807) : Srt md tur Lo (Hi ++ [k]) := by
  refine ⟨h.lo, fun i hi => ?_, fun h0 _ => ?_, h.wl, fun i hi => ?_⟩
  · rw [List.length_append, List.length_singleton] at hi
    rw [getD_snoc, getD_snoc, if_neg (show i ≠ Hi.length by omega)]
    split
    · have := h2 (by omega)
      rw [show Hi.length - 1 = i by omega] at this
      exact this
    · exact h.hi i (by omega)
  · rw [getD_snoc, if_pos (by simp)]
    exact h1 h0
  · rw [List.length_append, List.length_singleton] at hi
    rw [getD_snoc]
    split
    · exact hk
    · exact h.wh i (by omega)
/-- The things lie between what came from below and what came from above. -/
def Btw (md : Int) (tur : Bool) (T : Int → Option (Int × Int)) (Lo Hi : List Int) : Prop :=
  ∀ j l u, T j = some (l, u) → (0 < Lo.length → rk md tur (Lo.getD (Lo.length - 1) 0) ≤ rk md tur l) ∧ (0 < Hi.length → rk md tur l ≤ rk md tur (Hi.getD (Hi.length - 1) 0))
/-- What mixed keeps: c calls were made; Lo and Hi lie in the rows, Lo' and Hi' came out. -/
structure Mx (W0 : World) (r0 : Nat) (W : World) (xb hb0 hb ob : Nat) (md : Int) (tur : Bool) (c n : Nat) (pu : Int) (lo hi : Value) (Lo Hi Lo' Hi' : List Int) : Prop where
  pair : W.heap[xb]? = some (.cells #[.pointer (some ⟨hb0, 0, none⟩), .pointer (some ⟨ob, 0, none⟩)] 26)
  hp : ∃ N T, N ≤ 20 * c ∧ Hp W0.heap.size W hb ob (.slice none 0 0) 0 md tur 0 N n pu T ∧ Btw md tur T Lo' Hi'
  bel : Below W0.heap.size W0 W
  rlo : Rw r0 W lo Lo
  rhi : Rw r0 W hi Hi
  ap : ∀ k, lo.ownBlock = some k → hi.ownBlock ≠ some k
  base : W0.heap.size ≤ r0 ∧ r0 ≤ W.heap.size ∧ xb < r0
  srt : Srt md tur Lo' Hi'
theorem oth_int (cs : Array Value) : Oth (.cells cs 3) := ⟨cs, _, _, rfl, by decide, by decide, by decide, by decide⟩
theorem oth_pair (cs : Array Value) : Oth (.cells cs 26) := ⟨cs, _, _, rfl, by decide, by decide, by decide, by decide⟩
section
variable {W0 W : World} {r0 xb hb0 hb ob : Nat} {md : Int} {tur : Bool} {c n : Nat} {pu : Int} {lo hi : Value} {Lo Hi Lo' Hi' : List Int}
theorem Mx.mono {W' : World} (h : Mx W0 r0 W xb hb0 hb ob md tur c n pu lo hi Lo Hi Lo' Hi') (hB : Below W.heap.size W W') : Mx W0 r0 W' xb hb0 hb ob md tur c n pu lo hi Lo Hi Lo' Hi' := by
  obtain ⟨N, T, h1, h2, h3⟩ := h.hp
  have lt : ∀ {k : Nat} {o : Obj}, W.heap[k]? = some o → k < W.heap.size := fun e => (Array.getElem?_eq_some_iff.1 e).1
  have hs := hB.size
  refine ⟨(hB.block _ (lt h.pair)).trans h.pair, ⟨N, T, h1, h2.keep hB, h3⟩, h.bel.trans (hB.mono h.bel.size), h.rlo.kept fun k hk => ?_, h.rhi.kept fun k hk => ?_, h.ap, ⟨h.base.1, by have := h.base.2.1; omega, h.base.2.2⟩, h.srt⟩
  · obtain ⟨_, cs, e⟩ := h.rlo.own hk
    exact hB.block _ (lt e)
  · obtain ⟨_, cs, e⟩ := h.rhi.own hk
    exact hB.block _ (lt e)
/-- Behind a call of the heap's. -/
theorem Mx.step {W' : World} {N' n' : Nat} {pu' : Int} {T' : Int → Option (Int × Int)} {L9 H9 : List Int} (h : Mx W0 r0 W xb hb0 hb ob md tur c n pu lo hi Lo Hi Lo' Hi') (hF : Fr hb ob W0.heap.size W W') (hH : Hp W0.heap.size W' hb ob (.slice none 0 0) 0 md tur 0 N' n' pu' T') (hN : N' ≤ 20 * (c + 1)) (hT : Btw md tur T' L9 H9) (hs : Srt md tur L9 H9) : Mx W0 r0 W' xb hb0 hb ob md tur (c + 1) n' pu' lo hi Lo Hi L9 H9 := by
  refine ⟨hF.oth _ _ h.pair (oth_pair _), ⟨N', T', hN, hH, hT⟩, h.bel.trans hF.bel, h.rlo.kept fun k hk => ?_, h.rhi.kept fun k hk => ?_, h.ap, ⟨h.base.1, by have := hF.bel.size; have := h.base.2.1; omega, h.base.2.2⟩, hs⟩
  · obtain ⟨_, cs, e⟩ := h.rlo.own hk
    exact (hF.oth _ _ e (oth_int _)).trans e.symm
  · obtain ⟨_, cs, e⟩ := h.rhi.own hk
    exact (hF.oth _ _ e (oth_int _)).trans e.symm
theorem pow_9 {M N n : Nat} (h : 2 ^ (M - N) ≤ 4 * (n + 1)) (hn : n ≤ 200) : M ≤ N + 20 := by
  rcases Nat.lt_or_ge 20 (M - N) with h1 | h1
  · have : 2 ^ 20 ≤ 2 ^ (M - N) := Nat.pow_le_pow_right (by decide) (by omega)
    have e : (2 : Nat) ^ 20 = 1048576 := by decide
    omega
  · omega
theorem pow_18 {M N n : Nat} (h : 2 ^ (M - N) ≤ 4 * (n + 1) * (n + 1)) (hn : n ≤ 200) : M ≤ N + 20 := by
  rcases Nat.lt_or_ge 20 (M - N) with h1 | h1
  · have h2 : 2 ^ 20 ≤ 2 ^ (M - N) := Nat.pow_le_pow_right (by decide) (by omega)
    have e : (2 : Nat) ^ 20 = 1048576 := by decide
    have h3 : 4 * (n + 1) * (n + 1) ≤ 804 * 201 := Nat.mul_le_mul (by omega) (by omega)
    omega
  · omega
/-- A thing more, while nothing came out yet. -/
theorem Mx.push (h : Mx W0 r0 W xb hb0 hb ob md tur c n pu lo hi Lo Hi [] []) (k v : Int) (hn : n < 200) (hpu : pu < 200) (hc : c ≤ 1000) (hk : -9223372036854775808 ≤ k ∧ k ≤ 9223372036854775807) :
    Calls Try.prog 13 #[.pointer (some ⟨hb, 0, none⟩), .int .i64 k, .int .i64 v] W fun e w' => e = .returned (.int .i64 (pu + 1)) ∧ Mx W0 r0 w' xb hb0 hb ob md tur (c + 1) (n + 1) (pu + 1) lo hi Lo Hi [] [] := by
  obtain ⟨N, T, h1, h2, h3⟩ := h.hp
  refine (h2.push k v (by omega) (by omega) (by omega) hk.1 hk.2).mono ?_
  rintro e w' ⟨rfl, M, q1, q2, q3, q4⟩
  have := pow_9 q3 (by omega)
  exact ⟨rfl, h.step q4 q1 (by omega) (fun j l u _ => ⟨fun e => absurd e (by decide), fun e => absurd e (by decide)⟩) h.srt⟩
/-- One comes out from below. -/
theorem Mx.low (h : Mx W0 r0 W xb hb0 hb ob md tur c (n + 1) pu lo hi Lo Hi Lo' Hi') (hn : n < 200) (hc : c ≤ 1000) :
    Calls Try.prog 19 #[.pointer (some ⟨hb, 0, none⟩)] W fun e w' => ∃ i k v, e = .returned (.tuple #[.int .i64 i, .int .i64 k, .int .i64 v, .bool true]) ∧ Mx W0 r0 w' xb hb0 hb ob md tur (c + 1) n pu lo hi Lo Hi (Lo' ++ [k]) Hi' := by
  obtain ⟨N, T, h1, h2, h3⟩ := h.hp
  refine (h2.popMin (by omega)).mono ?_
  rintro e w' ⟨i, k, v, M, rfl, q1, q2, q3, q4, q5, q6⟩
  have := pow_18 q4 (by omega)
  have hr := h2.range q1
  refine ⟨i, k, v, rfl, h.step q5 q2 (by omega) (fun j l u hj => ⟨fun _ => ?_, ?_⟩) (h.srt.low k (h3 _ _ _ q1).1 (h3 _ _ _ q1).2 hr.2.2)⟩
  · rw [getD_snoc, if_pos (by simp)]
    unfold updT at hj
    split at hj
    · cases hj
    · have h9 := q6 rfl j l u hj
      simp only [leT] at h9
      rcases h9 with h9 | h9 <;> omega
  · unfold updT at hj
    split at hj
    · cases hj
    · exact (h3 _ _ _ hj).2
theorem Mx.high (h : Mx W0 r0 W xb hb0 hb ob md tur c (n + 1) pu lo hi Lo Hi Lo' Hi') (hn : n < 200) (hc : c ≤ 1000) :
    Calls Try.prog 21 #[.pointer (some ⟨hb, 0, none⟩)] W fun e w' => ∃ i k v, e = .returned (.tuple #[.int .i64 i, .int .i64 k, .int .i64 v, .bool true]) ∧ Mx W0 r0 w' xb hb0 hb ob md tur (c + 1) n pu lo hi Lo Hi Lo' (Hi' ++ [k]) := by
  obtain ⟨N, T, h1, h2, h3⟩ := h.hp
  refine (h2.popMax (by omega)).mono ?_
  rintro e w' ⟨i, k, v, M, rfl, q1, q2, q3, q4, q5, q6⟩
  have := pow_18 q4 (by omega)
  have hr := h2.range q1
  refine ⟨i, k, v, rfl, h.step q5 q2 (by omega) (fun j l u hj => ⟨?_, fun _ => ?_⟩) (h.srt.high k (h3 _ _ _ q1).1 (h3 _ _ _ q1).2 hr.2.2)⟩
  · unfold updT at hj
    split at hj
    · cases hj
    · exact (h3 _ _ _ hj).1
  · rw [getD_snoc, if_pos (by simp)]
    unfold updT at hj
    split at hj
    · cases hj
    · have h9 := q6 rfl j l u hj
      simp only [leT] at h9
      rcases h9 with h9 | h9 <;> omega
/-- The row is the longer by what came out. -/
theorem Mx.grown {W2 : World} {v : Value} {k : Int} (h : Mx W0 r0 W xb hb0 hb ob md tur c n pu lo hi Lo Hi Lo' Hi') (hv : v = lo ∨ v = hi) (hg : (W.alloc (.cells #[.int .i64 k] 3)).grownBy W2 v.ownBlock) :
    W.heap.size + 1 ≤ W2.heap.size ∧ (∀ k, k < W.heap.size → v.ownBlock ≠ some k → W2.heap[k]? = W.heap[k]?) ∧ Below W0.heap.size W0 W2 ∧ W2.heap[xb]? = some (.cells #[.pointer (some ⟨hb0, 0, none⟩), .pointer (some ⟨ob, 0, none⟩)] 26) ∧ ∃ N T, N ≤ 20 * c ∧ Hp W0.heap.size W2 hb ob (.slice none 0 0) 0 md tur 0 N n pu T ∧ Btw md tur T Lo' Hi' := by
  have ha : (W.alloc (.cells #[.int .i64 k] 3)).heap.size = W.heap.size + 1 := by simp
  have hz := hg.size
  rw [ha] at hz
  have kept : ∀ k, k < W.heap.size → v.ownBlock ≠ some k → W2.heap[k]? = W.heap[k]? := fun k h1 h2 => (hg.block k (by omega) (fun e => h2 e.symm)).trans (Below.heap_alloc _ _ _ h1)
  have own : ∀ k, v.ownBlock = some k → r0 ≤ k ∧ ∃ cs, W.heap[k]? = some (.cells cs 3) := fun k hk => by
    rcases hv with rfl | rfl
    · exact h.rlo.own hk
    · exact h.rhi.own hk
  have hb := h.base
  obtain ⟨N, T, h1, h2, h3⟩ := h.hp
  refine ⟨hz, kept, ⟨hg.os.trans h.bel.os, hg.tape.trans h.bel.tape, hg.output.trans h.bel.output, by have := h.bel.size; omega, fun k hk => (kept k (by omega) fun e => ?_).trans (h.bel.block k hk)⟩, (kept _ (by omega) fun e => ?_).trans h.pair, N, T, h1, h2.other (fun k o e ho => (kept k (Array.getElem?_eq_some_iff.1 e).1 fun e2 => ?_).trans e) (by omega), h3⟩
  · have := (own k e).1
    omega
  · have := (own xb e).1
    omega
  · obtain ⟨_, cs, e3⟩ := own k e2
    rw [e3] at e
    cases e
    exact ho (oth_int _)
theorem Mx.lowed {W2 : World} {v' : Value} {k : Int} (h : Mx W0 r0 W xb hb0 hb ob md tur c n pu lo hi Lo Hi (Lo ++ [k]) Hi) (hr : Rw r0 W2 v' (Lo ++ [k])) (hg : (W.alloc (.cells #[.int .i64 k] 3)).grownBy W2 lo.ownBlock) (hat : v'.ownBlock = lo.ownBlock ∨ v'.ownBlock = some (W.heap.size + 1)) :
    Mx W0 r0 W2 xb hb0 hb ob md tur c n pu v' hi (Lo ++ [k]) Hi (Lo ++ [k]) Hi := by
  obtain ⟨g1, kept, g3, g4, g5⟩ := h.grown (.inl rfl) hg
  have hb := h.base
  have lt : ∀ {k : Nat} {o : Obj}, W.heap[k]? = some o → k < W.heap.size := fun e => (Array.getElem?_eq_some_iff.1 e).1
  refine ⟨g4, g5, g3, hr, h.rhi.kept fun k hk => ?_, fun k hk hk2 => ?_, ⟨hb.1, by omega, hb.2.2⟩, h.srt⟩
  · obtain ⟨_, cs, e⟩ := h.rhi.own hk
    exact kept k (lt e) fun e2 => h.ap k e2 hk
  · rcases hat with e | e
    · exact h.ap k (e.symm.trans hk) hk2
    · rw [hk] at e
      cases e
      obtain ⟨_, cs, e⟩ := h.rhi.own hk2
      have := lt e
      omega
theorem Mx.highed {W2 : World} {v' : Value} {k : Int} (h : Mx W0 r0 W xb hb0 hb ob md tur c n pu lo hi Lo Hi Lo (Hi ++ [k])) (hr : Rw r0 W2 v' (Hi ++ [k])) (hg : (W.alloc (.cells #[.int .i64 k] 3)).grownBy W2 hi.ownBlock) (hat : v'.ownBlock = hi.ownBlock ∨ v'.ownBlock = some (W.heap.size + 1)) :
    Mx W0 r0 W2 xb hb0 hb ob md tur c n pu lo v' Lo (Hi ++ [k]) Lo (Hi ++ [k]) := by
  obtain ⟨g1, kept, g3, g4, g5⟩ := h.grown (.inr rfl) hg
  have hb := h.base
  have lt : ∀ {k : Nat} {o : Obj}, W.heap[k]? = some o → k < W.heap.size := fun e => (Array.getElem?_eq_some_iff.1 e).1
  refine ⟨g4, g5, g3, h.rlo.kept fun k hk => ?_, hr, fun k hk hk2 => ?_, ⟨hb.1, by omega, hb.2.2⟩, h.srt⟩
  · obtain ⟨_, cs, e⟩ := h.rlo.own hk
    exact kept k (lt e) fun e2 => h.ap k hk e2
  · rcases hat with e | e
    · exact h.ap k hk (e.symm.trans hk2)
    · rw [hk2] at e
      cases e
      obtain ⟨_, cs, e⟩ := h.rlo.own hk
      have := lt e
      omega
end
end Go.Proofs.Ytklhenblcgmfhaa
namespace Go.Proofs.Ytklhenblcgmfhaa
open Go.RowKit
set_option maxRecDepth 100000
set_option linter.unusedVariables false
abbrev Th := Int × Int × Int
def thc (x : Th) : List Value := [.int .i64 x.1, .int .i64 x.2.1, .int .i64 x.2.2]
def thcs (L : List Th) : List Value := L.flatMap thc
theorem thcs_len (L : List Th) : (thcs L).length = L.length * 3 := by
  induction L with
  | nil => rfl
  | cons x L ih => simp only [thcs, List.flatMap_cons, List.length_append, List.length_cons] at ih ⊢; simp only [thc, List.length_cons, List.length_nil]; omega
theorem thcs_app (L M : List Th) : thcs (L ++ M) = thcs L ++ thcs M := by simp [thcs]
def th0 : Th := (0, 0, 0)
theorem thcs_at (L : List Th) (i : Nat) (hi : i < L.length) : (thcs L)[i * 3]? = some (.int .i64 (L.getD i th0).1) ∧ (thcs L)[i * 3 + 1]? = some (.int .i64 (L.getD i th0).2.1) ∧ (thcs L)[i * 3 + 2]? = some (.int .i64 (L.getD i th0).2.2) := by
  induction L generalizing i with
  | nil => simp at hi
  | cons x L ih =>
    have e : thcs (x :: L) = [.int .i64 x.1, .int .i64 x.2.1, .int .i64 x.2.2] ++ thcs L := rfl
    rw [e]
    rcases i with _ | i
    · simp
    · have h := ih i (by simpa using hi)
      have r : ∀ j, ([Value.int .i64 x.1, Value.int .i64 x.2.1, Value.int .i64 x.2.2] ++ thcs L)[(i + 1) * 3 + j]? = (thcs L)[i * 3 + j]? := fun j => by
        rw [List.getElem?_append_right (by simp; omega)]
        congr 1
        simp
        omega
      have r0 := r 0
      simp only [Nat.add_zero] at r0
      rw [r0, r 1, r 2]
      simpa using h
/-- A row of things of one's own. -/
def Tr (base : Nat) (W : World) (v : Value) (L : List Th) : Prop := W.ownsRow base 49 3 v L.length (thcs L)
theorem Tr.nil (base : Nat) (W : World) : Tr base W (.slice none 0 0) [] := ⟨rfl, .inl ⟨rfl, rfl⟩⟩
theorem Tr.own {base : Nat} {W : World} {v : Value} {L : List Th} (h : Tr base W v L) {k : Nat} (hk : v.ownBlock = some k) : base ≤ k ∧ ∃ cs, W.heap[k]? = some (.cells cs 49) := by
  rcases h.2 with ⟨e, _⟩ | ⟨g, cap', cur, e, hb', hg, _⟩
  · rw [e] at hk
    cases hk
  · rw [e] at hk
    cases hk
    exact ⟨hb', cur, hg⟩
theorem Tr.kept {base : Nat} {W W' : World} {v : Value} {L : List Th} (h : Tr base W v L) (hk : ∀ k, v.ownBlock = some k → W'.heap[k]? = W.heap[k]?) : Tr base W' v L := own_kept h hk
theorem Tr.below {base : Nat} {W W' : World} {v : Value} {L : List Th} (h : Tr base W v L) (hB : Below W.heap.size W W') : Tr base W' v L := h.kept fun k hk => by
  obtain ⟨_, cs, e⟩ := h.own hk
  exact hB.block _ (Array.getElem?_eq_some_iff.1 e).1
theorem Tr.weak {base b2 : Nat} {W : World} {v : Value} {L : List Th} (h : Tr base W v L) (hb : b2 ≤ base) : Tr b2 W v L := by
  refine ⟨h.1, h.2.imp id ?_⟩
  rintro ⟨g, cap, cur, e, hb2, rest⟩
  exact ⟨g, cap, cur, e, Nat.le_trans hb hb2, rest⟩
theorem Tr.sl {base : Nat} {W : World} {v : Value} {L : List Th} (h : Tr base W v L) : ∃ a cap, v = .slice a L.length cap ∧ (0 < L.length → ∃ g, a = some ⟨g, 0, none⟩ ∧ base ≤ g ∧ g < W.heap.size ∧ ∀ i, i < L.length → W.cell? ⟨g, i * 3, none⟩ = some (.int .i64 (L.getD i th0).1) ∧ W.cell? ⟨g, i * 3 + 1, none⟩ = some (.int .i64 (L.getD i th0).2.1) ∧ W.cell? ⟨g, i * 3 + 2, none⟩ = some (.int .i64 (L.getD i th0).2.2)) ∧ (a = none → cap = 0) := by
  rcases h.2 with ⟨e, e0⟩ | ⟨g, cap, cur, e, hb', hg, h1, h2, h3, h4⟩
  · exact ⟨none, 0, by rw [e]; congr 1; omega, fun h => by omega, fun _ => rfl⟩
  · refine ⟨_, cap, e, fun _ => ⟨g, rfl, hb', (Array.getElem?_eq_some_iff.1 hg).1, fun i hi => ?_⟩, fun e => by cases e⟩
    have key : ∀ j v, j < L.length * 3 → (thcs L)[j]? = some v → W.cell? ⟨g, j, none⟩ = some v := fun j v hj hv => by
      have q4 := congrArg (fun l => l[j]?) h4
      rw [List.getElem?_take_of_lt hj, Array.getElem?_toList, hv] at q4
      simp [World.cell?, hg, q4]
    obtain ⟨t0, t1, t2⟩ := thcs_at L i hi
    exact ⟨key _ _ (by omega) t0, key _ _ (by omega) t1, key _ _ (by omega) t2⟩
theorem Try.infoT : (Try.prog.info? 49).map (fun i => (i.zero, i.size, i.bytes)) = some (some (.agg #[.int .i64 0, .int .i64 0, .int .i64 0]), 3, 24) := by kernel_rfl
/-- append of a row to a row of one's own. -/
theorem wp_appT {w : World} {ops : Array Oper} {rest : List Oper} {o : Oper} {a : Act} {Q : Exit → Act → World → Prop} (hgd : o.guard = none) (s x : Operand)
    (ho : o.op = .call { callee := .builtin .append, args := #[s, x], argTypes := #[53, 53] }) (base : Nat) (v : Value) (xs : List Th) (hs : a.eval s = v) (hown : Tr base w v xs)
    (b2 : Nat) (u : Value) (ys : List Th) (hx : a.eval x = u) (hS : Tr b2 w u ys) (hlim : xs.length + ys.length ≤ 1000000) (hb : base ≤ w.heap.size)
    (h : ∀ v' w', Hid (Tr base w' v' (xs ++ ys) ∧ Below base w w') → wpList Try.prog ops Q rest (a.put o.dst v') w') : wpList Try.prog ops Q (o :: rest) a w := by
  obtain ⟨i, hi, hz, hsz, hby⟩ := info_parts Try.infoT
  rcases hS.2 with ⟨e, e0⟩ | ⟨g, cap, cur, e, hb', hg, h1, h2, h3, h4⟩
  · have ey : ys = [] := List.eq_nil_of_length_eq_zero e0
    subst ey
    rw [e] at hx
    refine wpList_append_own_none hgd s x 53 ho base 49 i 3 Try.underlying53 hi v _ _ hs hown hx ?_
    exact h v w ⟨by rw [List.append_nil]; exact hown, Below.refl _ _⟩
  · rw [e] at hx
    refine wpList_append_own_at w hgd s x 53 ho base 49 i _ 3 24 Try.underlying53 hi hz hsz hby rfl (by omega) v _ _ hs hown ⟨g, 0, none⟩ ys.length cap (thcs ys) hx (thcs_len ys) (fun j u' hj => ?_) (fun u' hu' => ?_) (by simp only [maxLen]; omega) (by omega) hb ?_
    · have hjl : j < ys.length * 3 := by
        have := (List.getElem?_eq_some_iff.1 hj).1
        rw [thcs_len] at this
        exact this
      have q4 := congrArg (fun l => l[j]?) h4
      rw [List.getElem?_take_of_lt hjl, Array.getElem?_toList, hj] at q4
      rw [addr_add]
      simp [World.cell?, hg, q4]
    · simp only [thcs, List.mem_flatMap, thc] at hu'
      obtain ⟨y, _, hy⟩ := hu'
      simp at hy
      rcases hy with rfl | rfl | rfl <;> rfl
    · intro v' w' q1 q2 _ _
      refine h v' w' ⟨?_, ?_⟩
      · show w'.ownsRow _ _ _ _ _ _
        rw [List.length_append, thcs_app]
        exact q1
      · refine (Below.refl base w).grown q2 hb fun k hk => ?_
        exact (hown.own hk).1
theorem tr_one (w : World) (x : Th) : Tr w.heap.size (w.alloc (.cells #[.int .i64 x.1, .int .i64 x.2.1, .int .i64 x.2.2] 49)) (.slice (some ⟨w.heap.size, 0, none⟩) 1 1) [x] :=
  ⟨rfl, .inr ⟨w.heap.size, 1, _, rfl, Nat.le_refl _, (MapKept.heap_alloc _ _).1, Nat.le_refl _, by simp only [maxLen]; omega, rfl, rfl⟩⟩
end Go.Proofs.Ytklhenblcgmfhaa
namespace Go.Proofs.Ytklhenblcgmfhaa
open Go.RowKit Go.Shelf Go.Sort
set_option maxRecDepth 100000
set_option linter.unusedVariables false
/-- A mark's two cells. -/
def encMk (x : Int × Int) : List Value := [.int .i64 x.1, .int .i64 x.2]
def mkc (L : List (Int × Int)) : List Value := L.flatMap encMk
theorem mkc_len (L : List (Int × Int)) : (mkc L).length = L.length * 2 := by
  induction L with
  | nil => rfl
  | cons x L ih => simp only [mkc, List.flatMap_cons, List.length_append, List.length_cons] at ih ⊢; simp only [encMk, List.length_cons, List.length_nil]; omega
/-- A row of marks of one's own. -/
def Mr (base : Nat) (W : World) (v : Value) (L : List (Int × Int)) : Prop := W.ownsRow base 79 2 v L.length (mkc L)
theorem Mr.own {base : Nat} {W : World} {v : Value} {L : List (Int × Int)} (h : Mr base W v L) {k : Nat} (hk : v.ownBlock = some k) : base ≤ k ∧ ∃ cs, W.heap[k]? = some (.cells cs 79) := by
  rcases h.2 with ⟨e, _⟩ | ⟨g, cap', cur, e, hb', hg, _⟩
  · rw [e] at hk
    cases hk
  · rw [e] at hk
    cases hk
    exact ⟨hb', cur, hg⟩
theorem Try.infoMk : (Try.prog.info? 79).map (fun i => (i.zero, i.size, i.bytes)) = some (some (.agg #[.int .i64 0, .int .i64 0]), 2, 16) := by kernel_rfl
/-- append of one mark. -/
theorem wp_appMk {w : World} {ops : Array Oper} {rest : List Oper} {o : Oper} {a : Act} {Q : Exit → Act → World → Prop} (hgd : o.guard = none) (s x : Operand)
    (ho : o.op = .call { callee := .builtin .append, args := #[s, x], argTypes := #[83, 83] }) (base : Nat) (v : Value) (xs : List (Int × Int)) (hs : a.eval s = v) (hown : Mr base w v xs)
    (b : Nat) (y : Int × Int) (hx : a.eval x = .slice (some ⟨b, 0, none⟩) 1 1) (h0 : w.cell? ⟨b, 0, none⟩ = some (.int .i64 y.1)) (h1 : w.cell? ⟨b, 1, none⟩ = some (.int .i64 y.2)) (hlim : xs.length ≤ 1000000000) (hb : base ≤ w.heap.size)
    (h : ∀ v' w', Hid (Mr base w' v' (xs ++ [y]) ∧ Below base w w' ∧ v' ≠ .slice none 0 0) → wpList Try.prog ops Q rest (a.put o.dst v') w') : wpList Try.prog ops Q (o :: rest) a w := by
  obtain ⟨i, hi, hz, hsz, hby⟩ := info_parts Try.infoMk
  refine wpList_append_own_at w hgd s x 83 ho base 79 i _ 2 16 Try.underlying83 hi hz hsz hby rfl (by omega) v _ _ hs hown ⟨b, 0, none⟩ 1 1 (encMk y) hx rfl (fun j u' hj => ?_) (fun u' hu' => ?_) (by simp only [maxLen]; omega) (by omega) hb ?_
  · rw [addr_add]
    rcases j with _ | _ | j
    · simp [encMk] at hj
      subst hj
      exact h0
    · simp [encMk] at hj
      subst hj
      exact h1
    · simp [encMk] at hj
  · simp [encMk] at hu'
    rcases hu' with rfl | rfl <;> rfl
  · intro v' w' q1 q2 q3 _
    refine h v' w' ⟨?_, (Below.refl base w).grown q2 hb fun k hk => (hown.own hk).1, fun e => ?_⟩
    · unfold Mr
      rw [List.length_append, List.length_singleton, show mkc (xs ++ [y]) = mkc xs ++ encMk y by simp [mkc]]
      exact q1
    · have := (q3.1 e).2
      omega
end Go.Proofs.Ytklhenblcgmfhaa
namespace Go.Proofs.Ytklhenblcgmfhaa
open Go.RowKit Go.Shelf Go.Sort
set_option maxRecDepth 100000
set_option linter.unusedVariables false
theorem makeMk_at (L C : Int) (n m : Nat) (hL : L = n) (hC : C = m) (hnm : n ≤ m) (hm : m ≤ 1000000000) (w : World) :
    (Instr.makeSlice 83 (.int .i64 L) (.int .i64 C)).run Try.prog w = .ok (.slice (some ⟨w.heap.size, 0, none⟩) n m) (w.alloc (.cells (madeCells #[.int .i64 0, .int .i64 0] (m * 2)) 79)) := by
  obtain ⟨i, hi, hz, hs, hb⟩ := info_parts Try.infoMk
  subst hL hC
  rw [run_make w 83 79 i (.agg #[.int .i64 0, .int .i64 0]) Try.underlying83 hi hz .i64 .i64 n m (by omega) (by omega) (by rw [hb]; omega) (by omega), hs]
  simp [Value.cells]
theorem Mr.start (w : World) (m : Nat) (hm : m ≤ 1000000000) : Mr w.heap.size (w.alloc (.cells (madeCells #[.int .i64 0, .int .i64 0] (m * 2)) 79)) (.slice (some ⟨w.heap.size, 0, none⟩) 0 m) [] :=
  ⟨rfl, .inr ⟨w.heap.size, m, _, rfl, Nat.le_refl _, (MapKept.heap_alloc _ _).1, Nat.zero_le _, by simp only [maxLen]; omega, by simp [size_madeCells], by simp [mkc]⟩⟩
theorem mkc_at (L : List (Int × Int)) (i : Nat) (hi : i < L.length) : (mkc L)[i * 2]? = some (.int .i64 (L.getD i (0, 0)).1) ∧ (mkc L)[i * 2 + 1]? = some (.int .i64 (L.getD i (0, 0)).2) := by
  induction L generalizing i with
  | nil => simp at hi
  | cons x L ih =>
    have e : mkc (x :: L) = [.int .i64 x.1, .int .i64 x.2] ++ mkc L := rfl
    rw [e]
    rcases i with _ | i
    · simp
    · have h := ih i (by simpa using hi)
      have r : ∀ j, ([Value.int .i64 x.1, Value.int .i64 x.2] ++ mkc L)[(i + 1) * 2 + j]? = (mkc L)[i * 2 + j]? := fun j => by
        rw [List.getElem?_append_right (by simp; omega)]
        congr 1
        simp
        omega
      have r0 := r 0
      simp only [Nat.add_zero] at r0
      rw [r0, r 1]
      simpa using h
theorem Mr.holds {base : Nat} {W : World} {g c : Nat} {L : List (Int × Int)} (h : Mr base W (.slice (some ⟨g, 0, none⟩) L.length c) L) : HoldsK encMk 2 W g 0 L.toArray ∧ g < W.heap.size ∧ base ≤ g := by
  rcases h.2 with ⟨e, e0⟩ | ⟨g', cap, cur, e, hb', hg, h1, h2, h3, h4⟩
  · cases e
  · cases e
    refine ⟨fun j hj => ?_, (Array.getElem?_eq_some_iff.1 hg).1, hb'⟩
    have hj' : j < L.length * 2 := by simpa using hj
    refine ⟨?_, by simp [World.frozen?, hg]⟩
    have q4 := congrArg (fun l => l[j]?) h4
    rw [List.getElem?_take_of_lt hj', Array.getElem?_toList] at q4
    have hd : j / 2 < L.length := by omega
    obtain ⟨t0, t1⟩ := mkc_at L (j / 2) hd
    have e1 : L.toArray[j / 2]! = L.getD (j / 2) (0, 0) := by simp [hd, List.getD_eq_getElem?_getD]
    rw [get_flatK _ _ _ _ (by simpa using hj'), Nat.zero_add, e1]
    simp only [World.cell?, hg]
    have e2 : (mkc L)[j]? = some (id ((encMk (L.getD (j / 2) (0, 0)))[j % 2]!)) := by
      rcases Nat.mod_two_eq_zero_or_one j with e | e
      · rw [e, show j = j / 2 * 2 by omega, Nat.mul_div_cancel _ (by omega), t0]
        rfl
      · rw [e]
        have ej : j = j / 2 * 2 + 1 := by omega
        have ed : (mkc L)[j]? = (mkc L)[j / 2 * 2 + 1]? := by rw [← ej]
        rw [ed, t1]
        rfl
    simp [q4, e2]
/-- The sort of the marks. -/
def SortsMk : Prop := ∀ (blk cap : Nat) (d : Array (Int × Int)) (w : World), HoldsK encMk 2 w blk 0 d → blk < w.heap.size → d.size < 4611686018427387904 →
  Calls Try.prog 62 #[.slice (some ⟨blk, 0, none⟩) d.size cap, .func (.func 63) #[] #[]] w fun e w' => e = .returned (.tuple #[]) ∧ ∃ d' n os, PermIn 0 d.size d d' ∧ SortedIn (ltOf fun x y : Int × Int => Lib.compareInt x.1 y.1) 0 d.size d' ∧ w' = sortWorldK encMk 2 w blk 0 n d' os
theorem sort_below {W0 w : World} {blk n : Nat} {d' : Array (Int × Int)} {os : Array Obj} (h : Below W0.heap.size W0 w) (hb : W0.heap.size ≤ blk) : Below W0.heap.size W0 (sortWorldK encMk 2 w blk 0 n d' os) := by
  have e : ∀ k, k < W0.heap.size → (sortWorldK encMk 2 w blk 0 n d' os).heap[k]? = w.heap[k]? := fun k hk => by
    have hs := h.size
    show ((w.heap.modify blk _) ++ os)[k]? = w.heap[k]?
    rw [Array.getElem?_append_left (by simp; omega), Array.getElem?_modify]
    rw [if_neg (by omega)]
  exact ⟨h.os, h.tape, h.output, Nat.le_trans h.size (size_sortWorldK_c encMk 2 w blk 0 n d' os), fun k hk => (e k hk).trans (h.block k hk)⟩
theorem sort_block {w : World} {blk n : Nat} {d' : Array (Int × Int)} {os : Array Obj} {t : TypeId} (h : ∃ cs, w.heap[blk]? = some (.cells cs t)) : ∃ cs, (sortWorldK encMk 2 w blk 0 n d' os).heap[blk]? = some (.cells cs t) := by
  obtain ⟨cs, e⟩ := h
  have hlt := (Array.getElem?_eq_some_iff.1 e).1
  refine ⟨putCells id 0 (flatK encMk 2 d') cs, ?_⟩
  show ((w.heap.modify blk _) ++ os)[blk]? = _
  rw [Array.getElem?_append_left (by simpa using hlt), Array.getElem?_modify, if_pos rfl, e]
  rfl
set_option maxHeartbeats 2000000 in
theorem marks_any (SORT : SortsMk) {base hb ob : Nat} {a : Option Addr} {n cap mb nn : Nat} {pu : Int} {f : Nat → Nat} {it ke va : Nat → Int} (w : World) (h : HsI w base hb ob a n cap mb nn pu f it ke va) :
    Calls Try.prog 39 #[.pointer (some ⟨hb, 0, none⟩)] w fun e w' => ∃ g c d', e = .returned (.slice (some ⟨g, 0, none⟩) n c) ∧ w.heap.size ≤ g ∧ g < w'.heap.size ∧ HoldsK encMk 2 w' g 0 d' ∧ d'.size = n ∧ PermIn 0 n ((List.range n).map fun i => (it (f i), ke (f i))).toArray d' ∧ SortedIn (ltOf fun x y : Int × Int => Lib.compareInt x.1 y.1) 0 n d' ∧ Below w.heap.size w w' ∧ ∃ cs, w'.heap[g]? = some (.cells cs 79) := by
  obtain ⟨c1, _, _, _⟩ := h.cells
  have hlim := h.lim
  have hlt := (Array.getElem?_eq_some_iff.1 h.hd).1
  have mk := makeMk_at 0 (n : Int) 0 n rfl rfl (Nat.zero_le _) hlim w
  have HH : Hid (HsI w base hb ob a n cap mb nn pu f it ke va) := h
  obtain ⟨W1, hW1⟩ : ∃ W1, W1 = w.alloc (.cells (madeCells #[.int .i64 0, .int .i64 0] (n * 2)) 79) := ⟨_, rfl⟩
  rw [← hW1] at mk
  have B1 : Below w.heap.size w W1 := by rw [hW1]; exact (Below.refl _ _).alloc (Nat.le_refl _) _
  have R1 : Mr w.heap.size W1 (.slice (some ⟨w.heap.size, 0, none⟩) 0 n) [] := by rw [hW1]; exact Mr.start w n hlim
  have c1' := cell_later B1 c1
  obtain ⟨L, eL⟩ : ∃ L : Nat → List (Int × Int), L = fun j => (List.range j).map fun i => (it (f i), ke (f i)) := ⟨_, rfl⟩
  have HL : Hid (L = fun j => (List.range j).map fun i => (it (f i), ke (f i))) := eL
  have M0 : Hid (Mr w.heap.size W1 (.slice (some ⟨w.heap.size, 0, none⟩) 0 n) (L 0) ∧ Below w.heap.size w W1) := ⟨by rw [eL]; exact R1, B1⟩
  have Ll : ∀ j, (L j).length = j := fun j => by rw [eL]; simp
  clear h eL hW1 R1 B1
  go_enter Try.func39, Try.ntmps39
  go_wp2_with fail
  go_loopw [3, 17] (fun tl t wr => ∃ (j g c : Nat), j ≤ n ∧ t = .int .i64 (j : Int) ∧ tl = .slice (some ⟨g, 0, none⟩) j c ∧ Hid (Mr w.heap.size wr (.slice (some ⟨g, 0, none⟩) j c) (L j) ∧ Below w.heap.size w wr)) (fun _ t _ => n - (intOf t).toNat)
  case atStart => exact ⟨0, w.heap.size, n, by omega, rfl, rfl, M0⟩
  case round =>
    clear M0 mk c1 c1'
    obtain ⟨j, g, c, hj, rfl, rfl, hS⟩ := hrel
    by_cases hjn : j < n
    · obtain ⟨gp, ea, _, _, _, cs, e3, _, e4⟩ := HH.out.some' (by omega)
      subst ea
      have k0 : wr.cell? ⟨gp, j, none⟩ = some (.pointer (some ⟨f j, 0, none⟩)) := cell_later hS.out.2 (by simp [World.cell?, e3, e4 j hjn])
      have ep := HH.out.pl j hjn
      have k1 : wr.cell? ⟨f j, 0, none⟩ = some (.int .i64 (it (f j))) := cell_later hS.out.2 (by simp [World.cell?, ep])
      have k2 : wr.cell? ⟨f j, 1, none⟩ = some (.int .i64 (ke (f j))) := cell_later hS.out.2 (by simp [World.cell?, ep])
      have w5 : IntKind.i64.wrap ((j : Int) + 1) = (j : Int) + 1 := by rw [IntKind.wrap_i64]; omega
      have hj' : (j : Int) < (n : Int) := by omega
      obtain ⟨y, ey⟩ : ∃ y : Int × Int, y = (it (f j), ke (f j)) := ⟨_, rfl⟩
      have k1' : wr.cell? ⟨f j, 0, none⟩ = some (.int .i64 y.1) := by rw [ey]; exact k1
      have k2' : wr.cell? ⟨f j, 1, none⟩ = some (.int .i64 y.2) := by rw [ey]; exact k2
      have HN : Hid (L (j + 1) = L j ++ [y]) := by
        show L (j + 1) = L j ++ [y]
        rw [HL.out, ey]
        simp [List.range_succ]
      clear k1 k2 ey ep e3 e4
      generalize f j = x at *
      go_wp2_with (refine (id ?_ : wpList Try.prog _ _ (⟨some 27, _, _, _, _, _⟩ :: _) _ _); refine wp_appMk rfl (.tmp 21) (.tmp 26) rfl w.heap.size (.slice (some ⟨g, 0, none⟩) j c) (L j) rfl (own_kept hS.out.1 fun k hk => Below.heap_alloc _ _ _ (Array.getElem?_eq_some_iff.1 (hS.out.1.own hk).2.choose_spec).1) wr.heap.size y rfl (by simp [go_sem]) (by simp [go_sem]) (by rw [Ll]; omega) (by have := hS.out.2.size; simp; omega) ?_)
      intro v7 w7 H7
      obtain ⟨g7, c7, e7⟩ : ∃ g7 c7, v7 = .slice (some ⟨g7, 0, none⟩) (j + 1) c7 := by
        rcases H7.out.1.2 with ⟨e, _⟩ | ⟨g9, cap9, cur, e, _⟩
        · exact absurd e H7.out.2.2
        · rw [List.length_append, Ll, List.length_singleton] at e
          exact ⟨g9, cap9, e⟩
      subst e7
      have HM : Hid (Mr w.heap.size w7 (.slice (some ⟨g7, 0, none⟩) (j + 1) c7) (L (j + 1)) ∧ Below w.heap.size w w7) := by
        rw [HN.out]
        exact ⟨H7.out.1, (hS.out.2.alloc hS.out.2.size _).trans H7.out.2.1⟩
      clear hS H7 HN k0 k1' k2'
      go_wp2_with fail
      go_roundw
      case rel => exact ⟨j + 1, g7, c7, by omega, by go_num, rfl, HM⟩
      case measure => simp [intOf]; omega
    · obtain rfl : j = n := by omega
      have hr := hS.out.1
      have el := Ll j
      have hr' : Mr w.heap.size wr (.slice (some ⟨g, 0, none⟩) (L j).length c) (L j) := by rw [el]; exact hr
      obtain ⟨q1, q2, q3⟩ := hr'.holds
      have SO := SORT g c (L j).toArray wr q1 q2 (by simp [el]; omega)
      have hsz : (L j).toArray.size = j := by simp [el]
      rw [hsz] at SO
      have HS : Hid _ := SO
      have HB : Hid (Below w.heap.size w wr ∧ w.heap.size ≤ g ∧ g < wr.heap.size ∧ HoldsK encMk 2 wr g 0 (L j).toArray ∧ ∃ cs, wr.heap[g]? = some (.cells cs 79)) := ⟨hS.out.2, q3, q2, q1, (hr.own (k := g) rfl).2⟩
      clear hS hr hr' q1 q2 q3 SO
      go_wp2_with fail
      refine Calls.mono HS.out ?_
      rintro e w8 ⟨rfl, d', m, os, p1, p2, rfl⟩
      have ps : d'.size = j := p1.1.trans hsz
      have HF : Hid (w.heap.size ≤ g ∧ g < (sortWorldK encMk 2 wr g 0 m d' os).heap.size ∧ HoldsK encMk 2 (sortWorldK encMk 2 wr g 0 m d' os) g 0 d' ∧ d'.size = j ∧ PermIn 0 j ((List.range j).map fun i => (it (f i), ke (f i))).toArray d' ∧ SortedIn (ltOf fun x y : Int × Int => Lib.compareInt x.1 y.1) 0 j d' ∧ Below w.heap.size w (sortWorldK encMk 2 wr g 0 m d' os) ∧ ∃ cs, (sortWorldK encMk 2 wr g 0 m d' os).heap[g]? = some (.cells cs 79)) := by
        refine ⟨HB.out.2.1, Nat.lt_of_lt_of_le HB.out.2.2.1 (size_sortWorldK_c encMk 2 wr g 0 m d' os), holdsK_sortWorldK_c encMk 2 wr g 0 (L j).toArray d' m os HB.out.2.2.2.1 HB.out.2.2.1 (by rw [ps, hsz]), ps, ?_, p2, sort_below HB.out.1 HB.out.2.1, sort_block HB.out.2.2.2.2⟩
        have e5 : (L j).toArray = ((List.range j).map fun i => (it (f i), ke (f i))).toArray := by rw [HL.out]
        rw [← e5]
        exact p1
      clear p1 p2 ps HS HB
      go_wp2_with fail
      go_ret
      exact ⟨g, c, d', rfl, HF.out⟩
end Go.Proofs.Ytklhenblcgmfhaa
namespace Go.Proofs.Ytklhenblcgmfhaa
open Go.RowKit Go.Shelf Go.Sort
set_option maxRecDepth 100000
set_option linter.unusedVariables false
attribute [local go_sem] Oper.semAt_some
theorem hall_any (r : Nat) (w : World) : Calls Try.prog 14 #[.pointer (some ⟨r, 0, none⟩)] w fun e w' => e = .returned (.func (.func 38) #[] #[.pointer (some ⟨w.heap.size, 0, none⟩)]) ∧ w' = w.alloc (.cells #[.pointer (some ⟨r, 0, none⟩)] 23) := by
  have hmf : ∀ (fn : Fn) (first cap : Array Value) (w : World), (Instr.makeFunc fn first cap).run Try.prog w = .ok (.func fn first cap) w := fun _ _ _ _ => rfl
  go_enter Try.func14, Try.ntmps14
  go_wp2_with fail
  go_ret
  exact ⟨rfl, rfl⟩
/-- The marks in order: all things, numbers rising. -/
def Gd (n : Nat) (d : Array (Int × Int)) (ys : List (Int × Int)) : Prop := ys.length = n ∧ ∃ d', d'.size = n ∧ PermIn 0 n d d' ∧ SortedIn (ltOf fun x y : Int × Int => Lib.compareInt x.1 y.1) 0 n d' ∧ ys = d'.toList
/-- No row of marks is written. -/
def Kmk (W W' : World) : Prop := ∀ (b : Nat) (cs : Array Value), W.heap[b]? = some (.cells cs 79) → W'.heap[b]? = some (.cells cs 79)
theorem take_succ (ys : List (Int × Int)) (k : Nat) (hk : k < ys.length) : ys.take (k + 1) = ys.take k ++ [ys.getD k (0, 0)] := by
  rw [List.take_add_one, List.getD_eq_getElem?_getD, List.getElem?_eq_getElem hk]
  rfl
set_option maxHeartbeats 2000000 in
theorem hall1_in (SORT : SortsMk) (n : Nat) (hn : 1 ≤ n) (l Bs : Nat) {base hb ob : Nat} {a : Option Addr} {c cap mb nn : Nat} {pu : Int} {f : Nat → Nat} {it ke va : Nat → Int} (J Jx : List (Int × Int) → World → Prop) (W : World) (hJ : AbidesFrom W.heap.size J)
    (hY : ∀ pre x W, J pre W → pre.length < c → YieldAt Fence.wide (n - 1) Try.prog l #[.int .i64 x.1, .int .i64 x.2] W fun e W' =>
      (e = .returned (.bool true) ∧ J (pre ++ [x]) W' ∧ Kmk W W') ∨ (e = .returned (.bool false) ∧ Jx (pre ++ [x]) W'))
    (hBs : W.cell? ⟨Bs, 0, none⟩ = some (.pointer (some ⟨hb, 0, none⟩))) (h : HsI W base hb ob a c cap mb nn pu f it ke va) (h0 : J [] W) :
    CallsIn Fence.wide n Try.prog 38 #[.func (.yield l) #[] #[], .pointer (some ⟨Bs, 0, none⟩)] W fun e W' => (∃ v, e = .returned v) ∧
      ((∃ ys, Gd c ((List.range c).map fun i => (it (f i), ke (f i))).toArray ys ∧ J ys W') ∨ (∃ pre, (∃ ys k, Gd c ((List.range c).map fun i => (it (f i), ke (f i))).toArray ys ∧ k ≤ c ∧ pre = ys.take k) ∧ Jx pre W')) := by
  have hlim := h.lim
  have HR : Hid (HsI W base hb ob a c cap mb nn pu f it ke va ∧ AbidesFrom W.heap.size J ∧ J [] W) := ⟨h, hJ, h0⟩
  have MK : Hid _ := marks_any SORT W h
  clear h hJ h0
  refine callsIn_of_wp Try.func38 rfl trivial ?_ rfl
  simp only [Try.ntmps38, List.size_toArray, List.length_cons, List.length_nil, Nat.reduceAdd, Nat.reduceSub, Array.replicate_succ, Array.replicate_zero, List.push_toArray, List.append_toArray, List.nil_append, List.cons_append]
  gi_wp2_with fail
  refine ⟨trivial, ?_⟩
  refine (callsIn_wide.2 MK.out).mono ?_
  rintro e w1 ⟨g, cg, d', rfl, q1, q2, q3, q4, q5, q6, q7, q8⟩
  obtain ⟨ys, eys⟩ : ∃ ys, ys = d'.toList := ⟨_, rfl⟩
  have yl : ys.length = c := by rw [eys]; simpa using q4
  have HG : Hid (Gd c ((List.range c).map fun i => (it (f i), ke (f i))).toArray ys) := ⟨yl, d', q4, q5, q6, eys⟩
  obtain ⟨cs, ecs⟩ := q8
  have HC : Hid (∀ w2 : World, w2.heap[g]? = some (.cells cs 79) → ∀ k, k < c → w2.cell? ⟨g, k * 2, none⟩ = some (.int .i64 (ys.getD k (0, 0)).1) ∧ w2.cell? ⟨g, k * 2 + 1, none⟩ = some (.int .i64 (ys.getD k (0, 0)).2)) := by
    intro w2 e2 k hk
    have ed : d'[k]! = ys.getD k (0, 0) := by rw [eys]; simp [List.getD_eq_getElem?_getD, show k < d'.size by omega]
    have a0 := HoldsK.cell q3 (i := k) (c := 0) (by omega) (by omega)
    have a1 := HoldsK.cell q3 (i := k) (c := 1) (by omega) (by omega)
    rw [ed] at a0 a1
    have ec : ∀ i, w2.cell? ⟨g, i, none⟩ = w1.cell? ⟨g, i, none⟩ := fun i => World.cell?_of_block (e2.trans ecs.symm)
    rw [ec, ec]
    simp [encMk] at a0 a1
    exact ⟨a0.1, a1.1⟩
  have hJ1 : J [] w1 := HR.out.2.1 [] W w1 none HR.out.2.2 ⟨q7.os, q7.tape, q7.output, q7.size, fun k hk _ => q7.block k hk⟩ (fun r e => by cases e)
  have H1 : Hid (J [] w1 ∧ w1.heap[g]? = some (.cells cs 79) ∧ W.heap.size ≤ w1.heap.size) := ⟨hJ1, ecs, q7.size⟩
  have HYL : Hid (ys.length = c) := yl
  clear q1 q2 q3 q4 q5 q6 q7 hJ1 ecs eys MK yl
  gi_wp2_with fail
  gi_loopw [8] (fun i wr => ∃ k : Nat, k ≤ c ∧ i = .int .i64 (k : Int) ∧ Hid (J (ys.take k) wr) ∧ Hid (wr.heap[g]? = some (.cells cs 79))) (fun i _ => c - (intOf i).toNat)
  case atStart => exact ⟨0, Nat.zero_le _, rfl, H1.out.1, H1.out.2.1⟩
  case round =>
    obtain ⟨k, hk, rfl, hJs, hrow⟩ := hrel
    by_cases hlt : k < c
    · obtain ⟨x, ex⟩ : ∃ x : Int × Int, x = ys.getD k (0, 0) := ⟨_, rfl⟩
      obtain ⟨c0, c1⟩ := HC.out wr hrow.out k hlt
      rw [← ex] at c0 c1
      have hglt : g < wr.heap.size := (Array.getElem?_eq_some_iff.1 hrow.out).1
      have hJm : J (ys.take k) (wr.alloc (.cells #[.int .i64 x.1, .int .i64 x.2] 79)) := HR.out.2.1 (ys.take k) wr _ none hJs.out ⟨rfl, rfl, rfl, by simp, fun q hq _ => Below.heap_alloc _ _ _ hq⟩ (fun r e => by cases e)
      have hrm : (wr.alloc (.cells #[.int .i64 x.1, .int .i64 x.2] 79)).heap[g]? = some (.cells cs 79) := (Below.heap_alloc _ _ _ hglt).trans hrow.out
      obtain ⟨fn, tmps, assign, body, hy, hR⟩ := hY _ x _ hJm (by rw [List.length_take, HYL.out]; omega)
      have EX : Hid (ys.take (k + 1) = ys.take k ++ [x] ∧ (wr.alloc (.cells #[.int .i64 x.1, .int .i64 x.2] 79)).heap[g]? = some (.cells cs 79)) := ⟨by rw [ex]; exact take_succ ys k (by rw [HYL.out]; exact hlt), hrm⟩
      have hk' : (k : Int) < (c : Int) := by omega
      have w5 : IntKind.i64.wrap ((k : Int) + 1) = (k : Int) + 1 := by rw [IntKind.wrap_i64]; omega
      clear ex hJm hrm hglt
      gi_wp2_with fail
      refine hR.mono ?_
      rintro e W3 (⟨rfl, hJ3, hk3⟩ | ⟨rfl, hJx3⟩)
      · have H3 : Hid (J (ys.take (k + 1)) W3 ∧ W3.heap[g]? = some (.cells cs 79)) := ⟨by rw [EX.out.1]; exact hJ3, hk3 _ _ EX.out.2⟩
        clear hJ3 hk3
        gi_wp2_with fail
        go_roundw
        case rel => exact ⟨k + 1, by omega, by simp, H3.out.1, H3.out.2⟩
        case measure => simp [intOf]; omega
      · have H3 : Hid (Jx (ys.take (k + 1)) W3) := by
          show Jx _ _
          rw [EX.out.1]
          exact hJx3
        clear hJx3
        gi_wp2_with fail
        refine bodyPost_ret (results_none rfl _ _ _) rfl ?_
        exact ⟨⟨_, rfl⟩, .inr ⟨_, ⟨ys, k + 1, HG.out, by omega, rfl⟩, H3.out⟩⟩
    · obtain rfl : k = c := by omega
      gi_wp2_with fail
      go_end0
      refine ⟨⟨_, rfl⟩, .inl ⟨ys, HG.out, ?_⟩⟩
      have := hJs.out
      rw [← HYL.out, List.take_length] at this
      exact this
/-- What All answers can be ranged over. -/
theorem hall_stops (SORT : SortsMk) (n : Nat) (hn : 1 ≤ n) (Bs : Nat) {base hb ob : Nat} {a : Option Addr} {c cap mb nn : Nat} {pu : Int} {f : Nat → Nat} {it ke va : Nat → Int} (w : World) (hBs : w.cell? ⟨Bs, 0, none⟩ = some (.pointer (some ⟨hb, 0, none⟩))) (h : HsI w base hb ob a c cap mb nn pu f it ke va) :
    SeqStopsK Fence.wide n Try.prog 38 #[.pointer (some ⟨Bs, 0, none⟩)] (fun x : Int × Int => #[Value.int .i64 x.1, Value.int .i64 x.2]) Kmk (Gd c ((List.range c).map fun i => (it (f i), ke (f i))).toArray) (fun pre => ∃ ys k, Gd c ((List.range c).map fun i => (it (f i), ke (f i))).toArray ys ∧ k ≤ c ∧ pre = ys.take k) c w := fun l J Jx W hW hJ _ hY h0 =>
  hall1_in SORT n hn l Bs J Jx W hJ hY (cell_later hW hBs) (h.keep fun k o e _ _ => hW.block k (Array.getElem?_eq_some_iff.1 e).1) h0
end Go.Proofs.Ytklhenblcgmfhaa
namespace Go.Proofs.Ytklhenblcgmfhaa
open Go.RowKit Go.Shelf Go.Sort
set_option maxRecDepth 100000
set_option linter.unusedVariables false
theorem ltMk' (x y : Int × Int) : ltOf (fun x y : Int × Int => Lib.compareInt x.1 y.1) x y = decide (x.1 < y.1) := by
  unfold ltOf Lib.compareInt
  by_cases h1 : x.1 < y.1
  · simp [h1]
  · by_cases h2 : y.1 < x.1 <;> simp [h1, h2]
/-- The numbers never fall. -/
theorem Gd.le {n : Nat} {d : Array (Int × Int)} {ys : List (Int × Int)} (h : Gd n d ys) {i j : Nat} (hij : i < j) (hj : j < n) : (ys.getD i (0, 0)).1 ≤ (ys.getD j (0, 0)).1 := by
  obtain ⟨h1, d', h2, h3, h4, rfl⟩ := h
  have h5 := h4 i j (Nat.zero_le _) hij hj
  rw [ltMk'] at h5
  have h6 := of_decide_eq_false h5
  have e : ∀ k, k < n → d'.toList.getD k (0, 0) = d'[k]! := fun k hk => by simp [List.getD_eq_getElem?_getD, show k < d'.size by omega]
  rw [e i (by omega), e j hj]
  omega
theorem Gd.perm {n : Nat} {L ys : List (Int × Int)} (hl : L.length = n) (h : Gd n L.toArray ys) : ys.Perm L := by
  obtain ⟨h1, d', h2, h3, h4, rfl⟩ := h
  have h5 := h3.2.2
  have e : ∀ d : Array (Int × Int), d.size = n → d.extract 0 n = d := fun d hd => by rw [← hd]; simp
  rw [e d' h2, e L.toArray (by simpa using hl)] at h5
  simpa using h5
/-- Each thing is told. -/
theorem Gd.mem {n : Nat} {f : Nat → Nat} {it ke : Nat → Int} {ys : List (Int × Int)} (h : Gd n ((List.range n).map fun i => (it (f i), ke (f i))).toArray ys) (x : Int × Int) : x ∈ ys ↔ ∃ i, i < n ∧ x = (it (f i), ke (f i)) := by
  rw [(Gd.perm (by simp) h).mem_iff]
  simp only [List.mem_map, List.mem_range]
  exact ⟨fun ⟨i, hi, e⟩ => ⟨i, hi, e.symm⟩, fun ⟨i, hi, e⟩ => ⟨i, hi, e.symm⟩⟩
theorem Gd.nodup {n : Nat} {f : Nat → Nat} {it ke : Nat → Int} {ys : List (Int × Int)} (hi : ∀ i j, i < n → j < n → it (f i) = it (f j) → i = j) (h : Gd n ((List.range n).map fun i => (it (f i), ke (f i))).toArray ys) : (ys.map (·.1)).Nodup := by
  have hp := (Gd.perm (by simp) h).map (·.1)
  rw [hp.nodup_iff, List.map_map]
  rw [List.Nodup, List.pairwise_map]
  refine (List.nodup_range (n := n)).imp_of_mem ?_
  intro a b ha hb' hab e
  exact hab (hi a b (by simpa using ha) (by simpa using hb') e)
/-- The numbers rise. -/
theorem Gd.lt {n : Nat} {f : Nat → Nat} {it ke : Nat → Int} {ys : List (Int × Int)} (hi : ∀ i j, i < n → j < n → it (f i) = it (f j) → i = j) (h : Gd n ((List.range n).map fun i => (it (f i), ke (f i))).toArray ys) {i j : Nat} (hij : i < j) (hj : j < n) : (ys.getD i (0, 0)).1 < (ys.getD j (0, 0)).1 := by
  have h1 := h.le hij hj
  have h2 := h.nodup hi
  have hl := h.1
  have h3 := List.pairwise_iff_getElem.1 h2 i j (by simp; omega) (by simp; omega) hij
  simp only [List.getElem_map] at h3
  simp only [List.getD_eq_getElem?_getD, List.getElem?_eq_getElem (show i < ys.length by omega), List.getElem?_eq_getElem (show j < ys.length by omega), Option.getD_some] at h1 ⊢
  omega
/-- Rising numbers from 1 to n, n of them. -/
theorem rise_exact {n : Nat} {g : Nat → Int} (h1 : ∀ i, i < n → 1 ≤ g i ∧ g i ≤ (n : Int)) (h2 : ∀ i j, i < j → j < n → g i < g j) : ∀ j, j < n → g j = (j : Int) + 1 := by
  have lo : ∀ j, j < n → (j : Int) + 1 ≤ g j := by
    intro j
    induction j with
    | zero => intro h; have := (h1 0 h).1; omega
    | succ j ih => intro h; have := ih (by omega); have := h2 j (j + 1) (by omega) h; omega
  have hi : ∀ k, k < n → g (n - 1 - k) ≤ ((n - k : Nat) : Int) := by
    intro k
    induction k with
    | zero => intro h; have := (h1 (n - 1 - 0) (by omega)).2; omega
    | succ k ih => intro h; have := ih (by omega); have := h2 (n - 1 - (k + 1)) (n - 1 - k) (by omega) (by omega); omega
  intro j hj
  have a := lo j hj
  have b := hi (n - 1 - j) (by omega)
  rw [show n - 1 - (n - 1 - j) = j by omega] at b
  omega
/-- All of a table of the numbers 1 to n. -/
theorem Gd.exact {n : Nat} {f : Nat → Nat} {it ke : Nat → Int} {ys : List (Int × Int)} {xs : Nat → Int} (hi : ∀ i j, i < n → j < n → it (f i) = it (f j) → i = j) (hr : ∀ i, i < n → 1 ≤ it (f i) ∧ it (f i) ≤ (n : Int)) (hk : ∀ i, i < n → ke (f i) = xs (it (f i) - 1).toNat) (h : Gd n ((List.range n).map fun i => (it (f i), ke (f i))).toArray ys) : ∀ j, j < n → ys.getD j (0, 0) = ((j : Int) + 1, xs j) := by
  have hm : ∀ j, j < n → ∃ i, i < n ∧ ys.getD j (0, 0) = (it (f i), ke (f i)) := fun j hj => by
    refine (h.mem _).1 ?_
    have hl := h.1
    rw [List.getD_eq_getElem?_getD, List.getElem?_eq_getElem (show j < ys.length by omega)]
    exact List.getElem_mem _
  have e1 := rise_exact (n := n) (g := fun j => (ys.getD j (0, 0)).1) (fun j hj => by obtain ⟨i, hi', e⟩ := hm j hj; simp only [e]; exact hr i hi') (fun i j hij hj => h.lt hi hij hj)
  intro j hj
  obtain ⟨i, hi', e⟩ := hm j hj
  have e2 := e1 j hj
  simp only [e] at e2
  rw [e, hk i hi', e2]
  congr 2
  omega
end Go.Proofs.Ytklhenblcgmfhaa
