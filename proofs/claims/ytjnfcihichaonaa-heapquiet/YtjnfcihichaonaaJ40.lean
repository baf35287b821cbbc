/- Contracts of the program's functions, part 40: own work, joined in build order. -/
import Derived.Test.YtjnfcihichaonaaJ39
namespace Go.Proofs.Ytjnfcihichaonaa
open Go.RowKit
set_option maxRecDepth 100000
set_option linter.unusedVariables false
/-- A block of another kind than a heap's. -/
def Oth (o : Obj) : Prop := ∃ cs t z, o = .cells cs t z ∧ t ≠ 70 ∧ t ≠ 57 ∧ t ≠ 77 ∧ t ≠ 81
/-- The blocks of a heap and of its order. -/
def Bk (W : World) (hb ob k : Nat) : Prop := k = hb ∨ k = ob ∨ W.cell? ⟨hb, 2, none⟩ = some (.map (some k)) ∨ ∃ a n c, W.cell? ⟨hb, 1, none⟩ = some (.slice a n c) ∧ ((Value.slice a n c).ownBlock = some k ∨ ∃ g j, a = some ⟨g, 0, none⟩ ∧ j < n ∧ W.cell? ⟨g, j, none⟩ = some (.pointer (some ⟨k, 0, none⟩)))
theorem HsI.bk {W : World} {base hb ob : Nat} {a : Option Addr} {n cap mb nn : Nat} {pu : Int} {f : Nat → Nat} {it ke va : Nat → Int} (h : HsI W base hb ob a n cap mb nn pu f it ke va) (k : Nat) : Bk W hb ob k ↔ (k = hb ∨ k = mb ∨ k = ob ∨ (Value.slice a n cap).ownBlock = some k ∨ Img n f n k) := by
  obtain ⟨c1, c2, _, _⟩ := h.cells
  have ptr : ∀ g j, a = some ⟨g, 0, none⟩ → j < n → W.cell? ⟨g, j, none⟩ = some (.pointer (some ⟨f j, 0, none⟩)) := fun g j e hj => by
    obtain ⟨gp, e2, _, _, _, cs, e3, _, e4⟩ := h.some' (by omega)
    rw [e] at e2
    cases e2
    simp [World.cell?, e3, e4 j hj]
  unfold Bk
  rw [c1, c2]
  constructor
  · rintro (e | e | e | ⟨a', n', c', e, e2 | ⟨g, j, e2, hj, e3⟩⟩)
    · exact .inl e
    · exact .inr (.inr (.inl e))
    · cases e
      exact .inr (.inl rfl)
    · cases e
      exact .inr (.inr (.inr (.inl e2)))
    · cases e
      rw [ptr g j e2 hj] at e3
      cases e3
      exact .inr (.inr (.inr (.inr ⟨j, hj, by omega, rfl⟩)))
  · rintro (e | e | e | e | ⟨j, hj, _, rfl⟩)
    · exact .inl e
    · subst e
      exact .inr (.inr (.inl rfl))
    · exact .inr (.inl e)
    · exact .inr (.inr (.inr ⟨_, _, _, rfl, .inl e⟩))
    · obtain ⟨gp, e2, _⟩ := h.some' (by omega)
      exact .inr (.inr (.inr ⟨_, _, _, rfl, .inr ⟨gp, j, e2, hj, ptr gp j e2 hj⟩⟩))
/-- From W to W' nothing turned below base, no block of another kind, and none but the heap's own. -/
structure Fr (hb ob base : Nat) (W W' : World) : Prop where
  bel : Below base W W'
  oth : ∀ (k : Nat) (o : Obj), W.heap[k]? = some o → Oth o → W'.heap[k]? = some o
  own : ∀ k, k < W.heap.size → ¬ Bk W hb ob k → W'.heap[k]? = W.heap[k]?
  new : ∀ k, Bk W' hb ob k → Bk W hb ob k ∨ W.heap.size ≤ k
theorem Fr.refl (hb ob base : Nat) (W : World) : Fr hb ob base W W := ⟨Below.refl _ _, fun _ _ h _ => h, fun _ _ _ => rfl, fun _ h => .inl h⟩
theorem Fr.trans {hb ob base : Nat} {a b c : World} (h : Fr hb ob base a b) (k : Fr hb ob base b c) : Fr hb ob base a c := by
  refine ⟨h.bel.trans k.bel, fun x o e ho => k.oth x o (h.oth x o e ho) ho, fun x hx hn => (k.own x (Nat.lt_of_lt_of_le hx h.bel.size) fun e => ?_).trans (h.own x hx hn), fun x hx => ?_⟩
  · rcases h.new x e with h1 | h1
    · exact hn h1
    · omega
  · rcases k.new x hx with h1 | h1
    · exact h.new x h1
    · exact .inr (Nat.le_trans h.bel.size h1)
theorem Fr.of_tn {base hb ob : Nat} {W W' : World} {a : Option Addr} {n cap mb nn : Nat} {pu : Int} {f : Nat → Nat} {it ke va : Nat → Int} {lv : Value} {nx mod : Int} {tur : Bool} {lies : Int} {N : Nat} (h : HsI W base hb ob a n cap mb nn pu f it ke va) (ho : Ordr W ob lv nx mod tur lies N) (hb0 : base ≤ W.heap.size) (hT : Tn (fun k => k = hb ∨ k = mb ∨ k = ob ∨ (Value.slice a n cap).ownBlock = some k ∨ Img n f n k) W W') (hnew : ∀ k, Bk W' hb ob k → Bk W hb ob k ∨ W.heap.size ≤ k) : Fr hb ob base W W' := by
  refine ⟨⟨hT.os, hT.tape, hT.output, hT.size, fun k hk => hT.block k (by omega) fun e => ?_⟩, fun k o e ht => ?_, fun k hk hn => hT.block k hk fun e => hn ((h.bk k).2 e), hnew⟩
  · have := hs_ge h k e
    omega
  · obtain ⟨cs, t, z, rfl, t1, t2, t3, t4⟩ := ht
    refine (hT.block k (Array.getElem?_eq_some_iff.1 e).1 fun e2 => ?_).trans e
    obtain ⟨g, hm, _⟩ := h.map
    obtain ⟨es, ck, hmb⟩ := hm.block
    rcases e2 with rfl | rfl | rfl | e2 | e2
    · rw [h.hd] at e
      cases e
      exact t1 rfl
    · rw [hmb] at e
      cases e
    · rw [ho.at'] at e
      cases e
      exact t2 rfl
    · obtain ⟨_, cs2, e3⟩ := h.own e2
      rw [e3] at e
      cases e
      exact t3 rfl
    · obtain ⟨i, hi, _, rfl⟩ := e2
      rw [h.pl i hi] at e
      cases e
      exact t4 rfl
/-- The table with one row changed. -/
def updT (T : Int → Option (Int × Int)) (i : Int) (o : Option (Int × Int)) : Int → Option (Int × Int) := fun j => if j = i then o else T j
/-- The one comes ahead of the other, or is it. -/
def leT (md : Int) (tur : Bool) (i k j l : Int) : Prop := rk md tur k < rk md tur l ∨ (rk md tur k = rk md tur l ∧ i ≤ j)
/-- A heap: n things, by their numbers. -/
structure Hp (base : Nat) (W : World) (hb ob : Nat) (lv : Value) (nx md : Int) (tur : Bool) (lies : Int) (N n : Nat) (pu : Int) (T : Int → Option (Int × Int)) : Prop where
  ex : ∃ a cap mb nn f it ke va, HsI W base hb ob a n cap mb nn pu f it ke va ∧ (lies = 0 → Ord (leB md tur it ke) n f n) ∧ ∀ i k v, T i = some (k, v) ↔ ∃ b, Img n f n b ∧ it b = i ∧ ke b = k ∧ va b = v
  od : Ordr W ob lv nx md tur lies N
  le : base ≤ W.heap.size
section
variable {base : Nat} {W W' : World} {hb ob : Nat} {lv : Value} {nx md : Int} {tur : Bool} {lies : Int} {N n : Nat} {pu : Int} {T : Int → Option (Int × Int)}
theorem Hp.keep (h : Hp base W hb ob lv nx md tur lies N n pu T) (hB : Below W.heap.size W W') : Hp base W' hb ob lv nx md tur lies N n pu T := by
  obtain ⟨a, cap, mb, nn, f, it, ke, va, h1, h2, h3⟩ := h.ex
  exact ⟨⟨a, cap, mb, nn, f, it, ke, va, h1.keep fun k o e _ _ => hB.block k (Array.getElem?_eq_some_iff.1 e).1, h2, h3⟩, h.od.kept (hB.block _ h.od.lt), Nat.le_trans h.le hB.size⟩
theorem Hp.bk_keep (h : Hp base W hb ob lv nx md tur lies N n pu T) (hk : ∀ (k : Nat) (o : Obj), W.heap[k]? = some o → (∀ cs, o ≠ .cells cs 57) → (∀ cs, o ≠ .cells cs 26) → W'.heap[k]? = W.heap[k]?) (k : Nat) : Bk W' hb ob k ↔ Bk W hb ob k := by
  obtain ⟨a, cap, mb, nn, f, it, ke, va, h1, h2, h3⟩ := h.ex
  exact ((h1.keep hk).bk k).trans (h1.bk k).symm
theorem Fr.of_below (hB : Below W.heap.size W W') (h : Hp base W hb ob lv nx md tur lies N n pu T) : Fr hb ob base W W' :=
  ⟨hB.mono h.le, fun k o e _ => (hB.block k (Array.getElem?_eq_some_iff.1 e).1).trans e, fun k hk _ => hB.block k hk, fun k hk => .inl ((h.bk_keep (fun k o e _ _ => hB.block k (Array.getElem?_eq_some_iff.1 e).1) k).1 hk)⟩
theorem Hp.range (h : Hp base W hb ob lv nx md tur lies N n pu T) {i k v : Int} (e : T i = some (k, v)) : 1 ≤ i ∧ i ≤ pu ∧ -9223372036854775808 ≤ k ∧ k ≤ 9223372036854775807 := by
  obtain ⟨a, cap, mb, nn, f, it, ke, va, h1, h2, h3⟩ := h.ex
  obtain ⟨b, ⟨j, hj, _, rfl⟩, rfl, rfl, rfl⟩ := (h3 _ _ _).1 e
  have q1 := h1.itr j hj
  have q2 := h1.wf j hj
  omega
theorem Hp.pus (h : Hp base W hb ob lv nx md tur lies N n pu T) : 0 ≤ pu ∧ pu ≤ 1000000000 := by
  obtain ⟨a, cap, mb, nn, f, it, ke, va, h1, h2, h3⟩ := h.ex
  exact ⟨h1.pu0, h1.pu1⟩
/-- Another block is written. -/
theorem Hp.other (h : Hp base W hb ob lv nx md tur lies N n pu T) (hk : ∀ (k : Nat) (o : Obj), W.heap[k]? = some o → ¬ Oth o → W'.heap[k]? = some o) (hz : base ≤ W'.heap.size) : Hp base W' hb ob lv nx md tur lies N n pu T := by
  obtain ⟨a, cap, mb, nn, f, it, ke, va, h1, h2, h3⟩ := h.ex
  have q1 : ∀ (k : Nat) (cs : Array Value) (t : TypeId), W.heap[k]? = some (.cells cs t) → (t = 70 ∨ t = 57 ∨ t = 77 ∨ t = 81) → W'.heap[k]? = W.heap[k]? := fun k cs t e ht => (hk k _ e (by
    rintro ⟨cs2, t2, z2, e2, n1, n2, n3, n4⟩
    cases e2
    rcases ht with e | e | e | e
    · exact n1 e
    · exact n2 e
    · exact n3 e
    · exact n4 e)).trans e.symm
  refine ⟨⟨a, cap, mb, nn, f, it, ke, va, ?_, h2, h3⟩, h.od.kept (q1 _ _ _ h.od.at' (.inr (.inl rfl))), hz⟩
  refine { h1 with hd := (q1 _ _ _ h1.hd (.inl rfl)).trans h1.hd, row := own_kept h1.row fun k hk2 => ?_, pl := fun i hi => (q1 _ _ _ (h1.pl i hi) (.inr (.inr (.inr rfl)))).trans (h1.pl i hi), mp := ?_ }
  · obtain ⟨_, cs, e⟩ := h1.own hk2
    exact q1 _ _ _ e (.inr (.inr (.inl rfl)))
  · obtain ⟨g, hm, hg⟩ := h1.mp
    obtain ⟨es, ck, hmb⟩ := hm.block
    exact ⟨g, hm.kept ((hk _ _ hmb (by rintro ⟨_, _, _, e2, _⟩; cases e2)).trans hmb.symm), hg⟩
theorem Hp.bk_other (h : Hp base W hb ob lv nx md tur lies N n pu T) (hk : ∀ (k : Nat) (o : Obj), W.heap[k]? = some o → ¬ Oth o → W'.heap[k]? = some o) (k : Nat) : Bk W' hb ob k ↔ Bk W hb ob k := by
  obtain ⟨a, cap, mb, nn, f, it, ke, va, h1, h2, h3⟩ := h.ex
  have q1 : ∀ (k : Nat) (cs : Array Value) (t : TypeId), W.heap[k]? = some (.cells cs t) → (t = 70 ∨ t = 77) → W'.heap[k]? = W.heap[k]? := fun k cs t e ht => (hk k _ e (by
    rintro ⟨cs2, t2, z2, e2, n1, n2, n3, n4⟩
    cases e2
    rcases ht with e | e
    · exact n1 e
    · exact n3 e)).trans e.symm
  have c : ∀ i, W'.cell? ⟨hb, i, none⟩ = W.cell? ⟨hb, i, none⟩ := fun i => World.cell?_of_block (q1 _ _ _ h1.hd (.inl rfl))
  have r : ∀ g, (Value.slice a n cap).ownBlock = some g → ∀ i, W'.cell? ⟨g, i, none⟩ = W.cell? ⟨g, i, none⟩ := fun g hg i => by
    obtain ⟨_, cs, e⟩ := h1.own hg
    exact World.cell?_of_block (q1 _ _ _ e (.inr rfl))
  unfold Bk
  rw [c, c, h1.cells.1]
  refine or_congr Iff.rfl (or_congr Iff.rfl (or_congr Iff.rfl ⟨?_, ?_⟩))
  · rintro ⟨a', n', c', e, e2 | ⟨g, j, e2, hj, e3⟩⟩
    · exact ⟨a', n', c', e, .inl e2⟩
    · cases e
      exact ⟨_, _, _, rfl, .inr ⟨g, j, e2, hj, by rw [← r g (by rw [e2]; rfl)]; exact e3⟩⟩
  · rintro ⟨a', n', c', e, e2 | ⟨g, j, e2, hj, e3⟩⟩
    · exact ⟨a', n', c', e, .inl e2⟩
    · cases e
      exact ⟨_, _, _, rfl, .inr ⟨g, j, e2, hj, by rw [r g (by rw [e2]; rfl)]; exact e3⟩⟩
/-- So seldom. -/
theorem pow_few {M N n d : Nat} (h : 2 ^ (M - N) ≤ 4 * (n + 1) * (n + 1)) (hn : n < 2 ^ d) : M ≤ N + (12 * d + 12) := by
  have := few_asked h hn
  omega
theorem Hp.push (h : Hp base W hb ob lv nx md tur lies N n pu T) (k v : Int) (hn : n < 100000) (hpu : pu < 100000) (hN : N < 999999999) (hk : -9223372036854775808 ≤ k) (hk2 : k ≤ 9223372036854775807) :
    Calls Try.prog 13 #[.pointer (some ⟨hb, 0, none⟩), .int .i64 k, .int .i64 v] W fun e w' => e = .returned (.int .i64 (pu + 1)) ∧ ∃ M, Hp base w' hb ob lv nx md tur lies M (n + 1) (pu + 1) (updT T (pu + 1) (some (k, v))) ∧ N ≤ M ∧ 2 ^ (M - N) ≤ 4 * (n + 1) ∧ Fr hb ob base W w' := by
  obtain ⟨a, cap, mb, nn, f, it, ke, va, h1, h2, h3⟩ := h.ex
  refine (pushI_any k v _ h1 h.od (by omega) (by omega) (by omega) hk hk2 h.le).mono ?_
  rintro e w' ⟨rfl, a', cap', f', M, q1, q2, q3, q4, q5, q6, q7⟩
  have old : ∀ b, Img n f n b → b ≠ W.heap.size := fun b hb' => by
    obtain ⟨i, hi, _, rfl⟩ := hb'
    have := (Array.getElem?_eq_some_iff.1 (h1.pl i hi)).1
    omega
  have oit : ∀ b, Img n f n b → it b ≠ pu + 1 := fun b hb' => by
    obtain ⟨i, hi, _, rfl⟩ := hb'
    have := h1.itr i hi
    omega
  refine ⟨rfl, M, ⟨⟨a', cap', mb, nn + 1, f', _, _, _, q1, fun e => q5 e (h2 e), fun i k' v' => ?_⟩, q2, Nat.le_trans h.le q7.size⟩, q3, q4, Fr.of_tn h1 h.od h.le q7.toTn fun k hk => ?_⟩
  rotate_left
  · rw [q1.bk] at hk
    rw [h1.bk]
    rcases hk with e | e | e | e | e
    · exact .inl (.inl e)
    · exact .inl (.inr (.inl e))
    · exact .inl (.inr (.inr (.inl e)))
    · rcases q7.new k e with h5 | h5
      · exact .inr h5
      · exact .inl (.inr (.inr (.inr (.inl h5))))
    · rcases (q6 k).1 e with h5 | h5
      · exact .inl (.inr (.inr (.inr (.inr h5))))
      · exact .inr (by omega)
  unfold updT
  split
  · rename_i e
    subst e
    constructor
    · intro e
      cases e
      exact ⟨_, (q6 _).2 (.inr rfl), upN_eq, upN_eq, upN_eq⟩
    · rintro ⟨b, hb', e1, e2, e3⟩
      rcases (q6 b).1 hb' with h5 | rfl
      · rw [upN_ne (old b h5)] at e1
        exact absurd e1 (oit b h5)
      · rw [upN_eq] at e2 e3
        rw [e2, e3]
  · rename_i hne
    rw [h3]
    constructor
    · rintro ⟨b, hb', e1, e2, e3⟩
      exact ⟨b, (q6 b).2 (.inl hb'), by rw [upN_ne (old b hb')]; exact e1, by rw [upN_ne (old b hb')]; exact e2, by rw [upN_ne (old b hb')]; exact e3⟩
    · rintro ⟨b, hb', e1, e2, e3⟩
      rcases (q6 b).1 hb' with h5 | rfl
      · rw [upN_ne (old b h5)] at e1 e2 e3
        exact ⟨b, h5, e1, e2, e3⟩
      · rw [upN_eq] at e1
        exact absurd e1.symm hne
/-- What is left where x came out. -/
theorem Hp.taken {a : Option Addr} {cap mb nn : Nat} {f : Nat → Nat} {it ke va : Nat → Int} {x : Nat} (hle : base ≤ W.heap.size) (ho : Ordr W ob lv nx md tur lies N) (h1 : HsI W base hb ob a (n + 1) cap mb nn pu f it ke va) (h2 : lies = 0 → Ord (leB md tur it ke) (n + 1) f (n + 1)) (h3 : ∀ i k v, T i = some (k, v) ↔ ∃ b, Img (n + 1) f (n + 1) b ∧ it b = i ∧ ke b = k ∧ va b = v) (hx : Img (n + 1) f (n + 1) x) (ht : TakI W base hb ob a n cap mb pu f it ke va lv nx md tur lies N x W') :
    ∃ M, Hp base W' hb ob lv nx md tur lies M n pu (updT T (it x) none) ∧ T (it x) = some (ke x, va x) ∧ N ≤ M ∧ 2 ^ (M - N) ≤ 4 * (n + 1) * (n + 1) ∧ Fr hb ob base W W' := by
  obtain ⟨a', cap', mb', nn', f', M, q1, q2, q3, q4, q5, q6, q7, q8⟩ := ht
  refine ⟨M, ⟨⟨a', cap', mb', nn', f', it, ke, va, q1, fun e => q5 e (h2 e), fun i k v => ?_⟩, q2, Nat.le_trans hle q7.size⟩, (h3 _ _ _).2 ⟨x, hx, rfl, rfl, rfl⟩, q3, q4, Fr.of_tn h1 ho hle q7.toTn fun k hk => ?_⟩
  rotate_left
  · rw [q1.bk] at hk
    rw [h1.bk]
    rcases hk with e | e | e | e | e
    · exact .inl (.inl e)
    · rcases q7.new.2 with h5 | h5
      · exact .inr (by omega)
      · exact .inl (.inr (.inl (e.trans h5)))
    · exact .inl (.inr (.inr (.inl e)))
    · rcases q7.new.1 k e with h5 | h5
      · exact .inr h5
      · exact .inl (.inr (.inr (.inr (.inl h5))))
    · exact .inl (.inr (.inr (.inr (.inr ((q6 k).1 e).1))))
  have inj : ∀ b, Img (n + 1) f (n + 1) b → it b = it x → b = x := fun b hb' e => by
    obtain ⟨i, hi, _, rfl⟩ := hb'
    obtain ⟨j, hj, _, rfl⟩ := hx
    rw [h1.iti i j hi hj e]
  unfold updT
  split
  · rename_i e
    subst e
    constructor
    · intro e
      cases e
    · rintro ⟨b, hb', e1, _, _⟩
      exact absurd (inj b ((q6 b).1 hb').1 e1) ((q6 b).1 hb').2
  · rename_i hne
    rw [h3]
    constructor
    · rintro ⟨b, hb', e1, e2, e3⟩
      exact ⟨b, (q6 b).2 ⟨hb', fun e => hne (by rw [← e1, e])⟩, e1, e2, e3⟩
    · rintro ⟨b, hb', e⟩
      exact ⟨b, ((q6 b).1 hb').1, e⟩
/-- A thing came out: which, of which none is ahead (behind), what is left. -/
def Outs (base : Nat) (W : World) (hb ob : Nat) (lv : Value) (nx md : Int) (tur : Bool) (lies : Int) (N n : Nat) (pu : Int) (T : Int → Option (Int × Int)) (up : Bool) (e : Ending) (w' : World) : Prop :=
  ∃ i k v M, e = .returned (.tuple #[.int .i64 i, .int .i64 k, .int .i64 v, .bool true]) ∧ T i = some (k, v) ∧ Hp base w' hb ob lv nx md tur lies M n pu (updT T i none) ∧ N ≤ M ∧ 2 ^ (M - N) ≤ 4 * (n + 1) * (n + 1) ∧ Fr hb ob base W w' ∧
    (lies = 0 → ∀ j l u, T j = some (l, u) → if up then leT md tur j l i k else leT md tur i k j l)
theorem Hp.popMin (h : Hp base W hb ob lv nx md tur lies N (n + 1) pu T) (hN : N < 999999999) :
    Calls Try.prog 19 #[.pointer (some ⟨hb, 0, none⟩)] W (Outs base W hb ob lv nx md tur lies N n pu T false) := by
  obtain ⟨a, cap, mb, nn, f, it, ke, va, h1, h2, h3⟩ := h.ex
  refine (popMinI_any _ h1 h.od (by omega) h.le).mono ?_
  rintro e w' ⟨rfl, ht⟩
  have h0 : Img (n + 1) f (n + 1) (f 0) := ⟨0, by omega, by omega, rfl⟩
  obtain ⟨M, q1, q2, q3, q4, q5⟩ := Hp.taken h.le h.od h1 h2 h3 h0 ht
  refine ⟨_, _, _, M, rfl, q2, q1, q3, q4, q5, fun e j l u hj => ?_⟩
  obtain ⟨b, hb', rfl, rfl, rfl⟩ := (h3 _ _ _).1 hj
  exact ord_min (leB_total _ _ _ _) (h2 e) hb'
theorem Hp.popMax (h : Hp base W hb ob lv nx md tur lies N (n + 1) pu T) (hN : N < 999999999) :
    Calls Try.prog 21 #[.pointer (some ⟨hb, 0, none⟩)] W (Outs base W hb ob lv nx md tur lies N n pu T true) := by
  obtain ⟨a, cap, mb, nn, f, it, ke, va, h1, h2, h3⟩ := h.ex
  refine (popMaxI_any _ h1 h.od (by omega) h.le).mono ?_
  rintro e w' ⟨rfl, ht⟩
  have h0 : Img (n + 1) f (n + 1) (f (if n = 0 then 0 else 1)) := ⟨if n = 0 then 0 else 1, by split <;> omega, by split <;> omega, rfl⟩
  obtain ⟨M, q1, q2, q3, q4, q5⟩ := Hp.taken h.le h.od h1 h2 h3 h0 ht
  refine ⟨_, _, _, M, rfl, q2, q1, q3, q4, q5, fun e j l u hj => ?_⟩
  obtain ⟨b, hb', rfl, rfl, rfl⟩ := (h3 _ _ _).1 hj
  exact ord_max (leB_total _ _ _ _) (h2 e) hb'
theorem Hp.noMin (h : Hp base W hb ob lv nx md tur lies N 0 pu T) :
    Calls Try.prog 19 #[.pointer (some ⟨hb, 0, none⟩)] W fun e w' => e = .returned (.tuple #[.int .i64 0, .int .i64 0, .int .i64 0, .bool false]) ∧ ∃ m, w' = W.drewN m := by
  obtain ⟨a, cap, mb, nn, f, it, ke, va, h1, h2, h3⟩ := h.ex
  exact popMinI_none W h1
theorem Hp.noMax (h : Hp base W hb ob lv nx md tur lies N 0 pu T) :
    Calls Try.prog 21 #[.pointer (some ⟨hb, 0, none⟩)] W fun e w' => e = .returned (.tuple #[.int .i64 0, .int .i64 0, .int .i64 0, .bool false]) ∧ ∃ m, w' = W.drewN m := by
  obtain ⟨a, cap, mb, nn, f, it, ke, va, h1, h2, h3⟩ := h.ex
  exact popMaxI_none W h1
theorem Hp.len (h : Hp base W hb ob lv nx md tur lies N n pu T) :
    Calls Try.prog 17 #[.pointer (some ⟨hb, 0, none⟩)] W fun e w' => e = .returned (.int .i64 (n : Int)) ∧ w' = W := by
  obtain ⟨a, cap, mb, nn, f, it, ke, va, h1, h2, h3⟩ := h.ex
  exact lenI_any W h1
theorem Hp.none' (h : Hp base W hb ob lv nx md tur lies N 0 pu T) (i : Int) : T i = none := by
  obtain ⟨a, cap, mb, nn, f, it, ke, va, h1, h2, h3⟩ := h.ex
  cases e : T i with
  | none => rfl
  | some p =>
    obtain ⟨b, ⟨j, hj, _⟩, _⟩ := (h3 i p.1 p.2).1 e
    omega
theorem Hp.some' (h : Hp base W hb ob lv nx md tur lies N (n + 1) pu T) : ∃ i k v, T i = some (k, v) := by
  obtain ⟨a, cap, mb, nn, f, it, ke, va, h1, h2, h3⟩ := h.ex
  exact ⟨_, _, _, (h3 _ _ _).2 ⟨f 0, ⟨0, by omega, by omega, rfl⟩, rfl, rfl, rfl⟩⟩
/-- The first or the last one, looked at. -/
def Tells (W : World) (md : Int) (tur : Bool) (lies : Int) (T : Int → Option (Int × Int)) (up : Bool) (e : Ending) (w' : World) : Prop :=
  (∃ i k v, e = .returned (.tuple #[.int .i64 i, .int .i64 k, .int .i64 v, .bool true]) ∧ T i = some (k, v) ∧ (lies = 0 → ∀ j l u, T j = some (l, u) → if up then leT md tur j l i k else leT md tur i k j l)) ∧ ∃ m, w' = W.drewN m
theorem Hp.min (h : Hp base W hb ob lv nx md tur lies N (n + 1) pu T) :
    Calls Try.prog 46 #[.pointer (some ⟨hb, 0, none⟩)] W (Tells W md tur lies T false) := by
  obtain ⟨a, cap, mb, nn, f, it, ke, va, h1, h2, h3⟩ := h.ex
  have := minI_any W h1
  rw [show fst? (n + 1) f = some (f 0) by unfold fst?; rw [if_neg (by omega)]] at this
  refine this.mono ?_
  rintro e w' ⟨rfl, m, rfl⟩
  refine ⟨⟨_, _, _, rfl, (h3 _ _ _).2 ⟨f 0, ⟨0, by omega, by omega, rfl⟩, rfl, rfl, rfl⟩, fun e j l u hj => ?_⟩, m, rfl⟩
  obtain ⟨b, hb', rfl, rfl, rfl⟩ := (h3 _ _ _).1 hj
  exact ord_min (leB_total _ _ _ _) (h2 e) hb'
theorem Hp.max (h : Hp base W hb ob lv nx md tur lies N (n + 1) pu T) :
    Calls Try.prog 47 #[.pointer (some ⟨hb, 0, none⟩)] W (Tells W md tur lies T true) := by
  obtain ⟨a, cap, mb, nn, f, it, ke, va, h1, h2, h3⟩ := h.ex
  have := maxI_any W h1
  rw [show lst? (n + 1) f = some (f (if n = 0 then 0 else 1)) by unfold lst?; rw [if_neg (by omega)]; split <;> split <;> first | rfl | omega] at this
  refine this.mono ?_
  rintro e w' ⟨rfl, m, rfl⟩
  refine ⟨⟨_, _, _, rfl, (h3 _ _ _).2 ⟨f (if n = 0 then 0 else 1), ⟨if n = 0 then 0 else 1, by split <;> omega, by split <;> omega, rfl⟩, rfl, rfl, rfl⟩, fun e j l u hj => ?_⟩, m, rfl⟩
  obtain ⟨b, hb', rfl, rfl, rfl⟩ := (h3 _ _ _).1 hj
  exact ord_max (leB_total _ _ _ _) (h2 e) hb'
theorem Hp.minNo (h : Hp base W hb ob lv nx md tur lies N 0 pu T) :
    Calls Try.prog 46 #[.pointer (some ⟨hb, 0, none⟩)] W fun e w' => e = .returned (.tuple #[.int .i64 0, .int .i64 0, .int .i64 0, .bool false]) ∧ ∃ m, w' = W.drewN m := by
  obtain ⟨a, cap, mb, nn, f, it, ke, va, h1, h2, h3⟩ := h.ex
  have := minI_any W h1
  rw [show fst? 0 f = none by unfold fst?; rw [if_pos rfl]] at this
  exact this
theorem Hp.maxNo (h : Hp base W hb ob lv nx md tur lies N 0 pu T) :
    Calls Try.prog 47 #[.pointer (some ⟨hb, 0, none⟩)] W fun e w' => e = .returned (.tuple #[.int .i64 0, .int .i64 0, .int .i64 0, .bool false]) ∧ ∃ m, w' = W.drewN m := by
  obtain ⟨a, cap, mb, nn, f, it, ke, va, h1, h2, h3⟩ := h.ex
  have := maxI_any W h1
  rw [show lst? 0 f = none by unfold lst?; rw [if_pos rfl]] at this
  exact this
end
/-- made: an empty heap and its order. -/
theorem made_hp (mod : Int) (tur : Bool) (lies : Int) (w : World) (h1 : -9223372036854775808 ≤ mod) (h2 : mod ≤ 9223372036854775807) (h3 : 0 ≤ lies) (h4 : lies ≤ 100) :
    Calls Try.prog 9 #[.int .i64 mod, .bool tur, .int .i64 lies] w fun e w' => ∃ hb ob md, e = .returned (.agg #[.pointer (some ⟨hb, 0, none⟩), .pointer (some ⟨ob, 0, none⟩)]) ∧ Hp w.heap.size w' hb ob (.slice none 0 0) 0 md tur lies 0 0 0 (fun _ => none) ∧ (0 ≤ md ∧ md ≤ 12) ∧ Below w.heap.size w w' := by
  refine (made_any mod tur lies w h1 h2 h3 h4).mono ?_
  rintro e w1 ⟨hb, ob, mb, md, rfl, S1, O1, B1⟩
  exact ⟨hb, ob, md, rfl, ⟨⟨none, 0, mb, 0, _, _, _, _, S1, fun _ a b ha => by omega, fun i k v => ⟨fun e => (by cases e), fun h => (by obtain ⟨b, ⟨j, hj, _⟩, _⟩ := h; omega)⟩⟩, O1, B1.size⟩, ⟨O1.mod0, O1.mod1⟩, B1⟩
end Go.Proofs.Ytjnfcihichaonaa
