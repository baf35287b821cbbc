/- Contracts of the program's functions, part 43: own work, joined in build order. -/
import Derived.Test.YtjnfcihichaonaaJ42
import Derived.Maps.AppendAt
namespace Go.Proofs.Ytjnfcihichaonaa
open Go.RowKit Go.Sort
set_option maxRecDepth 100000
set_option linter.unusedVariables false
theorem bel_grow (W : World) (n : Nat) (os : Array Obj) : Below W.heap.size W (grow (W.drewN n) os) :=
  ⟨rfl, rfl, rfl, by simp [grow], fun k hk => by
    show (W.heap ++ os)[k]? = W.heap[k]?
    rw [Array.getElem?_append_left hk]⟩
/-- A slice of numbers that came in. -/
structure ISl (w : World) (a : Option Addr) (n cap : Nat) (xs : Nat → Int) : Prop where
  le : n ≤ cap
  lim : cap ≤ 9223372036854775807
  wf : ∀ i, i < n → -9223372036854775808 ≤ xs i ∧ xs i ≤ 9223372036854775807
  at' : n = 0 ∨ ∃ b o, a = some ⟨b, o, none⟩ ∧ ∀ i, i < n → w.cell? ⟨b, o + i, none⟩ = some (.int .i64 (xs i))
theorem ISl.at {w W : World} {a : Option Addr} {n cap : Nat} {xs : Nat → Int} (h : ISl w a n cap xs) (hB : Below w.heap.size w W) (hn : 0 < n) : ∃ b o, a = some ⟨b, o, none⟩ ∧ ∀ i, i < n → W.cell? ⟨b, o + i, none⟩ = some (.int .i64 (xs i)) := by
  rcases h.at' with e | ⟨b, o, e, hc⟩
  · omega
  · exact ⟨b, o, e, fun i hi => cell_later hB (hc i hi)⟩
/-- A slice of truths that came in. -/
structure BSl (w : World) (a : Option Addr) (n cap : Nat) (xs : Nat → Bool) : Prop where
  le : n ≤ cap
  lim : cap ≤ 9223372036854775807
  at' : n = 0 ∨ ∃ b o, a = some ⟨b, o, none⟩ ∧ ∀ i, i < n → w.cell? ⟨b, o + i, none⟩ = some (.bool (xs i))
theorem BSl.at {w W : World} {a : Option Addr} {n cap : Nat} {xs : Nat → Bool} (h : BSl w a n cap xs) (hB : Below w.heap.size w W) (hn : 0 < n) : ∃ b o, a = some ⟨b, o, none⟩ ∧ ∀ i, i < n → W.cell? ⟨b, o + i, none⟩ = some (.bool (xs i)) := by
  rcases h.at' with e | ⟨b, o, e, hc⟩
  · omega
  · exact ⟨b, o, e, fun i hi => cell_later hB (hc i hi)⟩
/-- A row of numbers of one's own. -/
def Rw (base : Nat) (W : World) (v : Value) (xs : List Int) : Prop := W.ownsRow base 3 1 v xs.length (xs.map (Value.int .i64))
theorem Rw.nil (base : Nat) (W : World) : Rw base W (.slice none 0 0) [] := ⟨rfl, .inl ⟨rfl, rfl⟩⟩
theorem Rw.sl {base : Nat} {W : World} {v : Value} {xs : List Int} (h : Rw base W v xs) : ∃ a cap, v = .slice a xs.length cap ∧ (0 < xs.length → ∃ g, a = some ⟨g, 0, none⟩ ∧ ∀ i, i < xs.length → W.cell? ⟨g, i, none⟩ = some (.int .i64 (xs.getD i 0))) := by
  rcases h.2 with ⟨e, e0⟩ | ⟨g, cap, cur, e, hb', hg, h1, h2, h3, h4⟩
  · refine ⟨none, 0, by rw [e]; congr 1; omega, fun h => by omega⟩
  · refine ⟨_, cap, e, fun _ => ⟨g, rfl, fun i hi => ?_⟩⟩
    have q4 := congrArg (fun l => l[i]?) h4
    simp only [Nat.mul_one] at q4
    rw [List.getElem?_take_of_lt hi, Array.getElem?_toList] at q4
    simp only [World.cell?, hg]
    simp [q4, hi]
theorem Rw.own {base : Nat} {W : World} {v : Value} {xs : List Int} (h : Rw base W v xs) {k : Nat} (hk : v.ownBlock = some k) : base ≤ k ∧ ∃ cs, W.heap[k]? = some (.cells cs 3) := by
  rcases h.2 with ⟨e, _⟩ | ⟨g, cap', cur, e, hb', hg, _⟩
  · rw [e] at hk
    cases hk
  · rw [e] at hk
    cases hk
    exact ⟨hb', cur, hg⟩
theorem Rw.kept {base : Nat} {W W' : World} {v : Value} {xs : List Int} (h : Rw base W v xs) (hk : ∀ k, v.ownBlock = some k → W'.heap[k]? = W.heap[k]?) : Rw base W' v xs := own_kept h hk
theorem Try.infoI : (Try.prog.info? 3).map (fun i => (i.zero, i.size, i.bytes)) = some (some (.int .i64 0), 1, 8) := by kernel_rfl
/-- append of one number. -/
theorem wp_appI {w : World} {ops : Array Oper} {rest : List Oper} {o : Oper} {a : Act} {Q : Exit → Act → World → Prop} (hgd : o.guard = none) (s x : Operand)
    (ho : o.op = .call { callee := .builtin .append, args := #[s, x], argTypes := #[35, 35] }) (base : Nat) (v : Value) (xs : List Int) (k : Int) (hs : a.eval s = v) (hown : Rw base w v xs)
    (b : Nat) (hx : a.eval x = .slice (some ⟨b, 0, none⟩) 1 1) (hc : w.cell? ⟨b, 0, none⟩ = some (.int .i64 k)) (hlim : xs.length ≤ 1000000) (hb : base ≤ w.heap.size)
    (h : ∀ v' w', Hid (Rw base w' v' (xs ++ [k]) ∧ w.grownBy w' v.ownBlock ∧ (v'.ownBlock = v.ownBlock ∨ v'.ownBlock = some w.heap.size)) → wpList Try.prog ops Q rest (a.put o.dst v') w') : wpList Try.prog ops Q (o :: rest) a w := by
  obtain ⟨i, hi, hz, hsz, hby⟩ := info_parts Try.infoI
  refine wpList_append_own_at w hgd s x 35 ho base 3 i _ 1 8 Try.underlying35 hi hz hsz hby rfl (by omega) v _ _ hs hown ⟨b, 0, none⟩ 1 1 [.int .i64 k] hx rfl (fun j u' hj => ?_) (fun u' hu' => ?_) (by simp only [maxLen]; omega) (by omega) hb ?_
  · rcases j with _ | j
    · simp at hj
      subst hj
      rw [addr_add]
      exact hc
    · simp at hj
  · simp at hu'
    subst hu'
    rfl
  · intro v' w' h1 h2 _ h4
    refine h v' w' ⟨?_, h2, h4⟩
    unfold Rw
    rw [List.length_append, List.length_singleton, List.map_append]
    exact h1
/-- What came from below, and from above. -/
structure Srt (md : Int) (tur : Bool) (Lo Hi : List Int) : Prop where
  lo : ∀ i, i + 1 < Lo.length → rk md tur (Lo.getD i 0) ≤ rk md tur (Lo.getD (i + 1) 0)
  hi : ∀ i, i + 1 < Hi.length → rk md tur (Hi.getD (i + 1) 0) ≤ rk md tur (Hi.getD i 0)
  mid : 0 < Lo.length → 0 < Hi.length → rk md tur (Lo.getD (Lo.length - 1) 0) ≤ rk md tur (Hi.getD (Hi.length - 1) 0)
  wl : ∀ i, i < Lo.length → -9223372036854775808 ≤ Lo.getD i 0 ∧ Lo.getD i 0 ≤ 9223372036854775807
  wh : ∀ i, i < Hi.length → -9223372036854775808 ≤ Hi.getD i 0 ∧ Hi.getD i 0 ≤ 9223372036854775807
theorem getD_snoc (l : List Int) (k : Int) (i : Nat) : (l ++ [k]).getD i 0 = if i = l.length then k else l.getD i 0 := by
  simp only [List.getD_eq_getElem?_getD]
  rcases Nat.lt_trichotomy i l.length with h | h | h
  · rw [List.getElem?_append_left h, if_neg (by omega)]
  · subst h
    simp
  · rw [if_neg (by omega), List.getElem?_eq_none (by simp; omega), List.getElem?_eq_none (by omega)]
theorem Srt.low {md : Int} {tur : Bool} {Lo Hi : List Int} (h : Srt md tur Lo Hi) (k : Int) (h1 : 0 < Lo.length → rk md tur (Lo.getD (Lo.length - 1) 0) ≤ rk md tur k) (h2 : 0 < Hi.length → rk md tur k ≤ rk md tur (Hi.getD (Hi.length - 1) 0)) (hk : -9223372036854775808 ≤ k ∧ k ≤ 9223372036854775807) : Srt md tur (Lo ++ [k]) Hi := by
  refine ⟨fun i hi => ?_, h.hi, fun _ h0 => ?_, fun i hi => ?_, h.wh⟩
  · rw [List.length_append, List.length_singleton] at hi
    rw [getD_snoc, getD_snoc, if_neg (by omega)]
    split
    · have := h1 (by omega)
      rw [show Lo.length - 1 = i by omega] at this
      exact this
    · exact h.lo i (by omega)
  · rw [getD_snoc, if_pos (by simp)]
    exact h2 h0
  · rw [List.length_append, List.length_singleton] at hi
    rw [getD_snoc]
    split
    · exact hk
    · exact h.wl i (by omega)
theorem Srt.high {md : Int} {tur : Bool} {Lo Hi : List Int} (h : Srt md tur Lo Hi) (k : Int) (h1 : 0 < Lo.length → rk md tur (Lo.getD (Lo.length - 1) 0) ≤ rk md tur k) (h2 : 0 < Hi.length → rk md tur k ≤ rk md tur (Hi.getD (Hi.length - 1) 0)) (hk : -9223372036854775808 ≤ k ∧ k ≤ 9223372036854775807) : Srt md tur Lo (Hi ++ [k]) := by
  refine ⟨h.lo, fun i hi => ?_, fun h0 _ => ?_, h.wl, fun i hi => ?_⟩
  · rw [List.length_append, List.length_singleton] at hi
    rw [getD_snoc, getD_snoc, if_neg (show i ≠ Hi.length by omega)]
    split
    · have := h2 (by omega)
      rw [show Hi.length - 1 = i by omega] at this
      exact this
    · exact h.hi i (by omega)
  · rw [getD_snoc, if_pos (by simp)]
    exact h1 h0
  · rw [List.length_append, List.length_singleton] at hi
    rw [getD_snoc]
    split
    · exact hk
    · exact h.wh i (by omega)
/-- The things lie between what came from below and what came from above. -/
def Btw (md : Int) (tur : Bool) (T : Int → Option (Int × Int)) (Lo Hi : List Int) : Prop :=
  ∀ j l u, T j = some (l, u) → (0 < Lo.length → rk md tur (Lo.getD (Lo.length - 1) 0) ≤ rk md tur l) ∧ (0 < Hi.length → rk md tur l ≤ rk md tur (Hi.getD (Hi.length - 1) 0))
/-- What mixed keeps: c calls were made; Lo and Hi lie in the rows, Lo' and Hi' came out. -/
structure Mx (W0 : World) (r0 : Nat) (W : World) (xb hb0 hb ob : Nat) (md : Int) (tur : Bool) (c n : Nat) (pu : Int) (lo hi : Value) (Lo Hi Lo' Hi' : List Int) : Prop where
  pair : W.heap[xb]? = some (.cells #[.pointer (some ⟨hb0, 0, none⟩), .pointer (some ⟨ob, 0, none⟩)] 26)
  hp : ∃ N T, N ≤ 20 * c ∧ Hp W0.heap.size W hb ob (.slice none 0 0) 0 md tur 0 N n pu T ∧ Btw md tur T Lo' Hi'
  bel : Below W0.heap.size W0 W
  rlo : Rw r0 W lo Lo
  rhi : Rw r0 W hi Hi
  ap : ∀ k, lo.ownBlock = some k → hi.ownBlock ≠ some k
  base : W0.heap.size ≤ r0 ∧ r0 ≤ W.heap.size ∧ xb < r0
  srt : Srt md tur Lo' Hi'
theorem oth_int (cs : Array Value) : Oth (.cells cs 3) := ⟨cs, _, _, rfl, by decide, by decide, by decide, by decide⟩
theorem oth_pair (cs : Array Value) : Oth (.cells cs 26) := ⟨cs, _, _, rfl, by decide, by decide, by decide, by decide⟩
section
variable {W0 W : World} {r0 xb hb0 hb ob : Nat} {md : Int} {tur : Bool} {c n : Nat} {pu : Int} {lo hi : Value} {Lo Hi Lo' Hi' : List Int}
theorem Mx.mono {W' : World} (h : Mx W0 r0 W xb hb0 hb ob md tur c n pu lo hi Lo Hi Lo' Hi') (hB : Below W.heap.size W W') : Mx W0 r0 W' xb hb0 hb ob md tur c n pu lo hi Lo Hi Lo' Hi' := by
  obtain ⟨N, T, h1, h2, h3⟩ := h.hp
  have lt : ∀ {k : Nat} {o : Obj}, W.heap[k]? = some o → k < W.heap.size := fun e => (Array.getElem?_eq_some_iff.1 e).1
  have hs := hB.size
  refine ⟨(hB.block _ (lt h.pair)).trans h.pair, ⟨N, T, h1, h2.keep hB, h3⟩, h.bel.trans (hB.mono h.bel.size), h.rlo.kept fun k hk => ?_, h.rhi.kept fun k hk => ?_, h.ap, ⟨h.base.1, by have := h.base.2.1; omega, h.base.2.2⟩, h.srt⟩
  · obtain ⟨_, cs, e⟩ := h.rlo.own hk
    exact hB.block _ (lt e)
  · obtain ⟨_, cs, e⟩ := h.rhi.own hk
    exact hB.block _ (lt e)
/-- Behind a call of the heap's. -/
theorem Mx.step {W' : World} {N' n' : Nat} {pu' : Int} {T' : Int → Option (Int × Int)} {L9 H9 : List Int} (h : Mx W0 r0 W xb hb0 hb ob md tur c n pu lo hi Lo Hi Lo' Hi') (hF : Fr hb ob W0.heap.size W W') (hH : Hp W0.heap.size W' hb ob (.slice none 0 0) 0 md tur 0 N' n' pu' T') (hN : N' ≤ 20 * (c + 1)) (hT : Btw md tur T' L9 H9) (hs : Srt md tur L9 H9) : Mx W0 r0 W' xb hb0 hb ob md tur (c + 1) n' pu' lo hi Lo Hi L9 H9 := by
  refine ⟨hF.oth _ _ h.pair (oth_pair _), ⟨N', T', hN, hH, hT⟩, h.bel.trans hF.bel, h.rlo.kept fun k hk => ?_, h.rhi.kept fun k hk => ?_, h.ap, ⟨h.base.1, by have := hF.bel.size; have := h.base.2.1; omega, h.base.2.2⟩, hs⟩
  · obtain ⟨_, cs, e⟩ := h.rlo.own hk
    exact (hF.oth _ _ e (oth_int _)).trans e.symm
  · obtain ⟨_, cs, e⟩ := h.rhi.own hk
    exact (hF.oth _ _ e (oth_int _)).trans e.symm
theorem pow_9 {M N n : Nat} (h : 2 ^ (M - N) ≤ 4 * (n + 1)) (hn : n ≤ 200) : M ≤ N + 20 := by
  rcases Nat.lt_or_ge 20 (M - N) with h1 | h1
  · have : 2 ^ 20 ≤ 2 ^ (M - N) := Nat.pow_le_pow_right (by decide) (by omega)
    have e : (2 : Nat) ^ 20 = 1048576 := by decide
    omega
  · omega
theorem pow_18 {M N n : Nat} (h : 2 ^ (M - N) ≤ 4 * (n + 1) * (n + 1)) (hn : n ≤ 200) : M ≤ N + 20 := by
  rcases Nat.lt_or_ge 20 (M - N) with h1 | h1
  · have h2 : 2 ^ 20 ≤ 2 ^ (M - N) := Nat.pow_le_pow_right (by decide) (by omega)
    have e : (2 : Nat) ^ 20 = 1048576 := by decide
    have h3 : 4 * (n + 1) * (n + 1) ≤ 804 * 201 := Nat.mul_le_mul (by omega) (by omega)
    omega
  · omega
/-- A thing more, while nothing came out yet. -/
theorem Mx.push (h : Mx W0 r0 W xb hb0 hb ob md tur c n pu lo hi Lo Hi [] []) (k v : Int) (hn : n < 200) (hpu : pu < 200) (hc : c ≤ 1000) (hk : -9223372036854775808 ≤ k ∧ k ≤ 9223372036854775807) :
    Calls Try.prog 13 #[.pointer (some ⟨hb, 0, none⟩), .int .i64 k, .int .i64 v] W fun e w' => e = .returned (.int .i64 (pu + 1)) ∧ Mx W0 r0 w' xb hb0 hb ob md tur (c + 1) (n + 1) (pu + 1) lo hi Lo Hi [] [] := by
  obtain ⟨N, T, h1, h2, h3⟩ := h.hp
  refine (h2.push k v (by omega) (by omega) (by omega) hk.1 hk.2).mono ?_
  rintro e w' ⟨rfl, M, q1, q2, q3, q4⟩
  have := pow_9 q3 (by omega)
  exact ⟨rfl, h.step q4 q1 (by omega) (fun j l u _ => ⟨fun e => absurd e (by decide), fun e => absurd e (by decide)⟩) h.srt⟩
/-- One comes out from below. -/
theorem Mx.low (h : Mx W0 r0 W xb hb0 hb ob md tur c (n + 1) pu lo hi Lo Hi Lo' Hi') (hn : n < 200) (hc : c ≤ 1000) :
    Calls Try.prog 19 #[.pointer (some ⟨hb, 0, none⟩)] W fun e w' => ∃ i k v, e = .returned (.tuple #[.int .i64 i, .int .i64 k, .int .i64 v, .bool true]) ∧ Mx W0 r0 w' xb hb0 hb ob md tur (c + 1) n pu lo hi Lo Hi (Lo' ++ [k]) Hi' := by
  obtain ⟨N, T, h1, h2, h3⟩ := h.hp
  refine (h2.popMin (by omega)).mono ?_
  rintro e w' ⟨i, k, v, M, rfl, q1, q2, q3, q4, q5, q6⟩
  have := pow_18 q4 (by omega)
  have hr := h2.range q1
  refine ⟨i, k, v, rfl, h.step q5 q2 (by omega) (fun j l u hj => ⟨fun _ => ?_, ?_⟩) (h.srt.low k (h3 _ _ _ q1).1 (h3 _ _ _ q1).2 hr.2.2)⟩
  · rw [getD_snoc, if_pos (by simp)]
    unfold updT at hj
    split at hj
    · cases hj
    · have h9 := q6 rfl j l u hj
      simp only [leT] at h9
      rcases h9 with h9 | h9 <;> omega
  · unfold updT at hj
    split at hj
    · cases hj
    · exact (h3 _ _ _ hj).2
theorem Mx.high (h : Mx W0 r0 W xb hb0 hb ob md tur c (n + 1) pu lo hi Lo Hi Lo' Hi') (hn : n < 200) (hc : c ≤ 1000) :
    Calls Try.prog 21 #[.pointer (some ⟨hb, 0, none⟩)] W fun e w' => ∃ i k v, e = .returned (.tuple #[.int .i64 i, .int .i64 k, .int .i64 v, .bool true]) ∧ Mx W0 r0 w' xb hb0 hb ob md tur (c + 1) n pu lo hi Lo Hi Lo' (Hi' ++ [k]) := by
  obtain ⟨N, T, h1, h2, h3⟩ := h.hp
  refine (h2.popMax (by omega)).mono ?_
  rintro e w' ⟨i, k, v, M, rfl, q1, q2, q3, q4, q5, q6⟩
  have := pow_18 q4 (by omega)
  have hr := h2.range q1
  refine ⟨i, k, v, rfl, h.step q5 q2 (by omega) (fun j l u hj => ⟨?_, fun _ => ?_⟩) (h.srt.high k (h3 _ _ _ q1).1 (h3 _ _ _ q1).2 hr.2.2)⟩
  · unfold updT at hj
    split at hj
    · cases hj
    · exact (h3 _ _ _ hj).1
  · rw [getD_snoc, if_pos (by simp)]
    unfold updT at hj
    split at hj
    · cases hj
    · have h9 := q6 rfl j l u hj
      simp only [leT] at h9
      rcases h9 with h9 | h9 <;> omega
/-- The row is the longer by what came out. -/
theorem Mx.grown {W2 : World} {v : Value} {k : Int} (h : Mx W0 r0 W xb hb0 hb ob md tur c n pu lo hi Lo Hi Lo' Hi') (hv : v = lo ∨ v = hi) (hg : (W.alloc (.cells #[.int .i64 k] 3)).grownBy W2 v.ownBlock) :
    W.heap.size + 1 ≤ W2.heap.size ∧ (∀ k, k < W.heap.size → v.ownBlock ≠ some k → W2.heap[k]? = W.heap[k]?) ∧ Below W0.heap.size W0 W2 ∧ W2.heap[xb]? = some (.cells #[.pointer (some ⟨hb0, 0, none⟩), .pointer (some ⟨ob, 0, none⟩)] 26) ∧ ∃ N T, N ≤ 20 * c ∧ Hp W0.heap.size W2 hb ob (.slice none 0 0) 0 md tur 0 N n pu T ∧ Btw md tur T Lo' Hi' := by
  have ha : (W.alloc (.cells #[.int .i64 k] 3)).heap.size = W.heap.size + 1 := by simp
  have hz := hg.size
  rw [ha] at hz
  have kept : ∀ k, k < W.heap.size → v.ownBlock ≠ some k → W2.heap[k]? = W.heap[k]? := fun k h1 h2 => (hg.block k (by omega) (fun e => h2 e.symm)).trans (Below.heap_alloc _ _ _ h1)
  have own : ∀ k, v.ownBlock = some k → r0 ≤ k ∧ ∃ cs, W.heap[k]? = some (.cells cs 3) := fun k hk => by
    rcases hv with rfl | rfl
    · exact h.rlo.own hk
    · exact h.rhi.own hk
  have hb := h.base
  obtain ⟨N, T, h1, h2, h3⟩ := h.hp
  refine ⟨hz, kept, ⟨hg.os.trans h.bel.os, hg.tape.trans h.bel.tape, hg.output.trans h.bel.output, by have := h.bel.size; omega, fun k hk => (kept k (by omega) fun e => ?_).trans (h.bel.block k hk)⟩, (kept _ (by omega) fun e => ?_).trans h.pair, N, T, h1, h2.other (fun k o e ho => (kept k (Array.getElem?_eq_some_iff.1 e).1 fun e2 => ?_).trans e) (by omega), h3⟩
  · have := (own k e).1
    omega
  · have := (own xb e).1
    omega
  · obtain ⟨_, cs, e3⟩ := own k e2
    rw [e3] at e
    cases e
    exact ho (oth_int _)
theorem Mx.lowed {W2 : World} {v' : Value} {k : Int} (h : Mx W0 r0 W xb hb0 hb ob md tur c n pu lo hi Lo Hi (Lo ++ [k]) Hi) (hr : Rw r0 W2 v' (Lo ++ [k])) (hg : (W.alloc (.cells #[.int .i64 k] 3)).grownBy W2 lo.ownBlock) (hat : v'.ownBlock = lo.ownBlock ∨ v'.ownBlock = some (W.heap.size + 1)) :
    Mx W0 r0 W2 xb hb0 hb ob md tur c n pu v' hi (Lo ++ [k]) Hi (Lo ++ [k]) Hi := by
  obtain ⟨g1, kept, g3, g4, g5⟩ := h.grown (.inl rfl) hg
  have hb := h.base
  have lt : ∀ {k : Nat} {o : Obj}, W.heap[k]? = some o → k < W.heap.size := fun e => (Array.getElem?_eq_some_iff.1 e).1
  refine ⟨g4, g5, g3, hr, h.rhi.kept fun k hk => ?_, fun k hk hk2 => ?_, ⟨hb.1, by omega, hb.2.2⟩, h.srt⟩
  · obtain ⟨_, cs, e⟩ := h.rhi.own hk
    exact kept k (lt e) fun e2 => h.ap k e2 hk
  · rcases hat with e | e
    · exact h.ap k (e.symm.trans hk) hk2
    · rw [hk] at e
      cases e
      obtain ⟨_, cs, e⟩ := h.rhi.own hk2
      have := lt e
      omega
theorem Mx.highed {W2 : World} {v' : Value} {k : Int} (h : Mx W0 r0 W xb hb0 hb ob md tur c n pu lo hi Lo Hi Lo (Hi ++ [k])) (hr : Rw r0 W2 v' (Hi ++ [k])) (hg : (W.alloc (.cells #[.int .i64 k] 3)).grownBy W2 hi.ownBlock) (hat : v'.ownBlock = hi.ownBlock ∨ v'.ownBlock = some (W.heap.size + 1)) :
    Mx W0 r0 W2 xb hb0 hb ob md tur c n pu lo v' Lo (Hi ++ [k]) Lo (Hi ++ [k]) := by
  obtain ⟨g1, kept, g3, g4, g5⟩ := h.grown (.inr rfl) hg
  have hb := h.base
  have lt : ∀ {k : Nat} {o : Obj}, W.heap[k]? = some o → k < W.heap.size := fun e => (Array.getElem?_eq_some_iff.1 e).1
  refine ⟨g4, g5, g3, h.rlo.kept fun k hk => ?_, hr, fun k hk hk2 => ?_, ⟨hb.1, by omega, hb.2.2⟩, h.srt⟩
  · obtain ⟨_, cs, e⟩ := h.rlo.own hk
    exact kept k (lt e) fun e2 => h.ap k hk e2
  · rcases hat with e | e
    · exact h.ap k hk (e.symm.trans hk2)
    · rw [hk2] at e
      cases e
      obtain ⟨_, cs, e⟩ := h.rlo.own hk
      have := lt e
      omega
end
end Go.Proofs.Ytjnfcihichaonaa
