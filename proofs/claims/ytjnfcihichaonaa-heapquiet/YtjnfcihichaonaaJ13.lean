/- Contracts of the program's functions, part 13: own work, joined in build order. -/
import Derived.Test.YtjnfcihichaonaaJ12
import Derived.Maps.AppendAt
namespace Go.Proofs.Ytjnfcihichaonaa
open Go.RowKit
set_option maxRecDepth 100000
set_option linter.unusedVariables false
theorem Try.infoPI : (Try.prog.info? 77).map (fun i => (i.zero, i.size, i.bytes)) = some (some (.pointer none), 1, 8) := by kernel_rfl
theorem wp_appPI {w : World} {ops : Array Oper} {rest : List Oper} {o : Oper} {a : Act} {Q : Exit → Act → World → Prop} (hgd : o.guard = none) (s x : Operand)
    (ho : o.op = .call { callee := .builtin .append, args := #[s, x], argTypes := #[68, 68] }) (base : Nat) (v : Value) (n : Nat) (Vs : List Value) (hs : a.eval s = v) (hown : w.ownsRow base 77 1 v n Vs)
    (ad : Addr) (m c : Nat) (us : List Value) (hx : a.eval x = .slice (some ad) m c) (hl : us.length = m) (hc : ∀ j u, us[j]? = some u → w.cell? (ad.add j) = some u) (hu : ∀ u ∈ us, ∃ p, u = .pointer p) (hlim : n + m ≤ 4000000000) (hb : base ≤ w.heap.size)
    (h : ∀ v' w', Hid (w'.ownsRow base 77 1 v' (n + m) (Vs ++ us) ∧ w.grownBy w' v.ownBlock ∧ (v'.ownBlock = v.ownBlock ∨ v'.ownBlock = some w.heap.size)) → wpList Try.prog ops Q rest (a.put o.dst v') w') : wpList Try.prog ops Q (o :: rest) a w := by
  obtain ⟨i, hi, hz, hsz, hby⟩ := info_parts Try.infoPI
  refine wpList_append_own_at w hgd s x 68 ho base 77 i _ 1 8 Try.underlying68 hi hz hsz hby rfl (by omega) v _ _ hs hown ad m c us hx (by omega) hc (fun u' hu' => ?_) (by simp only [maxLen]; omega) (by omega) hb ?_
  · obtain ⟨p, rfl⟩ := hu u' hu'
    rfl
  · intro v' w' h1 h2 _ h4
    exact h v' w' ⟨h1, h2, h4⟩
/-- A heap without a hole is a heap. -/
theorem MeI.hs {W : World} {base hb ob gp n cap mb nn : Nat} {pu : Int} {f : Nat → Nat} {B : Nat → Prop} {it ke : Nat → Int} {va : Nat → Int} (h : MeI W hb ob gp n cap mb pu f B it ke va n) (hg : base ≤ gp) (hc : cap ≤ maxLen) (hn : n ≤ 1000000000)
    (hI : ∀ b, Img n f n b → 1 ≤ it b ∧ it b ≤ pu ∧ base ≤ b) (hJ : ∀ b c, Img n f n b → Img n f n c → it b = it c → b = c) (p0 : 0 ≤ pu) (p1 : pu ≤ 1000000000) (p2 : (nn : Int) ≤ pu + 1000000000) (hm : ∃ g, Mp W mb nn g ∧ ∀ i b, g i = some b ↔ Img n f n b ∧ it b = i) (h1 : base ≤ hb) (h2 : base ≤ ob) (h3 : base ≤ mb) :
    HsI W base hb ob (some ⟨gp, 0, none⟩) n cap mb nn pu f it ke va := by
  obtain ⟨cs, e1, e2, e3⟩ := h.row
  have im : ∀ i, i < n → Img n f n (f i) := fun i hi => ⟨i, hi, by omega, rfl⟩
  refine { hd := h.hd, row := own_row hg e1 e2 e3 h.le hc, lim := hn, pl := fun i hi => h.pl i hi (by omega), wf := fun i hi => (h.wf _ (h.fB i hi (by omega))).2, itr := fun i hi => ⟨(hI _ (im i hi)).1, (hI _ (im i hi)).2.1⟩, iti := fun i j hi hj e => h.inj hi hj (by omega) (by omega) (hJ _ _ (im i hi) (im j hj) e), pu0 := p0, pu1 := p1, nn1 := p2, mp := ?_, ge := ⟨h1, h2, h3, fun i hi => (hI _ (im i hi)).2.2⟩ }
  obtain ⟨g, hm1, hm2⟩ := hm
  refine ⟨g, hm1, fun i b => (hm2 i b).trans ⟨?_, ?_⟩⟩
  · rintro ⟨⟨j, hj, _, rfl⟩, e⟩
    exact ⟨j, hj, rfl, e⟩
  · rintro ⟨j, hj, rfl, e⟩
    exact ⟨im j hj, e⟩
theorem HsI.map {W : World} {base hb ob : Nat} {a : Option Addr} {n cap mb nn : Nat} {pu : Int} {f : Nat → Nat} {it ke : Nat → Int} {va : Nat → Int} (h : HsI W base hb ob a n cap mb nn pu f it ke va) : ∃ g, Mp W mb nn g ∧ ∀ i b, g i = some b ↔ Img n f n b ∧ it b = i := by
  obtain ⟨g, hm1, hm2⟩ := h.mp
  refine ⟨g, hm1, fun i b => (hm2 i b).trans ⟨?_, ?_⟩⟩
  · rintro ⟨j, hj, rfl, e⟩
    exact ⟨⟨j, hj, by omega, rfl⟩, e⟩
  · rintro ⟨⟨j, hj, _, rfl⟩, e⟩
    exact ⟨j, hj, rfl, e⟩
theorem HsI.own {W : World} {base hb ob : Nat} {a : Option Addr} {n cap mb nn : Nat} {pu : Int} {f : Nat → Nat} {it ke : Nat → Int} {va : Nat → Int} (h : HsI W base hb ob a n cap mb nn pu f it ke va) {k : Nat} (hk : (Value.slice a n cap).ownBlock = some k) : base ≤ k ∧ ∃ cs, W.heap[k]? = some (.cells cs 77) := by
  rcases h.row.2 with ⟨e, _⟩ | ⟨g, cap', cur, e, hb', hg, _⟩
  · rw [e] at hk; cases hk
  · rw [e] at hk
    cases hk
    exact ⟨hb', _, hg⟩
/-- The thing is made, in the map, in the row: its place is to be found. -/
theorem HsI.pushed {w W3 W5 : World} {base hb ob : Nat} {a : Option Addr} {n cap mb nn : Nat} {pu : Int} {f : Nat → Nat} {it ke : Nat → Int} {va : Nat → Int} {lv : Value} {nx mod : Int} {tur : Bool} {lies : Int} {N : Nat} {g : Int → Option Nat} {v' : Value} {k : Int} {v : Int} (h : HsI w base hb ob a n cap mb nn pu f it ke va) (ho : Ordr w ob lv nx mod tur lies N) (hk : -9223372036854775808 ≤ k) (hk2 : k ≤ 9223372036854775807) (hpu : pu < 1000000000)
    (g3 : ((w.setCell ⟨hb, 3, none⟩ (.int .i64 (pu + 1))).alloc (.cells #[.int .i64 (pu + 1), .int .i64 k, .int .i64 v, .int .i64 0] 81)).grownBy W3 (some mb)) (m3 : Mp W3 mb (nn + 1) g)
    (g5 : (W3.alloc (.cells #[.pointer (some ⟨w.heap.size, 0, none⟩)] 77)).grownBy W5 (Value.slice a n cap).ownBlock) (r5 : W5.ownsRow base 77 1 v' (n + 1) (((List.range n).map fun i => .pointer (some ⟨f i, 0, none⟩)) ++ [.pointer (some ⟨w.heap.size, 0, none⟩)])) :
    ∃ gp cap', v' = .slice (some ⟨gp, 0, none⟩) (n + 1) cap' ∧ base ≤ gp ∧ cap' ≤ maxLen ∧ MeI (W5.setCell ⟨hb, 1, none⟩ v') hb ob gp (n + 1) cap' mb (pu + 1) (setF f n w.heap.size) (fun b => Img n f n b ∨ b = w.heap.size) (upN it w.heap.size (pu + 1)) (upN ke w.heap.size k) (upN va w.heap.size v) n ∧ Ordr (W5.setCell ⟨hb, 1, none⟩ v') ob lv nx mod tur lies N ∧ Mp (W5.setCell ⟨hb, 1, none⟩ v') mb (nn + 1) g ∧ Tn (fun k => k = hb ∨ k = mb ∨ (Value.slice a n cap).ownBlock = some k) w (W5.setCell ⟨hb, 1, none⟩ v') ∧ W5.heap[hb]? = some (.cells #[.func (.func 28) #[.pointer (some ⟨ob, 0, none⟩)] #[], .slice a n cap, .map (some mb), .int .i64 (pu + 1)] 70) := by
  obtain ⟨x, ex⟩ : ∃ x, x = w.heap.size := ⟨_, rfl⟩
  rw [← ex] at g5 r5 ⊢
  have lt : ∀ {k : Nat} {o : Obj}, w.heap[k]? = some o → k < w.heap.size := fun e => (Array.getElem?_eq_some_iff.1 e).1
  have hlt := lt h.hd
  obtain ⟨es, ck, hmb⟩ := (h.mp.choose_spec.1).block
  have s2 : ((w.setCell ⟨hb, 3, none⟩ (.int .i64 (pu + 1))).alloc (.cells #[.int .i64 (pu + 1), .int .i64 k, .int .i64 v, .int .i64 0] 81)).heap.size = w.heap.size + 1 := by simp
  have z3 := g3.size
  rw [s2] at z3
  have s4 : (W3.alloc (.cells #[.pointer (some ⟨x, 0, none⟩)] 77)).heap.size = W3.heap.size + 1 := by simp
  have z5 := g5.size
  rw [s4] at z5
  -- blocks of W3 and W5
  have k3 : ∀ k, k < w.heap.size → k ≠ hb → k ≠ mb → W3.heap[k]? = w.heap[k]? := fun k h1 h2 h3 => (g3.block k (by omega) (fun e => h3 (by injection e))).trans ((Below.heap_alloc _ _ k (by simpa using h1)).trans (Below.heap_setCell _ _ _ k h2))
  have k5 : ∀ k, k < W3.heap.size → (Value.slice a n cap).ownBlock ≠ some k → W5.heap[k]? = W3.heap[k]? := fun k h1 h2 => (g5.block k (by omega) (fun e => h2 e.symm)).trans (Below.heap_alloc _ _ k h1)
  have kept : ∀ k, k < w.heap.size → k ≠ hb → k ≠ mb → (Value.slice a n cap).ownBlock ≠ some k → (W5.setCell ⟨hb, 1, none⟩ v').heap[k]? = w.heap[k]? := fun k h1 h2 h3 h4 => (Below.heap_setCell _ _ _ k h2).trans ((k5 k (by omega) h4).trans (k3 k h1 h2 h3))
  have nown : ∀ {k : Nat} {cs : Array Value} {t : TypeId}, w.heap[k]? = some (.cells cs t) → t ≠ 77 → (Value.slice a n cap).ownBlock ≠ some k := fun {k cs t} e1 e2 e => by
    obtain ⟨_, cs2, e3⟩ := h.own e
    exact ne_of_type e1 e3 e2 rfl
  have nhm : hb ≠ mb := fun e => map_ne hmb h.hd e.symm
  have x3 : W3.heap[x]? = some (.cells #[.int .i64 (pu + 1), .int .i64 k, .int .i64 v, .int .i64 0] 81) := by
    rw [ex]
    refine (g3.block _ (by omega) (fun e => by injection e with e; have := lt hmb; omega)).trans ?_
    have := (MapKept.heap_alloc (w.setCell ⟨hb, 3, none⟩ (.int .i64 (pu + 1))) (.cells #[.int .i64 (pu + 1), .int .i64 k, .int .i64 v, .int .i64 0] 81)).1
    simpa using this
  have xo : (Value.slice a n cap).ownBlock ≠ some x := fun e => by
    obtain ⟨_, cs2, e3⟩ := h.own e
    have := lt e3
    omega
  have x6 : (W5.setCell ⟨hb, 1, none⟩ v').heap[x]? = some (.cells #[.int .i64 (pu + 1), .int .i64 k, .int .i64 v, .int .i64 0] 81) := (Below.heap_setCell _ _ _ x (by show x ≠ hb; omega)).trans ((k5 x (Array.getElem?_eq_some_iff.1 x3).1 xo).trans x3)
  have h5 : W5.heap[hb]? = some (.cells #[.func (.func 28) #[.pointer (some ⟨ob, 0, none⟩)] #[], .slice a n cap, .map (some mb), .int .i64 (pu + 1)] 70) := by
    refine (k5 hb (by omega) (nown h.hd (by decide))).trans ((g3.block hb (by omega) (fun e => nhm (by injection e))).trans ((Below.heap_alloc _ _ hb (by simpa using hlt)).trans ?_))
    exact heap_setCell_same w hb 3 _ _ _ h.hd
  have h6 : (W5.setCell ⟨hb, 1, none⟩ v').heap[hb]? = some (.cells #[.func (.func 28) #[.pointer (some ⟨ob, 0, none⟩)] #[], v', .map (some mb), .int .i64 (pu + 1)] 70) := heap_setCell_same W5 hb 1 _ _ _ h5
  rcases r5.2 with ⟨_, e0⟩ | ⟨gp, cap', cur, e, hbg, hg, q1, q2, q3, q4⟩
  · omega
  · have ngh : gp ≠ hb := ne_of_type hg h5 (by decide)
    have old : ∀ i, i < n → f i ≠ x := fun i hi => by have := lt (h.pl i hi); omega
    have hpl : ∀ i, i < n → (W5.setCell ⟨hb, 1, none⟩ v').heap[f i]? = some (.cells #[.int .i64 (it (f i)), .int .i64 (ke (f i)), .int .i64 (va (f i)), .int .i64 (i : Int)] 81) := fun i hi => (kept (f i) (lt (h.pl i hi)) (ne_of_type (h.pl i hi) h.hd (by decide)) (fun e => map_ne hmb (h.pl i hi) e.symm) (nown (h.pl i hi) (by decide))).trans (h.pl i hi)
    have hl := h.lim
    refine ⟨gp, cap', e, hbg, q2, ?_, ho.kept (kept ob ho.lt (ne_of_type ho.at' h.hd (by decide)) (fun e => map_ne hmb ho.at' e.symm) (nown ho.at' (by decide))), m3.kept ?_, ?_, h5⟩
    · refine { hd := by rw [h6, e], row := ⟨cur, ?_, by omega, fun i hi => ?_⟩, le := by omega, lim := by omega, th := ?_, fB := fun i hi hne => ?_, pl := fun i hi hne => ?_, wf := ?_ }
      · exact (Below.heap_setCell _ _ _ gp ngh).trans hg
      · have q5 := congrArg (fun l => l[i]?) q4
        simp only [Nat.mul_one] at q5
        rw [List.getElem?_take_of_lt hi] at q5
        rw [← Array.getElem?_toList, q5]
        by_cases c : i = n
        · subst c
          rw [setF_eq, List.getElem?_append_right (by simp)]
          simp
        · rw [setF_ne c, List.getElem?_append_left (by simp; omega)]
          have : i < n := by omega
          simp [this]
      · rintro b (⟨i, hi, _, rfl⟩ | rfl)
        · rw [upN_ne (old i hi), upN_ne (old i hi), upN_ne (old i hi)]
          exact ⟨_, hpl i hi⟩
        · rw [upN_eq, upN_eq, upN_eq]
          exact ⟨_, x6⟩
      · rw [setF_ne hne]
        exact .inl ⟨i, by omega, by omega, rfl⟩
      · rw [setF_ne hne, upN_ne (old i (by omega)), upN_ne (old i (by omega)), upN_ne (old i (by omega))]
        exact hpl i (by omega)
      · have hp0 := h.pu0
        rintro b (⟨i, hi, _, rfl⟩ | rfl)
        · rw [upN_ne (old i hi), upN_ne (old i hi)]
          have h7 := h.itr i hi
          have h8 := h.wf i hi
          omega
        · rw [upN_eq, upN_eq]
          omega
    · refine (Below.heap_setCell _ _ _ mb (Ne.symm nhm)).trans (k5 mb (by have := lt hmb; omega) fun e => ?_)
      obtain ⟨_, cs2, e3⟩ := h.own e
      exact map_ne hmb e3 rfl
    · refine ⟨g5.os.trans g3.os, g5.tape.trans g3.tape, g5.output.trans g3.output, by have : (W5.setCell ⟨hb, 1, none⟩ v').heap.size = W5.heap.size := by simp
                                                                                      omega, fun k hk1 hk2 => kept k hk1 (fun e => hk2 (.inl e)) (fun e => hk2 (.inr (.inl e))) (fun e => hk2 (.inr (.inr e)))⟩
end Go.Proofs.Ytjnfcihichaonaa
