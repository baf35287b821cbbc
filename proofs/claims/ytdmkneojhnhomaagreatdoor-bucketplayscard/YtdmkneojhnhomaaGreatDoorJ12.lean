/- Contracts of the program's functions, part 12: own work, joined in build order. -/
import Derived.Test.YtdmkneojhnhomaaGreatDoorJ11
import Derived.Laws.AppendOwnNone
namespace Go.Proofs.YtdmkneojhnhomaaGreatDoor
open Go.RowKit
set_option maxRecDepth 100000
set_option linter.unusedVariables false
/-- The first n cells of block g are bytes that may be written. -/
def Bts (w : World) (g n : Nat) : Prop := ∀ i, i < n → (∃ z : Int, w.cell? ⟨g, i, none⟩ = some (.int .u8 z)) ∧ w.frozen? ⟨g, i, none⟩ = false
theorem Bts.mono {w w' : World} {g n : Nat} (h : Bts w g n) (hb : Below w.heap.size w w') : Bts w' g n := fun i hi => by
  obtain ⟨⟨z, hz⟩, hf⟩ := h i hi
  exact ⟨⟨z, cell_later hb hz⟩, (hb.frozen (World.block_lt_of_cell? _ _ hz)).trans hf⟩
theorem Bts.set {w : World} {g n : Nat} (h : Bts w g n) {p : Addr} (hp : ∀ k q, w.cell? p ≠ some (.int k q)) (u : Value) : Bts (w.setCell p u) g n := fun i hi => by
  obtain ⟨⟨z, hz⟩, hf⟩ := h i hi
  have hne : (⟨g, i, none⟩ : Addr) ≠ p := fun e => hp _ _ (e ▸ hz)
  exact ⟨⟨z, (World.cell?_setCell_other (h := hne.symm) ..).trans hz⟩, by simp [World.frozen?_setCell, hf]⟩
theorem Bts.put {w : World} {g n : Nat} (h : Bts w g n) (p : Addr) (e : Int) : Bts (w.setCell p (.int .u8 e)) g n := fun i hi => by
  obtain ⟨⟨z, hz⟩, hf⟩ := h i hi
  refine ⟨?_, by simp [World.frozen?_setCell, hf]⟩
  by_cases hne : p = ⟨g, i, none⟩
  · subst hne
    exact ⟨e, by simp [go_sem, hz]⟩
  · exact ⟨z, (World.cell?_setCell_other (h := hne) ..).trans hz⟩
theorem BRow.bts {w : World} {g n : Nat} {E : Nat → Nat} (h : BRow w g n E) : Bts w g n := fun i hi => ⟨⟨_, h.cell hi⟩, h.frozen i⟩
theorem ByteRow.bts {w : World} {g c n : Nat} {E : Nat → Nat} (h : ByteRow w g c n E) : Bts w g n := fun i hi => ⟨⟨_, h.cell hi⟩, h.frozen i⟩
theorem Bts.list {w : World} {g n : Nat} (h : Bts w g n) : ∃ E : Nat → Int, ∀ i, i < n → w.cell? ⟨g, i, none⟩ = some (.int .u8 (E i)) := by
  refine ⟨fun i => if hi : i < n then Classical.choose (h i hi).1 else 0, fun i hi => ?_⟩
  simp only [dif_pos hi]
  exact Classical.choose_spec (h i hi).1
theorem IsNat.byte {w : World} {v : Value} {x : Nat} (h : IsNat w v x) {p : Addr} {z : Int} (hp : w.cell? p = some (.int .u8 z)) (u : Value) : IsNat (w.setCell p u) v x := by
  obtain ⟨a, n, cap, F, rfl, ⟨s1, s2, s3, s4⟩, h0, h1, hv⟩ := h
  refine ⟨a, n, cap, F, rfl, ⟨s1, s2, s3, s4.imp id ?_⟩, h0, h1, hv⟩
  rintro ⟨b, o, rfl, hw⟩
  refine ⟨b, o, rfl, fun i hi => ?_⟩
  have hne : (⟨b, o + i, none⟩ : Addr) ≠ p := fun e => by
    have h2 := hw i hi
    rw [e, hp] at h2
    simp at h2
  exact (World.cell?_setCell_other (h := hne.symm) ..).trans (hw i hi)
theorem RNat.byte {w : World} {v : Value} {x : Nat} (h : RNat w v x) {p : Addr} {z : Int} (hp : w.cell? p = some (.int .u8 z)) (u : Value) : RNat (w.setCell p u) v x := by
  obtain ⟨a, n, cap, F, rfl, ⟨s1, s2, s3, s4⟩, h0, h1, hv⟩ := h
  refine ⟨a, n, cap, F, rfl, ⟨s1, s2, s3, s4.imp id ?_⟩, h0, h1, hv⟩
  rintro ⟨b, o, rfl, hw⟩
  refine ⟨b, o, rfl, fun i hi => ?_⟩
  have hne : (⟨b, o + i, none⟩ : Addr) ≠ p := fun e => by
    have h2 := hw i hi
    rw [e, hp] at h2
    simp at h2
  exact (World.cell?_setCell_other (h := hne.symm) ..).trans (hw i hi)
theorem Rt.byte {w : World} {v : Value} {x y : Nat} (h : Rt w v x y) {p : Addr} {z : Int} (hp : w.cell? p = some (.int .u8 z)) (u : Value) : Rt (w.setCell p u) v x y := by
  obtain ⟨⟨a, n, c, a', n', c', e, h1, h2⟩, h3, h4⟩ := h
  exact ⟨⟨a, n, c, a', n', c', e, h1.byte hp u, h2.byte hp u⟩, h3, h4⟩
theorem RRt.byte {w : World} {v : Value} {x y : Nat} (h : RRt w v x y) {p : Addr} {z : Int} (hp : w.cell? p = some (.int .u8 z)) (u : Value) : RRt (w.setCell p u) v x y := by
  obtain ⟨a, n, c, a', n', c', e, h1, h2⟩ := h
  exact ⟨a, n, c, a', n', c', e, h1.byte hp u, h2.byte hp u⟩
/-- A byte is written over: numbers, fractions and what lies in cells that hold slices stay. -/
theorem SX.byte {w0 w : World} {F G : List (Value × Nat × Nat)} {C : List (Nat × Nat × Value)} (h : SX w0 w [] [] F G C) {p : Addr} {z : Int} (hp : w.cell? p = some (.int .u8 z)) (hlo : w0.heap.size ≤ p.block) (hC : ∀ q ∈ C, ∃ a n c, q.2.2 = .slice a n c) (u : Value) : SX w0 (w.setCell p u) [] [] F G C :=
  ⟨(fun _ h => by cases h), (fun _ h => by cases h), fun q hq => (h.frs q hq).byte hp u, fun q hq => (h.rfrs q hq).byte hp u, (fun q hq => by
    obtain ⟨a, n, c, e⟩ := hC q hq
    have h2 := h.cells q hq
    have hne : p ≠ ⟨q.1, q.2.1, none⟩ := fun e2 => by
      rw [← e2, hp, e] at h2
      simp at h2
    exact (World.cell?_setCell_other (h := hne) ..).trans h2), h.bel.setCell hlo u⟩
/-- Only what is still wanted. -/
theorem SX.sub {w0 w : World} {N M : List (Value × Nat)} {F G : List (Value × Nat × Nat)} {C : List (Nat × Nat × Value)} (h : SX w0 w N M F G C) {F' G' : List (Value × Nat × Nat)} {C' : List (Nat × Nat × Value)} (hF : ∀ p ∈ F', p ∈ F) (hG : ∀ p ∈ G', p ∈ G) (hC : ∀ p ∈ C', p ∈ C) : SX w0 w [] [] F' G' C' :=
  ⟨(fun _ h => by cases h), (fun _ h => by cases h), fun p hp => h.frs p (hF p hp), fun p hp => h.rfrs p (hG p hp), fun p hp => h.cells p (hC p hp), h.bel⟩
/-- Bytes of the call's own, spare room none. -/
def OwnB (w : World) (base : Nat) (v : Value) (n : Nat) : Prop := ∃ g, v = .slice (some ⟨g, 0, none⟩) n n ∧ base ≤ g ∧ Bts w g n
def sOwn (base n : Nat) : Spec := ⟨fun w v => OwnB w base v n, ⟨fun ⟨g, e, h1, h2⟩ hb => ⟨g, e, h1, h2.mono hb⟩, fun ⟨g, e, h1, h2⟩ hp u => ⟨g, e, h1, h2.set hp u⟩⟩⟩
theorem own_of {w w2 : World} {v : Value} {n g base : Nat} {E : Nat → Nat} (e : v = .slice (some ⟨g, 0, none⟩) n n) (hg : w.heap.size ≤ g) (hb : base ≤ w.heap.size) (h : BRow w2 g n E) : OwnB w2 base v n := ⟨g, e, Nat.le_trans hb hg, h.bts⟩
theorem cells_any {w : World} {g m : Nat} {N : Nat → Int} (h : ∀ j, j < m → w.cell? ⟨g, j, none⟩ = some (.int .u8 (N j))) : ∀ j u, ((List.range m).map fun j => Value.int .u8 (N j))[j]? = some u → w.cell? ((⟨g, 0, none⟩ : Addr).add j) = some u := by
  intro j u hj
  have hjm : j < m := by
    have := (List.getElem?_eq_some_iff.1 hj).1
    simpa using this
  rw [List.getElem?_map, List.getElem?_range hjm] at hj
  have h3 : (⟨g, 0, none⟩ : Addr).add j = ⟨g, j, none⟩ := by unfold Addr.add; split <;> simp_all
  rw [h3, h j hjm]
  exact hj
/-- Three bytes more behind bytes without spare room: new memory. -/
theorem wpList_grow3 {w : World} {ops : Array Oper} {rest : List Oper} {o : Oper} {ac : Act} {Q : Exit → Act → World → Prop} (hgd : o.guard = none) (s x : Operand)
    (ho : o.op = .call { callee := .builtin .append, args := #[s, x], argTypes := #[110, 110] }) (g L : Nat) (hs : ac.eval s = .slice (some ⟨g, 0, none⟩) L L) (hrow : Bts w g L)
    (ad : Nat) (hx : ac.eval x = .slice (some ⟨ad, 0, none⟩) 3 3) (hc : ∀ j, j < 3 → w.cell? ⟨ad, j, none⟩ = some (.int .u8 ((j : Int) + 1))) (hn : L ≤ 1000)
    (h : ∀ g' c' w', w.grownBy w' none → wpList Tryz.prog ops Q rest (ac.put o.dst (.slice (some ⟨g', 0, none⟩) (L + 3) c')) w') : wpList Tryz.prog ops Q (o :: rest) ac w := by
  obtain ⟨i, hi, hzz, hsz, hb⟩ := info_parts Tryz.info5
  obtain ⟨E, hE⟩ := hrow.list
  refine wpList_append_grows w hgd s x 110 ho 5 i _ 1 1 Tryz.underlying110 hi hzz hsz hb rfl (by omega) (some ⟨g, 0, none⟩) L L ((List.range L).map fun j => Value.int .u8 (E j)) hs (fun e => by cases e) (by simp) (fun b hb => ?_) ⟨ad, 0, none⟩ 3 3 ((List.range 3).map fun (j : Nat) => Value.int .u8 ((j : Int) + 1)) hx (by simp) (cells_any (N := fun (j : Nat) => (j : Int) + 1) hc) (fun u hu => by simp at hu; obtain ⟨j, _, rfl⟩ := hu; rfl) (by omega) (by simp only [maxLen]; omega) (by omega) (fun v' w' hO hg => ?_)
  · cases hb
    exact cells_any hE
  · rcases hO.2 with ⟨_, h0⟩ | ⟨g', c', cur, rfl, _⟩
    · omega
    · exact h g' c' w' hg
theorem add_same {p q x y : Nat} (hq : 0 < q) (hy : 0 < y) (h1 : Nat.gcd p q = 1) (h2 : Nat.gcd x y = 1) : (p * y + x * q) / Nat.gcd (p * y + x * q) (q * y) = addP p q x y ∧ (q * y) / Nat.gcd (p * y + x * q) (q * y) = addQ p q x y := by
  have low := add_low hq hy h1 h2 (A := addA p q x y) rfl rfl
  have hD : 0 < q * y := Nat.mul_pos hq hy
  obtain ⟨t1, t2, t3⟩ := low_terms (p * y + x * q) (q * y) hD
  refine low_one t1 low.2.1 t3 low.2.2 ?_
  have g0 : 0 < Nat.gcd q y := Nat.gcd_pos_of_pos_left _ hq
  have cross : addP p q x y * (q * y) = (p * y + x * q) * addQ p q x y := by
    obtain ⟨d0, _, _⟩ := low
    obtain ⟨A, hA⟩ : ∃ A, A = addA p q x y := ⟨_, rfl⟩
    rw [← hA] at d0
    have hP : addP p q x y = A / Nat.gcd A (Nat.gcd q y) := by rw [hA]; rfl
    have hQ : addQ p q x y = q / Nat.gcd q y * (y / Nat.gcd A (Nat.gcd q y)) := by rw [hA]; rfl
    rw [hP, hQ]
    obtain ⟨a, ha⟩ := Nat.gcd_dvd_left q y
    obtain ⟨b, hb⟩ := Nat.gcd_dvd_right q y
    have hA2 : A = p * (y / Nat.gcd q y) + x * (q / Nat.gcd q y) := hA
    obtain ⟨d, hd⟩ : ∃ d, d = Nat.gcd A (Nat.gcd q y) := ⟨_, rfl⟩
    obtain ⟨A', hA'⟩ : d ∣ A := by rw [hd]; exact Nat.gcd_dvd_left _ _
    obtain ⟨y', hy'⟩ : d ∣ y := by rw [hd]; exact Nat.dvd_trans (Nat.gcd_dvd_right _ _) (Nat.gcd_dvd_right q y)
    rw [← hd] at d0
    rw [← hd]
    obtain ⟨g, hg⟩ : ∃ g, g = Nat.gcd q y := ⟨_, rfl⟩
    rw [← hg] at ha hb hA2 g0
    rw [← hg]
    have e1 : q / g = a := by rw [ha, Nat.mul_div_cancel_left _ g0]
    have e2 : y / g = b := by rw [hb, Nat.mul_div_cancel_left _ g0]
    have e3 : A / d = A' := by rw [hA', Nat.mul_div_cancel_left _ d0]
    have e4 : y / d = y' := by rw [hy', Nat.mul_div_cancel_left _ d0]
    rw [e1, e2] at hA2
    rw [e1, e3, e4]
    have e5 : p * y + x * q = g * A := by rw [hA2, ha, hb]; grind
    rw [e5, hA', ha, hy']
    grind
  refine Nat.eq_of_mul_eq_mul_right hD ?_
  obtain ⟨u, hu⟩ : ∃ u, u = (p * y + x * q) / Nat.gcd (p * y + x * q) (q * y) := ⟨_, rfl⟩
  obtain ⟨v, hv⟩ : ∃ v, v = q * y / Nat.gcd (p * y + x * q) (q * y) := ⟨_, rfl⟩
  rw [← hu, ← hv] at t2
  rw [← hu, ← hv]
  have e1 : u * addQ p q x y * (q * y) = u * (q * y) * addQ p q x y := by grind
  have e2 : addP p q x y * v * (q * y) = addP p q x y * (q * y) * v := by grind
  rw [e1, e2, t2, cross]
  grind
theorem add_15 {p q x y : Nat} (hp : p < P 15) (hq : q < P 15) (hx : x < P 15) (hy : y < P 15) : RS (addP p q x y) ∧ RS (addQ p q x y) := by
  have h1 : addA p q x y < P 31 := by
    have e1 : p * (y / Nat.gcd q y) < P 30 := by
      rw [show 30 = 15 + 15 from rfl, P_add]
      exact Nat.mul_lt_mul'' hp (Nat.lt_of_le_of_lt (Nat.div_le_self _ _) hy)
    have e2 : x * (q / Nat.gcd q y) < P 30 := by
      rw [show 30 = 15 + 15 from rfl, P_add]
      exact Nat.mul_lt_mul'' hx (Nat.lt_of_le_of_lt (Nat.div_le_self _ _) hq)
    exact P_twice e1 e2
  have h2 : addQ p q x y < P 30 := by
    rw [show 30 = 15 + 15 from rfl, P_add]
    exact Nat.mul_lt_mul'' (Nat.lt_of_le_of_lt (Nat.div_le_self _ _) hq) (Nat.lt_of_le_of_lt (Nat.div_le_self _ _) hy)
  exact ⟨⟨Nat.lt_of_le_of_lt (Nat.div_le_self _ _) (Nat.lt_trans h1 (P_lt (by omega)))⟩, ⟨Nat.lt_trans h2 (P_lt (by omega))⟩⟩
/-- A nought ahead of n bytes. -/
def ahead (D : Nat → Nat) : Nat → Nat := fun j => if j < 1 then 0 else D (j - 1)
theorem ahead_BV (D : Nat → Nat) (n : Nat) : BV (ahead D) (1 + n) = BV D n := by
  rw [BV_drop (k := 1) (fun i hi => by unfold ahead; rw [if_pos hi]) n]
  exact BV_congr fun i _ => by
    show ahead D (1 + i) = D i
    unfold ahead
    rw [if_neg (by omega), Nat.add_sub_cancel_left]
theorem or_zero (w : World) (base : Nat) (h : base ≤ w.heap.size) (D : Nat → Nat) : OR (w.alloc (.cells #[.int .u8 0] 5)) 5 base (.slice (some ⟨w.heap.size, 0, none⟩) 1 1) 1 (bt (ahead D)) :=
  .inr ⟨w.heap.size, 1, _, rfl, h, Nat.le_refl _, by simp only [maxLen]; omega, World.rowIs_alloc w #[.int .u8 0] 5 (fun _ => .int .u8 0) (fun i hi => by
    obtain rfl : i = 0 := by simpa using hi
    rfl), fun i hi => by
    obtain rfl : i = 0 := by omega
    rfl⟩
/-- What is appended to the nought. -/
theorem wpList_ahead {w : World} {ops : Array Oper} {rest : List Oper} {o : Oper} {ac : Act} {Q : Exit → Act → World → Prop} (hgd : o.guard = none) (s x : Operand)
    (ho : o.op = .call { callee := .builtin .append, args := #[s, x], argTypes := #[110, 110] }) (base : Nat) (v : Value) (D : Nat → Nat) (hs : ac.eval s = v) (hown : OR w 5 base v 1 (bt (ahead D)))
    (a : Option Addr) (m k : Nat) (hx : ac.eval x = .slice a m k) (hB : BSl w a m k D) (hnil : a = none → k = 0) (hm : m ≤ 120) (hbase : base ≤ w.heap.size)
    (h : ∀ g c w', base ≤ g → c ≤ maxLen → ByteRow w' g c (1 + m) (ahead D) → Below base w w' → wpList Tryz.prog ops Q rest (ac.put o.dst (.slice (some ⟨g, 0, none⟩) (1 + m) c)) w') : wpList Tryz.prog ops Q (o :: rest) ac w := by
  rcases a with _ | ad
  · obtain rfl := hnil rfl
    have hn0 : m = 0 := by
      rcases hB.2.2.2 with e | ⟨b, o, e, _⟩
      · exact e
      · cases e
    subst hn0
    obtain ⟨i5, hi5, hz5, hs5, hb5⟩ := info_parts Tryz.info5
    refine wpList_append_own_none hgd s x 110 ho base 5 i5 1 Tryz.underlying110 hi5 v 1 _ hs hown.owns hx ?_
    rcases hown with ⟨_, h0⟩ | ⟨g, c, f, rfl, k1, k2, k3, k4, k5⟩
    · omega
    · exact h g c w k1 k3 ⟨⟨f, k4, k5⟩, k2⟩ (Below.refl _ _)
  · have hcs : ∀ j, j < m → w.cell? (ad.add j) = some (bt D j) := by
      intro j hj
      obtain ⟨b, o, e, hw⟩ := hB.2.2.2.resolve_left (by omega)
      cases e
      have h3 : (⟨b, o, none⟩ : Addr).add j = ⟨b, o + j, none⟩ := by unfold Addr.add; split <;> simp_all
      rw [h3]
      exact hw j hj
    refine wpList_append_bs hgd s x ho base v 1 (ahead D) hs hown ad m k D hx hcs (by omega) hbase ?_
    intro v' w' hO hg
    rcases hO with ⟨_, h0⟩ | ⟨g, c, f, rfl, k1, k2, k3, k4, k5⟩
    · omega
    · refine h g c w' k1 k3 ⟨⟨f, k4, fun i hi => ?_⟩, k2⟩ ((Below.refl _ _).grown hg hbase (fun k hk => own_ge hown hk))
      rw [k5 i hi]
      show Value.int .u8 (((if i < 1 then ahead D i else D (i - 1) : Nat)) : Int) = Value.int .u8 ((ahead D i : Nat) : Int)
      unfold ahead
      by_cases hi1 : i < 1
      · rw [if_pos hi1, if_pos hi1]
      · rw [if_neg hi1, if_neg hi1]
theorem ahead_lt {D : Nat → Nat} {n : Nat} (h : ∀ i, i < n → D i < 256) (i : Nat) (hi : i < 1 + n) : ahead D i < 256 := by
  unfold ahead
  split
  · omega
  · exact h _ (by omega)
end Go.Proofs.YtdmkneojhnhomaaGreatDoor
namespace Go.Proofs.YtdmkneojhnhomaaGreatDoor
open Go.RowKit
set_option maxRecDepth 100000
set_option linter.unusedVariables false
/-- p / q, in lowest terms, is N / D; its parts have at most n words. -/
structure Fc (p q N D n : Nat) : Prop where
  low : Nat.gcd p q = 1
  pos : 0 < q
  dpos : 0 < D
  val : p * D = N * q
  s1 : p < P n
  s2 : q < P n
theorem Fc.rs1 {p q N D n : Nat} (h : Fc p q N D n) (hn : n ≤ 90) : RS p := ⟨Nat.lt_of_lt_of_le h.s1 (P_le hn)⟩
theorem Fc.rs2 {p q N D n : Nat} (h : Fc p q N D n) (hn : n ≤ 90) : RS q := ⟨Nat.lt_of_lt_of_le h.s2 (P_le hn)⟩
theorem Fc.own {p q n : Nat} (h1 : Nat.gcd p q = 1) (h2 : 0 < q) (h3 : p < P n) (h4 : q < P n) : Fc p q p q n := ⟨h1, h2, h2, rfl, h3, h4⟩
theorem add_cross {p q x y : Nat} (hq : 0 < q) (hy : 0 < y) (h1 : Nat.gcd p q = 1) (h2 : Nat.gcd x y = 1) : addP p q x y * (q * y) = (p * y + x * q) * addQ p q x y := by
  obtain ⟨e1, e2⟩ := add_same hq hy h1 h2
  obtain ⟨_, t2, _⟩ := low_terms (p * y + x * q) (q * y) (Nat.mul_pos hq hy)
  rw [e1, e2] at t2
  exact t2
theorem mulP_lt {x y n m : Nat} (h : x < P n) (k : y < P m) : x * y < P (n + m) := by
  rw [P_add]
  exact Nat.mul_lt_mul'' h k
theorem P_up {x n m : Nat} (h : x < P n) (hm : n ≤ m) : x < P m := Nat.lt_of_lt_of_le h (P_le hm)
theorem val_add {p q x y N1 D1 N2 D2 A B : Nat} (hq : 0 < q) (hy : 0 < y) (v1 : p * D1 = N1 * q) (v2 : x * D2 = N2 * y) (e : A * (q * y) = (p * y + x * q) * B) : A * (D1 * D2) = (N1 * D2 + N2 * D1) * B := by
  refine Nat.eq_of_mul_eq_mul_right (Nat.mul_pos hq hy) ?_
  have h1 : A * (D1 * D2) * (q * y) = A * (q * y) * (D1 * D2) := by grind
  have h2 : (p * y + x * q) * B * (D1 * D2) = (p * D1 * y * D2 + x * D2 * q * D1) * B := by grind
  rw [h1, e, h2, v1, v2]
  grind
theorem val_sub {p q x y N1 D1 N2 D2 A B : Nat} (hq : 0 < q) (hy : 0 < y) (d1 : 0 < D1) (d2 : 0 < D2) (v1 : p * D1 = N1 * q) (v2 : x * D2 = N2 * y) (hle : x * q ≤ p * y) (e : A * (q * y) = (p * y - x * q) * B) : A * (D1 * D2) = (N1 * D2 - N2 * D1) * B ∧ N2 * D1 ≤ N1 * D2 := by
  have hk : (N1 * D2) * (q * y) = (p * y) * (D1 * D2) := by
    have : (p * y) * (D1 * D2) = p * D1 * y * D2 := by grind
    rw [this, v1]
    grind
  have hk2 : (N2 * D1) * (q * y) = (x * q) * (D1 * D2) := by
    have : (x * q) * (D1 * D2) = x * D2 * q * D1 := by grind
    rw [this, v2]
    grind
  refine ⟨?_, ?_⟩
  · refine Nat.eq_of_mul_eq_mul_right (Nat.mul_pos hq hy) ?_
    have h1 : A * (D1 * D2) * (q * y) = A * (q * y) * (D1 * D2) := by grind
    have h2 : (N1 * D2 - N2 * D1) * B * (q * y) = (N1 * D2 - N2 * D1) * (q * y) * B := by grind
    rw [h1, e, h2, Nat.mul_sub_right_distrib (N1 * D2), hk, hk2, ← Nat.mul_sub_right_distrib]
    grind
  · refine Nat.le_of_mul_le_mul_right (c := q * y) ?_ (Nat.mul_pos hq hy)
    rw [hk, hk2]
    exact Nat.mul_le_mul_right _ hle
theorem val_mul {p q x y N1 D1 N2 D2 A B : Nat} (hq : 0 < q) (hy : 0 < y) (v1 : p * D1 = N1 * q) (v2 : x * D2 = N2 * y) (e : A * (q * y) = p * x * B) : A * (D1 * D2) = N1 * N2 * B := by
  refine Nat.eq_of_mul_eq_mul_right (Nat.mul_pos hq hy) ?_
  have h1 : A * (D1 * D2) * (q * y) = A * (q * y) * (D1 * D2) := by grind
  have h2 : p * x * B * (D1 * D2) = p * D1 * (x * D2) * B := by grind
  rw [h1, e, h2, v1, v2]
  grind
theorem Fc.add {p q N1 D1 n x y N2 D2 m : Nat} (h : Fc p q N1 D1 n) (k : Fc x y N2 D2 m) (hn : n ≤ 90) (hm : m ≤ 90) : ∃ A B, Fc A B (N1 * D2 + N2 * D1) (D1 * D2) (n + m + 1) ∧ (A = addP p q x y ∧ B = addQ p q x y) ∧ ∀ v u w, Rt w v p q → Rt w u x y → Tab w → Calls Tryz.prog 64 #[v, u] w (MakesR w A B) := by
  have low := add_low h.pos k.pos h.low k.low (A := addA p q x y) rfl rfl
  have d1 : y / Nat.gcd q y < P m := Nat.lt_of_le_of_lt (Nat.div_le_self _ _) k.s2
  have d2 : q / Nat.gcd q y < P n := Nat.lt_of_le_of_lt (Nat.div_le_self _ _) h.s2
  have h1 : addA p q x y < P (n + m + 1) := P_twice (mulP_lt h.s1 d1) (by rw [Nat.add_comm n m]; exact mulP_lt k.s1 d2)
  have h2 : addQ p q x y < P (n + m) := mulP_lt d2 (Nat.lt_of_le_of_lt (Nat.div_le_self _ _) k.s2)
  exact ⟨_, _, ⟨low.2.1, low.2.2, Nat.mul_pos h.dpos k.dpos, val_add h.pos k.pos h.val k.val (add_cross h.pos k.pos h.low k.low), Nat.lt_of_le_of_lt (Nat.div_le_self _ _) h1, P_up h2 (by omega)⟩, ⟨rfl, rfl⟩, fun v u w e1 e2 hT => ratAdd_any v u p q x y w e1 e2 (h.rs1 hn) (h.rs2 hn) (k.rs1 hm) (k.rs2 hm) hT⟩
theorem Fc.mul {p q N1 D1 n x y N2 D2 m : Nat} (h : Fc p q N1 D1 n) (k : Fc x y N2 D2 m) (hn : n ≤ 90) (hm : m ≤ 90) : ∃ A B, Fc A B (N1 * N2) (D1 * D2) (n + m) ∧ ∀ v u w, Rt w v p q → Rt w u x y → Tab w → Calls Tryz.prog 91 #[v, u] w (MakesR w A B) := by
  have low := mul_low h.pos k.pos h.low k.low
  exact ⟨_, _, ⟨low.1, low.2.1, Nat.mul_pos h.dpos k.dpos, val_mul h.pos k.pos h.val k.val low.2.2, mulP_lt (Nat.lt_of_le_of_lt (Nat.div_le_self _ _) h.s1) (Nat.lt_of_le_of_lt (Nat.div_le_self _ _) k.s1), mulP_lt (Nat.lt_of_le_of_lt (Nat.div_le_self _ _) h.s2) (Nat.lt_of_le_of_lt (Nat.div_le_self _ _) k.s2)⟩, fun v u w e1 e2 hT => ratMul_any v u p q x y w e1 e2 (h.rs1 hn) (h.rs2 hn) (k.rs1 hm) (k.rs2 hm) hT⟩
theorem Fc.cross {p q N1 D1 n x y N2 D2 m : Nat} (h : Fc p q N1 D1 n) (k : Fc x y N2 D2 m) : (p * y) * (D1 * D2) = (N1 * D2) * (q * y) ∧ (x * q) * (D1 * D2) = (N2 * D1) * (q * y) := by
  constructor
  · have : (p * y) * (D1 * D2) = p * D1 * (y * D2) := by grind
    rw [this, h.val]
    grind
  · have : (x * q) * (D1 * D2) = x * D2 * (q * D1) := by grind
    rw [this, k.val]
    grind
theorem Fc.le {p q N1 D1 n x y N2 D2 m : Nat} (h : Fc p q N1 D1 n) (k : Fc x y N2 D2 m) : x * q ≤ p * y ↔ N2 * D1 ≤ N1 * D2 := by
  obtain ⟨e1, e2⟩ := h.cross k
  have hd := Nat.mul_pos h.dpos k.dpos
  have hq := Nat.mul_pos h.pos k.pos
  rw [← Nat.mul_le_mul_right_iff hd, e1, e2, Nat.mul_le_mul_right_iff hq]
theorem Fc.sub {p q N1 D1 n x y N2 D2 m : Nat} (h : Fc p q N1 D1 n) (k : Fc x y N2 D2 m) (hn : n ≤ 90) (hm : m ≤ 90) (hle : N2 * D1 ≤ N1 * D2) : ∃ A B, Fc A B (N1 * D2 - N2 * D1) (D1 * D2) (n + m) ∧ ∀ v u w, Rt w v p q → Rt w u x y → Tab w → Calls Tryz.prog 40 #[v, u] w (MakesRB w A B true) := by
  have hle' := (h.le k).2 hle
  have low := sub_low h.pos k.pos h.low k.low hle'
  have d1 : y / Nat.gcd q y < P m := Nat.lt_of_le_of_lt (Nat.div_le_self _ _) k.s2
  have d2 : q / Nat.gcd q y < P n := Nat.lt_of_le_of_lt (Nat.div_le_self _ _) h.s2
  have h1 : subA p q x y < P (n + m) := Nat.lt_of_le_of_lt (Nat.sub_le _ _) (mulP_lt h.s1 d1)
  have h2 : subQ p q x y < P (n + m) := mulP_lt d2 (Nat.lt_of_le_of_lt (Nat.div_le_self _ _) k.s2)
  exact ⟨_, _, ⟨low.1, low.2.1, Nat.mul_pos h.dpos k.dpos, (val_sub h.pos k.pos h.dpos k.dpos h.val k.val hle' low.2.2).1, Nat.lt_of_le_of_lt (Nat.div_le_self _ _) h1, h2⟩, fun v u w e1 e2 hT => ratSub_yes v u p q x y w e1 e2 (h.rs1 hn) (h.rs2 hn) (k.rs1 hm) (k.rs2 hm) hle' hT⟩
theorem Fc.sub_no {p q N1 D1 n x y N2 D2 m : Nat} (h : Fc p q N1 D1 n) (k : Fc x y N2 D2 m) (hn : n ≤ 90) (hm : m ≤ 90) (hlt : N1 * D2 < N2 * D1) : ∀ v u w, Rt w v p q → Rt w u x y → Tab w → Calls Tryz.prog 40 #[v, u] w (MakesRB w 0 1 false) := fun v u w e1 e2 hT =>
  ratSub_no v u p q x y w e1 e2 (h.rs1 hn) (h.rs2 hn) (k.rs1 hm) (k.rs2 hm) (Nat.lt_of_not_le fun e => by have := (h.le k).1 e; omega) hT
theorem Fc.zero {p q N D n : Nat} (h : Fc p q N D n) : p = 0 ↔ N = 0 := by
  have h1 := h.val
  have h2 := h.pos
  have h3 := h.dpos
  constructor
  · rintro rfl
    rw [Nat.zero_mul] at h1
    rcases Nat.mul_eq_zero.1 h1.symm with e | e
    · exact e
    · omega
  · rintro rfl
    rw [Nat.zero_mul] at h1
    rcases Nat.mul_eq_zero.1 h1 with e | e
    · exact e
    · omega
theorem Fc.div {p q N1 D1 n x y N2 D2 m : Nat} (h : Fc p q N1 D1 n) (k : Fc x y N2 D2 m) (hn : n ≤ 90) (hm : m ≤ 90) (h0 : 0 < N2) : ∃ A B, Fc A B (N1 * D2) (D1 * N2) (n + m) ∧ ∀ v u w, Rt w v p q → Rt w u x y → Tab w → Calls Tryz.prog 73 #[v, u] w (MakesRB w A B true) := by
  have x0 : 0 < x := Nat.pos_of_ne_zero fun e => by have := k.zero.1 e; omega
  have low := mul_low (p := p) (q := q) (x := y) (y := x) h.pos x0 h.low (by rw [Nat.gcd_comm]; exact k.low)
  exact ⟨_, _, ⟨low.1, low.2.1, Nat.mul_pos h.dpos h0, val_mul (x := y) (y := x) (N2 := D2) (D2 := N2) h.pos x0 h.val (by rw [Nat.mul_comm y, Nat.mul_comm D2]; exact k.val.symm) low.2.2, mulP_lt (Nat.lt_of_le_of_lt (Nat.div_le_self _ _) h.s1) (Nat.lt_of_le_of_lt (Nat.div_le_self _ _) k.s2), mulP_lt (Nat.lt_of_le_of_lt (Nat.div_le_self _ _) h.s2) (Nat.lt_of_le_of_lt (Nat.div_le_self _ _) k.s1)⟩, fun v u w e1 e2 hT => ratDiv_yes v u p q x y w e1 e2 (h.rs1 hn) (h.rs2 hn) (k.rs1 hm) (k.rs2 hm) x0 hT⟩
theorem cmp_scale {a b c d s t : Nat} (hs : 0 < s) (ht : 0 < t) (e1 : a * s = c * t) (e2 : b * s = d * t) : cmpI a b = cmpI c d := by
  have l1 : a < b ↔ c < d := by rw [← Nat.mul_lt_mul_right hs, e1, e2, Nat.mul_lt_mul_right ht]
  have l2 : b < a ↔ d < c := by rw [← Nat.mul_lt_mul_right hs, e1, e2, Nat.mul_lt_mul_right ht]
  unfold cmpI
  by_cases h1 : a < b
  · rw [if_pos h1, if_pos (l1.1 h1)]
  · rw [if_neg h1, if_neg (fun e => h1 (l1.2 e))]
    by_cases h2 : b < a
    · have h3 := l2.1 h2
      rw [if_neg (by omega), if_neg (by omega)]
    · have h3 : ¬ d < c := fun e => h2 (l2.2 e)
      have h4 : ¬ c < d := fun e => h1 (l1.2 e)
      rw [if_pos (by omega), if_pos (by omega)]
theorem Fc.cmp {p q N1 D1 n x y N2 D2 m : Nat} (h : Fc p q N1 D1 n) (k : Fc x y N2 D2 m) (hn : n ≤ 90) (hm : m ≤ 90) {z : Int} (hz : cmpI (N1 * D2) (N2 * D1) = z) : ∀ v u w, Rt w v p q → Rt w u x y → Calls Tryz.prog 27 #[v, u] w fun e w' => e = .returned (.int .i64 z) ∧ Below w.heap.size w w' := fun v u w e1 e2 => by
  have := ratCmp_any v u p q x y w e1 e2 (h.rs1 hn) (h.rs2 hn) (k.rs1 hm) (k.rs2 hm)
  rw [cmp_scale (Nat.mul_pos h.dpos k.dpos) (Nat.mul_pos h.pos k.pos) (h.cross k).1 (h.cross k).2, hz] at this
  exact this
theorem cmpI_same {x y : Nat} (h : x = y) : cmpI x y = 0 := by unfold cmpI; rw [if_neg (by omega), if_pos h]
theorem cmpI_neg (x y : Nat) : cmpI y x = - cmpI x y := by
  unfold cmpI
  by_cases h1 : x < y
  · rw [if_pos h1, if_neg (by omega), if_neg (by omega)]
    rfl
  · by_cases h2 : x = y
    · rw [if_neg h1, if_pos h2, if_neg (by omega), if_pos h2.symm]
      rfl
    · rw [if_neg h1, if_neg h2, if_pos (by omega)]
/-- Three fractions side by side, as Sum is handed them. -/
def tri (a b c : Nat) : Nat → Nat := fun i => if i = 0 then a else if i = 1 then b else c
def Three (w : World) (v : Value) (X Y : Nat → Nat) : Prop := ∃ (g : Nat) (E E' : Nat → Value), v = .slice (some ⟨g, 0, none⟩) 3 3 ∧ g < w.heap.size ∧ ∀ i, i < 3 → w.cell? ⟨g, i * 2, none⟩ = some (E i) ∧ w.cell? ⟨g, i * 2 + 1, none⟩ = some (E' i) ∧ Rt w (.agg #[E i, E' i]) (X i) (Y i)
theorem Three.mono {w w' : World} {v : Value} {X Y : Nat → Nat} (h : Three w v X Y) (hb : Below w.heap.size w w') : Three w' v X Y := by
  obtain ⟨g, E, E', e, hg, he⟩ := h
  exact ⟨g, E, E', e, Nat.lt_of_lt_of_le hg hb.size, fun i hi => ⟨cell_later hb (he i hi).1, cell_later hb (he i hi).2.1, (he i hi).2.2.mono hb⟩⟩
theorem three_new {w : World} {s1 s2 s3 s4 s5 s6 : Value} {p1 q1 p2 q2 p3 q3 : Nat} (h1 : Rt w (.agg #[s1, s2]) p1 q1) (h2 : Rt w (.agg #[s3, s4]) p2 q2) (h3 : Rt w (.agg #[s5, s6]) p3 q3) (t : TypeId) : Three (w.alloc (.cells #[s1, s2, s3, s4, s5, s6] t)) (.slice (some ⟨w.heap.size, 0, none⟩) 3 3) (tri p1 p2 p3) (tri q1 q2 q3) := by
  have b := bel_al (o := .cells #[s1, s2, s3, s4, s5, s6] t) (bel_refl w)
  refine ⟨w.heap.size, (fun i => if i = 0 then s1 else if i = 1 then s3 else s5), (fun i => if i = 0 then s2 else if i = 1 then s4 else s6), rfl, by simp, fun i hi => ?_⟩
  match i, hi with
  | 0, _ => exact ⟨by simp [go_sem], by simp [go_sem], h1.mono b⟩
  | 1, _ => exact ⟨by simp [go_sem], by simp [go_sem], h2.mono b⟩
  | 2, _ => exact ⟨by simp [go_sem], by simp [go_sem], h3.mono b⟩
/-- Regions whose order is open and that write no cell that was there: what is known need only outlast what comes later. -/
def MSpec : Type := { R : World → Value → Prop // ∀ {w w' : World} {v : Value}, R w v → Below w.heap.size w w' → R w' v }
def Spec.m (s : Spec) : MSpec := ⟨s.1, fun h hb => s.2.mono h hb⟩
def mThree (X Y : Nat → Nat) : MSpec := ⟨fun w v => Three w v X Y, fun h hb => h.mono hb⟩
structure JM (w0 : World) (specs : List MSpec) (L : Nat → Bool) (vs : Nat → Value) (w : World) : Prop where
  bel : Below w0.heap.size w0 w
  sp : ∀ i, L i = true → (specs.getD i sAny.m).1 w (vs i)
theorem JM.start (w : World) (specs : List MSpec) : JM w specs (fun _ => false) (fun _ => undef) w.drew := ⟨bel_dr (Below.refl _ _), (fun _ h => by cases h)⟩
theorem JM.step {w0 : World} {specs : List MSpec} {L : Nat → Bool} {vs : Nat → Value} {w w' : World} (h : JM w0 specs L vs w) {i : Nat} (hL : L i = false) (_ : 0 = 0) (hb : Below w.heap.size w w') {v : Value} (hs : (specs.getD i sAny.m).1 w' v) : JM w0 specs (updB L i) (updV vs i v) w' := by
  refine ⟨bel_go h.bel hb, fun j hj => ?_⟩
  by_cases e : j = i
  · subst e
    simpa [updV] using hs
  · have hj' : L j = true := by simpa [updB, e] using hj
    have : updV vs i v j = vs j := by simp [updV, e]
    rw [this]
    exact (specs.getD j sAny.m).2 (h.sp j hj') hb
end Go.Proofs.YtdmkneojhnhomaaGreatDoor
namespace Go.Proofs.YtdmkneojhnhomaaGreatDoor
open Go.RowKit
set_option maxRecDepth 100000
set_option linter.unusedVariables false
theorem Fc.dvd {p q N D n : Nat} (h : Fc p q N D n) : p ∣ N ∧ q ∣ D := by
  refine ⟨Nat.Coprime.dvd_of_dvd_mul_right h.low ⟨D, h.val.symm⟩, ?_⟩
  exact Nat.Coprime.dvd_of_dvd_mul_left (Nat.Coprime.symm h.low) ⟨N, by rw [h.val, Nat.mul_comm]⟩
theorem Fc.le1 {p q N D n : Nat} (h : Fc p q N D n) : p ≤ N := by
  rcases Nat.eq_zero_or_pos N with e | e
  · rw [h.zero.2 e]
    omega
  · exact Nat.le_of_dvd e h.dvd.1
theorem Fc.le2 {p q N D n : Nat} (h : Fc p q N D n) : q ≤ D := Nat.le_of_dvd h.dpos h.dvd.2
theorem Fc.norm {p q N D n m : Nat} (h : Fc p q N D n) (hN : N < P m) (hD : D < P m) : Fc p q N D m :=
  ⟨h.low, h.pos, h.dpos, h.val, Nat.lt_of_le_of_lt h.le1 hN, Nat.lt_of_le_of_lt h.le2 hD⟩
theorem Fc.scale {p q N D k n N' D' : Nat} (h : Fc p q N' D' n) (hN : N' = N * k) (hD : D' = D * k) (hk : 0 < k) : Fc p q N D n := by
  subst hN hD
  refine ⟨h.low, h.pos, Nat.pos_of_ne_zero fun e => ?_, ?_, h.s1, h.s2⟩
  · have := h.dpos
    rw [e, Nat.zero_mul] at this
    omega
  · refine Nat.eq_of_mul_eq_mul_right hk ?_
    have := h.val
    rw [Nat.mul_assoc, this]
    grind
theorem Fc.one {p q p' q' N D n m : Nat} (h : Fc p q N D n) (k : Fc p' q' N D m) : p = p' ∧ q = q' := by
  have e : p * q' = p' * q := by
    refine Nat.eq_of_mul_eq_mul_right h.dpos ?_
    have h1 := h.val
    have h2 := k.val
    rw [show p * q' * D = p * D * q' by grind, h1, show p' * q * D = p' * D * q by grind, h2]
    grind
  have a1 : q ∣ q' := Nat.Coprime.dvd_of_dvd_mul_left (Nat.Coprime.symm h.low) ⟨p', by rw [e, Nat.mul_comm]⟩
  have a2 : q' ∣ q := Nat.Coprime.dvd_of_dvd_mul_left (Nat.Coprime.symm k.low) ⟨p, by rw [← e, Nat.mul_comm]⟩
  have e2 : q = q' := Nat.dvd_antisymm a1 a2
  subst e2
  exact ⟨Nat.eq_of_mul_eq_mul_right h.pos e, rfl⟩
/-- The tick that a bucket of the time T is brought to by t. -/
def atT (T : Nat) (t : Int) : Nat := max T (min t.toNat 4611686018427387904)
theorem atT_ge (T : Nat) (t : Int) : T ≤ atT T t := Nat.le_max_left _ _
theorem atT_le {T : Nat} (h : T ≤ 4611686018427387904) (t : Int) : atT T t ≤ 4611686018427387904 := Nat.max_le.2 ⟨h, Nat.min_le_right _ _⟩
/-- What it has then. -/
def fillN (N R D B k : Nat) : Nat := min (N + R * k) (B * D)
theorem fillN_le (N R D B k : Nat) : fillN N R D B k ≤ B * D := Nat.min_le_right _ _
theorem fillN_zero {N R D B : Nat} (h : N ≤ B * D) : fillN N R D B 0 = N := by unfold fillN; rw [Nat.mul_zero, Nat.add_zero]; exact Nat.min_eq_left h
theorem fillN_full {N R D B k : Nat} (h : B * D ≤ N) (h2 : N ≤ B * D) : fillN N R D B k = N := by unfold fillN; omega
theorem fillN_add (N R D B j k : Nat) : fillN (fillN N R D B j) R D B k = fillN N R D B (j + k) := by
  unfold fillN
  rw [Nat.mul_add]
  omega
def atN (T N R D B : Nat) (t : Int) : Nat := fillN N R D B (atT T t - T)
/-- What Take tells, and what is left. -/
def takeE (N D : Nat) (n : Int) : Int := if n < 1 then 1 else if N < n.toNat * D then 80 else 0
def takeN (N D : Nat) (n : Int) : Nat := if n < 1 then N else if N < n.toNat * D then N else N - n.toNat * D
theorem takeN_le (N D : Nat) (n : Int) : takeN N D n ≤ N := by
  unfold takeN
  by_cases h : n < 1
  · rw [if_pos h]
    omega
  · rw [if_neg h]
    split <;> omega
/-- How many ticks from now on there are n tokens. -/
def lackN (N R D : Nat) (n : Int) : Nat := ceilN (n.toNat * D - N) R
/-- What Wait tells. -/
def waitE (T N R D B : Nat) (n : Int) : Int := if n < 1 then 1 else if (B : Int) < n then 80 else if n.toNat * D ≤ N then 0 else if R = 0 then 80 else if T + lackN N R D n ≤ 4611686018427387904 then 0 else 80
def waitV (T N R D B : Nat) (n : Int) : Nat := if n < 1 then 0 else if (B : Int) < n then 0 else if n.toNat * D ≤ N then T else if R = 0 then 0 else if T + lackN N R D n ≤ 4611686018427387904 then T + lackN N R D n else 0
/-- Of the blocks that were there none has turned but those of S. -/
structure Fb (S : Nat → Prop) (W W' : World) : Prop where
  os : W'.os = W.os
  tape : W'.tape = W.tape
  output : W'.output = W.output
  size : W.heap.size ≤ W'.heap.size
  block : ∀ k, k < W.heap.size → ¬ S k → W'.heap[k]? = W.heap[k]?
theorem Fb.refl (S : Nat → Prop) (W : World) : Fb S W W := ⟨rfl, rfl, rfl, Nat.le_refl _, fun _ _ _ => rfl⟩
theorem Fb.trans {S : Nat → Prop} {a b c : World} (h : Fb S a b) (k : Fb S b c) : Fb S a c :=
  ⟨k.os.trans h.os, k.tape.trans h.tape, k.output.trans h.output, Nat.le_trans h.size k.size, fun i hi hn => (k.block i (Nat.lt_of_lt_of_le hi h.size) hn).trans (h.block i hi hn)⟩
theorem Fb.weak {S S' : Nat → Prop} {a b : World} (h : Fb S a b) (hs : ∀ k, S k → S' k) : Fb S' a b := ⟨h.os, h.tape, h.output, h.size, fun i hi hn => h.block i hi fun e => hn (hs i e)⟩
theorem Fb.of {S : Nat → Prop} {a b : World} (h : Below a.heap.size a b) : Fb S a b := ⟨h.os, h.tape, h.output, h.size, fun i hi _ => h.block i hi⟩
theorem Fb.go {S : Nat → Prop} {a b c : World} (h : Fb S a b) (k : Below b.heap.size b c) : Fb S a c := h.trans (Fb.of k)
theorem Fb.set {S : Nat → Prop} {a b : World} (h : Fb S a b) {x : Addr} (hx : S x.block) (u : Value) : Fb S a (b.setCell x u) :=
  h.trans ⟨rfl, rfl, rfl, by simp [World.setCell], fun k hk hn => Below.heap_setCell _ _ _ _ fun e => hn (e ▸ hx)⟩
theorem Fb.below {S : Nat → Prop} {a b : World} (h : Fb S a b) {lb : Nat} (hl : lb ≤ a.heap.size) (hs : ∀ k, S k → lb ≤ k) : Below lb a b :=
  ⟨h.os, h.tape, h.output, h.size, fun k hk => h.block k (by omega) fun e => by have := hs k e; omega⟩
theorem Fb.cell {S : Nat → Prop} {a b : World} (h : Fb S a b) {p : Addr} {v : Value} (hv : a.cell? p = some v) (hn : ¬ S p.block) : b.cell? p = some v :=
  (World.cell?_of_block (w := a) (h.block p.block (World.block_lt_of_cell? _ _ hv) hn)).trans hv
theorem Fb.heap {S : Nat → Prop} {a b : World} (h : Fb S a b) {k : Nat} {o : Obj} (hv : a.heap[k]? = some o) (hn : ¬ S k) : b.heap[k]? = some o :=
  (h.block k (Array.getElem?_eq_some_iff.1 hv).1 hn).trans hv
/-- All numbers that lie in the block are ints. -/
def Odd (W : World) (b : Nat) : Prop := ∀ i k n, W.cell? ⟨b, i, none⟩ = some (.int k n) → k = .i64
theorem Words.fb {S : Nat → Prop} {W W' : World} {b o n : Nat} {F : Nat → Nat} (h : Words W b o n F) (f : Fb S W W') (hn : ∀ k, S k → Odd W k) : Words W' b o n F := fun i hi =>
  f.cell (h i hi) fun hs => by have := hn b hs (o + i) _ _ (h i hi); cases this
theorem Sl.fb {S : Nat → Prop} {W W' : World} {a : Option Addr} {n cap : Nat} {F : Nat → Nat} (h : Sl W a n cap F) (f : Fb S W W') (hn : ∀ k, S k → Odd W k) : Sl W' a n cap F := by
  obtain ⟨h1, h2, h3, h4⟩ := h
  refine ⟨h1, h2, h3, h4.imp id ?_⟩
  rintro ⟨b, o, ha, hw⟩
  exact ⟨b, o, ha, hw.fb f hn⟩
theorem IsNat.fb {S : Nat → Prop} {W W' : World} {v : Value} {x : Nat} (h : IsNat W v x) (f : Fb S W W') (hn : ∀ k, S k → Odd W k) : IsNat W' v x := by
  obtain ⟨a, n, cap, F, rfl, hs, h0, h1, hv⟩ := h
  exact ⟨a, n, cap, F, rfl, hs.fb f hn, h0, h1, hv⟩
theorem RNat.fb {S : Nat → Prop} {W W' : World} {v : Value} {x : Nat} (h : RNat W v x) (f : Fb S W W') (hn : ∀ k, S k → Odd W k) : RNat W' v x := by
  obtain ⟨a, n, cap, F, e, hs, hd, h1, hv⟩ := h
  exact ⟨a, n, cap, F, e, hs.fb f hn, hd, h1, hv⟩
theorem Rt.fb {S : Nat → Prop} {W W' : World} {v : Value} {p q : Nat} (h : Rt W v p q) (f : Fb S W W') (hn : ∀ k, S k → Odd W k) : Rt W' v p q := by
  obtain ⟨a, n, c, a', n', c', e, h1, h2⟩ := h.raw
  exact ⟨⟨a, n, c, a', n', c', e, h1.fb f hn, h2.fb f hn⟩, h.pos, h.low⟩
theorem RRt.fb {S : Nat → Prop} {W W' : World} {v : Value} {p q : Nat} (h : RRt W v p q) (f : Fb S W W') (hn : ∀ k, S k → Odd W k) : RRt W' v p q := by
  obtain ⟨a, n, c, a', n', c', e, h1, h2⟩ := h
  exact ⟨a, n, c, a', n', c', e, h1.fb f hn, h2.fb f hn⟩
theorem Tab.fb {S : Nat → Prop} {W W' : World} (h : Tab W) (f : Fb S W W') (hn : ∀ k, S k → Odd W k) : Tab W' := fun j hj =>
  f.cell (h j hj) fun hs => by have := hn _ hs _ _ _ (h j hj); cases this
/-- The block of a bucket: its time, what it has, its burst, its rate. -/
def BkAt (W : World) (b T : Nat) (u1 u2 u3 u4 u5 u6 : Value) : Prop := W.heap[b]? = some (.cells #[.int .i64 (T : Int), u1, u2, u3, u4, u5, u6] 81)
def isSl (v : Value) : Prop := ∃ a n c, v = .slice a n c
/-- b is a bucket of the time T that has N / D tokens; its rate is R / D, its burst B. -/
structure Bv (W : World) (b T N R D B : Nat) : Prop where
  ex : ∃ p q u1 u2 u3 u4 u5 u6, BkAt W b T u1 u2 u3 u4 u5 u6 ∧ Rt W (.agg #[u1, u2]) p q ∧ Fc p q N D 20 ∧ Rt W (.agg #[u3, u4]) B 1 ∧ Rt W (.agg #[u5, u6]) R D
  cT : T ≤ 4611686018427387904
  cB : 1 ≤ B ∧ B ≤ 1099511627776
  cD : 0 < D ∧ D < P 18
  cR : R < P 17
  low : Nat.gcd R D = 1
/-- And it has no more than its burst. -/
structure Bu (W : World) (b T N R D B : Nat) : Prop extends Bv W b T N R D B where
  cN : N ≤ B * D
theorem Rt.sl {W : World} {u1 u2 : Value} {p q : Nat} (h : Rt W (.agg #[u1, u2]) p q) : isSl u1 ∧ isSl u2 := by
  obtain ⟨a, n, c, a', n', c', e, _, _⟩ := h.raw
  injection e with e
  injection e with e
  injection e with e1 e
  injection e with e2 e
  exact ⟨⟨_, _, _, e1⟩, ⟨_, _, _, e2⟩⟩
theorem Bv.odd {W : World} {b T N R D B : Nat} (h : Bv W b T N R D B) : Odd W b := by
  obtain ⟨p, q, u1, u2, u3, u4, u5, u6, hb, h1, _, h2, h3⟩ := h.ex
  obtain ⟨⟨a1, n1, c1, rfl⟩, ⟨a2, n2, c2, rfl⟩⟩ := h1.sl
  obtain ⟨⟨a3, n3, c3, rfl⟩, ⟨a4, n4, c4, rfl⟩⟩ := h2.sl
  obtain ⟨⟨a5, n5, c5, rfl⟩, ⟨a6, n6, c6, rfl⟩⟩ := h3.sl
  intro i k n e
  unfold BkAt at hb
  simp only [World.cell?, hb] at e
  match i, e with
  | 0, e => simp at e; exact e.1.symm
  | 1, e => simp at e
  | 2, e => simp at e
  | 3, e => simp at e
  | 4, e => simp at e
  | 5, e => simp at e
  | 6, e => simp at e
  | i + 7, e => simp at e
theorem Bv.lt {W : World} {b T N R D B : Nat} (h : Bv W b T N R D B) : b < W.heap.size := by
  obtain ⟨p, q, u1, u2, u3, u4, u5, u6, hb, _⟩ := h.ex
  exact (Array.getElem?_eq_some_iff.1 hb).1
/-- A bucket stays what it is where another thing turns. -/
theorem Bv.fb {S : Nat → Prop} {W W' : World} {b T N R D B : Nat} (h : Bv W b T N R D B) (f : Fb S W W') (hn : ∀ k, S k → Odd W k) (hb : ¬ S b) : Bv W' b T N R D B := by
  obtain ⟨p, q, u1, u2, u3, u4, u5, u6, hk, h1, h2, h3, h4⟩ := h.ex
  exact ⟨⟨p, q, u1, u2, u3, u4, u5, u6, f.heap hk hb, h1.fb f hn, h2, h3.fb f hn, h4.fb f hn⟩, h.cT, h.cB, h.cD, h.cR, h.low⟩
theorem Bv.go {W W' : World} {b T N R D B : Nat} (h : Bv W b T N R D B) (f : Below W.heap.size W W') : Bv W' b T N R D B :=
  h.fb (S := fun _ => False) (Fb.of f) (fun _ e => e.elim) id
theorem Bu.fb {S : Nat → Prop} {W W' : World} {b T N R D B : Nat} (h : Bu W b T N R D B) (f : Fb S W W') (hn : ∀ k, S k → Odd W k) (hb : ¬ S b) : Bu W' b T N R D B := ⟨h.toBv.fb f hn hb, h.cN⟩
theorem Bu.go {W W' : World} {b T N R D B : Nat} (h : Bu W b T N R D B) (f : Below W.heap.size W W') : Bu W' b T N R D B := ⟨h.toBv.go f, h.cN⟩
/-- A bucket, laid open. -/
theorem Bv.open {W : World} {b T N R D B : Nat} (h : Bv W b T N R D B) : ∃ p q a1 n1 c1 a2 n2 c2 a3 n3 c3 a4 n4 c4 a5 n5 c5 a6 n6 c6, Fc p q N D 20 ∧ SX W W [] [] [(.agg #[.slice a1 n1 c1, .slice a2 n2 c2], p, q), (.agg #[.slice a3 n3 c3, .slice a4 n4 c4], B, 1), (.agg #[.slice a5 n5 c5, .slice a6 n6 c6], R, D)] [] [(b, 0, .int .i64 (T : Int)), (b, 1, .slice a1 n1 c1), (b, 2, .slice a2 n2 c2), (b, 3, .slice a3 n3 c3), (b, 4, .slice a4 n4 c4), (b, 5, .slice a5 n5 c5), (b, 6, .slice a6 n6 c6)] ∧ ∀ i, W.frozen? ⟨b, i, none⟩ = false := by
  obtain ⟨p, q, u1, u2, u3, u4, u5, u6, hb, h1, f1, h2, h3⟩ := h.ex
  obtain ⟨⟨a1, n1, c1, rfl⟩, ⟨a2, n2, c2, rfl⟩⟩ := h1.sl
  obtain ⟨⟨a3, n3, c3, rfl⟩, ⟨a4, n4, c4, rfl⟩⟩ := h2.sl
  obtain ⟨⟨a5, n5, c5, rfl⟩, ⟨a6, n6, c6, rfl⟩⟩ := h3.sl
  unfold BkAt at hb
  have c : ∀ i v, #[Value.int .i64 (T : Int), .slice a1 n1 c1, .slice a2 n2 c2, .slice a3 n3 c3, .slice a4 n4 c4, .slice a5 n5 c5, .slice a6 n6 c6][i]? = some v → W.cell? ⟨b, i, none⟩ = some v := fun i v e => by simp only [World.cell?, hb]; exact e
  exact ⟨p, q, a1, n1, c1, a2, n2, c2, a3, n3, c3, a4, n4, c4, a5, n5, c5, a6, n6, c6, f1, ((((((((((sx_start W).addF h3).addF h2).addF h1).addC (c 6 _ rfl)).addC (c 5 _ rfl)).addC (c 4 _ rfl)).addC (c 3 _ rfl)).addC (c 2 _ rfl)).addC (c 1 _ rfl)).addC (c 0 _ rfl), fun i => by simp [World.frozen?, hb]⟩
/-- What it has is written over. -/
theorem Bv.put {W : World} {b T N R D B : Nat} (h : Bv W b T N R D B) {p q N' : Nat} {v1 v2 : Value} (hv : Rt W (.agg #[v1, v2]) p q) (f : Fc p q N' D 20) :
    Bv ((W.setCell ⟨b, 1, none⟩ v1).setCell ⟨b, 2, none⟩ v2) b T N' R D B ∧ Fb (fun x => x = b) W ((W.setCell ⟨b, 1, none⟩ v1).setCell ⟨b, 2, none⟩ v2) := by
  have F : Fb (fun x => x = b) W ((W.setCell ⟨b, 1, none⟩ v1).setCell ⟨b, 2, none⟩ v2) := ((Fb.refl (fun x => x = b) W).set (x := ⟨b, 1, none⟩) rfl v1).set (x := ⟨b, 2, none⟩) rfl v2
  have hn : ∀ k, k = b → Odd W k := fun k e => e ▸ h.odd
  obtain ⟨p0, q0, u1, u2, u3, u4, u5, u6, hb, h1, f1, h2, h3⟩ := h.ex
  refine ⟨⟨⟨p, q, v1, v2, u3, u4, u5, u6, ?_, hv.fb F hn, f, h2.fb F hn, h3.fb F hn⟩, h.cT, h.cB, h.cD, h.cR, h.low⟩, F⟩
  unfold BkAt at *
  simp [World.setCell, Array.getElem?_modify, hb]
/-- Its time is written over. -/
theorem Bv.time {W : World} {b T N R D B : Nat} (h : Bv W b T N R D B) {T' : Nat} (hT : T' ≤ 4611686018427387904) :
    Bv (W.setCell ⟨b, 0, none⟩ (.int .i64 (T' : Int))) b T' N R D B ∧ Fb (fun x => x = b) W (W.setCell ⟨b, 0, none⟩ (.int .i64 (T' : Int))) := by
  have F : Fb (fun x => x = b) W (W.setCell ⟨b, 0, none⟩ (.int .i64 (T' : Int))) := (Fb.refl (fun x => x = b) W).set (x := ⟨b, 0, none⟩) rfl _
  have hn : ∀ k, k = b → Odd W k := fun k e => e ▸ h.odd
  obtain ⟨p0, q0, u1, u2, u3, u4, u5, u6, hb, h1, f1, h2, h3⟩ := h.ex
  refine ⟨⟨⟨p0, q0, u1, u2, u3, u4, u5, u6, ?_, h1.fb F hn, f1, h2.fb F hn, h3.fb F hn⟩, hT, h.cB, h.cD, h.cR, h.low⟩, F⟩
  unfold BkAt at *
  simp [World.setCell, Array.getElem?_modify, hb]
end Go.Proofs.YtdmkneojhnhomaaGreatDoor
namespace Go.Proofs.YtdmkneojhnhomaaGreatDoor
open Go.RowKit
set_option maxRecDepth 100000
set_option linter.unusedVariables false
set_option maxHeartbeats 8000000 in
theorem ratMulInt_yes (v : Value) (p q k : Nat) (w : World) (h : Rt w v p q) (hp : RS p) (hq : RS q) (hk : k ≤ 9223372036854775807) (hT : Tab w) :
    Calls Tryz.prog 63 #[v, .int .i64 (k : Int)] w (MakesRB w (mulP p q k 1) (mulQ p q k 1) true) := by
  obtain ⟨p1, m1, d1, p2, m2, d2, e0, _, _⟩ := h.raw
  subst e0
  have S1 : Hid _ := (((sx_start w).addF h).box (.slice p1 m1 d1) (.slice p2 m2 d2) 46 _ rfl).box (.slice none 0 0) (.slice none 0 0) 46 _ rfl
  simp only [World.size_alloc] at S1
  obtain ⟨w0, hw0⟩ : ∃ w0, w0 = (w.alloc (.cells #[.slice p1 m1 d1, .slice p2 m2 d2] 46)).alloc (.cells #[.slice none 0 0, .slice none 0 0] 46) := ⟨_, rfl⟩
  have f6 : w0.frozen? ⟨w.heap.size + 1, 0, none⟩ = false := by rw [hw0]; simp [go_sem]
  have f7 : w0.frozen? ⟨w.heap.size + 1, 1, none⟩ = false := by rw [hw0]; simp [go_sem]
  have HH : Hid (RS p ∧ RS q ∧ RS k ∧ RS 1 ∧ Tab w) := ⟨hp, hq, rs_word (by omega), rs_word (by omega), hT⟩
  have HO : Hid (∀ w, Tab w → Calls Tryz.prog 61 #[.int .i64 (k : Int), .int .i64 1] w (MakesRB w k 1 true)) := fun w hT => by
    have := ratOf_yes k 1 w (by omega) (by omega) (by omega) hT
    rw [Nat.gcd_one_right, Nat.div_one, Nat.div_one] at this
    exact this
  clear h hp hq hT
  go_enter Tryz.func63, Tryz.ntmps63
  go_wp2_with fail
  rw [← hw0] at S1
  rw [← hw0]
  obtain ⟨b2, hb2⟩ : ∃ b2, b2 = w.heap.size := ⟨_, rfl⟩
  have HB : Hid (w.heap.size ≤ b2 + 1) := by show _ ≤ _; omega
  rw [← hb2] at S1 f6 f7
  rw [← hb2]
  clear hw0 hb2
  have FZ : Hid (w0.frozen? ⟨b2 + 1, 0, none⟩ = false ∧ w0.frozen? ⟨b2 + 1, 1, none⟩ = false) := ⟨f6, f7⟩
  clear f6 f7
  refine (HO.out _ (HH.out.2.2.2.2.go S1.out.bel)).mono ?_
  rintro e w7 ⟨v7, rfl, hv, hb⟩
  obtain ⟨a7, n7, c7, a8, n8, c8, ev, _, _⟩ := hv.raw
  subst ev
  have hbb := bel_go hb (bel_al (o := .cells #[.slice a7 n7 c7, .slice a8 n8 c8] 46) (bel_refl _))
  have FZ : Hid ((w7.alloc (.cells #[.slice a7 n7 c7, .slice a8 n8 c8] 46)).frozen? ⟨b2 + 1, 0, none⟩ = false ∧ (w7.alloc (.cells #[.slice a7 n7 c7, .slice a8 n8 c8] 46)).frozen? ⟨b2 + 1, 1, none⟩ = false) := ⟨(hbb.frozen (World.block_lt_of_cell? _ _ (S1.out.cel (b2 + 1) 0 (.slice none 0 0)))).trans FZ.out.1, (hbb.frozen (World.block_lt_of_cell? _ _ (S1.out.cel (b2 + 1) 1 (.slice none 0 0)))).trans FZ.out.2⟩
  have S3 : Hid _ := ((S1.out.go hb).addF hv).box (.slice a7 n7 c7) (.slice a8 n8 c8) 46 _ rfl
  clear hv hb hbb S1
  have z1 := S3.out.cel b2 0 (.slice p1 m1 d1)
  have z2 := S3.out.cel b2 1 (.slice p2 m2 d2)
  go_wp2_with fail
  clear z1 z2
  refine (ratMul_any _ _ p q k 1 _ (S3.out.fr (.agg #[.slice p1 m1 d1, .slice p2 m2 d2]) p q) (S3.out.fr (.agg #[.slice a7 n7 c7, .slice a8 n8 c8]) k 1) HH.out.1 HH.out.2.1 HH.out.2.2.1 HH.out.2.2.2.1 (HH.out.2.2.2.2.go S3.out.bel)).mono ?_
  rintro e w13 ⟨v13, rfl, hv, hb⟩
  obtain ⟨p7, q7, r7, p8, q8, r8, ev, _, _⟩ := hv.raw
  subst ev
  have x0 := cell_later hb (S3.out.cel (b2 + 1) 0 (.slice none 0 0))
  have x1 := cell_later hb (S3.out.cel (b2 + 1) 1 (.slice none 0 0))
  have f0 : w13.frozen? ⟨b2 + 1, 0, none⟩ = false := (hb.frozen (World.block_lt_of_cell? _ _ (S3.out.cel (b2 + 1) 0 (.slice none 0 0)))).trans FZ.out.1
  have f1 : w13.frozen? ⟨b2 + 1, 1, none⟩ = false := (hb.frozen (World.block_lt_of_cell? _ _ (S3.out.cel (b2 + 1) 1 (.slice none 0 0)))).trans FZ.out.2
  have Z : Hid _ := rat_put (w0 := w) (v := .slice p7 q7 r7) (u := .slice p8 q8 r8) x0 x1 hv (bel_go S3.out.bel hb) HB.out
  clear hv hb S3 FZ
  go_wp2_with fail
  exact bodyPost_ret (v := .tuple #[.agg #[.slice p7 q7 r7, .slice p8 q8 r8], .bool true]) (by simp [results, Tryz.results63, go_sem, x0, x1]) rfl ⟨_, rfl, Z.out.1, Z.out.2⟩
set_option maxHeartbeats 8000000 in
theorem ratDivInt_yes (v : Value) (p q k : Nat) (w : World) (h : Rt w v p q) (hp : RS p) (hq : RS q) (hk : k ≤ 9223372036854775807) (hk0 : 0 < k) (hT : Tab w) :
    Calls Tryz.prog 60 #[v, .int .i64 (k : Int)] w (MakesRB w (mulP p q 1 k) (mulQ p q 1 k) true) := by
  obtain ⟨p1, m1, d1, p2, m2, d2, e0, _, _⟩ := h.raw
  subst e0
  have S1 : Hid _ := (((sx_start w).addF h).box (.slice p1 m1 d1) (.slice p2 m2 d2) 46 _ rfl).box (.slice none 0 0) (.slice none 0 0) 46 _ rfl
  simp only [World.size_alloc] at S1
  obtain ⟨w0, hw0⟩ : ∃ w0, w0 = (w.alloc (.cells #[.slice p1 m1 d1, .slice p2 m2 d2] 46)).alloc (.cells #[.slice none 0 0, .slice none 0 0] 46) := ⟨_, rfl⟩
  have f6 : w0.frozen? ⟨w.heap.size + 1, 0, none⟩ = false := by rw [hw0]; simp [go_sem]
  have f7 : w0.frozen? ⟨w.heap.size + 1, 1, none⟩ = false := by rw [hw0]; simp [go_sem]
  have HH : Hid (RS p ∧ RS q ∧ RS 1 ∧ RS k ∧ Tab w) := ⟨hp, hq, rs_word (by omega), rs_word (by omega), hT⟩
  have HO : Hid (∀ w, Tab w → Calls Tryz.prog 61 #[.int .i64 1, .int .i64 (k : Int)] w (MakesRB w 1 k true)) := fun w hT => by
    have := ratOf_yes 1 k w (by omega) (by omega) (by omega) hT
    rw [Nat.gcd_one_left, Nat.div_one, Nat.div_one] at this
    exact this
  clear h hp hq hT
  go_enter Tryz.func60, Tryz.ntmps60
  go_wp2_with fail
  rw [← hw0] at S1
  rw [← hw0]
  obtain ⟨b2, hb2⟩ : ∃ b2, b2 = w.heap.size := ⟨_, rfl⟩
  have HB : Hid (w.heap.size ≤ b2 + 1) := by show _ ≤ _; omega
  rw [← hb2] at S1 f6 f7
  rw [← hb2]
  clear hw0 hb2
  have FZ : Hid (w0.frozen? ⟨b2 + 1, 0, none⟩ = false ∧ w0.frozen? ⟨b2 + 1, 1, none⟩ = false) := ⟨f6, f7⟩
  clear f6 f7
  refine (HO.out _ (HH.out.2.2.2.2.go S1.out.bel)).mono ?_
  rintro e w7 ⟨v7, rfl, hv, hb⟩
  obtain ⟨a7, n7, c7, a8, n8, c8, ev, _, _⟩ := hv.raw
  subst ev
  have hbb := bel_go hb (bel_al (o := .cells #[.slice a7 n7 c7, .slice a8 n8 c8] 46) (bel_refl _))
  have FZ : Hid ((w7.alloc (.cells #[.slice a7 n7 c7, .slice a8 n8 c8] 46)).frozen? ⟨b2 + 1, 0, none⟩ = false ∧ (w7.alloc (.cells #[.slice a7 n7 c7, .slice a8 n8 c8] 46)).frozen? ⟨b2 + 1, 1, none⟩ = false) := ⟨(hbb.frozen (World.block_lt_of_cell? _ _ (S1.out.cel (b2 + 1) 0 (.slice none 0 0)))).trans FZ.out.1, (hbb.frozen (World.block_lt_of_cell? _ _ (S1.out.cel (b2 + 1) 1 (.slice none 0 0)))).trans FZ.out.2⟩
  have S3 : Hid _ := ((S1.out.go hb).addF hv).box (.slice a7 n7 c7) (.slice a8 n8 c8) 46 _ rfl
  clear hv hb hbb S1
  have z1 := S3.out.cel b2 0 (.slice p1 m1 d1)
  have z2 := S3.out.cel b2 1 (.slice p2 m2 d2)
  go_wp2_with fail
  clear z1 z2
  refine (ratMul_any _ _ p q 1 k _ (S3.out.fr (.agg #[.slice p1 m1 d1, .slice p2 m2 d2]) p q) (S3.out.fr (.agg #[.slice a7 n7 c7, .slice a8 n8 c8]) 1 k) HH.out.1 HH.out.2.1 HH.out.2.2.1 HH.out.2.2.2.1 (HH.out.2.2.2.2.go S3.out.bel)).mono ?_
  rintro e w13 ⟨v13, rfl, hv, hb⟩
  obtain ⟨p7, q7, r7, p8, q8, r8, ev, _, _⟩ := hv.raw
  subst ev
  have x0 := cell_later hb (S3.out.cel (b2 + 1) 0 (.slice none 0 0))
  have x1 := cell_later hb (S3.out.cel (b2 + 1) 1 (.slice none 0 0))
  have f0 : w13.frozen? ⟨b2 + 1, 0, none⟩ = false := (hb.frozen (World.block_lt_of_cell? _ _ (S3.out.cel (b2 + 1) 0 (.slice none 0 0)))).trans FZ.out.1
  have f1 : w13.frozen? ⟨b2 + 1, 1, none⟩ = false := (hb.frozen (World.block_lt_of_cell? _ _ (S3.out.cel (b2 + 1) 1 (.slice none 0 0)))).trans FZ.out.2
  have Z : Hid _ := rat_put (w0 := w) (v := .slice p7 q7 r7) (u := .slice p8 q8 r8) x0 x1 hv (bel_go S3.out.bel hb) HB.out
  clear hv hb S3 FZ
  go_wp2_with fail
  exact bodyPost_ret (v := .tuple #[.agg #[.slice p7 q7 r7, .slice p8 q8 r8], .bool true]) (by simp [results, Tryz.results60, go_sem, x0, x1]) rfl ⟨_, rfl, Z.out.1, Z.out.2⟩
set_option maxHeartbeats 8000000 in
theorem whole_any (k : Nat) (w : World) (hk : k ≤ 9223372036854775807) (hT : Tab w) :
    Calls Tryz.prog 34 #[.int .i64 (k : Int)] w (MakesR w k 1) := by
  have S1 : Hid _ := (sx_start w).box (.slice none 0 0) (.slice none 0 0) 46 _ rfl
  obtain ⟨w0, hw0⟩ : ∃ w0, w0 = w.alloc (.cells #[.slice none 0 0, .slice none 0 0] 46) := ⟨_, rfl⟩
  have f6 : w0.frozen? ⟨w.heap.size, 0, none⟩ = false := by rw [hw0]; simp [go_sem]
  have f7 : w0.frozen? ⟨w.heap.size, 1, none⟩ = false := by rw [hw0]; simp [go_sem]
  have HT : Hid (Tab w) := hT
  have HO : Hid (∀ w, Tab w → Calls Tryz.prog 61 #[.int .i64 (k : Int), .int .i64 1] w (MakesRB w k 1 true)) := fun w hT => by
    have := ratOf_yes k 1 w (by omega) (by omega) (by omega) hT
    rw [Nat.gcd_one_right, Nat.div_one, Nat.div_one] at this
    exact this
  clear hT
  go_enter Tryz.func34, Tryz.ntmps34
  go_wp2_with fail
  rw [← hw0] at S1
  rw [← hw0]
  obtain ⟨b2, hb2⟩ : ∃ b2, b2 = w.heap.size := ⟨_, rfl⟩
  have HB : Hid (w.heap.size ≤ b2) := by show _ ≤ _; omega
  rw [← hb2] at S1 f6 f7
  rw [← hb2]
  clear hw0 hb2
  have FZ : Hid (w0.frozen? ⟨b2, 0, none⟩ = false ∧ w0.frozen? ⟨b2, 1, none⟩ = false) := ⟨f6, f7⟩
  clear f6 f7
  refine (HO.out _ (HT.out.go S1.out.bel)).mono ?_
  rintro e w7 ⟨v7, rfl, hv, hb⟩
  obtain ⟨a7, n7, c7, a8, n8, c8, ev, _, _⟩ := hv.raw
  subst ev
  have hbb := bel_go hb (bel_al (o := .cells #[.slice a7 n7 c7, .slice a8 n8 c8] 46) (bel_refl _))
  have f0 : (w7.alloc (.cells #[.slice a7 n7 c7, .slice a8 n8 c8] 46)).frozen? ⟨b2, 0, none⟩ = false := (hbb.frozen (World.block_lt_of_cell? _ _ (S1.out.cel b2 0 (.slice none 0 0)))).trans FZ.out.1
  have f1 : (w7.alloc (.cells #[.slice a7 n7 c7, .slice a8 n8 c8] 46)).frozen? ⟨b2, 1, none⟩ = false := (hbb.frozen (World.block_lt_of_cell? _ _ (S1.out.cel b2 1 (.slice none 0 0)))).trans FZ.out.2
  have x0 := cell_later hbb (S1.out.cel b2 0 (.slice none 0 0))
  have x1 := cell_later hbb (S1.out.cel b2 1 (.slice none 0 0))
  have Z : Hid _ := rat_put (w0 := w) (v := .slice a7 n7 c7) (u := .slice a8 n8 c8) x0 x1 (hv.mono (bel_al (o := .cells #[.slice a7 n7 c7, .slice a8 n8 c8] 46) (bel_refl _))) (bel_go S1.out.bel hbb) HB.out
  clear hv hb hbb S1 FZ
  go_wp2_with fail
  exact bodyPost_ret (v := .agg #[.slice a7 n7 c7, .slice a8 n8 c8]) (by simp [results, Tryz.results34, go_sem, x0, x1]) rfl ⟨_, rfl, Z.out.1, Z.out.2⟩
/-- Of a fraction's value. -/
theorem Fc.mulInt {p q N D n k : Nat} (h : Fc p q N D n) (hn : n ≤ 90) (hk : k ≤ 9223372036854775807) : ∃ A B, Fc A B (N * k) D (n + 1) ∧ ∀ v w, Rt w v p q → Tab w → Calls Tryz.prog 63 #[v, .int .i64 (k : Int)] w (MakesRB w A B true) := by
  have kk : Fc k 1 k 1 1 := ⟨Nat.gcd_one_right _, by omega, by omega, rfl, by rw [P_one]; omega, by rw [P_one]; omega⟩
  have low := mul_low h.pos kk.pos h.low kk.low
  have s1 : mulP p q k 1 < P (n + 1) := mulP_lt (Nat.lt_of_le_of_lt (Nat.div_le_self _ _) h.s1) (Nat.lt_of_le_of_lt (Nat.div_le_self _ _) kk.s1)
  have s2 : mulQ p q k 1 < P (n + 1) := mulP_lt (Nat.lt_of_le_of_lt (Nat.div_le_self _ _) h.s2) (Nat.lt_of_le_of_lt (Nat.div_le_self _ _) kk.s2)
  have vv := val_mul h.pos kk.pos h.val kk.val low.2.2
  rw [Nat.mul_one] at vv
  exact ⟨_, _, ⟨low.1, low.2.1, h.dpos, vv, s1, s2⟩, fun v w e hT => ratMulInt_yes v p q k w e (h.rs1 hn) (h.rs2 hn) hk hT⟩
theorem Fc.divInt {p q N D n k : Nat} (h : Fc p q N D n) (hn : n ≤ 90) (hk : k ≤ 9223372036854775807) (hk0 : 0 < k) : ∃ A B, Fc A B N (D * k) (n + 1) ∧ ∀ v w, Rt w v p q → Tab w → Calls Tryz.prog 60 #[v, .int .i64 (k : Int)] w (MakesRB w A B true) := by
  have kk : Fc 1 k 1 k 1 := ⟨Nat.gcd_one_left _, by omega, by omega, rfl, by rw [P_one]; omega, by rw [P_one]; omega⟩
  have low := mul_low h.pos kk.pos h.low kk.low
  have s1 : mulP p q 1 k < P (n + 1) := mulP_lt (Nat.lt_of_le_of_lt (Nat.div_le_self _ _) h.s1) (Nat.lt_of_le_of_lt (Nat.div_le_self _ _) kk.s1)
  have s2 : mulQ p q 1 k < P (n + 1) := mulP_lt (Nat.lt_of_le_of_lt (Nat.div_le_self _ _) h.s2) (Nat.lt_of_le_of_lt (Nat.div_le_self _ _) kk.s2)
  have vv := val_mul h.pos kk.pos h.val kk.val low.2.2
  rw [Nat.mul_one] at vv
  exact ⟨_, _, ⟨low.1, low.2.1, Nat.mul_pos h.dpos hk0, vv, s1, s2⟩, fun v w e hT => ratDivInt_yes v p q k w e (h.rs1 hn) (h.rs2 hn) hk hk0 hT⟩
end Go.Proofs.YtdmkneojhnhomaaGreatDoor
namespace Go.Proofs.YtdmkneojhnhomaaGreatDoor
open Go.RowKit
set_option maxRecDepth 100000
set_option linter.unusedVariables false
theorem cmpI_ge {x y : Nat} : decide (0 ≤ cmpI x y) = decide (y ≤ x) := by
  unfold cmpI
  by_cases h1 : x < y
  · rw [if_pos h1, decide_eq_false (by omega), decide_eq_false (by omega)]
  · by_cases h2 : x = y
    · rw [if_neg h1, if_pos h2, decide_eq_true (by omega), decide_eq_true (by omega)]
    · rw [if_neg h1, if_neg h2, decide_eq_true (by omega), decide_eq_true (by omega)]
set_option maxHeartbeats 4000000 in
theorem has_any (T : Int) (a1 : Option Addr) (n1 c1 : Nat) (a2 : Option Addr) (n2 c2 : Nat) (a3 : Option Addr) (n3 c3 : Nat) (a4 : Option Addr) (n4 c4 : Nat) (p q x y : Nat) (w : World) (h : Rt w (.agg #[.slice a1 n1 c1, .slice a2 n2 c2]) p q) (k : Rt w (.agg #[.slice a3 n3 c3, .slice a4 n4 c4]) x y) (hp : RS p) (hq : RS q) (hx : RS x) (hy : RS y) (bb : Bool) (hbb : decide (x * q ≤ p * y) = bb) :
    Calls Tryz.prog 62 #[.agg #[.int .i64 T, .slice a1 n1 c1, .slice a2 n2 c2], .agg #[.slice a3 n3 c3, .slice a4 n4 c4]] w fun e w' => e = .returned (.bool bb) ∧ Below w.heap.size w w' := by
  have ba : Hid (Below w.heap.size w ((w.alloc (.cells #[.int .i64 T, .slice a1 n1 c1, .slice a2 n2 c2] 79)).alloc (.cells #[.slice a3 n3 c3, .slice a4 n4 c4] 46))) := bel_al (bel_al (bel_refl w))
  have HH : Hid (Rt w (.agg #[.slice a1 n1 c1, .slice a2 n2 c2]) p q ∧ Rt w (.agg #[.slice a3 n3 c3, .slice a4 n4 c4]) x y ∧ RS p ∧ RS q ∧ RS x ∧ RS y) := ⟨h, k, hp, hq, hx, hy⟩
  have hz : decide (0 ≤ cmpI (p * y) (x * q)) = bb := by rw [cmpI_ge, hbb]
  clear h k hp hq hx hy hbb
  go_enter Tryz.func62, Tryz.ntmps62
  go_wp2_with fail
  refine (ratCmp_any _ _ p q x y _ (HH.out.1.mono ba.out) (HH.out.2.1.mono ba.out) HH.out.2.2.1 HH.out.2.2.2.1 HH.out.2.2.2.2.1 HH.out.2.2.2.2.2).mono ?_
  rintro e w1 ⟨rfl, hb1⟩
  have B1 : Hid (Below w.heap.size w w1) := bel_go ba.out hb1
  obtain ⟨z, ez⟩ : ∃ z, z = cmpI (p * y) (x * q) := ⟨_, rfl⟩
  rw [← ez] at hz ⊢
  clear ez hb1 ba HH
  go_wp2_with fail
  go_ret
  exact ⟨by rw [← hz]; rfl, B1.out⟩
/-- Two cells of a bucket take what it has. -/
def Sto12 (R : Nat) (w : World) (v : Value) (w' : World) : Prop := ∃ u u', v = .agg #[u, u'] ∧ w' = (w.setCell ⟨R, 1, none⟩ u).setCell ⟨R, 2, none⟩ u'

set_option maxHeartbeats 8000000 in
theorem bfill_any (b T N R D B k : Nat) (w : World) (h : Bu w b T N R D B) (hk : k ≤ 4611686018427387904) (hT : Tab w) :
    Calls Tryz.prog 37 #[.pointer (some ⟨b, 0, none⟩), .int .i64 (k : Int)] w fun e w' => e = .returned (.tuple #[]) ∧ Bu w' b T (fillN N R D B k) R D B ∧ Fb (fun x => x = b) w w' := by
  have HB : Hid (Bu w b T N R D B ∧ Tab w ∧ k ≤ 4611686018427387904) := ⟨h, hT, hk⟩
  obtain ⟨p, q, a1, n1, c1, a2, n2, c2, a3, n3, c3, a4, n4, c4, a5, n5, c5, a6, n6, c6, f1, S1', fz⟩ := h.toBv.open
  have S1 : Hid _ := S1'
  have FB : Fc B 1 B 1 1 := ⟨Nat.gcd_one_right _, by omega, by omega, rfl, by rw [P_one]; have := h.cB; omega, by rw [P_one]; omega⟩
  have HS : Hid (RS p ∧ RS q ∧ RS B ∧ RS 1) := ⟨f1.rs1 (by omega), f1.rs2 (by omega), FB.rs1 (by omega), FB.rs2 (by omega)⟩
  have FH : Hid (Fc p q N D 20 ∧ Fc B 1 B 1 1) := ⟨f1, FB⟩
  have HN : Hid (N ≤ B * D) := h.cN
  clear S1' fz h hT f1 FB
  obtain ⟨bb, hbb⟩ : ∃ bb, decide (B * q ≤ p * 1) = bb := ⟨_, rfl⟩
  have hbn : decide (B * D ≤ N) = bb := by
    rw [← hbb]
    have := FH.out.1.le FH.out.2
    rw [Nat.mul_one N] at this
    exact decide_eq_decide.2 this.symm
  have HBB : Hid (decide (B * q ≤ p * 1) = bb) := hbb
  have HBN : Hid (decide (B * D ≤ N) = bb) := hbn
  clear hbb hbn
  go_enter Tryz.func37, Tryz.ntmps37
  go_wp2_with fail
  refine wp_region_inv (JB w [sEq (.pointer (some ⟨b, 0, none⟩)), sEq (.pointer (some ⟨b, 0, none⟩)), sEq (.pointer (some ⟨b, 0, none⟩)), sEq (.agg #[.int .i64 (T : Int), .slice a1 n1 c1, .slice a2 n2 c2]), sEq (.pointer (some ⟨b, 0, none⟩)), sEq (.pointer (some ⟨b, 0, none⟩)), sEq (.pointer (some ⟨b, 3, none⟩)), sEq (.agg #[.slice a3 n3 c3, .slice a4 n4 c4]), sEq (.bool bb)] []) 52 (by kernel_rfl) rfl (by kernel_rfl) (JB.start _ _ _) (fun HG HN => ⟨?_, ?_, ?_, ?_, ?_, ?_, ?_, ?_, ?_, trivial⟩) ?_
  · intro L vs a w' hJ hF hP hL
    have q0 : (a.tmps[0]?).getD undef = .pointer (some ⟨b, 0, none⟩) := hF.old 0 rfl
    exact run_val (v := .pointer (some ⟨b, 0, none⟩)) rfl (by simp [execOp, go_sem, q0]) ⟨_, rfl, hJ.step hL rfl (Below.refl _ _) (by exact rfl)⟩
  · intro L vs a w' hJ hF hP hL
    have p0 : L 0 = true := hP ⟨0, .data⟩ (by simp) rfl
    have s0 : vs 0 = .pointer (some ⟨b, 0, none⟩) := hJ.sp 0 p0
    have q6 := hF.slot 0 6 rfl p0
    exact run_val (v := .pointer (some ⟨b, 0, none⟩)) rfl (by simp [execOp, go_sem, q6, s0]) ⟨_, rfl, hJ.step hL rfl (Below.refl _ _) (by exact rfl)⟩
  · intro L vs a w' hJ hF hP hL
    have p1 : L 1 = true := hP ⟨1, .data⟩ (by simp) rfl
    have s1 : vs 1 = .pointer (some ⟨b, 0, none⟩) := hJ.sp 1 p1
    have q7 := hF.slot 1 7 rfl p1
    exact run_val (v := .pointer (some ⟨b, 0, none⟩)) rfl (by simp [execOp, go_sem, q7, s1]) ⟨_, rfl, hJ.step hL rfl (Below.refl _ _) (by exact rfl)⟩
  · intro L vs a w' hJ hF hP hL
    have p2 : L 2 = true := hP ⟨2, .data⟩ (by simp) rfl
    have s2 : vs 2 = .pointer (some ⟨b, 0, none⟩) := hJ.sp 2 p2
    have q8 := hF.slot 2 8 rfl p2
    have cb0 := cell_later hJ.bel (S1.out.cel (b) 0 (.int .i64 (T : Int)))
    have cb1 := cell_later hJ.bel (S1.out.cel (b) 1 (.slice a1 n1 c1))
    have cb2 := cell_later hJ.bel (S1.out.cel (b) 2 (.slice a2 n2 c2))
    exact run_val (v := .agg #[.int .i64 (T : Int), .slice a1 n1 c1, .slice a2 n2 c2]) rfl (by simp [execOp, go_sem, q8, s2, cb0, cb1, cb2]) ⟨_, rfl, hJ.step hL rfl (Below.refl _ _) (by exact rfl)⟩
  · intro L vs a w' hJ hF hP hL
    have q0 : (a.tmps[0]?).getD undef = .pointer (some ⟨b, 0, none⟩) := hF.old 0 rfl
    exact run_val (v := .pointer (some ⟨b, 0, none⟩)) rfl (by simp [execOp, go_sem, q0]) ⟨_, rfl, hJ.step hL rfl (Below.refl _ _) (by exact rfl)⟩
  · intro L vs a w' hJ hF hP hL
    have p4 : L 4 = true := hP ⟨4, .data⟩ (by simp) rfl
    have s4 : vs 4 = .pointer (some ⟨b, 0, none⟩) := hJ.sp 4 p4
    have q10 := hF.slot 4 10 rfl p4
    exact run_val (v := .pointer (some ⟨b, 0, none⟩)) rfl (by simp [execOp, go_sem, q10, s4]) ⟨_, rfl, hJ.step hL rfl (Below.refl _ _) (by exact rfl)⟩
  · intro L vs a w' hJ hF hP hL
    have p5 : L 5 = true := hP ⟨5, .data⟩ (by simp) rfl
    have s5 : vs 5 = .pointer (some ⟨b, 0, none⟩) := hJ.sp 5 p5
    have q11 := hF.slot 5 11 rfl p5
    exact run_val (v := .pointer (some ⟨b, 3, none⟩)) rfl (by simp [execOp, go_sem, q11, s5]) ⟨_, rfl, hJ.step hL rfl (Below.refl _ _) (by exact rfl)⟩
  · intro L vs a w' hJ hF hP hL
    have p6 : L 6 = true := hP ⟨6, .data⟩ (by simp) rfl
    have s6 : vs 6 = .pointer (some ⟨b, 3, none⟩) := hJ.sp 6 p6
    have q12 := hF.slot 6 12 rfl p6
    have cb0 := cell_later hJ.bel (S1.out.cel (b) 3 (.slice a3 n3 c3))
    have cb1 := cell_later hJ.bel (S1.out.cel (b) 4 (.slice a4 n4 c4))
    exact run_val (v := .agg #[.slice a3 n3 c3, .slice a4 n4 c4]) rfl (by simp [execOp, go_sem, q12, s6, cb0, cb1]) ⟨_, rfl, hJ.step hL rfl (Below.refl _ _) (by exact rfl)⟩
  · intro L vs a w' hJ hF hP hL
    have p3 : L 3 = true := hP ⟨3, .data⟩ (by simp) rfl
    have s3 : vs 3 = .agg #[.int .i64 (T : Int), .slice a1 n1 c1, .slice a2 n2 c2] := hJ.sp 3 p3
    have q9 := hF.slot 3 9 rfl p3
    have p7 : L 7 = true := hP ⟨7, .data⟩ (by simp) rfl
    have s7 : vs 7 = .agg #[.slice a3 n3 c3, .slice a4 n4 c4] := hJ.sp 7 p7
    have q13 := hF.slot 7 13 rfl p7
    refine run_call (f := 62) (args := #[.agg #[.int .i64 (T : Int), .slice a1 n1 c1, .slice a2 n2 c2], .agg #[.slice a3 n3 c3, .slice a4 n4 c4]]) rfl (by simp [go_sem, q9, s3, q13, s7]) (has_any (T : Int) a1 n1 c1 a2 n2 c2 a3 n3 c3 a4 n4 c4 p q B 1 _ ((S1.out.fr (.agg #[.slice a1 n1 c1, .slice a2 n2 c2]) p q).mono hJ.bel) ((S1.out.fr (.agg #[.slice a3 n3 c3, .slice a4 n4 c4]) B 1).mono hJ.bel) HS.out.1 HS.out.2.1 HS.out.2.2.1 HS.out.2.2.2 bb HBB.out) ?_
    rintro e w2 ⟨rfl, hb⟩
    exact ⟨_, rfl, _, rfl, hJ.step hL rfl hb (by exact rfl)⟩
  intro L vs w' hA hJ
  have s8 : vs 8 = .bool bb := hJ.sp 8 (hA 8 (by simp))
  simp only [putL, Act.put, List.setIfInBounds_toArray, List.set_cons_zero, List.set_cons_succ, Nat.reduceAdd]
  have HJ : Hid (Below w.heap.size w w') := hJ.bel
  simp only [s8]
  clear hJ hA s8
  cases bb
  · have S2 : Hid _ := S1.out.go HJ.out
    have Z2 : Hid (Bu w' b T N R D B ∧ Tab w' ∧ Below w.heap.size w w') := ⟨HB.out.1.go HJ.out, HB.out.2.1.go HJ.out, HJ.out⟩
    have z5 := S2.out.cel b 5 (.slice a5 n5 c5)
    have z6 := S2.out.cel b 6 (.slice a6 n6 c6)
    have hlow : Hid (Nat.gcd R D = 1 ∧ 0 < D ∧ D < P 18 ∧ R < P 17) := ⟨HB.out.1.low, HB.out.1.cD.1, HB.out.1.cD.2, HB.out.1.cR⟩
    go_wp2_with fail
    clear z5 z6
    have FR : Fc R D R D 18 := ⟨hlow.out.1, hlow.out.2.1, hlow.out.2.1, rfl, P_up hlow.out.2.2.2 (by omega), hlow.out.2.2.1⟩
    obtain ⟨A, C, fg, mi⟩ := FR.mulInt (by omega) (k := k) (by have := HB.out.2.2; omega)
    refine (mi (.agg #[.slice a5 n5 c5, .slice a6 n6 c6]) w' (S2.out.fr (.agg #[.slice a5 n5 c5, .slice a6 n6 c6]) R D) Z2.out.2.1).mono ?_
    rintro e w7 ⟨v7, rfl, hv, hb⟩
    obtain ⟨a7, n7, c7, a8, n8, c8, ev, _, _⟩ := hv.raw
    subst ev
    have FG : Hid (Fc A C (R * k) D 19) := fg
    clear fg mi FR
    have hbb := bel_go hb (bel_al (o := .cells #[.slice a7 n7 c7, .slice a8 n8 c8] 46) (bel_refl _))
    have S3 : Hid _ := ((S2.out.go hb).addF hv).box (.slice a7 n7 c7) (.slice a8 n8 c8) 46 _ rfl
    have Z3 : Hid (Bu (w7.alloc (.cells #[.slice a7 n7 c7, .slice a8 n8 c8] 46)) b T N R D B ∧ Tab (w7.alloc (.cells #[.slice a7 n7 c7, .slice a8 n8 c8] 46)) ∧ Below w.heap.size w (w7.alloc (.cells #[.slice a7 n7 c7, .slice a8 n8 c8] 46))) := ⟨Z2.out.1.go hbb, Z2.out.2.1.go hbb, bel_go Z2.out.2.2 hbb⟩
    clear hv hb hbb S2 Z2 HJ
    go_wp2_with fail
    obtain ⟨w8, hw⟩ : ∃ w8, w8 = w7.alloc (.cells #[.slice a7 n7 c7, .slice a8 n8 c8] 46) := ⟨_, rfl⟩
    obtain ⟨g, hg⟩ : ∃ g, g = w7.heap.size := ⟨_, rfl⟩
    rw [← hw, ← hg] at S3
    rw [← hw] at Z3
    rw [← hw, ← hg]
    clear hw hg
    obtain ⟨X, Y, fs, _, ad⟩ := FH.out.1.add FG.out (by omega) (by omega)
    have ne1 : N * D + R * k * D = (N + R * k) * D := by grind
    have fs2 := (fs.scale ne1 rfl hlow.out.2.1).norm (m := 20) (by
      have h1 := HN.out
      have h2 : B * D < P 1 * P 18 := Nat.mul_lt_mul'' (by rw [P_one]; have := HB.out.1.cB; omega) hlow.out.2.2.1
      have h3 : R * k < P 17 * P 1 := Nat.mul_lt_mul'' hlow.out.2.2.2 (by rw [P_one]; have := HB.out.2.2; omega)
      rw [← P_add] at h2 h3
      have h4 : N + R * k < P (19 + 1) := P_twice (Nat.lt_of_le_of_lt h1 h2) (P_up h3 (by omega))
      exact h4) (P_up hlow.out.2.2.1 (by omega))
    have FS : Hid (Fc X Y (N + R * k) D 20) := fs2
    have AD : Hid (∀ v u w, Rt w v p q → Rt w u A C → Tab w → Calls Tryz.prog 64 #[v, u] w (MakesR w X Y)) := ad
    clear fs fs2 ne1 ad
    have e6 := S3.out.cel b 1 (.slice a1 n1 c1)
    have e7 := S3.out.cel b 2 (.slice a2 n2 c2)
    have fz := (Z3.out.1.toBv.open)
    have f67 : w8.frozen? ⟨b, 1, none⟩ = false ∧ w8.frozen? ⟨b, 2, none⟩ = false := by
      obtain ⟨_, _, _, _, _, _, _, _, _, _, _, _, _, _, _, _, _, _, _, _, _, _, hf⟩ := fz
      exact ⟨hf 1, hf 2⟩
    obtain ⟨f6, f7⟩ := f67
    clear fz
    refine wp_region_inv (JD w8 [sEq (.pointer (some ⟨b, 0, none⟩)), sEq (.pointer (some ⟨b, 0, none⟩)), sEq (.pointer (some ⟨b, 0, none⟩)), sEq (.pointer (some ⟨b, 0, none⟩)), sEq (.pointer (some ⟨b, 1, none⟩)), sEq (.agg #[.slice a1 n1 c1, .slice a2 n2 c2]), sEq (.agg #[.slice a7 n7 c7, .slice a8 n8 c8]), sRt (X) (Y), sEq (.pointer (some ⟨b, 0, none⟩)), sEq (.pointer (some ⟨b, 0, none⟩)), sEq (.pointer (some ⟨b, 1, none⟩)), sAny] [[], [], [1], [2], [3], [4], [], [5, 6], [0], [8], [9], [10, 7]] 11 7 [0, 1, 2, 3, 4, 5, 6, 7, 8, 9, 10] (Sto12 (b))) 52 (by kernel_rfl) rfl (by kernel_rfl) (JD.start _ _ _ _ _ _ _) (fun HG HN => ⟨?_, ?_, ?_, ?_, ?_, ?_, ?_, ?_, ?_, ?_, ?_, ?_, trivial⟩) ?_
    · intro L vs a w' hJ hF hP hL
      have hK := hJ
      have hJ := hK.open hL (by decide)
      have q0 : (a.tmps[0]?).getD undef = .pointer (some ⟨b, 0, none⟩) := hF.old 0 rfl
      exact run_val (v := .pointer (some ⟨b, 0, none⟩)) rfl (by simp [execOp, go_sem, q0]) ⟨_, rfl, hK.step hL (by decide) (by decide) rfl (nd_nil) <| hJ.step hL rfl (Below.refl _ _) (by exact rfl)⟩
    · intro L vs a w' hJ hF hP hL
      have hK := hJ
      have hJ := hK.open hL (by decide)
      have q0 : (a.tmps[0]?).getD undef = .pointer (some ⟨b, 0, none⟩) := hF.old 0 rfl
      exact run_val (v := .pointer (some ⟨b, 0, none⟩)) rfl (by simp [execOp, go_sem, q0]) ⟨_, rfl, hK.step hL (by decide) (by decide) rfl (nd_nil) <| hJ.step hL rfl (Below.refl _ _) (by exact rfl)⟩
    · intro L vs a w' hJ hF hP hL
      have hK := hJ
      have hJ := hK.open hL (by decide)
      have p1 : L 1 = true := hP ⟨1, .data⟩ (by simp) rfl
      have s1 : vs 1 = .pointer (some ⟨b, 0, none⟩) := hJ.sp 1 p1
      have q25 := hF.slot 1 25 rfl p1
      exact run_val (v := .pointer (some ⟨b, 0, none⟩)) rfl (by simp [execOp, go_sem, q25, s1]) ⟨_, rfl, hK.step hL (by decide) (by decide) rfl (nd_cons p1 (nd_nil)) <| hJ.step hL rfl (Below.refl _ _) (by exact rfl)⟩
    · intro L vs a w' hJ hF hP hL
      have hK := hJ
      have hJ := hK.open hL (by decide)
      have p2 : L 2 = true := hP ⟨2, .data⟩ (by simp) rfl
      have s2 : vs 2 = .pointer (some ⟨b, 0, none⟩) := hJ.sp 2 p2
      have q26 := hF.slot 2 26 rfl p2
      exact run_val (v := .pointer (some ⟨b, 0, none⟩)) rfl (by simp [execOp, go_sem, q26, s2]) ⟨_, rfl, hK.step hL (by decide) (by decide) rfl (nd_cons p2 (nd_nil)) <| hJ.step hL rfl (Below.refl _ _) (by exact rfl)⟩
    · intro L vs a w' hJ hF hP hL
      have hK := hJ
      have hJ := hK.open hL (by decide)
      have p3 : L 3 = true := hP ⟨3, .data⟩ (by simp) rfl
      have s3 : vs 3 = .pointer (some ⟨b, 0, none⟩) := hJ.sp 3 p3
      have q27 := hF.slot 3 27 rfl p3
      exact run_val (v := .pointer (some ⟨b, 1, none⟩)) rfl (by simp [execOp, go_sem, q27, s3]) ⟨_, rfl, hK.step hL (by decide) (by decide) rfl (nd_cons p3 (nd_nil)) <| hJ.step hL rfl (Below.refl _ _) (by exact rfl)⟩
    · intro L vs a w' hJ hF hP hL
      have hK := hJ
      have hJ := hK.open hL (by decide)
      have p4 : L 4 = true := hP ⟨4, .data⟩ (by simp) rfl
      have s4 : vs 4 = .pointer (some ⟨b, 1, none⟩) := hJ.sp 4 p4
      have q28 := hF.slot 4 28 rfl p4
      have cb0 := cell_later hJ.bel (S3.out.cel (b) 1 (.slice a1 n1 c1))
      have cb1 := cell_later hJ.bel (S3.out.cel (b) 2 (.slice a2 n2 c2))
      exact run_val (v := .agg #[.slice a1 n1 c1, .slice a2 n2 c2]) rfl (by simp [execOp, go_sem, q28, s4, cb0, cb1]) ⟨_, rfl, hK.step hL (by decide) (by decide) rfl (nd_cons p4 (nd_nil)) <| hJ.step hL rfl (Below.refl _ _) (by exact rfl)⟩
    · intro L vs a w' hJ hF hP hL
      have hK := hJ
      have hJ := hK.open hL (by decide)
      have q4 : (a.tmps[4]?).getD undef = .pointer (some ⟨g, 0, none⟩) := hF.old 4 rfl
      have cb0 := cell_later hJ.bel (S3.out.cel (g) 0 (.slice a7 n7 c7))
      have cb1 := cell_later hJ.bel (S3.out.cel (g) 1 (.slice a8 n8 c8))
      exact run_val (v := .agg #[.slice a7 n7 c7, .slice a8 n8 c8]) rfl (by simp [execOp, go_sem, q4, cb0, cb1]) ⟨_, rfl, hK.step hL (by decide) (by decide) rfl (nd_nil) <| hJ.step hL rfl (Below.refl _ _) (by exact rfl)⟩
    · intro L vs a w' hJ hF hP hL
      have hK := hJ
      have hJ := hK.open hL (by decide)
      have p5 : L 5 = true := hP ⟨5, .data⟩ (by simp) rfl
      have s5 : vs 5 = .agg #[.slice a1 n1 c1, .slice a2 n2 c2] := hJ.sp 5 p5
      have q29 := hF.slot 5 29 rfl p5
      have p6 : L 6 = true := hP ⟨6, .data⟩ (by simp) rfl
      have s6 : vs 6 = .agg #[.slice a7 n7 c7, .slice a8 n8 c8] := hJ.sp 6 p6
      have q30 := hF.slot 6 30 rfl p6
      refine run_call (f := 64) (args := #[.agg #[.slice a1 n1 c1, .slice a2 n2 c2], .agg #[.slice a7 n7 c7, .slice a8 n8 c8]]) rfl (by simp [go_sem, q29, s5, q30, s6]) (AD.out _ _ _ ((S3.out.fr (.agg #[.slice a1 n1 c1, .slice a2 n2 c2]) p q).mono hJ.bel) ((S3.out.fr (.agg #[.slice a7 n7 c7, .slice a8 n8 c8]) A C).mono hJ.bel) (Z3.out.2.1.go hJ.bel)) ?_
      rintro e w2 ⟨v, rfl, hv, hb⟩
      exact ⟨_, rfl, _, rfl, hK.step hL (by decide) (by decide) rfl (nd_cons p5 (nd_cons p6 (nd_nil))) <| hJ.step hL rfl hb (by exact hv)⟩
    · intro L vs a w' hJ hF hP hL
      have hK := hJ
      have hJ := hK.open hL (by decide)
      have p0 : L 0 = true := hP ⟨0, .data⟩ (by simp) rfl
      have s0 : vs 0 = .pointer (some ⟨b, 0, none⟩) := hJ.sp 0 p0
      have q24 := hF.slot 0 24 rfl p0
      exact run_val (v := .pointer (some ⟨b, 0, none⟩)) rfl (by simp [execOp, go_sem, q24, s0]) ⟨_, rfl, hK.step hL (by decide) (by decide) rfl (nd_cons p0 (nd_nil)) <| hJ.step hL rfl (Below.refl _ _) (by exact rfl)⟩
    · intro L vs a w' hJ hF hP hL
      have hK := hJ
      have hJ := hK.open hL (by decide)
      have p8 : L 8 = true := hP ⟨8, .data⟩ (by simp) rfl
      have s8 : vs 8 = .pointer (some ⟨b, 0, none⟩) := hJ.sp 8 p8
      have q32 := hF.slot 8 32 rfl p8
      exact run_val (v := .pointer (some ⟨b, 0, none⟩)) rfl (by simp [execOp, go_sem, q32, s8]) ⟨_, rfl, hK.step hL (by decide) (by decide) rfl (nd_cons p8 (nd_nil)) <| hJ.step hL rfl (Below.refl _ _) (by exact rfl)⟩
    · intro L vs a w' hJ hF hP hL
      have hK := hJ
      have hJ := hK.open hL (by decide)
      have p9 : L 9 = true := hP ⟨9, .data⟩ (by simp) rfl
      have s9 : vs 9 = .pointer (some ⟨b, 0, none⟩) := hJ.sp 9 p9
      have q33 := hF.slot 9 33 rfl p9
      exact run_val (v := .pointer (some ⟨b, 1, none⟩)) rfl (by simp [execOp, go_sem, q33, s9]) ⟨_, rfl, hK.step hL (by decide) (by decide) rfl (nd_cons p9 (nd_nil)) <| hJ.step hL rfl (Below.refl _ _) (by exact rfl)⟩
    · intro L vs a w' hJ hF hP hL
      have hK := hJ
      have hJ := hK.core hL
      have p10 : L 10 = true := hP ⟨10, .data⟩ (by simp) rfl
      have s10 : vs 10 = .pointer (some ⟨b, 1, none⟩) := hJ.sp 10 p10
      have q34 := hF.slot 10 34 rfl p10
      have p7 : L 7 = true := hP ⟨7, .data⟩ (by simp) rfl
      have s7 : Rt w' (vs 7) (X) (Y) := hJ.sp 7 p7
      have q31 := hF.slot 7 31 rfl p7
      have p5 : L 5 = true := hK.cl 7 p7 5 (by simp)
      have p4 : L 4 = true := hK.cl 5 p5 4 (by simp)
      have p3 : L 3 = true := hK.cl 4 p4 3 (by simp)
      have p2 : L 2 = true := hK.cl 3 p3 2 (by simp)
      have p1 : L 1 = true := hK.cl 2 p2 1 (by simp)
      have p6 : L 6 = true := hK.cl 7 p7 6 (by simp)
      have p9 : L 9 = true := hK.cl 10 p10 9 (by simp)
      have p8 : L 8 = true := hK.cl 9 p9 8 (by simp)
      have p0 : L 0 = true := hK.cl 8 p8 0 (by simp)
      have x0 := cell_later hJ.bel e6
      have y0 := (hJ.bel.frozen (World.block_lt_of_cell? _ _ e6)).trans f6
      have x1 := cell_later hJ.bel e7
      have y1 := (hJ.bel.frozen (World.block_lt_of_cell? _ _ e7)).trans f7
      obtain ⟨aa, nn, cc, a2, n2, c2, e8, _, _⟩ := s7.raw
      exact run_unit (w' := ((w'.setCell ⟨b, 1, none⟩ (.slice aa nn cc)).setCell ⟨b, 2, none⟩ (.slice a2 n2 c2))) rfl (by simp [execOp, go_sem, q34, s10, q31, e8, x0, y0, x1, y1]) ⟨undef, rfl, hK.put hL (by decide) rfl (nd_cons p10 (nd_cons p7 (nd_nil))) (nd_cons p0 (nd_cons p1 (nd_cons p2 (nd_cons p3 (nd_cons p4 (nd_cons p5 (nd_cons p6 (nd_cons p7 (nd_cons p8 (nd_cons p9 (nd_cons p10 (nd_nil)))))))))))) p7 ⟨_, _, e8, rfl⟩⟩
    intro L vs w' hA hK
    obtain ⟨_, w1, hb1, sv, u1, u2, ev, ew⟩ := hK.fin (hA 11 (by simp))
    replace sv : Rt w1 (vs 7) (X) (Y) := sv
    simp only [putL, Act.put, List.setIfInBounds_toArray, List.set_cons_zero, List.set_cons_succ, Nat.reduceAdd]
    rw [ev] at sv
    obtain ⟨ZP, FP⟩ := (Z3.out.1.toBv.go hb1).put sv FS.out
    rw [← ew] at ZP FP
    have Z4 : Hid (Bv w' b T (N + R * k) R D B ∧ Fb (fun x => x = b) w w') := ⟨ZP, (Fb.of (bel_go Z3.out.2.2 hb1)).trans FP⟩
    clear hK hA ev ew sv hb1 ZP FP S3 Z3 e6 e7 f6 f7 AD FS FG
    clear S1 HS FH HBB HBN
    obtain ⟨p, q, a1, n1, c1, a2, n2, c2, a3, n3, c3, a4, n4, c4, a5, n5, c5, a6, n6, c6, f1, S1', fz⟩ := Z4.out.1.open
    have S1 : Hid _ := S1'
    have FB : Fc B 1 B 1 1 := ⟨Nat.gcd_one_right _, by omega, by omega, rfl, by rw [P_one]; have := HB.out.1.cB; omega, by rw [P_one]; omega⟩
    have HS : Hid (RS p ∧ RS q ∧ RS B ∧ RS 1) := ⟨f1.rs1 (by omega), f1.rs2 (by omega), FB.rs1 (by omega), FB.rs2 (by omega)⟩
    obtain ⟨bb, hbb⟩ : ∃ bb, decide (B * q ≤ p * 1) = bb := ⟨_, rfl⟩
    have hbn : decide (B * D ≤ N + R * k) = bb := by
      rw [← hbb]
      have := f1.le FB
      rw [Nat.mul_one (N + R * k)] at this
      exact decide_eq_decide.2 this.symm
    have HBB : Hid (decide (B * q ≤ p * 1) = bb) := hbb
    have HBN : Hid (decide (B * D ≤ N + R * k) = bb) := hbn
    have FZ : Hid (∀ i, w'.frozen? ⟨b, i, none⟩ = false) := fz
    clear hbb hbn S1' fz f1 FB
    obtain ⟨w9, hw⟩ : ∃ w9, w9 = w' := ⟨_, rfl⟩
    rw [← hw] at S1 Z4 FZ
    rw [← hw]
    clear hw
    go_wp2_with fail
    refine wp_region_inv (JB w9 [sEq (.pointer (some ⟨b, 0, none⟩)), sEq (.pointer (some ⟨b, 0, none⟩)), sEq (.pointer (some ⟨b, 0, none⟩)), sEq (.agg #[.int .i64 (T : Int), .slice a1 n1 c1, .slice a2 n2 c2]), sEq (.pointer (some ⟨b, 0, none⟩)), sEq (.pointer (some ⟨b, 0, none⟩)), sEq (.pointer (some ⟨b, 3, none⟩)), sEq (.agg #[.slice a3 n3 c3, .slice a4 n4 c4]), sEq (.bool bb)] []) 52 (by kernel_rfl) rfl (by kernel_rfl) (JB.start _ _ _) (fun HG HN => ⟨?_, ?_, ?_, ?_, ?_, ?_, ?_, ?_, ?_, trivial⟩) ?_
    · intro L vs a w' hJ hF hP hL
      have q0 : (a.tmps[0]?).getD undef = .pointer (some ⟨b, 0, none⟩) := hF.old 0 rfl
      exact run_val (v := .pointer (some ⟨b, 0, none⟩)) rfl (by simp [execOp, go_sem, q0]) ⟨_, rfl, hJ.step hL rfl (Below.refl _ _) (by exact rfl)⟩
    · intro L vs a w' hJ hF hP hL
      have p0 : L 0 = true := hP ⟨0, .data⟩ (by simp) rfl
      have s0 : vs 0 = .pointer (some ⟨b, 0, none⟩) := hJ.sp 0 p0
      have q35 := hF.slot 0 35 rfl p0
      exact run_val (v := .pointer (some ⟨b, 0, none⟩)) rfl (by simp [execOp, go_sem, q35, s0]) ⟨_, rfl, hJ.step hL rfl (Below.refl _ _) (by exact rfl)⟩
    · intro L vs a w' hJ hF hP hL
      have p1 : L 1 = true := hP ⟨1, .data⟩ (by simp) rfl
      have s1 : vs 1 = .pointer (some ⟨b, 0, none⟩) := hJ.sp 1 p1
      have q36 := hF.slot 1 36 rfl p1
      exact run_val (v := .pointer (some ⟨b, 0, none⟩)) rfl (by simp [execOp, go_sem, q36, s1]) ⟨_, rfl, hJ.step hL rfl (Below.refl _ _) (by exact rfl)⟩
    · intro L vs a w' hJ hF hP hL
      have p2 : L 2 = true := hP ⟨2, .data⟩ (by simp) rfl
      have s2 : vs 2 = .pointer (some ⟨b, 0, none⟩) := hJ.sp 2 p2
      have q37 := hF.slot 2 37 rfl p2
      have cb0 := cell_later hJ.bel (S1.out.cel (b) 0 (.int .i64 (T : Int)))
      have cb1 := cell_later hJ.bel (S1.out.cel (b) 1 (.slice a1 n1 c1))
      have cb2 := cell_later hJ.bel (S1.out.cel (b) 2 (.slice a2 n2 c2))
      exact run_val (v := .agg #[.int .i64 (T : Int), .slice a1 n1 c1, .slice a2 n2 c2]) rfl (by simp [execOp, go_sem, q37, s2, cb0, cb1, cb2]) ⟨_, rfl, hJ.step hL rfl (Below.refl _ _) (by exact rfl)⟩
    · intro L vs a w' hJ hF hP hL
      have q0 : (a.tmps[0]?).getD undef = .pointer (some ⟨b, 0, none⟩) := hF.old 0 rfl
      exact run_val (v := .pointer (some ⟨b, 0, none⟩)) rfl (by simp [execOp, go_sem, q0]) ⟨_, rfl, hJ.step hL rfl (Below.refl _ _) (by exact rfl)⟩
    · intro L vs a w' hJ hF hP hL
      have p4 : L 4 = true := hP ⟨4, .data⟩ (by simp) rfl
      have s4 : vs 4 = .pointer (some ⟨b, 0, none⟩) := hJ.sp 4 p4
      have q39 := hF.slot 4 39 rfl p4
      exact run_val (v := .pointer (some ⟨b, 0, none⟩)) rfl (by simp [execOp, go_sem, q39, s4]) ⟨_, rfl, hJ.step hL rfl (Below.refl _ _) (by exact rfl)⟩
    · intro L vs a w' hJ hF hP hL
      have p5 : L 5 = true := hP ⟨5, .data⟩ (by simp) rfl
      have s5 : vs 5 = .pointer (some ⟨b, 0, none⟩) := hJ.sp 5 p5
      have q40 := hF.slot 5 40 rfl p5
      exact run_val (v := .pointer (some ⟨b, 3, none⟩)) rfl (by simp [execOp, go_sem, q40, s5]) ⟨_, rfl, hJ.step hL rfl (Below.refl _ _) (by exact rfl)⟩
    · intro L vs a w' hJ hF hP hL
      have p6 : L 6 = true := hP ⟨6, .data⟩ (by simp) rfl
      have s6 : vs 6 = .pointer (some ⟨b, 3, none⟩) := hJ.sp 6 p6
      have q41 := hF.slot 6 41 rfl p6
      have cb0 := cell_later hJ.bel (S1.out.cel (b) 3 (.slice a3 n3 c3))
      have cb1 := cell_later hJ.bel (S1.out.cel (b) 4 (.slice a4 n4 c4))
      exact run_val (v := .agg #[.slice a3 n3 c3, .slice a4 n4 c4]) rfl (by simp [execOp, go_sem, q41, s6, cb0, cb1]) ⟨_, rfl, hJ.step hL rfl (Below.refl _ _) (by exact rfl)⟩
    · intro L vs a w' hJ hF hP hL
      have p3 : L 3 = true := hP ⟨3, .data⟩ (by simp) rfl
      have s3 : vs 3 = .agg #[.int .i64 (T : Int), .slice a1 n1 c1, .slice a2 n2 c2] := hJ.sp 3 p3
      have q38 := hF.slot 3 38 rfl p3
      have p7 : L 7 = true := hP ⟨7, .data⟩ (by simp) rfl
      have s7 : vs 7 = .agg #[.slice a3 n3 c3, .slice a4 n4 c4] := hJ.sp 7 p7
      have q42 := hF.slot 7 42 rfl p7
      refine run_call (f := 62) (args := #[.agg #[.int .i64 (T : Int), .slice a1 n1 c1, .slice a2 n2 c2], .agg #[.slice a3 n3 c3, .slice a4 n4 c4]]) rfl (by simp [go_sem, q38, s3, q42, s7]) (has_any (T : Int) a1 n1 c1 a2 n2 c2 a3 n3 c3 a4 n4 c4 p q B 1 _ ((S1.out.fr (.agg #[.slice a1 n1 c1, .slice a2 n2 c2]) p q).mono hJ.bel) ((S1.out.fr (.agg #[.slice a3 n3 c3, .slice a4 n4 c4]) B 1).mono hJ.bel) HS.out.1 HS.out.2.1 HS.out.2.2.1 HS.out.2.2.2 bb HBB.out) ?_
      rintro e w2 ⟨rfl, hb⟩
      exact ⟨_, rfl, _, rfl, hJ.step hL rfl hb (by exact rfl)⟩
    intro L vs w' hA hJ
    have s8 : vs 8 = .bool bb := hJ.sp 8 (hA 8 (by simp))
    simp only [putL, Act.put, List.setIfInBounds_toArray, List.set_cons_zero, List.set_cons_succ, Nat.reduceAdd]
    have HJ : Hid (Below w9.heap.size w9 w') := hJ.bel
    simp only [s8]
    clear hJ hA s8
    cases bb
    · have XX : Hid (Bu w' b T (fillN N R D B k) R D B ∧ Fb (fun x => x = b) w w') := by
        have h1 : N + R * k ≤ B * D := by have := of_decide_eq_false HBN.out; omega
        have h2 : fillN N R D B k = N + R * k := Nat.min_eq_left h1
        exact ⟨⟨by rw [h2]; exact Z4.out.1.go HJ.out, fillN_le _ _ _ _ _⟩, Z4.out.2.go HJ.out⟩
      go_wp2_with fail
      first | exact bodyPost_end (v := .tuple #[]) (by simp [results, Tryz.results37, go_sem]) rfl ⟨rfl, XX.out⟩ | exact bodyPost_ret (v := .tuple #[]) (by simp [results, Tryz.results37, go_sem]) rfl ⟨rfl, XX.out⟩
    · have S2 : Hid _ := S1.out.go HJ.out
      have z1 := S2.out.cel b 1 (.slice a1 n1 c1)
      have z2 := S2.out.cel b 2 (.slice a2 n2 c2)
      have z3 := S2.out.cel b 3 (.slice a3 n3 c3)
      have z4 := S2.out.cel b 4 (.slice a4 n4 c4)
      have g1 : w'.frozen? ⟨b, 1, none⟩ = false := (HJ.out.frozen (World.block_lt_of_cell? _ _ (S1.out.cel b 1 (.slice a1 n1 c1)))).trans (FZ.out 1)
      have g2 : w'.frozen? ⟨b, 2, none⟩ = false := (HJ.out.frozen (World.block_lt_of_cell? _ _ (S1.out.cel b 2 (.slice a2 n2 c2)))).trans (FZ.out 2)
      have XX : Hid (Bu ((w'.setCell ⟨b, 1, none⟩ (.slice a3 n3 c3)).setCell ⟨b, 2, none⟩ (.slice a4 n4 c4)) b T (fillN N R D B k) R D B ∧ Fb (fun x => x = b) w ((w'.setCell ⟨b, 1, none⟩ (.slice a3 n3 c3)).setCell ⟨b, 2, none⟩ (.slice a4 n4 c4))) := by
        have h1 : B * D ≤ N + R * k := of_decide_eq_true HBN.out
        have h2 : fillN N R D B k = B * D := Nat.min_eq_right h1
        have h3 : B * D < P 1 * P 18 := Nat.mul_lt_mul'' (by rw [P_one]; have := HB.out.1.cB; omega) hlow.out.2.2.1
        rw [← P_add] at h3
        have FF : Fc B 1 (B * D) D 20 := ⟨Nat.gcd_one_right _, by omega, hlow.out.2.1, by rw [Nat.mul_one], by have := HB.out.1.cB; exact P_up (n := 1) (by rw [P_one]; omega) (by omega), P_up (n := 1) (by rw [P_one]; omega) (by omega)⟩
        obtain ⟨ZP, FP⟩ := (Z4.out.1.go HJ.out).put (S2.out.fr (.agg #[.slice a3 n3 c3, .slice a4 n4 c4]) B 1) FF
        exact ⟨⟨by rw [h2]; exact ZP, fillN_le _ _ _ _ _⟩, (Z4.out.2.go HJ.out).trans FP⟩
      clear S1 S2 HJ
      go_wp2_with fail
      first | exact bodyPost_end (v := .tuple #[]) (by simp [results, Tryz.results37, go_sem]) rfl ⟨rfl, XX.out⟩ | exact bodyPost_ret (v := .tuple #[]) (by simp [results, Tryz.results37, go_sem]) rfl ⟨rfl, XX.out⟩
  · have XX : Hid (Bu w' b T (fillN N R D B k) R D B ∧ Fb (fun x => x = b) w w') := by
      have h1 : B * D ≤ N := of_decide_eq_true HBN.out
      exact ⟨by rw [fillN_full h1 HN.out]; exact HB.out.1.go HJ.out, Fb.of HJ.out⟩
    go_wp2_with fail
    first | exact bodyPost_ret (v := .tuple #[]) (by simp [results, Tryz.results37, go_sem]) rfl ⟨rfl, XX.out⟩ | exact bodyPost_end (v := .tuple #[]) (by simp [results, Tryz.results37, go_sem]) rfl ⟨rfl, XX.out⟩
end Go.Proofs.YtdmkneojhnhomaaGreatDoor
