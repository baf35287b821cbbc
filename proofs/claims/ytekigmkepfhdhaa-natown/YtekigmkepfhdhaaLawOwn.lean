/- Wide, and NatOwn: the walk. -/
import Derived.Test.YtekigmkepfhdhaaBackM
import Derived.ArgAppend
namespace Go.Proofs.Ytekigmkepfhdhaa
open Go.RowKit
set_option maxRecDepth 100000
set_option linter.unusedVariables false
def bt (D : Nat → Nat) : Nat → Value := fun j => .int .u8 ((D j : Nat) : Int)
theorem IsNat.setByte {w : World} {v : Value} {x : Nat} (h : IsNat w v x) {p : Addr} {d : Nat} (hp : w.cell? p = some (.int .u8 (d : Int))) (u : Value) : IsNat (w.setCell p u) v x := by
  obtain ⟨a, n, cap, F, rfl, ⟨s1, s2, s3, s4⟩, h0, h1, hv⟩ := h
  refine ⟨a, n, cap, F, rfl, ⟨s1, s2, s3, s4.imp id ?_⟩, h0, h1, hv⟩
  rintro ⟨b, o, rfl, hw⟩
  refine ⟨b, o, rfl, fun i hi => ?_⟩
  have hne : (⟨b, o + i, none⟩ : Addr) ≠ p := fun e => by
    have h2 := hw i hi
    rw [e, hp] at h2
    simp at h2
  exact (World.cell?_setCell_other (h := hne.symm) ..).trans (hw i hi)
theorem cells_list {w : World} {ad : Addr} {m : Nat} {N : Nat → Nat} (h : ∀ j, j < m → w.cell? (ad.add j) = some (bt N j)) : ∀ j u, ((List.range m).map (bt N))[j]? = some u → w.cell? (ad.add j) = some u := by
  intro j u hj
  have hjm : j < m := by
    have := (List.getElem?_eq_some_iff.1 hj).1
    simpa using this
  rw [List.getElem?_map, List.getElem?_range hjm] at hj
  rw [h j hjm]
  exact hj
/-- Bytes more, by append, onto a slice of the call's own. -/
theorem wpList_append_bs {w : World} {ops : Array Oper} {rest : List Oper} {o : Oper} {ac : Act} {Q : Exit → Act → World → Prop} (hgd : o.guard = none) (s x : Operand)
    (ho : o.op = .call { callee := .builtin .append, args := #[s, x], argTypes := #[23, 23] }) (base : Nat) (v : Value) (n : Nat) (G : Nat → Nat) (hs : ac.eval s = v) (hown : OR w 5 base v n (bt G))
    (ad : Addr) (m c : Nat) (N : Nat → Nat) (hx : ac.eval x = .slice (some ad) m c) (hc : ∀ j, j < m → w.cell? (ad.add j) = some (bt N j)) (hn : n + m ≤ 1099511627776) (hbase : base ≤ w.heap.size)
    (h : ∀ v' w', OR w' 5 base v' (n + m) (bt fun j => if j < n then G j else N (j - n)) → w.grownBy w' v.ownBlock → wpList Try.prog ops Q rest (ac.put o.dst v') w') : wpList Try.prog ops Q (o :: rest) ac w := by
  obtain ⟨i, hi, hzz, hsz, hb⟩ := info_parts Try.info5
  refine wpList_append_own w hgd s x 23 ho base 5 i _ 1 1 Try.underlying23 hi hzz hsz hb rfl (by omega) v n _ hs hown.owns ad m c ((List.range m).map (bt N)) hx (by simp) (cells_list hc) (fun u hu => by simp at hu; obtain ⟨j, _, rfl⟩ := hu; rfl) (by simp only [maxLen]; omega) (by omega) hbase (fun v' w' k1 k2 _ => h v' w' (OR.of_owns k1 fun i hi => ?_) k2)
  rcases Nat.lt_or_ge i n with hh | hh
  · rw [List.getElem?_append_left (by simpa using hh), List.getElem?_map, List.getElem?_range hh]
    simp [bt, hh]
  · rw [List.getElem?_append_right (by simpa using hh), List.length_map, List.length_range, List.getElem?_map, List.getElem?_range (by omega)]
    show some (bt N (i - n)) = some (Value.int .u8 (((if i < n then G i else N (i - n) : Nat)) : Int))
    rw [if_neg (by omega)]
    rfl
theorem OR.lower {w : World} {e : TypeId} {base base' n : Nat} {v : Value} {G : Nat → Value} (h : OR w e base v n G) (hb : base' ≤ base) : OR w e base' v n G := by
  rcases h with h | ⟨g, cap, f, rfl, h1, h2⟩
  · exact .inl h
  · exact .inr ⟨g, cap, f, rfl, by omega, h2⟩
theorem own_ge {w : World} {e : TypeId} {base n k : Nat} {v : Value} {G : Nat → Value} (h : OR w e base v n G) (hk : v.ownBlock = some k) : base ≤ k := by
  rcases h with ⟨rfl, _⟩ | ⟨g, cap, f, rfl, h1, _⟩
  · cases hk
  · cases hk
    exact h1
def five (j : Nat) : Nat := 201 + j
set_option maxHeartbeats 1000000 in
theorem wide_any (a : Option Addr) (n cap : Nat) (D : Nat → Nat) (w : World) (h : BSl w a n cap D) (hn : n ≤ 600) (hnil : a = none → cap = 0) :
    Calls Try.prog 10 #[.slice a n cap] w fun e w' => ∃ g c, e = .returned (.slice (some ⟨g, 0, none⟩) n c) ∧ w.heap.size ≤ g ∧ (∃ f, w'.rowIs g 5 c f ∧ ∀ i, i < n → f i = bt D i) ∧ n + 5 ≤ c ∧ c ≤ 9223372036854775807 ∧ Below w.heap.size w w' := by
  have HA : Hid (BSl w a n cap D) := h
  have step : ∀ (v1 : Value) (w1 : World), OR w1 5 w.heap.size v1 n (bt D) → Below w.heap.size w w1 → True := fun _ _ _ _ => trivial
  clear h step
  rcases a with _ | ad
  · obtain rfl := hnil rfl
    have hn0 : n = 0 := by
      rcases HA.out.2.2.2 with e | ⟨b, o, e, _⟩
      · exact e
      · cases e
    subst hn0
    obtain ⟨i5, hi5, hz5, hs5, hb5⟩ := info_parts Try.info5
    go_enter Try.func10, Try.ntmps10
    go_wp2_with (first
      | (refine (id ?_ : wpList Try.prog _ _ (⟨some 6, _, _, _, _, _⟩ :: _) _ _); refine wpList_append_own_none rfl (.tmp 4) (.tmp 5) 23 rfl w.heap.size 5 i5 1 Try.underlying23 hi5 (.slice none 0 0) 0 [] rfl (World.ownsRow_nil _ _ _ _) rfl ?_)
      | (refine (id ?_ : wpList Try.prog _ _ (⟨some 9, _, _, _, _, _⟩ :: _) _ _); refine hold ?_))
    intro _
    refine wpList_append_bs rfl (.tmp 7) (.tmp 8) rfl w.heap.size _ 0 D rfl (OR.nil _ _ _ _) ⟨w.heap.size, 0, none⟩ 5 5 five rfl ?_ (by omega) ?_ ?_
    · intro j hj
      match j, hj with
      | 0, _ => simp [bt, five, Addr.add]
      | 1, _ => simp [bt, five, Addr.add]
      | 2, _ => simp [bt, five, Addr.add]
      | 3, _ => simp [bt, five, Addr.add]
      | 4, _ => simp [bt, five, Addr.add]
    · simp
    intro v2 w2 hO hg
    rcases hO with ⟨_, h0⟩ | ⟨g, c, f, rfl, k1, k2, k3, k4, k5⟩
    · omega
    have I2 : Hid (w.heap.size ≤ g ∧ (∃ f, w2.rowIs g 5 c f ∧ ∀ i, i < 0 → f i = bt D i) ∧ 0 + 5 ≤ c ∧ c ≤ 9223372036854775807 ∧ Below w.heap.size w w2) := ⟨k1, ⟨f, k4, fun i hi => by rw [k5 i (by omega)]; show Value.int .u8 (((if i < 0 then D i else _ : Nat)) : Int) = _; rw [if_pos hi]; rfl⟩, k2, by simp only [maxLen] at k3; omega, ((Below.refl _ _).alloc (Nat.le_refl _) _).grown hg (by simp) (fun k hk => by cases hk)⟩
    have hsl := slice_bh g 0 (0 + 5) c 0 (by omega)
    clear hg k1 k3 k4 k5
    go_wp2_with fail
    go_ret
    exact ⟨g, c, rfl, I2.out⟩
  · obtain ⟨f5, hf5⟩ : ∃ f5 : Nat → Nat, f5 = D := ⟨_, rfl⟩
    clear hf5 f5
    have hcs : ∀ j, j < n → w.cell? (ad.add j) = some (bt D j) := by
      intro j hj
      obtain ⟨b, o, e, hw⟩ := HA.out.2.2.2.resolve_left (by omega)
      cases e
      have h3 : (⟨b, o, none⟩ : Addr).add j = ⟨b, o + j, none⟩ := by unfold Addr.add; split <;> simp_all
      rw [h3]
      exact hw j hj
    have HC : Hid _ := hcs
    clear hcs
    go_enter Try.func10, Try.ntmps10
    go_wp2_with (refine (id ?_ : wpList Try.prog _ _ (⟨some 6, _, _, _, _, _⟩ :: _) _ _); refine hold ?_)
    intro _
    refine wpList_append_bs rfl (.tmp 4) (.tmp 5) rfl w.heap.size _ 0 D rfl (OR.nil _ _ _ _) ad n cap D rfl HC.out (by omega) (Nat.le_refl _) ?_
    intro v1 w1 hO1 hg1
    have hO1' : OR w1 5 w.heap.size v1 n (bt D) := by
      have := hO1
      rw [Nat.zero_add] at this
      exact this.congr fun i hi => by show Value.int .u8 (((if i < 0 then D i else D (i - 0) : Nat)) : Int) = _; rw [if_neg (by omega)]; rfl
    have I1 : Hid (OR w1 5 w.heap.size v1 n (bt D) ∧ Below w.heap.size w w1) := ⟨hO1', (Below.refl _ _).grown hg1 (Nat.le_refl _) (fun k hk => by cases hk)⟩
    clear hO1 hO1' hg1
    go_wp2_with (refine (id ?_ : wpList Try.prog _ _ (⟨some 9, _, _, _, _, _⟩ :: _) _ _); refine hold ?_)
    intro _
    refine wpList_append_bs rfl (.tmp 7) (.tmp 8) rfl w.heap.size _ n D rfl (I1.out.1.below ((Below.refl _ _).alloc (Nat.le_refl _) _)) ⟨w1.heap.size, 0, none⟩ 5 5 five rfl ?_ (by omega) ?_ ?_
    · intro j hj
      match j, hj with
      | 0, _ => simp [bt, five, Addr.add]
      | 1, _ => simp [bt, five, Addr.add]
      | 2, _ => simp [bt, five, Addr.add]
      | 3, _ => simp [bt, five, Addr.add]
      | 4, _ => simp [bt, five, Addr.add]
    · simp
      have := I1.out.2.size
      omega
    intro v2 w2 hO hg
    rcases hO with ⟨_, h0⟩ | ⟨g, c, f, rfl, k1, k2, k3, k4, k5⟩
    · omega
    have I2 : Hid (w.heap.size ≤ g ∧ (∃ f, w2.rowIs g 5 c f ∧ ∀ i, i < n → f i = bt D i) ∧ n + 5 ≤ c ∧ c ≤ 9223372036854775807 ∧ Below w.heap.size w w2) := ⟨k1, ⟨f, k4, fun i hi => by rw [k5 i (by omega)]; show Value.int .u8 (((if i < n then D i else _ : Nat)) : Int) = _; rw [if_pos hi]; rfl⟩, k2, by simp only [maxLen] at k3; omega, (I1.out.2.alloc I1.out.2.size _).grown hg (by have := I1.out.2.size; simp; omega) (fun k hk => own_ge I1.out.1 hk)⟩
    have hsl := slice_bh g 0 (n + 5) c n (by omega)
    clear hg k1 k3 k4 k5
    go_wp2_with fail
    go_ret
    exact ⟨g, c, rfl, I2.out⟩
/-- The first n cells of block g are bytes that may be written. -/
def ByteRow (w : World) (g c n : Nat) (E : Nat → Nat) : Prop := (∃ f, w.rowIs g 5 c f ∧ ∀ i, i < n → f i = bt E i) ∧ n ≤ c
theorem ByteRow.cell {w : World} {g c n : Nat} {E : Nat → Nat} (h : ByteRow w g c n E) {i : Nat} (hi : i < n) : w.cell? ⟨g, i, none⟩ = some (.int .u8 ((E i : Nat) : Int)) := by
  obtain ⟨⟨f, h1, h2⟩, h3⟩ := h
  rw [h1.cell (show i < c by omega), h2 i hi]
  rfl
theorem ByteRow.frozen {w : World} {g c n : Nat} {E : Nat → Nat} (h : ByteRow w g c n E) (i : Nat) : w.frozen? ⟨g, i, none⟩ = false := by
  obtain ⟨⟨f, h1, h2⟩, h3⟩ := h
  exact h1.frozen i
theorem ByteRow.lt {w : World} {g c n : Nat} {E : Nat → Nat} (h : ByteRow w g c n E) : g < w.heap.size := by
  obtain ⟨⟨f, h1, h2⟩, h3⟩ := h
  exact h1.lt
theorem ByteRow.set {w : World} {g c n : Nat} {E : Nat → Nat} (h : ByteRow w g c n E) (i d : Nat) : ByteRow (w.setCell ⟨g, i, none⟩ (.int .u8 (d : Int))) g c n (put E i d) := by
  obtain ⟨⟨f, h1, h2⟩, h3⟩ := h
  refine ⟨⟨_, h1.set i _, fun j hj => ?_⟩, h3⟩
  show (if j = i then _ else f j) = Value.int .u8 ((put E i d j : Nat) : Int)
  by_cases e : j = i
  · subst e
    rw [if_pos rfl, put_same]
  · rw [if_neg e, put_other _ _ e, h2 j hj]
    rfl
theorem ByteRow.other {w : World} {g c n : Nat} {E : Nat → Nat} (h : ByteRow w g c n E) {p : Addr} (hp : g ≠ p.block) (u : Value) : ByteRow (w.setCell p u) g c n E := by
  obtain ⟨⟨f, h1, h2⟩, h3⟩ := h
  exact ⟨⟨f, h1.setOther hp u, h2⟩, h3⟩
theorem ByteRow.below {w w' : World} {g c n : Nat} {E : Nat → Nat} (h : ByteRow w g c n E) (hb : Below w.heap.size w w') : ByteRow w' g c n E := by
  obtain ⟨⟨f, h1, h2⟩, h3⟩ := h
  exact ⟨⟨f, h1.of_block (hb.block g h1.lt), h2⟩, h3⟩
theorem BRow.byteRow {w : World} {g n : Nat} {E : Nat → Nat} (h : BRow w g n E) : ByteRow w g n n E := ⟨⟨_, h.1, fun i hi => rfl⟩, Nat.le_refl _⟩
set_option maxHeartbeats 1000000 in
theorem cut_min (a : Option Addr) (len cap : Nat) (D : Nat → Nat) (w : World) (h : BSl w a len cap D) :
    Calls Try.prog 9 #[.slice a len cap] w fun e w' => (e = .returned (.slice a (min len 600) cap) ∧ BSl w a (min len 600) cap D) ∧ w' = w := by
  have hl2 : (len : Int) ≤ 9223372036854775807 := by have := h.1; have := h.2.1; omega
  by_cases hl : 600 < len
  · rw [Nat.min_eq_right (by omega)]
    obtain ⟨b, o, rfl, hw⟩ : ∃ b o, a = some ⟨b, o, none⟩ ∧ ∀ i, i < len → w.cell? ⟨b, o + i, none⟩ = some (.int .u8 (D i : Nat)) := h.2.2.2.resolve_left (by omega)
    have sl : ∀ w, (Instr.slice 23 (.slice (some ⟨b, o, none⟩) len cap) none (some (.int .i64 600)) none).run Try.prog w = .ok (.slice (some ⟨b, o, none⟩) 600 cap) w := slice_bh b o len cap 600 (by have := h.1; omega)
    have hcz : ¬ cap = 0 := by have := h.1; omega
    have hcz2 : (600 : Int) ≤ cap := by have := h.1; omega
    have haz : (⟨b, o, none⟩ : Addr).add 0 = ⟨b, o, none⟩ := by simp [Addr.add]
    have hd : decide (600 < (len : Int)) = true := decide_eq_true (by omega)
    have HH : Hid (BSl w (some ⟨b, o, none⟩) 600 cap D) := ⟨by have := h.1; omega, h.2.1, fun i hi => h.2.2.1 i (by omega), .inr ⟨b, o, rfl, fun i hi => hw i (by omega)⟩⟩
    clear h hw
    go_enter Try.func9, Try.ntmps9
    go_wp2_with fail
    go_ret
    exact ⟨⟨rfl, HH.out⟩, rfl⟩
  · rw [Nat.min_eq_left (by omega)]
    have hd : decide (600 < (len : Int)) = false := decide_eq_false (by omega)
    have HH : Hid (BSl w a len cap D) := h
    clear h
    go_enter Try.func9, Try.ntmps9
    go_wp2_with fail
    go_ret
    exact ⟨⟨rfl, HH.out⟩, rfl⟩
/-- An append that must grow: new memory, what was is as it was. -/
theorem wpList_grow_bs {w : World} {ops : Array Oper} {rest : List Oper} {o : Oper} {ac : Act} {Q : Exit → Act → World → Prop} (hgd : o.guard = none) (s x : Operand)
    (ho : o.op = .call { callee := .builtin .append, args := #[s, x], argTypes := #[23, 23] }) (g L : Nat) (E : Nat → Nat) (hs : ac.eval s = .slice (some ⟨g, 0, none⟩) L L) (hrow : ByteRow w g L L E)
    (ad : Addr) (d : Nat) (hx : ac.eval x = .slice (some ad) 9 9) (hc : ∀ j, j < 9 → w.cell? (ad.add j) = some (bt (fun _ => d) j)) (hn : L ≤ 600)
    (h : ∀ v' w', OR w' 5 w.heap.size v' (L + 9) (bt fun j => if j < L then E j else d) → w.grownBy w' none → wpList Try.prog ops Q rest (ac.put o.dst v') w') : wpList Try.prog ops Q (o :: rest) ac w := by
  obtain ⟨i, hi, hzz, hsz, hb⟩ := info_parts Try.info5
  refine wpList_append_grows w hgd s x 23 ho 5 i _ 1 1 Try.underlying23 hi hzz hsz hb rfl (by omega) (some ⟨g, 0, none⟩) L L ((List.range L).map (bt E)) hs (fun e => by cases e) (by simp) (fun b hb => ?_) ad 9 9 ((List.range 9).map (bt fun _ => d)) hx (by simp) (cells_list hc) (fun u hu => by simp at hu; obtain ⟨j, _, rfl⟩ := hu; rfl) (by omega) (by simp only [maxLen]; omega) (by omega) (fun v' w' k1 k2 => h v' w' (OR.of_owns k1 fun i hi => ?_) k2)
  · cases hb
    refine cells_list fun j hj => ?_
    have h3 : (⟨g, 0, none⟩ : Addr).add j = ⟨g, j, none⟩ := by unfold Addr.add; split <;> simp_all
    rw [h3]
    exact hrow.cell hj
  · rcases Nat.lt_or_ge i L with hh | hh
    · rw [List.getElem?_append_left (by simpa using hh), List.getElem?_map, List.getElem?_range hh]
      show some (bt E i) = some (Value.int .u8 (((if i < L then E i else d : Nat)) : Int))
      rw [if_pos hh]
      rfl
    · rw [List.getElem?_append_right (by simpa using hh), List.length_map, List.length_range, List.getElem?_map, List.getElem?_range (by omega)]
      show some (bt (fun _ => d) (i - L)) = some (Value.int .u8 (((if i < L then E i else d : Nat)) : Int))
      rw [if_neg (by omega)]
      rfl
theorem ByteRow.kept {w w' : World} {g c n : Nat} {E : Nat → Nat} (h : ByteRow w g c n E) (hb : w.grownBy w' none) : ByteRow w' g c n E := by
  obtain ⟨⟨f, h1, h2⟩, h3⟩ := h
  exact ⟨⟨f, h1.of_block (hb.block g h1.lt (by simp)), h2⟩, h3⟩
theorem bel_none {w w' : World} (h : w.grownBy w' none) : Below w.heap.size w w' := ⟨h.os, h.tape, h.output, h.size, fun i hi => h.block i hi (by simp)⟩
theorem OR.byteRow {w : World} {base n : Nat} {v : Value} {E : Nat → Nat} (h : OR w 5 base v n (bt E)) (hn : 0 < n) : ∃ g c, v = .slice (some ⟨g, 0, none⟩) n c ∧ ByteRow w g c n E := by
  rcases h with ⟨_, h0⟩ | ⟨g, cap, f, rfl, h1, h2, h3, h4, h5⟩
  · omega
  · exact ⟨g, cap, rfl, ⟨f, h4, h5⟩, h2⟩
set_option maxHeartbeats 4000000 in
theorem natOwn_true (a0 : Option Addr) (l0 k0 : Nat) (D0 : Nat → Nat) (w : World) (h0 : BSl w a0 l0 k0 D0) (hnil : a0 = none → k0 = 0) :
    Calls Try.prog 8 #[.slice a0 l0 k0] w fun e w' => e = .returned (.bool true) ∧ Below w.heap.size w w' := by
  have HA : Hid (BSl w a0 l0 k0 D0) := h0
  have HN : Hid _ := hnil
  clear h0 hnil
  go_enter Try.func8, Try.ntmps8
  go_wp2_with fail
  refine (cut_min a0 l0 k0 D0 _ HA.out).mono ?_
  rintro e w' ⟨⟨rfl, hb0⟩, hw'⟩
  rw [hw']
  clear hw' w'
  have hn : min l0 600 ≤ 600 := Nat.min_le_right _ _
  obtain ⟨n, hnn⟩ : ∃ n, n = min l0 600 := ⟨_, rfl⟩
  have HM : Hid (n = min l0 600) := hnn
  rw [← hnn] at hb0 hn ⊢
  clear hnn
  have X0 : Hid (BSl w a0 n k0 D0) := hb0
  clear hb0
  go_wp2_with fail
  refine (wide_any a0 n k0 D0 _ X0.out hn HN.out).mono ?_
  rintro e w1 ⟨g, c, rfl, hg, hr1, hc1, hc2, hb1⟩
  have R1 : Hid (ByteRow w1 g c n D0 ∧ Below w.heap.size w w1 ∧ w.heap.size ≤ g) := ⟨⟨hr1, by omega⟩, hb1, hg⟩
  clear hr1 hb1 hg
  go_wp2_with fail
  refine (fromBytes_any (some ⟨g, 0, none⟩) n c D0 _ ⟨by omega, by omega, X0.out.2.2.1, .inr ⟨g, 0, rfl, fun i hi => by rw [Nat.zero_add]; exact R1.out.1.cell hi⟩⟩ (by omega)).mono ?_
  rintro e w2 ⟨v2, rfl, hv2, hb2⟩
  have M1 : Hid (Mid (BV D0 n)) := ⟨BV_P X0.out.2.2.1 hn⟩
  obtain ⟨x, hx⟩ : ∃ x, x = BV D0 n := ⟨_, rfl⟩
  have HX : Hid (x = BV D0 n) := hx
  rw [← hx] at hv2 M1
  clear hx
  obtain ⟨ax, nx, cx, rfl⟩ := hv2.isAgg
  have ba : Below w2.heap.size w2 (w2.alloc (Obj.cells #[Value.slice ax nx cx] 27)) := (Below.refl _ _).alloc (Nat.le_refl _) _
  have c0 : (w2.alloc (Obj.cells #[Value.slice ax nx cx] 27)).cell? ⟨w2.heap.size, 0, none⟩ = some (.slice ax nx cx) := by simp [go_sem]
  have hgb : g < w2.heap.size := Nat.lt_of_lt_of_le R1.out.1.lt hb2.size
  have I3 : Hid (ByteRow (w2.alloc (Obj.cells #[Value.slice ax nx cx] 27)) g c n D0 ∧ IsNat (w2.alloc (Obj.cells #[Value.slice ax nx cx] 27)) (.agg #[.slice ax nx cx]) x ∧ Below w.heap.size w (w2.alloc (Obj.cells #[Value.slice ax nx cx] 27)) ∧ w.heap.size ≤ g) := ⟨(R1.out.1.below hb2).below ba, hv2.mono ba, bel_go (bel_go R1.out.2.1 hb2) ba, R1.out.2.2⟩
  clear hv2 hb2 R1 ba
  go_wp2_with fail
  obtain ⟨w3, hw3⟩ : ∃ w3, w3 = w2.alloc (Obj.cells #[Value.slice ax nx cx] 27) := ⟨_, rfl⟩
  rw [← hw3] at I3 c0 ⊢
  obtain ⟨b, hb⟩ : ∃ b, b = w2.heap.size := ⟨_, rfl⟩
  rw [← hb] at c0 hgb ⊢
  clear hw3 hb
  refine (text_any _ x _ I3.out.2.1 M1.out.tx).mono ?_
  rintro e w4 ⟨k, rfl, hk, hb4⟩
  have HK : Hid (DecLen x k) := hk
  have I4 : Hid (ByteRow w4 g c n D0 ∧ IsNat w4 (.agg #[.slice ax nx cx]) x ∧ Below w.heap.size w w4 ∧ w.heap.size ≤ g ∧ w4.cell? ⟨b, 0, none⟩ = some (.slice ax nx cx)) := ⟨I3.out.1.below hb4, I3.out.2.1.mono hb4, bel_go I3.out.2.2.1 hb4, I3.out.2.2.2, cell_later hb4 c0⟩
  clear hb4 I3 c0 hk
  go_wp2_with fail
  go_loopw [6] (fun t wr => ∃ (i : Nat) (E : Nat → Nat), i ≤ n ∧ t = .int .i64 (i : Int) ∧ ByteRow wr g c n E ∧ IsNat wr (.agg #[.slice ax nx cx]) x ∧ Below w.heap.size w wr ∧ w.heap.size ≤ g ∧ wr.cell? ⟨b, 0, none⟩ = some (.slice ax nx cx)) (fun t _ => n - (intOf t).toNat)
  case atStart => exact ⟨0, D0, by omega, rfl, I4.out⟩
  case round =>
    clear I4
    obtain ⟨i, E, hi, rfl, hI⟩ := hrel
    by_cases hin : i < n
    · have hc2 : wr.cell? ⟨g, i, none⟩ = some (.int .u8 ((E i : Nat) : Int)) := hI.1.cell hin
      have hf2 : wr.frozen? ⟨g, i, none⟩ = false := hI.1.frozen _
      have I5 : Hid (ByteRow (wr.setCell ⟨g, i, none⟩ (.int .u8 ((170 : Nat) : Int))) g c n (put E i 170) ∧ IsNat (wr.setCell ⟨g, i, none⟩ (.int .u8 ((170 : Nat) : Int))) (.agg #[.slice ax nx cx]) x ∧ Below w.heap.size w (wr.setCell ⟨g, i, none⟩ (.int .u8 ((170 : Nat) : Int))) ∧ w.heap.size ≤ g ∧ (wr.setCell ⟨g, i, none⟩ (.int .u8 ((170 : Nat) : Int))).cell? ⟨b, 0, none⟩ = some (.slice ax nx cx)) := ⟨hI.1.set i 170, hI.2.1.setByte hc2 _, hI.2.2.1.setCell hI.2.2.2.1 _, hI.2.2.2.1, (World.cell?_setCell_other (h := fun e => by cases e; omega) ..).trans hI.2.2.2.2⟩
      clear hI
      go_wp2_with fail
      go_roundw
      case rel => exact ⟨i + 1, _, by omega, by go_num, I5.out⟩
      case measure => simp [intOf]; omega
    · obtain rfl : i = n := by omega
      have c0 := hI.2.2.2.2
      have I5 : Hid (IsNat wr (.agg #[.slice ax nx cx]) x ∧ Below w.heap.size w wr) := ⟨hI.2.1, hI.2.2.1⟩
      clear hI
      go_wp2_with fail
      go_region_held3 (fun w' => w'.cell? ⟨b, 0, none⟩ = some (.slice ax nx cx)) (first | (simp [go_sem, *]; done) | (trace_state; fail))
        (first
          | (go_at_call 27; refine Calls.mono (bytes_any _ x _ I5.out.1 M1.out.fits) ?_; rintro e w6 ⟨g6, rfl, hg6, hR6, hb6⟩; have hb6 : Below wr.heap.size wr w6 := (by first | exact hb6 | exact bel_undrew hb6); have c1 := cell_later hb6 c0; have I6 : Hid (BRow w6 g6 (byteLen x) (fun i => byteAt x (byteLen x - 1 - i)) ∧ IsNat w6 (.agg #[.slice ax nx cx]) x ∧ Below w.heap.size w w6 ∧ w.heap.size ≤ g6 ∧ b < g6) := ⟨hR6, I5.out.1.mono hb6, bel_go I5.out.2 hb6, Nat.le_trans I5.out.2.size hg6, Nat.lt_of_lt_of_le (World.block_lt_of_cell? _ _ c0) hg6⟩; clear hg6 hR6 hb6 I5)
          | (go_at_call 27; refine Calls.mono (bytes_any _ x _ I6.out.2.1 M1.out.fits) ?_; rintro e w7 ⟨g7, rfl, hg7, hR7, hb7⟩; have hb7 : Below w6.heap.size w6 w7 := (by first | exact hb7 | exact bel_undrew hb7); have c2 := cell_later hb7 c1; have I7 : Hid (BRow w7 g6 (byteLen x) (fun i => byteAt x (byteLen x - 1 - i)) ∧ BRow w7 g7 (byteLen x) (fun i => byteAt x (byteLen x - 1 - i)) ∧ IsNat w7 (.agg #[.slice ax nx cx]) x ∧ Below w.heap.size w w7 ∧ w.heap.size ≤ g6 ∧ b < g6 ∧ g6 < g7) := ⟨I6.out.1.below hb7, hR7, I6.out.2.1.mono hb7, bel_go I6.out.2.2.1 hb7, I6.out.2.2.2.1, I6.out.2.2.2.2, Nat.lt_of_lt_of_le I6.out.1.1.lt hg7⟩; clear hg7 hR7 hb7 I6))
      clear c0 c1
      have cv1 := conv_b I7.out.1
      have cv2 := conv_b I7.out.2.1
      have HL : Hid (byteLen x ≤ 600) := by
        have h1 := BV_lt X0.out.2.2.1
        rw [← HX.out] at h1
        have h2 : byteLen x ≤ i := by rw [HX.out]; exact byteLen_le X0.out.2.2.1
        exact Nat.le_trans h2 hn
      obtain ⟨L, hL⟩ : ∃ L, L = byteLen x := ⟨_, rfl⟩
      have HLx : Hid (L = byteLen x) := hL
      rw [← hL] at I7 cv1 cv2 HL ⊢
      clear hL
      have hL6 : L ≤ 600 := HL.out
      obtain ⟨B, hB⟩ : ∃ B : Nat → Nat, B = fun i => byteAt x (L - 1 - i) := ⟨_, rfl⟩
      rw [← hB] at I7
      clear hB
      have I8 : Hid (ByteRow w7 g6 L L B ∧ ByteRow w7 g7 L L B ∧ IsNat w7 (.agg #[.slice ax nx cx]) x ∧ Below w.heap.size w w7 ∧ w7.cell? ⟨b, 0, none⟩ = some (.slice ax nx cx)) := ⟨I7.out.1.byteRow, I7.out.2.1.byteRow, I7.out.2.2.1, I7.out.2.2.2.1, c2⟩
      have hg6 : w.heap.size ≤ g6 := I7.out.2.2.2.2.1
      have hbg : b < g6 := I7.out.2.2.2.2.2.1
      have hgg : g6 < g7 := I7.out.2.2.2.2.2.2
      clear I7 c2
      go_wp2_with fail
      go_loopw [9] (fun t wr => ∃ (i : Nat) (E1 E2 : Nat → Nat), i ≤ L ∧ t = .int .i64 (i : Int) ∧ ByteRow wr g6 L L E1 ∧ ByteRow wr g7 L L E2 ∧ (∀ j, j < i → E1 j = 11) ∧ (∀ j, j < i → E2 j = 22) ∧ IsNat wr (.agg #[.slice ax nx cx]) x ∧ Below w.heap.size w wr ∧ wr.cell? ⟨b, 0, none⟩ = some (.slice ax nx cx)) (fun t _ => L - (intOf t).toNat)
      case atStart => exact ⟨0, B, B, by omega, rfl, I8.out.1, I8.out.2.1, fun j hj => absurd hj (by omega), fun j hj => absurd hj (by omega), I8.out.2.2⟩
      case round =>
        clear I8 cv1 cv2
        obtain ⟨i2, E1, E2, hi2, rfl, hI⟩ := hrel
        by_cases hin : i2 < L
        · have q1 : wr.cell? ⟨g6, i2, none⟩ = some (.int .u8 ((E1 i2 : Nat) : Int)) := hI.1.cell hin
          have q2 : wr.frozen? ⟨g6, i2, none⟩ = false := hI.1.frozen _
          have q3 : wr.cell? ⟨g7, i2, none⟩ = some (.int .u8 ((E2 i2 : Nat) : Int)) := hI.2.1.cell hin
          have q4 : wr.frozen? ⟨g7, i2, none⟩ = false := hI.2.1.frozen _
          have hne : ¬ g6 = g7 := by omega
          have hne2 : ¬ g7 = g6 := by omega
          obtain ⟨y1, hy1⟩ : ∃ y1, y1 = wr.setCell ⟨g6, i2, none⟩ (.int .u8 ((11 : Nat) : Int)) := ⟨_, rfl⟩
          have r3 : y1.cell? ⟨g7, i2, none⟩ = some (.int .u8 ((E2 i2 : Nat) : Int)) := by rw [hy1]; exact (World.cell?_setCell_other (h := fun e => by cases e; omega) ..).trans q3
          have I9 : Hid (ByteRow (y1.setCell ⟨g7, i2, none⟩ (.int .u8 ((22 : Nat) : Int))) g6 L L (put E1 i2 11) ∧ ByteRow (y1.setCell ⟨g7, i2, none⟩ (.int .u8 ((22 : Nat) : Int))) g7 L L (put E2 i2 22) ∧ (∀ j, j < i2 + 1 → put E1 i2 11 j = 11) ∧ (∀ j, j < i2 + 1 → put E2 i2 22 j = 22) ∧ IsNat (y1.setCell ⟨g7, i2, none⟩ (.int .u8 ((22 : Nat) : Int))) (.agg #[.slice ax nx cx]) x ∧ Below w.heap.size w (y1.setCell ⟨g7, i2, none⟩ (.int .u8 ((22 : Nat) : Int))) ∧ (y1.setCell ⟨g7, i2, none⟩ (.int .u8 ((22 : Nat) : Int))).cell? ⟨b, 0, none⟩ = some (.slice ax nx cx)) := by
            have e1 : ByteRow y1 g6 L L (put E1 i2 11) := by rw [hy1]; exact hI.1.set i2 11
            have e2 : ByteRow y1 g7 L L E2 := by rw [hy1]; exact hI.2.1.other (by simpa using hne2) _
            have e3 : IsNat y1 (.agg #[.slice ax nx cx]) x := by rw [hy1]; exact hI.2.2.2.2.1.setByte q1 _
            have e4 : Below w.heap.size w y1 := by rw [hy1]; exact hI.2.2.2.2.2.1.setCell hg6 _
            have e5 : y1.cell? ⟨b, 0, none⟩ = some (.slice ax nx cx) := by rw [hy1]; exact (World.cell?_setCell_other (h := fun e => by cases e; omega) ..).trans hI.2.2.2.2.2.2
            refine ⟨e1.other (by simpa using hne) _, e2.set i2 22, fun j hj => ?_, fun j hj => ?_, e3.setByte r3 _, e4.setCell (Nat.le_trans hg6 (Nat.le_of_lt hgg)) _, (World.cell?_setCell_other (h := fun e => by cases e; omega) ..).trans e5⟩
            · unfold put
              split
              · rfl
              · exact hI.2.2.1 j (by omega)
            · unfold put
              split
              · rfl
              · exact hI.2.2.2.1 j (by omega)
          rw [hy1] at I9
          clear hI hy1 r3 y1
          go_wp2_with fail
          go_roundw
          case rel => exact ⟨i2 + 1, _, _, by omega, by go_num, I9.out⟩
          case measure => simp [intOf]; omega
        · obtain rfl : i2 = L := by omega
          have I9 : Hid _ := hI
          clear hI
          go_wp2_with (refine (id ?_ : wpList Try.prog _ _ (⟨some 53, _, _, _, _, _⟩ :: _) _ _); refine hold ?_)
          intro _
          refine wpList_grow_bs rfl (.tmp 51) (.tmp 52) rfl g6 i2 E1 rfl (I9.out.1.below ((Below.refl _ _).alloc (Nat.le_refl _) _)) ⟨wr.heap.size, 0, none⟩ 33 rfl ?_ hL6 ?_
          · intro j hj
            match j, hj with
            | 0, _ => simp [bt, Addr.add]
            | 1, _ => simp [bt, Addr.add]
            | 2, _ => simp [bt, Addr.add]
            | 3, _ => simp [bt, Addr.add]
            | 4, _ => simp [bt, Addr.add]
            | 5, _ => simp [bt, Addr.add]
            | 6, _ => simp [bt, Addr.add]
            | 7, _ => simp [bt, Addr.add]
            | 8, _ => simp [bt, Addr.add]
          intro v3 w8 hO3 hg3
          obtain ⟨g3, c3, rfl, hB3⟩ := hO3.byteRow (by omega)
          have b8 : Below wr.heap.size wr w8 := bel_go ((Below.refl _ _).alloc (Nat.le_refl _) _) (bel_none hg3)
          have I10 : Hid (ByteRow w8 g6 i2 i2 E1 ∧ ByteRow w8 g7 i2 i2 E2 ∧ ByteRow w8 g3 c3 (i2 + 9) (fun j => if j < i2 then E1 j else 33) ∧ IsNat w8 (.agg #[.slice ax nx cx]) x ∧ Below w.heap.size w w8 ∧ w8.cell? ⟨b, 0, none⟩ = some (.slice ax nx cx) ∧ (∀ j, j < i2 → E1 j = 11) ∧ (∀ j, j < i2 → E2 j = 22)) := ⟨I9.out.1.below b8, I9.out.2.1.below b8, hB3, I9.out.2.2.2.2.1.mono b8, bel_go I9.out.2.2.2.2.2.1 b8, cell_later b8 I9.out.2.2.2.2.2.2, I9.out.2.2.1, I9.out.2.2.2.1⟩
          clear hO3 hg3 hB3 b8 I9
          go_wp2_with (refine (id ?_ : wpList Try.prog _ _ (⟨some 56, _, _, _, _, _⟩ :: _) _ _); refine hold ?_)
          intro _
          refine wpList_grow_bs rfl (.tmp 54) (.tmp 55) rfl g7 i2 E2 rfl (I10.out.2.1.below ((Below.refl _ _).alloc (Nat.le_refl _) _)) ⟨w8.heap.size, 0, none⟩ 44 rfl ?_ hL6 ?_
          · intro j hj
            match j, hj with
            | 0, _ => simp [bt, Addr.add]
            | 1, _ => simp [bt, Addr.add]
            | 2, _ => simp [bt, Addr.add]
            | 3, _ => simp [bt, Addr.add]
            | 4, _ => simp [bt, Addr.add]
            | 5, _ => simp [bt, Addr.add]
            | 6, _ => simp [bt, Addr.add]
            | 7, _ => simp [bt, Addr.add]
            | 8, _ => simp [bt, Addr.add]
          intro v4 w9 hO4 hg4
          obtain ⟨g4, c4, rfl, hB4⟩ := hO4.byteRow (by omega)
          have b9 : Below w8.heap.size w8 w9 := bel_go ((Below.refl _ _).alloc (Nat.le_refl _) _) (bel_none hg4)
          have I11 : Hid (ByteRow w9 g6 i2 i2 E1 ∧ ByteRow w9 g7 i2 i2 E2 ∧ ByteRow w9 g3 c3 (i2 + 9) (fun j => if j < i2 then E1 j else 33) ∧ ByteRow w9 g4 c4 (i2 + 9) (fun j => if j < i2 then E2 j else 44) ∧ IsNat w9 (.agg #[.slice ax nx cx]) x ∧ Below w.heap.size w w9 ∧ w9.cell? ⟨b, 0, none⟩ = some (.slice ax nx cx) ∧ (∀ j, j < i2 → E1 j = 11) ∧ (∀ j, j < i2 → E2 j = 22)) := ⟨I10.out.1.below b9, I10.out.2.1.below b9, I10.out.2.2.1.below b9, hB4, I10.out.2.2.2.1.mono b9, bel_go I10.out.2.2.2.2.1 b9, cell_later b9 I10.out.2.2.2.2.2.1, I10.out.2.2.2.2.2.2⟩
          clear hO4 hg4 hB4 b9 I10
          have hc3 : i2 + 9 ≤ c3 := I11.out.2.2.1.2
          have hc4 : i2 + 9 ≤ c4 := I11.out.2.2.2.1.2
          go_wp2_with fail
          go_loop [12] (fun t => ∃ i : Nat, i ≤ i2 ∧ t = .int .i64 (i : Int)) (fun t => i2 - (intOf t).toNat)
          case atStart => exact ⟨0, by omega, rfl⟩
          case round =>
            obtain ⟨i3, hi3, rfl⟩ := hrel
            by_cases hin3 : i3 < i2
            · have q1 : w9.cell? ⟨g6, i3, none⟩ = some (.int .u8 11) := by
                rw [I11.out.1.cell hin3, I11.out.2.2.2.2.2.2.2.1 i3 hin3]
                rfl
              have q2 : w9.cell? ⟨g7, i3, none⟩ = some (.int .u8 22) := by
                rw [I11.out.2.1.cell hin3, I11.out.2.2.2.2.2.2.2.2 i3 hin3]
                rfl
              go_wp2_with fail
              go_round
              case rel => exact ⟨i3 + 1, by omega, by go_num⟩
              case measure => simp [intOf]; omega
            · obtain rfl : i3 = i2 := by omega
              go_wp2_with fail
              go_loop [13] (fun t => ∃ i : Nat, i3 ≤ i ∧ i ≤ i3 + 9 ∧ t = .int .i64 (i : Int)) (fun t => i3 + 9 - (intOf t).toNat)
              case atStart => exact ⟨i3, by omega, by omega, rfl⟩
              case round =>
                obtain ⟨i4, hi4, hi5, rfl⟩ := hrel
                by_cases hin4 : i4 < i3 + 9
                · have q1 : w9.cell? ⟨g3, i4, none⟩ = some (.int .u8 33) := by
                    rw [I11.out.2.2.1.cell hin4]
                    show some (Value.int .u8 (((if i4 < i3 then E1 i4 else 33 : Nat)) : Int)) = _
                    rw [if_neg (by omega)]
                    rfl
                  have q2 : w9.cell? ⟨g4, i4, none⟩ = some (.int .u8 44) := by
                    rw [I11.out.2.2.2.1.cell hin4]
                    show some (Value.int .u8 (((if i4 < i3 then E2 i4 else 44 : Nat)) : Int)) = _
                    rw [if_neg (by omega)]
                    rfl
                  go_wp2_with fail
                  go_round
                  case rel => exact ⟨i4 + 1, by omega, by omega, by go_num⟩
                  case measure => simp [intOf]; omega
                · obtain rfl : i4 = i3 + 9 := by omega
                  have c0 := I11.out.2.2.2.2.2.2.1
                  have S0 : Hid (St w w9 [(.agg #[.slice ax nx cx], x)] [(b, .slice ax nx cx)]) := ⟨by simp; exact I11.out.2.2.2.2.1, by simp; exact c0, I11.out.2.2.2.2.2.1⟩
                  clear I11 hc3 hc4
                  go_wp2_with fail
                  go_region_held3 (fun w' => w'.cell? ⟨b, 0, none⟩ = some (.slice ax nx cx)) (first | (simp [go_sem, *]; done) | (trace_state; fail))
                    (first
                      | (go_at_call 28; refine Calls.mono (text_any _ x _ (S0.out.at (.agg #[.slice ax nx cx]) x) M1.out.tx) ?_; rintro e wA ⟨k2, rfl, hk2, hbA⟩; rw [hk2.unique HK.out]; have S1 : Hid _ := (by first | exact S0.out.go hbA | exact S0.out.god hbA); have d1 := S1.out.cell b (.slice ax nx cx); clear hbA hk2 S0)
                      | (go_at_call 9; refine Calls.mono (cut_min a0 l0 k0 D0 _ (HA.out.mono S1.out.bel)) ?_; rintro e wB ⟨⟨rfl, hbB⟩, hwB⟩; rw [hwB, ← HM.out]; rw [← HM.out] at hbB; have XB : Hid (BSl wA a0 i k0 D0) := hbB; clear hbB hwB)
                      | (go_at_call 16; refine Calls.mono (fromBytes_any a0 i k0 D0 _ XB.out (by omega)) ?_; rintro e wC ⟨vC, rfl, hvC, hbC⟩; rw [← HX.out] at hvC; have S2 : Hid _ := (S1.out.go hbC).nat hvC; have d2 := S2.out.cell b (.slice ax nx cx); clear hvC hbC S1)
                      | (go_at_call 22; refine Calls.mono (eq_true _ _ x _ (S2.out.at (.agg #[.slice ax nx cx]) x) (S2.out.at vC x) M1.out.tx) ?_; rintro e wD ⟨rfl, hbD⟩; have S3 : Hid _ := S2.out.go hbD; have d3 := S3.out.cell b (.slice ax nx cx); clear hbD S2)
                      | (go_at_call 19; refine Calls.mono (started_true _) ?_; rintro e wE ⟨rfl, hbE⟩; have S4 : Hid _ := S3.out.go hbE; have d4 := S4.out.cell b (.slice ax nx cx); clear hbE S3))
                  go_wp2_with fail
                  go_ret
                  exact ⟨rfl, S4.out.bel⟩
end Go.Proofs.Ytekigmkepfhdhaa
