/- Contracts of the program's functions, part 4: own work, joined in build order. -/
import Derived.Test.YtjnfcihichaonaaJ3
namespace Go.Proofs.Ytjnfcihichaonaa
open Go.RowKit
set_option maxRecDepth 100000
set_option linter.unusedVariables false
/-- What over tells. -/
def OvP (le : Nat → Nat → Prop) (x y p : Nat) (t : Bool) : Prop := if p % 2 = 0 then (t = true → le x y) ∧ (t = false → le y x) else (t = true → le y x) ∧ (t = false → le x y)
theorem ne_of_type {W : World} {a b : Nat} {cs cs' : Array Value} {t t' : TypeId} (h : W.heap[a]? = some (.cells cs t)) (k : W.heap[b]? = some (.cells cs' t')) (hn : t ≠ t') : a ≠ b := by
  rintro rfl
  rw [h] at k
  injection k with k
  injection k with _ e
  exact hn e
def Img (n : Nat) (f : Nat → Nat) (p b : Nat) : Prop := ∃ i, i < n ∧ i ≠ p ∧ f i = b
theorem img_put {n : Nat} {f : Nat → Nat} {frm to : Nat} (hf : frm < n) (ht : to < n) (hn : frm ≠ to) (b : Nat) : Img n (setF f to (f frm)) frm b ↔ Img n f to b := by
  constructor
  · rintro ⟨i, hi, hne, e⟩
    by_cases c : i = to
    · subst c
      rw [setF_eq] at e
      exact ⟨frm, hf, hn, e⟩
    · rw [setF_ne c] at e
      exact ⟨i, hi, c, e⟩
  · rintro ⟨i, hi, hne, e⟩
    by_cases c : i = frm
    · subst c
      exact ⟨to, ht, Ne.symm hn, by rw [setF_eq]; exact e⟩
    · exact ⟨i, hi, c, by rw [setF_ne hne]; exact e⟩
theorem pow_lt_many {d x n : Nat} (h : 2 ^ d * (x + 1) ≤ n) (hn : n < 1099511627777) : d ≤ 40 := by
  rcases Nat.lt_or_ge 40 d with h1 | h1
  · have h2 : 2 ^ 41 ≤ 2 ^ d := Nat.pow_le_pow_right (by decide) h1
    have h3 : 2 ^ d * 1 ≤ 2 ^ d * (x + 1) := Nat.mul_le_mul_left _ (by omega)
    have h4 : (2 : Nat) ^ 41 = 2199023255552 := by decide
    omega
  · exact h1
theorem img_lay {n : Nat} {f : Nat → Nat} {p x : Nat} (hp : p < n) (b : Nat) : Img n (setF f p x) n b ↔ Img n f p b ∨ b = x := by
  constructor
  · rintro ⟨i, hi, hne, e⟩
    by_cases c : i = p
    · subst c
      rw [setF_eq] at e
      exact .inr e.symm
    · rw [setF_ne c] at e
      exact .inl ⟨i, hi, c, e⟩
  · rintro (⟨i, hi, hne, e⟩ | rfl)
    · exact ⟨i, hi, by omega, by rw [setF_ne hne]; exact e⟩
    · exact ⟨p, hp, by omega, setF_eq⟩
theorem own_row {W : World} {base gp n cap : Nat} {t : TypeId} {f : Nat → Nat} {cs : Array Value} (h0 : base ≤ gp) (h1 : W.heap[gp]? = some (.cells cs t)) (h2 : cs.size = cap) (h3 : ∀ i, i < n → cs[i]? = some (.pointer (some ⟨f i, 0, none⟩))) (h4 : n ≤ cap) (h5 : cap ≤ maxLen) : W.ownsRow base t 1 (.slice (some ⟨gp, 0, none⟩) n cap) n ((List.range n).map fun i => .pointer (some ⟨f i, 0, none⟩)) := by
  refine ⟨by simp, .inr ⟨gp, cap, cs, rfl, h0, h1, by omega, h5, by omega, ?_⟩⟩
  refine List.ext_getElem? fun i => ?_
  rw [List.getElem?_take]
  split
  · rename_i hi
    have hi2 : i < n := by omega
    rw [Array.getElem?_toList, h3 i hi2]
    simp [hi2]
  · rename_i hi
    rw [List.getElem?_eq_none (by simp; omega)]
/-- The first one's block, or none. -/
def fst? (n : Nat) (f : Nat → Nat) : Option Nat := if n = 0 then none else some (f 0)
def lst? (n : Nat) (f : Nat → Nat) : Option Nat := if n = 0 then none else if n = 1 then some (f 0) else some (f 1)
theorem fst_in {n : Nat} {f : Nat → Nat} : ∀ b, fst? n f = some b → Img n f n b := fun b e => by
  unfold fst? at e
  split at e
  · cases e
  · cases e
    exact ⟨0, by omega, by omega, rfl⟩
theorem lst_in {n : Nat} {f : Nat → Nat} : ∀ b, lst? n f = some b → Img n f n b := fun b e => by
  unfold lst? at e
  split at e
  · cases e
  · split at e
    · cases e
      exact ⟨0, by omega, by omega, rfl⟩
    · cases e
      exact ⟨1, by omega, by omega, rfl⟩
def upN {α : Type} (f : Nat → α) (x : Nat) (v : α) : Nat → α := fun j => if j = x then v else f j
theorem upN_eq {α : Type} {f : Nat → α} {x : Nat} {v : α} : upN f x v x = v := by simp [upN]
theorem upN_ne {α : Type} {f : Nat → α} {x j : Nat} {v : α} (h : j ≠ x) : upN f x v j = f j := by simp [upN, h]
theorem leB_up {mod : Int} {tur : Bool} {it ke : Nat → Int} {x : Nat} {i k : Int} {y z : Nat} (hy : y ≠ x) (hz : z ≠ x) : leB mod tur (upN it x i) (upN ke x k) y z ↔ leB mod tur it ke y z := by
  unfold leB
  rw [upN_ne hy, upN_ne hz, upN_ne hy, upN_ne hz]
theorem info_parts {P : Program} {t : TypeId} {z : Option Value} {a b : Nat} (h : (P.info? t).map (fun i => (i.zero, i.size, i.bytes)) = some (z, a, b)) : ∃ i, P.info? t = some i ∧ i.zero = z ∧ i.size = a ∧ i.bytes = b := by
  cases e : P.info? t with
  | none => rw [e] at h; cases h
  | some i =>
    rw [e] at h
    simp at h
    exact ⟨i, rfl, h.1, h.2.1, h.2.2⟩
theorem map_ne {W : World} {a b : Nat} {es : Array MapEntry} {c : Nat} {cs : Array Value} {t : TypeId} (h : W.heap[a]? = some (.map es c)) (k : W.heap[b]? = some (.cells cs t)) : a ≠ b := by
  rintro rfl
  rw [h] at k
  cases k
theorem own_kept {W W' : World} {b : Nat} {t : TypeId} {s n : Nat} {v : Value} {xs : List Value} (h : W.ownsRow b t s v n xs) (hk : ∀ k, v.ownBlock = some k → W'.heap[k]? = W.heap[k]?) : W'.ownsRow b t s v n xs := by
  refine ⟨h.1, h.2.imp id ?_⟩
  rintro ⟨g, cap, cur, e, hb, hg, rest⟩
  exact ⟨g, cap, cur, e, hb, (hk g (by rw [e]; rfl)).trans hg, rest⟩
theorem step_append_run {P : Program} {ops : Array Oper} {o : Oper} {a : Act} {w : World} {K : Act → World → Prop} {Q : Exit → Act → World → Prop} {E : Prop} (hg : o.guard = none) (s x : Operand) (t : TypeId) (hop : o.op = Op.call { callee := Callee.builtin Builtin.append, args := #[s, x], argTypes := #[t, t] }) (sv xv : Value) (hs : a.eval s = sv) (hx : a.eval x = xv) (v' : Value) (w' : World)
    (hrun : (Builtin.append_ #[t, t] o.type #[sv, xv]).run P w = .ok v' w') (hK : K (a.put o.dst v') w') : if Region.wanted o (yielded ops a.tmps) = true then Oper.wp P o a w K Q else E := by
  have hw : Region.wanted o (yielded ops a.tmps) = true := by simp [Region.wanted, hg]
  rw [if_pos hw]
  unfold Oper.wp
  simp [execOp, hop, resolve, invoke, builtin, hs, hx, hrun, Result.andThen]
  exact hK

end Go.Proofs.Ytjnfcihichaonaa
namespace Go.Proofs.Ytjnfcihichaonaa
open Go.RowKit
set_option maxRecDepth 100000
set_option linter.unusedVariables false
theorem MeI.c1 {w : World} {hb ob gp n cap mb : Nat} {pu : Int} {f : Nat → Nat} {B : Nat → Prop} {it ke : Nat → Int} {va : Nat → Int} {hole : Nat} (h : MeI w hb ob gp n cap mb pu f B it ke va hole) : w.cell? ⟨hb, 1, none⟩ = some (.slice (some ⟨gp, 0, none⟩) n cap) := by simp [World.cell?, h.hd]
theorem MeI.at {w : World} {hb ob gp n cap mb : Nat} {pu : Int} {f : Nat → Nat} {B : Nat → Prop} {it ke : Nat → Int} {va : Nat → Int} {hole : Nat} (h : MeI w hb ob gp n cap mb pu f B it ke va hole) {i : Nat} (hi : i < n) : w.cell? ⟨gp, i, none⟩ = some (.pointer (some ⟨f i, 0, none⟩)) := by
  obtain ⟨cs, e, _, hc⟩ := h.row
  simp [World.cell?, e, hc i hi]
set_option maxHeartbeats 1000000 in
theorem overI_any {hb ob gp n cap mb : Nat} {pu : Int} {f : Nat → Nat} {B : Nat → Prop} {it ke : Nat → Int} {va : Nat → Int} {hole : Nat} {lv : Value} {nx mod : Int} {tur : Bool} {lies : Int} {N : Nat} (x y p : Nat) (w : World) (h : MeI w hb ob gp n cap mb pu f B it ke va hole) (ho : Ordr w ob lv nx mod tur lies N) (hN : N < 1000000000000) (hx : B x) (hy : B y) (hp : p < 4611686018427387904) :
    Calls Try.prog 59 #[.pointer (some ⟨hb, 0, none⟩), .pointer (some ⟨x, 0, none⟩), .pointer (some ⟨y, 0, none⟩), .int .i64 (p : Int)] w (Asks w ob lv nx mod tur lies N (OvP (leB mod tur it ke) x y p)) := by
  have A1 : Hid (Calls Try.prog 74 #[.pointer (some ⟨hb, 0, none⟩), .pointer (some ⟨x, 0, none⟩), .pointer (some ⟨y, 0, none⟩)] w (Asks w ob lv nx mod tur lies N (fun t => (t = true → leB mod tur it ke x y) ∧ (t = false → leB mod tur it ke y x)))) := aheadI_any x y w h ho hN hx hy
  have A2 : Hid (Calls Try.prog 74 #[.pointer (some ⟨hb, 0, none⟩), .pointer (some ⟨y, 0, none⟩), .pointer (some ⟨x, 0, none⟩)] w (Asks w ob lv nx mod tur lies N (fun t => (t = true → leB mod tur it ke y x) ∧ (t = false → leB mod tur it ke x y)))) := aheadI_any y x w h ho hN hy hx
  have E : Hid (Calls Try.prog 73 #[.int .i64 (p : Int)] w fun e w' => e = .returned (.bool (decide (p % 2 = 0))) ∧ w' = w) := even_any p hp w
  clear h ho
  rcases Nat.mod_two_eq_zero_or_one p with c | c
  · rw [show decide (p % 2 = 0) = true by simp [c]] at E
    go_enter Try.func59, Try.ntmps59
    go_wp2_with (first | (go_at_call 73; refine Calls.mono E.out ?_; rintro e w1 ⟨rfl, rfl⟩) | (go_at_call 74; refine Calls.mono A1.out ?_; rintro e w2 ⟨t, rfl, hp2, h5, hT⟩))
    go_ret
    exact ⟨t, rfl, fun e => by unfold OvP; rw [if_pos c]; exact hp2 e, h5, hT⟩
  · rw [show decide (p % 2 = 0) = false by simp [c]] at E
    go_enter Try.func59, Try.ntmps59
    go_wp2_with (first | (go_at_call 73; refine Calls.mono E.out ?_; rintro e w1 ⟨rfl, rfl⟩) | (go_at_call 74; refine Calls.mono A2.out ?_; rintro e w2 ⟨t, rfl, hp2, h5, hT⟩))
    go_ret
    exact ⟨t, rfl, fun e => by unfold OvP; rw [if_neg (by omega)]; exact hp2 e, h5, hT⟩
theorem acrossI_any {hb ob gp n cap mb : Nat} {pu : Int} {f : Nat → Nat} {B : Nat → Prop} {it ke : Nat → Int} {va : Nat → Int} {hole : Nat} (p : Nat) (w : World) (h : MeI w hb ob gp n cap mb pu f B it ke va hole) (hp : p < n) (hn : 1 < n) :
    Calls Try.prog 58 #[.pointer (some ⟨hb, 0, none⟩), .int .i64 (p : Int)] w fun e w' => e = .returned (.int .i64 (acr n p : Int)) ∧ w' = w := by
  have hl := h.lim
  have hle := h.le
  have h1 := h.c1
  have hx := bits_twin p (by omega)
  clear h
  go_enter Try.func58, Try.ntmps58
  by_cases c : tw p < n
  · have ea : acr n p = tw p := by unfold acr; rw [if_pos c]
    rw [ea]
    clear ea
    generalize tw p = T at *
    go_wp2_with fail
    go_ret
    exact ⟨rfl, rfl⟩
  · have ea : acr n p = up p + 1 := by unfold acr; rw [if_neg c]
    rw [ea]
    clear ea
    have h2 : 1 < p := by unfold tw at c; split at c <;> omega
    have A : Hid (Calls Try.prog 61 #[.int .i64 (p : Int)] w fun e w' => e = .returned (.int .i64 (up p : Int)) ∧ w' = w) := above_any p h2 (by omega) w
    have hu := up_lt h2
    have hw : IntKind.i64.wrap ((up p : Int) + 1) = ((up p + 1 : Nat) : Int) := by rw [IntKind.wrap_i64]; omega
    have ht : tw p < 4611686018427387904 := by unfold tw; split <;> omega
    generalize tw p = T at *
    generalize up p = U at *
    go_wp2_with (go_at_call 61; refine Calls.mono A.out ?_; rintro e w1 ⟨rfl, rfl⟩)
    go_ret
    exact ⟨by first | rfl | simp, rfl⟩
theorem ofI_any {hb ob gp n cap mb : Nat} {pu : Int} {f : Nat → Nat} {B : Nat → Prop} {it ke : Nat → Int} {va : Nat → Int} {hole : Nat} (pr p : Nat) (w : World) (h : MeI w hb ob gp n cap mb pu f B it ke va hole) (hp : p < 4611686018427387904) (hr : pr < 1152921504606846976) :
    Calls Try.prog 91 #[.pointer (some ⟨hb, 0, none⟩), .int .i64 (pr : Int), .int .i64 (p : Int)] w fun e w' => e = .returned (ofV (ofM n pr p)) ∧ w' = w := by
  have hl := h.lim
  have hle := h.le
  have h1 := h.c1
  have E : Hid (Calls Try.prog 73 #[.int .i64 (p : Int)] w fun e w' => e = .returned (.bool (decide (p % 2 = 0))) ∧ w' = w) := even_any p hp w
  have w1 : IntKind.i64.wrap (2 * (pr : Int)) = ((2 * pr : Nat) : Int) := by rw [IntKind.wrap_i64]; omega
  have w2 : IntKind.i64.wrap (((2 * pr : Nat) : Int) + 1) = ((2 * pr + 1 : Nat) : Int) := by rw [IntKind.wrap_i64]; omega
  clear h
  by_cases c : n ≤ 2 * pr
  · rw [show ofM n pr p = none by unfold ofM; rw [if_pos c]]
    go_enter Try.func91, Try.ntmps91
    go_wp2_with fail
    go_ret2
    exact ⟨rfl, rfl⟩
  · by_cases c2 : p % 2 = 0
    · rw [show ofM n pr p = some (2 * pr) by unfold ofM; rw [if_neg c, if_pos (.inl c2)]]
      rw [show decide (p % 2 = 0) = true by simp [c2]] at E
      go_enter Try.func91, Try.ntmps91
      go_wp2_with (go_at_call 73; refine Calls.mono E.out ?_; rintro e w1 ⟨rfl, rfl⟩)
      go_ret2
      exact ⟨by simp [ofV], rfl⟩
    · rw [show decide (p % 2 = 0) = false by simp [c2]] at E
      by_cases c3 : 2 * pr + 1 = n
      · rw [show ofM n pr p = some (2 * pr) by unfold ofM; rw [if_neg c, if_pos (.inr c3)]]
        go_enter Try.func91, Try.ntmps91
        go_wp2_with (go_at_call 73; refine Calls.mono E.out ?_; rintro e w1 ⟨rfl, rfl⟩)
        go_ret2
        exact ⟨by simp [ofV], rfl⟩
      · rw [show ofM n pr p = some (2 * pr + 1) by unfold ofM; rw [if_neg c, if_neg (by omega)]]
        have c4 : ¬ (2 * (pr : Int) + 1 = (n : Int)) := by omega
        go_enter Try.func91, Try.ntmps91
        go_wp2_with (go_at_call 73; refine Calls.mono E.out ?_; rintro e w1 ⟨rfl, rfl⟩)
        go_ret2
        exact ⟨by simp [ofV], rfl⟩
end Go.Proofs.Ytjnfcihichaonaa
namespace Go.Proofs.Ytjnfcihichaonaa
open Go.RowKit
set_option maxRecDepth 100000
set_option linter.unusedVariables false
/-- What below tells: none, or the one that goes up. -/
def BelI (w : World) (n : Nat) (f : Nat → Nat) (le : Nat → Nat → Prop) (ob : Nat) (lv : Value) (nx mod : Int) (tur : Bool) (lies : Int) (N p : Nat) (e : Ending) (w' : World) : Prop :=
  (e = .returned (.tuple #[.int .i64 0, .bool false]) ∧ n ≤ 4 * (p / 2) + 2 ∧ Ordr w' ob lv nx mod tur lies N ∧ Tn (fun k => k = ob) w w') ∨
  ∃ c M : Nat, e = .returned (.tuple #[.int .i64 (c : Int), .bool true]) ∧ c < n ∧ (c / 2 = 2 * (p / 2) + 1 ∨ c / 2 = 2 * (p / 2) + 2) ∧ (lies = 0 → Below2 le n f p c) ∧ N ≤ M ∧ M ≤ N + 1 ∧ Ordr w' ob lv nx mod tur lies M ∧ Tn (fun k => k = ob) w w'
set_option maxHeartbeats 2000000 in
theorem belowI_any {hb ob gp n cap mb : Nat} {pu : Int} {f : Nat → Nat} {B : Nat → Prop} {it ke : Nat → Int} {va : Nat → Int} {lv : Value} {nx mod : Int} {tur : Bool} {lies : Int} {N : Nat} (p : Nat) (w : World) (h : MeI w hb ob gp n cap mb pu f B it ke va p) (ho : Ordr w ob lv nx mod tur lies N) (hN : N < 1000000000000) (hp : p < n) :
    Calls Try.prog 78 #[.pointer (some ⟨hb, 0, none⟩), .int .i64 (p : Int)] w (BelI w n f (leB mod tur it ke) ob lv nx mod tur lies N p) := by
  have hl := h.lim
  have hle := h.le
  obtain ⟨k, ek⟩ : ∃ k, k = p / 2 := ⟨_, rfl⟩
  obtain ⟨P1, e1⟩ : ∃ P1, P1 = 2 * k + 1 := ⟨_, rfl⟩
  obtain ⟨P2, e2⟩ : ∃ P2, P2 = 2 * k + 2 := ⟨_, rfl⟩
  have d1 : (p : Int).tdiv 2 = (k : Int) := by rw [Int.tdiv_eq_ediv_of_nonneg (by omega)]; omega
  have d2 : (p : Int) / 2 = (k : Int) := by omega
  have w0 : IntKind.i64.wrap (k : Int) = (k : Int) := by rw [IntKind.wrap_i64]; omega
  have w1 : IntKind.i64.wrap ((k : Int) * 2) = (k : Int) * 2 := by rw [IntKind.wrap_i64]; omega
  have w2 : IntKind.i64.wrap ((k : Int) * 2 + 1) = (P1 : Int) := by rw [IntKind.wrap_i64]; omega
  have w3 : IntKind.i64.wrap ((P1 : Int) + 1) = (P2 : Int) := by rw [IntKind.wrap_i64]; omega
  have O1 := ofI_any P1 p w h (by omega) (by omega)
  have O2 := ofI_any P2 p w h (by omega) (by omega)
  have HO : Hid (Ordr w ob lv nx mod tur lies N) := ho
  have HE : Hid (k = p / 2 ∧ P1 = 2 * k + 1 ∧ P2 = 2 * k + 2) := ⟨ek, e1, e2⟩
  by_cases c1 : n ≤ 2 * P1
  · rw [show ofM n P1 p = none by unfold ofM; rw [if_pos c1]] at O1
    have O1' : Hid (Calls Try.prog 91 #[.pointer (some ⟨hb, 0, none⟩), .int .i64 (P1 : Int), .int .i64 (p : Int)] w fun e w' => e = .returned (.tuple #[.int .i64 0, .bool false]) ∧ w' = w) := O1
    clear O1 O2 h ho ek e1 e2
    go_enter Try.func78, Try.ntmps78
    go_wp2_with (go_at_call 91; refine Calls.mono O1'.out ?_; rintro e w9 ⟨rfl, rfl⟩)
    go_ret2
    exact .inl ⟨rfl, by have := HE.out; omega, HO.out, Tn.refl _ _⟩
  · obtain ⟨l, el⟩ : ∃ l, ofM n P1 p = some l := by unfold ofM; rw [if_neg c1]; split <;> exact ⟨_, rfl⟩
    have fl : l < n ∧ l / 2 = P1 ∧ (l % 2 = p % 2 ∨ (p % 2 = 1 ∧ l % 2 = 0 ∧ l + 1 = n)) ∧ (2 * P1 + 1 < n → l % 2 = p % 2) := by
      unfold ofM at el
      rw [if_neg c1] at el
      split at el <;> cases el <;> omega
    have HL : Hid (l < n ∧ l / 2 = P1 ∧ (l % 2 = p % 2 ∨ (p % 2 = 1 ∧ l % 2 = 0 ∧ l + 1 = n)) ∧ (2 * P1 + 1 < n → l % 2 = p % 2)) := fl
    rw [el] at O1
    have O1' : Hid (Calls Try.prog 91 #[.pointer (some ⟨hb, 0, none⟩), .int .i64 (P1 : Int), .int .i64 (p : Int)] w fun e w' => e = .returned (.tuple #[.int .i64 (l : Int), .bool true]) ∧ w' = w) := O1
    clear O1 el
    by_cases c2 : n ≤ 2 * P2
    · rw [show ofM n P2 p = none by unfold ofM; rw [if_pos c2]] at O2
      have O2' : Hid (Calls Try.prog 91 #[.pointer (some ⟨hb, 0, none⟩), .int .i64 (P2 : Int), .int .i64 (p : Int)] w fun e w' => e = .returned (.tuple #[.int .i64 0, .bool false]) ∧ w' = w) := O2
      clear O2 h ho fl ek e1 e2
      go_enter Try.func78, Try.ntmps78
      go_wp2_with (first | (go_at_call_of 91 (Value.int IntKind.i64 (P1 : Int)); refine Calls.mono O1'.out ?_; rintro e w9 ⟨rfl, rfl⟩) | (go_at_call_of 91 (Value.int IntKind.i64 (P2 : Int)); refine Calls.mono O2'.out ?_; rintro e w9 ⟨rfl, rfl⟩))
      go_quiet (fail)
      go_wp2_with fail
      go_ret2
      refine .inr ⟨l, N, rfl, HL.out.1, by have := HE.out; have := HL.out; omega, fun _ => ⟨HL.out.1, HL.out.2.2.1, by have := HE.out; have := HL.out; omega, fun d hd hne hk hk2 => ?_⟩, Nat.le_refl _, by omega, HO.out.kept rfl, (Tn.refl _ _).drewN _⟩
      have := HE.out
      have := HL.out
      omega
    · obtain ⟨q, eq⟩ : ∃ q, ofM n P2 p = some q := by unfold ofM; rw [if_neg c2]; split <;> exact ⟨_, rfl⟩
      have fq : q < n ∧ q / 2 = P2 ∧ (q % 2 = p % 2 ∨ (p % 2 = 1 ∧ q % 2 = 0 ∧ q + 1 = n)) := by
        unfold ofM at eq
        rw [if_neg c2] at eq
        split at eq <;> cases eq <;> omega
      have HQ : Hid (q < n ∧ q / 2 = P2 ∧ (q % 2 = p % 2 ∨ (p % 2 = 1 ∧ q % 2 = 0 ∧ q + 1 = n))) := fq
      rw [eq] at O2
      have O2' : Hid (Calls Try.prog 91 #[.pointer (some ⟨hb, 0, none⟩), .int .i64 (P2 : Int), .int .i64 (p : Int)] w fun e w' => e = .returned (.tuple #[.int .i64 (q : Int), .bool true]) ∧ w' = w) := O2
      have hln := fl.1
      have hqn := fq.1
      have b1 := h.c1
      have a1 := h.at hln
      have a2 := h.at hqn
      have Bl : B (f l) := h.fB l hln (by omega)
      have Bq : B (f q) := h.fB q hqn (by omega)
      have OV : Hid (Calls Try.prog 59 #[.pointer (some ⟨hb, 0, none⟩), .pointer (some ⟨f q, 0, none⟩), .pointer (some ⟨f l, 0, none⟩), .int .i64 (p : Int)] w.drew (Asks w.drew ob lv nx mod tur lies N (OvP (leB mod tur it ke) (f q) (f l) p))) := overI_any (f q) (f l) p w.drew (h.keep fun _ _ _ _ _ => rfl) (ho.kept rfl) hN Bq Bl (by omega)
      have HM : Hid (MeI w hb ob gp n cap mb pu f B it ke va p) := h
      clear O2 h ho fl fq ek e1 e2 eq Bl Bq
      go_enter Try.func78, Try.ntmps78
      go_wp2_with (first | (go_at_call_of 91 (Value.int IntKind.i64 (P1 : Int)); refine Calls.mono O1'.out ?_; rintro e w9 ⟨rfl, rfl⟩) | (go_at_call_of 91 (Value.int IntKind.i64 (P2 : Int)); refine Calls.mono O2'.out ?_; rintro e w9 ⟨rfl, rfl⟩))
      rename_i hz
      go_region_held3 (fun w8 => w8.cell? ⟨hb, 1, none⟩ = some (.slice (some ⟨gp, 0, none⟩) n cap) ∧ w8.cell? ⟨gp, l, none⟩ = some (.pointer (some ⟨f l, 0, none⟩)) ∧ w8.cell? ⟨gp, q, none⟩ = some (.pointer (some ⟨f q, 0, none⟩))) (first | (simp [go_sem, *]; done) | (trace_state; fail))
        (first
          | (go_at_call 59; refine Calls.mono OV.out ?_; rintro e w5 ⟨t, rfl, hp5, h5, hT⟩; have H5 : Hid ((lies = 0 → OvP (leB mod tur it ke) (f q) (f l) p t) ∧ Ordr w5 ob lv nx mod tur lies (N + 1) ∧ Tn (fun k => k = ob) w9 w5) := ⟨hp5, h5, ⟨hT.os, hT.tape, hT.output, hT.size, hT.block⟩⟩; have HM5 := HM.out.keep (keep_ask HO.out H5.out.2.2); have m0 := HM5.c1; have m1 := HM5.at hln; have m2 := HM5.at hqn; clear hp5 h5 hT HM5))
      refine hz _ _ ?_
      cases t
      · go_wp2_with fail
        go_ret2
        refine .inr ⟨l, N + 1, rfl, HL.out.1, by have := HE.out; have := HL.out; omega, fun e0 => ⟨HL.out.1, HL.out.2.2.1, by have := HE.out; have := HL.out; omega, fun d hd hne hk hk2 => ?_⟩, by omega, by omega, H5.out.2.1, H5.out.2.2⟩
        have h1 := H5.out.1 e0
        have h2 : d = q := by have := HE.out; have := HL.out; have := HQ.out; omega
        subst h2
        unfold OvP at h1
        split <;> rename_i c9
        · rw [if_pos c9] at h1
          exact h1.2 rfl
        · rw [if_neg c9] at h1
          exact h1.2 rfl
      · go_wp2_with fail
        go_ret2
        refine .inr ⟨q, N + 1, rfl, HQ.out.1, by have := HE.out; have := HQ.out; omega, fun e0 => ⟨HQ.out.1, HQ.out.2.2, by have := HE.out; have := HQ.out; omega, fun d hd hne hk hk2 => ?_⟩, by omega, by omega, H5.out.2.1, H5.out.2.2⟩
        have h1 := H5.out.1 e0
        have h2 : d = l := by have := HE.out; have := HL.out; have := HQ.out; omega
        subst h2
        unfold OvP at h1
        split <;> rename_i c9
        · rw [if_pos c9] at h1
          exact h1.1 rfl
        · rw [if_neg c9] at h1
          exact h1.1 rfl
end Go.Proofs.Ytjnfcihichaonaa
