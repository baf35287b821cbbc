/- Contracts of the program's functions, part 1: own work, joined in build order. -/
namespace Go.Proofs.Ytjnfcihichaonaa
set_option linter.unusedVariables false
/-- The pair i is the pair j, or lies above it. -/
def Anc (i j : Nat) : Prop := ∃ k, (j + 1) / 2 ^ k = i + 1
theorem Anc.refl {i : Nat} : Anc i i := ⟨0, by simp⟩
theorem Anc.step {i j : Nat} (h : 0 < j) (g : Anc i ((j - 1) / 2)) : Anc i j := by
  obtain ⟨k, e⟩ := g
  refine ⟨k + 1, ?_⟩
  rw [Nat.pow_succ, Nat.mul_comm, ← Nat.div_div_eq_div_mul, ← e]
  congr 1
  omega
theorem Anc.way {i j : Nat} (h : Anc i j) : i = j ∨ (0 < j ∧ Anc i ((j - 1) / 2)) := by
  obtain ⟨k, e⟩ := h
  rcases k with _ | k
  · left
    simp at e
    omega
  · rw [Nat.pow_succ, Nat.mul_comm, ← Nat.div_div_eq_div_mul] at e
    rcases Nat.eq_zero_or_pos j with h0 | h0
    · subst h0
      simp at e
    · exact .inr ⟨h0, k, by rw [← e]; congr 1; omega⟩
theorem Anc.le {i : Nat} : ∀ {j : Nat}, Anc i j → i ≤ j := by
  intro j
  induction j using Nat.strongRecOn with
  | _ j ih =>
    intro h
    rcases h.way with e | ⟨h0, g⟩
    · omega
    · have := ih _ (by omega) g
      omega
theorem Anc.trans {i j : Nat} (h : Anc i j) : ∀ {k : Nat}, Anc j k → Anc i k := by
  intro k
  induction k using Nat.strongRecOn with
  | _ k ih =>
    intro g
    rcases g.way with e | ⟨h0, g⟩
    · rw [← e]; exact h
    · exact .step h0 (ih _ (by omega) g)
theorem Anc.kid1 (i : Nat) : Anc i (2 * i + 1) := .step (by omega) (by rw [show (2 * i + 1 - 1) / 2 = i by omega]; exact .refl)
theorem Anc.kid2 (i : Nat) : Anc i (2 * i + 2) := .step (by omega) (by rw [show (2 * i + 2 - 1) / 2 = i by omega]; exact .refl)
theorem Anc.under {i : Nat} : ∀ {j : Nat}, Anc i j → i ≠ j → Anc (2 * i + 1) j ∨ Anc (2 * i + 2) j := by
  intro j
  induction j using Nat.strongRecOn with
  | _ j ih =>
    intro h hn
    rcases h.way with e | ⟨h1, g⟩
    · exact absurd e hn
    · by_cases e : i = (j - 1) / 2
      · rcases (by omega : j = 2 * i + 1 ∨ j = 2 * i + 2) with rfl | rfl
        · exact .inl .refl
        · exact .inr .refl
      · rcases ih _ (by omega) g e with h | h
        · exact .inl (.step h1 h)
        · exact .inr (.step h1 h)
theorem Anc.above {i j : Nat} (h : Anc i j) (hn : i ≠ j) : Anc i ((j - 1) / 2) := by
  rcases h.way with e | ⟨_, g⟩
  · exact absurd e hn
  · exact g
theorem Anc.chain {a b : Nat} : ∀ {c : Nat}, Anc a c → Anc b c → Anc a b ∨ Anc b a := by
  intro c
  induction c using Nat.strongRecOn with
  | _ c ih =>
    intro h g
    rcases h.way with e | ⟨h1, h2⟩
    · exact .inr (by rw [e]; exact g)
    · by_cases e : b = c
      · subst e
        exact .inl h
      · exact ih _ (by omega) h2 (g.above e)
/-- What lies at the place a may not be behind what lies at b. -/
def Rel (a b : Nat) : Prop := (a % 2 = 0 ∧ b % 2 = 0 ∧ Anc (a / 2) (b / 2)) ∨ (a % 2 = 1 ∧ b % 2 = 1 ∧ Anc (b / 2) (a / 2)) ∨ (a % 2 = 0 ∧ b % 2 = 1 ∧ (Anc (a / 2) (b / 2) ∨ Anc (b / 2) (a / 2)))
/-- Everything but what involves the place h is in order; le: not behind. -/
def Ord (le : Nat → Nat → Prop) (n : Nat) (f : Nat → Nat) (h : Nat) : Prop := ∀ a b, a < n → b < n → a ≠ b → a ≠ h → b ≠ h → Rel a b → le (f a) (f b)
structure Total (le : Nat → Nat → Prop) : Prop where
  refl : ∀ a, le a a
  trans : ∀ a b c, le a b → le b c → le a c
  total : ∀ a b, le a b ∨ le b a
def up (p : Nat) : Nat := (p / 2 - 1) / 2 * 2 + p % 2
def setF (f : Nat → Nat) (p x : Nat) : Nat → Nat := fun j => if j = p then x else f j
theorem setF_eq {f : Nat → Nat} {p x : Nat} : setF f p x p = x := by simp [setF]
theorem setF_ne {f : Nat → Nat} {p x j : Nat} (h : j ≠ p) : setF f p x j = f j := by simp [setF, h]
/-- The one of the places below p that goes up: c; the other one, if there is one: d. -/
structure Below2 (le : Nat → Nat → Prop) (n : Nat) (f : Nat → Nat) (p c : Nat) : Prop where
  lt : c < n
  kind : c % 2 = p % 2 ∨ (p % 2 = 1 ∧ c % 2 = 0 ∧ c + 1 = n)
  kid : c / 2 = 2 * (p / 2) + 1 ∨ c / 2 = 2 * (p / 2) + 2
  best : ∀ d, d < n → d ≠ c → (d / 2 = 2 * (p / 2) + 1 ∨ d / 2 = 2 * (p / 2) + 2) → (d % 2 = p % 2 ∨ (p % 2 = 1 ∧ d % 2 = 0 ∧ d + 1 = n)) → if p % 2 = 0 then le (f c) (f d) else le (f d) (f c)
theorem Ord.sink {le : Nat → Nat → Prop} (T : Total le) {n : Nat} {f : Nat → Nat} {p c : Nat} (h : Ord le n f p) (hp : p < n) (hc : Below2 le n f p c) : Ord le n (setF f p (f c)) c := by
  have hcp : c ≠ p := by rcases hc.kid with e | e <;> intro e2 <;> subst e2 <;> omega
  have kc : Anc (p / 2) (c / 2) := by
    rcases hc.kid with e | e
    · rw [e]; exact Anc.kid1 _
    · rw [e]; exact Anc.kid2 _
  intro a b ha hb hab hac hbc hR
  by_cases ea : a = p
  · subst ea
    rw [setF_eq, setF_ne (Ne.symm hab)]
    -- the moved one against b
    rcases Nat.mod_two_eq_zero_or_one a with e0 | e0
    · have kd : c % 2 = 0 := by rcases hc.kind with h1 | h1 <;> omega
      have goal : ∀ d, d < n → d % 2 = 0 → (d / 2 = 2 * (a / 2) + 1 ∨ d / 2 = 2 * (a / 2) + 2) → Rel d b → le (f c) (f b) := fun d hd hd2 hk hr => by
        have hda : d ≠ a := by rcases hk with e | e <;> intro e2 <;> subst e2 <;> omega
        by_cases edc : d = c
        · subst edc
          exact h d b hd hb (Ne.symm hbc) hda (Ne.symm hab) hr
        · have h1 := hc.best d hd edc hk (.inl (by omega))
          rw [if_pos e0] at h1
          by_cases edb : d = b
          · rw [← edb]; exact h1
          · exact T.trans _ _ _ h1 (h d b hd hb edb hda (Ne.symm hab) hr)
      rcases hR with ⟨_, hb2, hA⟩ | ⟨h1, _⟩ | ⟨_, hb2, hA⟩
      · have hne : a / 2 ≠ b / 2 := by omega
        rcases hA.under hne with h2 | h2
        · have h3 := h2.le
          refine goal (2 * (2 * (a / 2) + 1)) (by omega) (by omega) (.inl (by omega)) (.inl ⟨by omega, hb2, ?_⟩)
          rw [show 2 * (2 * (a / 2) + 1) / 2 = 2 * (a / 2) + 1 by omega]; exact h2
        · have h3 := h2.le
          refine goal (2 * (2 * (a / 2) + 2)) (by omega) (by omega) (.inr (by omega)) (.inl ⟨by omega, hb2, ?_⟩)
          rw [show 2 * (2 * (a / 2) + 2) / 2 = 2 * (a / 2) + 2 by omega]; exact h2
      · omega
      · by_cases hne : a / 2 = b / 2
        · exact goal c hc.lt kd hc.kid (.inr (.inr ⟨kd, hb2, .inr (by rw [← hne]; exact kc)⟩))
        · rcases hA with hA | hA
          · rcases hA.under hne with h2 | h2
            · have h3 := h2.le
              refine goal (2 * (2 * (a / 2) + 1)) (by omega) (by omega) (.inl (by omega)) (.inr (.inr ⟨by omega, hb2, .inl ?_⟩))
              rw [show 2 * (2 * (a / 2) + 1) / 2 = 2 * (a / 2) + 1 by omega]; exact h2
            · have h3 := h2.le
              refine goal (2 * (2 * (a / 2) + 2)) (by omega) (by omega) (.inr (by omega)) (.inr (.inr ⟨by omega, hb2, .inl ?_⟩))
              rw [show 2 * (2 * (a / 2) + 2) / 2 = 2 * (a / 2) + 2 by omega]; exact h2
          · exact goal c hc.lt kd hc.kid (.inr (.inr ⟨kd, hb2, .inr (hA.trans kc)⟩))
    · -- an odd hole: b is odd and above
      rcases hR with ⟨h1, _⟩ | ⟨_, hb2, hA⟩ | ⟨h1, _⟩
      · omega
      · refine h c b hc.lt hb (Ne.symm hbc) hcp (Ne.symm hab) ?_
        rcases hc.kind with h1 | h1
        · exact .inr (.inl ⟨by omega, hb2, hA.trans kc⟩)
        · exact .inr (.inr ⟨h1.2.1, hb2, .inr (hA.trans kc)⟩)
      · omega
  · by_cases eb : b = p
    · subst eb
      rw [setF_eq, setF_ne ea]
      rcases Nat.mod_two_eq_zero_or_one b with e0 | e0
      · -- an even hole: a is even and above
        have kd : c % 2 = 0 := by rcases hc.kind with h1 | h1 <;> omega
        rcases hR with ⟨ha2, _, hA⟩ | ⟨_, h1, _⟩ | ⟨_, h1, _⟩
        · exact h a c ha hc.lt hac ea hcp (.inl ⟨ha2, kd, hA.trans kc⟩)
        · omega
        · omega
      · have goal : ∀ d, d < n → (d % 2 = 1 ∨ (d % 2 = 0 ∧ d + 1 = n)) → (d / 2 = 2 * (b / 2) + 1 ∨ d / 2 = 2 * (b / 2) + 2) → (a = d ∨ Rel a d) → le (f a) (f c) := fun d hd hk0 hk hr => by
          have hdb : d ≠ b := by rcases hk with e | e <;> intro e2 <;> subst e2 <;> omega
          by_cases edc : d = c
          · subst edc
            rcases hr with e | hr
            · exact absurd e hac
            · exact h a d ha hd hac ea hdb hr
          · have h1 := hc.best d hd edc hk (by rcases hk0 with h2 | h2 <;> omega)
            rw [if_neg (by omega)] at h1
            rcases hr with e | hr
            · rw [e]; exact h1
            · by_cases ead : a = d
              · rw [ead]; exact h1
              · exact T.trans _ _ _ (h a d ha hd ead ea hdb hr) h1
        -- the subtree of a kid's pair k, in which a lies
        have sub : ∀ k, (k = 2 * (b / 2) + 1 ∨ k = 2 * (b / 2) + 2) → Anc k (a / 2) → le (f a) (f c) := fun k hk hA => by
          have h3 := hA.le
          by_cases hl : 2 * k + 1 < n
          · refine goal (2 * k + 1) hl (.inl (by omega)) (by omega) ?_
            rcases Nat.mod_two_eq_zero_or_one a with e1 | e1
            · exact .inr (.inr (.inr ⟨e1, by omega, .inr (by rw [show (2 * k + 1) / 2 = k by omega]; exact hA)⟩))
            · exact .inr (.inr (.inl ⟨e1, by omega, by rw [show (2 * k + 1) / 2 = k by omega]; exact hA⟩))
          · have e4 : a = 2 * k := by omega
            exact goal (2 * k) (by omega) (.inr ⟨by omega, by omega⟩) (by omega) (.inl e4)
        have across : Anc (a / 2) (b / 2) → a % 2 = 0 → le (f a) (f c) := fun hA ha2 => by
          refine h a c ha hc.lt hac ea hcp ?_
          rcases hc.kind with h1 | h1
          · exact .inr (.inr ⟨ha2, by omega, .inl (hA.trans kc)⟩)
          · exact .inl ⟨ha2, h1.2.1, hA.trans kc⟩
        rcases hR with ⟨_, h1, _⟩ | ⟨ha2, _, hA⟩ | ⟨ha2, _, hA⟩
        · omega
        · rcases hA.under (by omega) with h2 | h2
          · exact sub _ (.inl rfl) h2
          · exact sub _ (.inr rfl) h2
        · by_cases hne : a / 2 = b / 2
          · exact across (by rw [hne]; exact .refl) ha2
          · rcases hA with hA | hA
            · exact across hA ha2
            · rcases hA.under (Ne.symm hne) with h2 | h2
              · exact sub _ (.inl rfl) h2
              · exact sub _ (.inr rfl) h2
    · rw [setF_ne ea, setF_ne eb]
      exact h a b ha hb hab ea eb hR
/-- What is to be laid at the hole p may lie there, seen from what lies below it and from the other kind. -/
def Fits (le : Nat → Nat → Prop) (n : Nat) (f : Nat → Nat) (p x : Nat) : Prop := if p % 2 = 0 then ∀ b, b < n → b ≠ p → Rel p b → le x (f b) else ∀ a, a < n → a ≠ p → Rel a p → le (f a) x
theorem up_lt {p : Nat} (h : 1 < p) : up p < p := by unfold up; omega
theorem up_half {p : Nat} (h : 1 < p) : up p / 2 = (p / 2 - 1) / 2 ∧ up p % 2 = p % 2 := by unfold up; omega
theorem Ord.lift {le : Nat → Nat → Prop} (T : Total le) {n : Nat} {f : Nat → Nat} {p x : Nat} (h : Ord le n f p) (hp : p < n) (h1 : 1 < p) (hx : Fits le n f p x) (hb : if p % 2 = 0 then le x (f (up p)) else le (f (up p)) x) :
    Ord le n (setF f p (f (up p))) (up p) ∧ Fits le n (setF f p (f (up p))) (up p) x := by
  have hlt := up_lt h1
  obtain ⟨hh, hm⟩ := up_half h1
  have hne : p / 2 ≠ 0 := by omega
  have kq : Anc (up p / 2) (p / 2) := by rw [hh]; exact .step (by omega) .refl
  have anc : ∀ {i : Nat}, Anc i (p / 2) → i ≠ p / 2 → Anc i (up p / 2) := fun hA hn => by rw [hh]; exact hA.above hn
  have comp : ∀ {i : Nat}, (Anc (p / 2) i ∨ Anc i (p / 2)) → (Anc (up p / 2) i ∨ Anc i (up p / 2)) := fun {i} hA => by
    rcases hA with hA | hA
    · exact .inl (kq.trans hA)
    · by_cases e : i = p / 2
      · rw [e]; exact .inl kq
      · exact .inr (anc hA e)
  refine ⟨fun a b ha hb' hab hah hbh hR => ?_, ?_⟩
  · by_cases ea : a = p
    · subst ea
      rw [setF_eq, setF_ne (Ne.symm hab)]
      refine h (up a) b (by omega) hb' (Ne.symm hbh) (by omega) (Ne.symm hab) ?_
      rcases hR with ⟨q1, q2, q3⟩ | ⟨q1, q2, q3⟩ | ⟨q1, q2, q3⟩
      · exact .inl ⟨by omega, q2, kq.trans q3⟩
      · exact .inr (.inl ⟨by omega, q2, anc q3 (by intro e; have := up_half h1; omega)⟩)
      · exact .inr (.inr ⟨by omega, q2, comp q3⟩)
    · by_cases eb : b = p
      · subst eb
        rw [setF_eq, setF_ne ea]
        refine h a (up b) ha (by omega) hah ea (by omega) ?_
        rcases hR with ⟨q1, q2, q3⟩ | ⟨q1, q2, q3⟩ | ⟨q1, q2, q3⟩
        · exact .inl ⟨q1, by omega, anc q3 (by intro e; omega)⟩
        · exact .inr (.inl ⟨q1, by omega, kq.trans q3⟩)
        · exact .inr (.inr ⟨q1, by omega, (comp q3.symm).symm⟩)
      · rw [setF_ne ea, setF_ne eb]
        exact h a b ha hb' hab ea eb hR
  · unfold Fits
    rcases Nat.mod_two_eq_zero_or_one p with e0 | e0
    · rw [if_pos e0] at hb
      rw [if_pos (by omega)]
      intro b hbn hbq hR
      by_cases eb : b = p
      · subst eb
        rw [setF_eq]
        exact hb
      · rw [setF_ne eb]
        exact T.trans _ _ _ hb (h _ _ (by omega) hbn (Ne.symm hbq) (by omega) eb hR)
    · rw [if_neg (by omega)] at hb
      rw [if_neg (by omega)]
      intro a han haq hR
      by_cases ea : a = p
      · subst ea
        rw [setF_eq]
        exact hb
      · rw [setF_ne ea]
        exact T.trans _ _ _ (h _ _ han (by omega) haq ea (by omega) hR) hb
/-- Where nothing is ahead of it any more, it may lie. -/
theorem Ord.lay {le : Nat → Nat → Prop} (T : Total le) {n : Nat} {f : Nat → Nat} {p x : Nat} (h : Ord le n f p) (hp : p < n) (hx : Fits le n f p x) (hb : p ≤ 1 ∨ if p % 2 = 0 then le (f (up p)) x else le x (f (up p))) : Ord le n (setF f p x) n := by
  have top : 1 < p → ∀ i : Nat, Anc i (p / 2) → i ≠ p / 2 → Anc i (up p / 2) := fun h1 i hA hn => by
    rw [(up_half h1).1]
    exact hA.above hn
  intro a b ha hb' hab _ _ hR
  unfold Fits at hx
  by_cases ea : a = p
  · subst ea
    rw [setF_eq, setF_ne (Ne.symm hab)]
    rcases Nat.mod_two_eq_zero_or_one a with e0 | e0
    · rw [if_pos e0] at hx
      exact hx b hb' (Ne.symm hab) hR
    · rcases hR with ⟨q1, _⟩ | ⟨_, q2, q3⟩ | ⟨q1, _⟩
      · omega
      · rcases hb with hb | hb
        · have := q3.le
          omega
        · rw [if_neg (by omega)] at hb
          have h1 : 1 < a := by have := q3.le; omega
          have hu := up_half h1
          by_cases e : b = up a
          · rw [e]; exact hb
          · exact T.trans _ _ _ hb (h (up a) b (by have := up_lt h1; omega) hb' (Ne.symm e) (by have := up_lt h1; omega) (Ne.symm hab) (.inr (.inl ⟨by omega, q2, top h1 _ q3 (by omega)⟩)))
      · omega
  · by_cases eb : b = p
    · subst eb
      rw [setF_eq, setF_ne ea]
      rcases Nat.mod_two_eq_zero_or_one b with e0 | e0
      · rcases hR with ⟨q1, _, q3⟩ | ⟨_, q1, _⟩ | ⟨_, q1, _⟩
        · rcases hb with hb | hb
          · have := q3.le
            omega
          · rw [if_pos e0] at hb
            have h1 : 1 < b := by have := q3.le; omega
            have hu := up_half h1
            by_cases e : a = up b
            · rw [e]; exact hb
            · exact T.trans _ _ _ (h a (up b) ha (by have := up_lt h1; omega) e ea (by have := up_lt h1; omega) (.inl ⟨q1, by omega, top h1 _ q3 (by omega)⟩)) hb
        · omega
        · omega
      · rw [if_neg (by omega)] at hx
        exact hx a ha ea hR
    · rw [setF_ne ea, setF_ne eb]
      exact h a b ha hb' hab ea eb hR
end Go.Proofs.Ytjnfcihichaonaa
