/- Contracts of the program's functions, part 1: own work, joined in build order. -/
import Derived.Test.YtklhenblcgmfhaaRows
import Derived.WalkKit
import Derived.WalkSpells
import Derived.WalkLawsBesides
import Derived.Deep.OwnRows
import Derived.Deep.QuietTactic
import Derived.BigQuiet
import Derived.Deep.RegionHeld3
import Derived.Laws.Bits64
namespace Go.Proofs.Ytklhenblcgmfhaa
set_option linter.unusedVariables false
/-- The pair i is the pair j, or lies above it. -/
def Anc (i j : Nat) : Prop := ∃ k, (j + 1) / 2 ^ k = i + 1
theorem Anc.refl {i : Nat} : Anc i i := ⟨0, by simp⟩
theorem Anc.step {i j : Nat} (h : 0 < j) (g : Anc i ((j - 1) / 2)) : Anc i j := by
  obtain ⟨k, e⟩ := g
  refine ⟨k + 1, ?_⟩
  rw [Nat.pow_succ, Nat.mul_comm, ← Nat.div_div_eq_div_mul, ← e]
  congr 1
  omega
theorem Anc.way {i j : Nat} (h : Anc i j) : i = j ∨ (0 < j ∧ Anc i ((j - 1) / 2)) := by
  obtain ⟨k, e⟩ := h
  rcases k with _ | k
  · left
    simp at e
    omega
  · rw [Nat.pow_succ, Nat.mul_comm, ← Nat.div_div_eq_div_mul] at e
    rcases Nat.eq_zero_or_pos j with h0 | h0
    · subst h0
      simp at e
    · exact .inr ⟨h0, k, by rw [← e]; congr 1; omega⟩
theorem Anc.le {i : Nat} : ∀ {j : Nat}, Anc i j → i ≤ j := by
  intro j
  induction j using Nat.strongRecOn with
  | _ j ih =>
    intro h
    rcases h.way with e | ⟨h0, g⟩
    · omega
    · have := ih _ (by omega) g
      omega
theorem Anc.trans {i j : Nat} (h : Anc i j) : ∀ {k : Nat}, Anc j k → Anc i k := by
  intro k
  induction k using Nat.strongRecOn with
  | _ k ih =>
    intro g
    rcases g.way with e | ⟨h0, g⟩
    · rw [← e]; exact h
    · exact .step h0 (ih _ (by omega) g)
theorem Anc.kid1 (i : Nat) : Anc i (2 * i + 1) := .step (by omega) (by rw [show (2 * i + 1 - 1) / 2 = i by omega]; exact .refl)
theorem Anc.kid2 (i : Nat) : Anc i (2 * i + 2) := .step (by omega) (by rw [show (2 * i + 2 - 1) / 2 = i by omega]; exact .refl)
theorem Anc.under {i : Nat} : ∀ {j : Nat}, Anc i j → i ≠ j → Anc (2 * i + 1) j ∨ Anc (2 * i + 2) j := by
  intro j
  induction j using Nat.strongRecOn with
  | _ j ih =>
    intro h hn
    rcases h.way with e | ⟨h1, g⟩
    · exact absurd e hn
    · by_cases e : i = (j - 1) / 2
      · rcases (by omega : j = 2 * i + 1 ∨ j = 2 * i + 2) with rfl | rfl
        · exact .inl .refl
        · exact .inr .refl
      · rcases ih _ (by omega) g e with h | h
        · exact .inl (.step h1 h)
        · exact .inr (.step h1 h)
theorem Anc.above {i j : Nat} (h : Anc i j) (hn : i ≠ j) : Anc i ((j - 1) / 2) := by
  rcases h.way with e | ⟨_, g⟩
  · exact absurd e hn
  · exact g
theorem Anc.chain {a b : Nat} : ∀ {c : Nat}, Anc a c → Anc b c → Anc a b ∨ Anc b a := by
  intro c
  induction c using Nat.strongRecOn with
  | _ c ih =>
    intro h g
    rcases h.way with e | ⟨h1, h2⟩
    · exact .inr (by rw [e]; exact g)
    · by_cases e : b = c
      · subst e
        exact .inl h
      · exact ih _ (by omega) h2 (g.above e)
/-- What lies at the place a may not be behind what lies at b. -/
def Rel (a b : Nat) : Prop := (a % 2 = 0 ∧ b % 2 = 0 ∧ Anc (a / 2) (b / 2)) ∨ (a % 2 = 1 ∧ b % 2 = 1 ∧ Anc (b / 2) (a / 2)) ∨ (a % 2 = 0 ∧ b % 2 = 1 ∧ (Anc (a / 2) (b / 2) ∨ Anc (b / 2) (a / 2)))
/-- Everything but what involves the place h is in order; le: not behind. -/
def Ord (le : Nat → Nat → Prop) (n : Nat) (f : Nat → Nat) (h : Nat) : Prop := ∀ a b, a < n → b < n → a ≠ b → a ≠ h → b ≠ h → Rel a b → le (f a) (f b)
structure Total (le : Nat → Nat → Prop) : Prop where
  refl : ∀ a, le a a
  trans : ∀ a b c, le a b → le b c → le a c
  total : ∀ a b, le a b ∨ le b a
def up (p : Nat) : Nat := (p / 2 - 1) / 2 * 2 + p % 2
def setF (f : Nat → Nat) (p x : Nat) : Nat → Nat := fun j => if j = p then x else f j
theorem setF_eq {f : Nat → Nat} {p x : Nat} : setF f p x p = x := by simp [setF]
theorem setF_ne {f : Nat → Nat} {p x j : Nat} (h : j ≠ p) : setF f p x j = f j := by simp [setF, h]
/-- The one of the places below p that goes up: c; the other one, if there is one: d. -/
structure Below2 (le : Nat → Nat → Prop) (n : Nat) (f : Nat → Nat) (p c : Nat) : Prop where
  lt : c < n
  kind : c % 2 = p % 2 ∨ (p % 2 = 1 ∧ c % 2 = 0 ∧ c + 1 = n)
  kid : c / 2 = 2 * (p / 2) + 1 ∨ c / 2 = 2 * (p / 2) + 2
  best : ∀ d, d < n → d ≠ c → (d / 2 = 2 * (p / 2) + 1 ∨ d / 2 = 2 * (p / 2) + 2) → (d % 2 = p % 2 ∨ (p % 2 = 1 ∧ d % 2 = 0 ∧ d + 1 = n)) → if p % 2 = 0 then le (f c) (f d) else le (f d) (f c)
theorem Ord.sink {le : Nat → Nat → Prop} (T : Total le) {n : Nat} {f : Nat → Nat} {p c : Nat} (h : Ord le n f p) (hp : p < n) (hc : Below2 le n f p c) : Ord le n (setF f p (f c)) c := by
  have hcp : c ≠ p := by rcases hc.kid with e | e <;> intro e2 <;> subst e2 <;> omega
  have kc : Anc (p / 2) (c / 2) := by
    rcases hc.kid with e | e
    · rw [e]; exact Anc.kid1 _
    · rw [e]; exact Anc.kid2 _
  intro a b ha hb hab hac hbc hR
  by_cases ea : a = p
  · subst ea
    rw [setF_eq, setF_ne (Ne.symm hab)]
    -- the moved one against b
    rcases Nat.mod_two_eq_zero_or_one a with e0 | e0
    · have kd : c % 2 = 0 := by rcases hc.kind with h1 | h1 <;> omega
      have goal : ∀ d, d < n → d % 2 = 0 → (d / 2 = 2 * (a / 2) + 1 ∨ d / 2 = 2 * (a / 2) + 2) → Rel d b → le (f c) (f b) := fun d hd hd2 hk hr => by
        have hda : d ≠ a := by rcases hk with e | e <;> intro e2 <;> subst e2 <;> omega
        by_cases edc : d = c
        · subst edc
          exact h d b hd hb (Ne.symm hbc) hda (Ne.symm hab) hr
        · have h1 := hc.best d hd edc hk (.inl (by omega))
          rw [if_pos e0] at h1
          by_cases edb : d = b
          · rw [← edb]; exact h1
          · exact T.trans _ _ _ h1 (h d b hd hb edb hda (Ne.symm hab) hr)
      rcases hR with ⟨_, hb2, hA⟩ | ⟨h1, _⟩ | ⟨_, hb2, hA⟩
      · have hne : a / 2 ≠ b / 2 := by omega
        rcases hA.under hne with h2 | h2
        · have h3 := h2.le
          refine goal (2 * (2 * (a / 2) + 1)) (by omega) (by omega) (.inl (by omega)) (.inl ⟨by omega, hb2, ?_⟩)
          rw [show 2 * (2 * (a / 2) + 1) / 2 = 2 * (a / 2) + 1 by omega]; exact h2
        · have h3 := h2.le
          refine goal (2 * (2 * (a / 2) + 2)) (by omega) (by omega) (.inr (by omega)) (.inl ⟨by omega, hb2, ?_⟩)
          rw [show 2 * (2 * (a / 2) + 2) / 2 = 2 * (a / 2) + 2 by omega]; exact h2
      · omega
      · by_cases hne : a / 2 = b / 2
        · exact goal c hc.lt kd hc.kid (.inr (.inr ⟨kd, hb2, .inr (by rw [← hne]; exact kc)⟩))
        · rcases hA with hA | hA
          · rcases hA.under hne with h2 | h2
            · have h3 := h2.le
              refine goal (2 * (2 * (a / 2) + 1)) (by omega) (by omega) (.inl (by omega)) (.inr (.inr ⟨by omega, hb2, .inl ?_⟩))
              rw [show 2 * (2 * (a / 2) + 1) / 2 = 2 * (a / 2) + 1 by omega]; exact h2
            · have h3 := h2.le
              refine goal (2 * (2 * (a / 2) + 2)) (by omega) (by omega) (.inr (by omega)) (.inr (.inr ⟨by omega, hb2, .inl ?_⟩))
              rw [show 2 * (2 * (a / 2) + 2) / 2 = 2 * (a / 2) + 2 by omega]; exact h2
          · exact goal c hc.lt kd hc.kid (.inr (.inr ⟨kd, hb2, .inr (hA.trans kc)⟩))
    · -- an odd hole: b is odd and above
      rcases hR with ⟨h1, _⟩ | ⟨_, hb2, hA⟩ | ⟨h1, _⟩
      · omega
      · refine h c b hc.lt hb (Ne.symm hbc) hcp (Ne.symm hab) ?_
        rcases hc.kind with h1 | h1
        · exact .inr (.inl ⟨by omega, hb2, hA.trans kc⟩)
        · exact .inr (.inr ⟨h1.2.1, hb2, .inr (hA.trans kc)⟩)
      · omega
  · by_cases eb : b = p
    · subst eb
      rw [setF_eq, setF_ne ea]
      rcases Nat.mod_two_eq_zero_or_one b with e0 | e0
      · -- an even hole: a is even and above
        have kd : c % 2 = 0 := by rcases hc.kind with h1 | h1 <;> omega
        rcases hR with ⟨ha2, _, hA⟩ | ⟨_, h1, _⟩ | ⟨_, h1, _⟩
        · exact h a c ha hc.lt hac ea hcp (.inl ⟨ha2, kd, hA.trans kc⟩)
        · omega
        · omega
      · have goal : ∀ d, d < n → (d % 2 = 1 ∨ (d % 2 = 0 ∧ d + 1 = n)) → (d / 2 = 2 * (b / 2) + 1 ∨ d / 2 = 2 * (b / 2) + 2) → (a = d ∨ Rel a d) → le (f a) (f c) := fun d hd hk0 hk hr => by
          have hdb : d ≠ b := by rcases hk with e | e <;> intro e2 <;> subst e2 <;> omega
          by_cases edc : d = c
          · subst edc
            rcases hr with e | hr
            · exact absurd e hac
            · exact h a d ha hd hac ea hdb hr
          · have h1 := hc.best d hd edc hk (by rcases hk0 with h2 | h2 <;> omega)
            rw [if_neg (by omega)] at h1
            rcases hr with e | hr
            · rw [e]; exact h1
            · by_cases ead : a = d
              · rw [ead]; exact h1
              · exact T.trans _ _ _ (h a d ha hd ead ea hdb hr) h1
        -- the subtree of a kid's pair k, in which a lies
        have sub : ∀ k, (k = 2 * (b / 2) + 1 ∨ k = 2 * (b / 2) + 2) → Anc k (a / 2) → le (f a) (f c) := fun k hk hA => by
          have h3 := hA.le
          by_cases hl : 2 * k + 1 < n
          · refine goal (2 * k + 1) hl (.inl (by omega)) (by omega) ?_
            rcases Nat.mod_two_eq_zero_or_one a with e1 | e1
            · exact .inr (.inr (.inr ⟨e1, by omega, .inr (by rw [show (2 * k + 1) / 2 = k by omega]; exact hA)⟩))
            · exact .inr (.inr (.inl ⟨e1, by omega, by rw [show (2 * k + 1) / 2 = k by omega]; exact hA⟩))
          · have e4 : a = 2 * k := by omega
            exact goal (2 * k) (by omega) (.inr ⟨by omega, by omega⟩) (by omega) (.inl e4)
        have across : Anc (a / 2) (b / 2) → a % 2 = 0 → le (f a) (f c) := fun hA ha2 => by
          refine h a c ha hc.lt hac ea hcp ?_
          rcases hc.kind with h1 | h1
          · exact .inr (.inr ⟨ha2, by omega, .inl (hA.trans kc)⟩)
          · exact .inl ⟨ha2, h1.2.1, hA.trans kc⟩
        rcases hR with ⟨_, h1, _⟩ | ⟨ha2, _, hA⟩ | ⟨ha2, _, hA⟩
        · omega
        · rcases hA.under (by omega) with h2 | h2
          · exact sub _ (.inl rfl) h2
          · exact sub _ (.inr rfl) h2
        · by_cases hne : a / 2 = b / 2
          · exact across (by rw [hne]; exact .refl) ha2
          · rcases hA with hA | hA
            · exact across hA ha2
            · rcases hA.under (Ne.symm hne) with h2 | h2
              · exact sub _ (.inl rfl) h2
              · exact sub _ (.inr rfl) h2
    · rw [setF_ne ea, setF_ne eb]
      exact h a b ha hb hab ea eb hR
/-- What is to be laid at the hole p may lie there, seen from what lies below it and from the other kind. -/
def Fits (le : Nat → Nat → Prop) (n : Nat) (f : Nat → Nat) (p x : Nat) : Prop := if p % 2 = 0 then ∀ b, b < n → b ≠ p → Rel p b → le x (f b) else ∀ a, a < n → a ≠ p → Rel a p → le (f a) x
theorem up_lt {p : Nat} (h : 1 < p) : up p < p := by unfold up; omega
theorem up_half {p : Nat} (h : 1 < p) : up p / 2 = (p / 2 - 1) / 2 ∧ up p % 2 = p % 2 := by unfold up; omega
theorem Ord.lift {le : Nat → Nat → Prop} (T : Total le) {n : Nat} {f : Nat → Nat} {p x : Nat} (h : Ord le n f p) (hp : p < n) (h1 : 1 < p) (hx : Fits le n f p x) (hb : if p % 2 = 0 then le x (f (up p)) else le (f (up p)) x) :
    Ord le n (setF f p (f (up p))) (up p) ∧ Fits le n (setF f p (f (up p))) (up p) x := by
  have hlt := up_lt h1
  obtain ⟨hh, hm⟩ := up_half h1
  have hne : p / 2 ≠ 0 := by omega
  have kq : Anc (up p / 2) (p / 2) := by rw [hh]; exact .step (by omega) .refl
  have anc : ∀ {i : Nat}, Anc i (p / 2) → i ≠ p / 2 → Anc i (up p / 2) := fun hA hn => by rw [hh]; exact hA.above hn
  have comp : ∀ {i : Nat}, (Anc (p / 2) i ∨ Anc i (p / 2)) → (Anc (up p / 2) i ∨ Anc i (up p / 2)) := fun {i} hA => by
    rcases hA with hA | hA
    · exact .inl (kq.trans hA)
    · by_cases e : i = p / 2
      · rw [e]; exact .inl kq
      · exact .inr (anc hA e)
  refine ⟨fun a b ha hb' hab hah hbh hR => ?_, ?_⟩
  · by_cases ea : a = p
    · subst ea
      rw [setF_eq, setF_ne (Ne.symm hab)]
      refine h (up a) b (by omega) hb' (Ne.symm hbh) (by omega) (Ne.symm hab) ?_
      rcases hR with ⟨q1, q2, q3⟩ | ⟨q1, q2, q3⟩ | ⟨q1, q2, q3⟩
      · exact .inl ⟨by omega, q2, kq.trans q3⟩
      · exact .inr (.inl ⟨by omega, q2, anc q3 (by intro e; have := up_half h1; omega)⟩)
      · exact .inr (.inr ⟨by omega, q2, comp q3⟩)
    · by_cases eb : b = p
      · subst eb
        rw [setF_eq, setF_ne ea]
        refine h a (up b) ha (by omega) hah ea (by omega) ?_
        rcases hR with ⟨q1, q2, q3⟩ | ⟨q1, q2, q3⟩ | ⟨q1, q2, q3⟩
        · exact .inl ⟨q1, by omega, anc q3 (by intro e; omega)⟩
        · exact .inr (.inl ⟨q1, by omega, kq.trans q3⟩)
        · exact .inr (.inr ⟨q1, by omega, (comp q3.symm).symm⟩)
      · rw [setF_ne ea, setF_ne eb]
        exact h a b ha hb' hab ea eb hR
  · unfold Fits
    rcases Nat.mod_two_eq_zero_or_one p with e0 | e0
    · rw [if_pos e0] at hb
      rw [if_pos (by omega)]
      intro b hbn hbq hR
      by_cases eb : b = p
      · subst eb
        rw [setF_eq]
        exact hb
      · rw [setF_ne eb]
        exact T.trans _ _ _ hb (h _ _ (by omega) hbn (Ne.symm hbq) (by omega) eb hR)
    · rw [if_neg (by omega)] at hb
      rw [if_neg (by omega)]
      intro a han haq hR
      by_cases ea : a = p
      · subst ea
        rw [setF_eq]
        exact hb
      · rw [setF_ne ea]
        exact T.trans _ _ _ (h _ _ han (by omega) haq ea (by omega) hR) hb
/-- Where nothing is ahead of it any more, it may lie. -/
theorem Ord.lay {le : Nat → Nat → Prop} (T : Total le) {n : Nat} {f : Nat → Nat} {p x : Nat} (h : Ord le n f p) (hp : p < n) (hx : Fits le n f p x) (hb : p ≤ 1 ∨ if p % 2 = 0 then le (f (up p)) x else le x (f (up p))) : Ord le n (setF f p x) n := by
  have top : 1 < p → ∀ i : Nat, Anc i (p / 2) → i ≠ p / 2 → Anc i (up p / 2) := fun h1 i hA hn => by
    rw [(up_half h1).1]
    exact hA.above hn
  intro a b ha hb' hab _ _ hR
  unfold Fits at hx
  by_cases ea : a = p
  · subst ea
    rw [setF_eq, setF_ne (Ne.symm hab)]
    rcases Nat.mod_two_eq_zero_or_one a with e0 | e0
    · rw [if_pos e0] at hx
      exact hx b hb' (Ne.symm hab) hR
    · rcases hR with ⟨q1, _⟩ | ⟨_, q2, q3⟩ | ⟨q1, _⟩
      · omega
      · rcases hb with hb | hb
        · have := q3.le
          omega
        · rw [if_neg (by omega)] at hb
          have h1 : 1 < a := by have := q3.le; omega
          have hu := up_half h1
          by_cases e : b = up a
          · rw [e]; exact hb
          · exact T.trans _ _ _ hb (h (up a) b (by have := up_lt h1; omega) hb' (Ne.symm e) (by have := up_lt h1; omega) (Ne.symm hab) (.inr (.inl ⟨by omega, q2, top h1 _ q3 (by omega)⟩)))
      · omega
  · by_cases eb : b = p
    · subst eb
      rw [setF_eq, setF_ne ea]
      rcases Nat.mod_two_eq_zero_or_one b with e0 | e0
      · rcases hR with ⟨q1, _, q3⟩ | ⟨_, q1, _⟩ | ⟨_, q1, _⟩
        · rcases hb with hb | hb
          · have := q3.le
            omega
          · rw [if_pos e0] at hb
            have h1 : 1 < b := by have := q3.le; omega
            have hu := up_half h1
            by_cases e : a = up b
            · rw [e]; exact hb
            · exact T.trans _ _ _ (h a (up b) ha (by have := up_lt h1; omega) e ea (by have := up_lt h1; omega) (.inl ⟨q1, by omega, top h1 _ q3 (by omega)⟩)) hb
        · omega
        · omega
      · rw [if_neg (by omega)] at hx
        exact hx a ha ea hR
    · rw [setF_ne ea, setF_ne eb]
      exact h a b ha hb' hab ea eb hR
end Go.Proofs.Ytklhenblcgmfhaa
namespace Go.Proofs.Ytklhenblcgmfhaa
open Go.RowKit
set_option maxRecDepth 100000
set_option linter.unusedVariables false
/-- All but the blocks of S is as it was. -/
structure Tn (S : Nat → Prop) (w w' : World) : Prop where
  os : w'.os = w.os
  tape : w'.tape = w.tape
  output : w'.output = w.output
  size : w.heap.size ≤ w'.heap.size
  block : ∀ k, k < w.heap.size → ¬ S k → w'.heap[k]? = w.heap[k]?
/-- .. and what is new of it. -/
structure TnN (S : Nat → Prop) (w w' : World) (P : Prop) : Prop extends Tn S w w' where
  new : P
/-- Of a heap's blocks none is new but those that were not there. -/
def NewB (w : World) (hb : Nat) (v' : Value) (mb' : Nat) : Prop := (∀ k, v'.ownBlock = some k → w.heap.size ≤ k ∨ ∃ v0, w.cell? ⟨hb, 1, none⟩ = some v0 ∧ v0.ownBlock = some k) ∧ (w.heap.size ≤ mb' ∨ w.cell? ⟨hb, 2, none⟩ = some (.map (some mb')))
theorem Tn.refl (S : Nat → Prop) (w : World) : Tn S w w := ⟨rfl, rfl, rfl, Nat.le_refl _, fun _ _ _ => rfl⟩
theorem Tn.trans {S S' : Nat → Prop} {a b c : World} (h : Tn S a b) (k : Tn S' b c) (hs : ∀ x, x < a.heap.size → S' x → S x) : Tn S a c :=
  ⟨k.os.trans h.os, k.tape.trans h.tape, k.output.trans h.output, Nat.le_trans h.size k.size, fun x hx hn => (k.block x (Nat.lt_of_lt_of_le hx h.size) (fun e => hn (hs x hx e))).trans (h.block x hx hn)⟩
theorem Tn.mono {S S' : Nat → Prop} {a b : World} (h : Tn S a b) (hs : ∀ x, x < a.heap.size → S x → S' x) : Tn S' a b := ⟨h.os, h.tape, h.output, h.size, fun x hx hn => h.block x hx (fun e => hn (hs x hx e))⟩
theorem Tn.of_below {S : Nat → Prop} {a b : World} (h : Below a.heap.size a b) : Tn S a b := ⟨h.os, h.tape, h.output, h.size, fun x hx _ => h.block x hx⟩
theorem Tn.drew {S : Nat → Prop} {a b : World} (h : Tn S a b) : Tn S a b.drew := ⟨h.os, h.tape, h.output, h.size, h.block⟩
theorem Tn.drewN {S : Nat → Prop} {a b : World} (h : Tn S a b) (n : Nat) : Tn S a (b.drewN n) := ⟨h.os, h.tape, h.output, h.size, h.block⟩
theorem Tn.set {S : Nat → Prop} {a b : World} (h : Tn S a b) {x : Nat} (hx : x < a.heap.size → S x) (i : Nat) (v : Value) : Tn S a (b.setCell ⟨x, i, none⟩ v) :=
  ⟨h.os, h.tape, h.output, by simpa using h.size, fun k hk hn => (Below.heap_setCell _ _ _ k (by rintro rfl; exact hn (hx hk))).trans (h.block k hk hn)⟩
theorem Tn.alloc {S : Nat → Prop} {a b : World} (h : Tn S a b) (o : Obj) : Tn S a (b.alloc o) :=
  ⟨h.os, h.tape, h.output, by simpa using Nat.le_trans h.size (Nat.le_succ _), fun k hk hn => (Below.heap_alloc _ _ k (Nat.lt_of_lt_of_le hk h.size)).trans (h.block k hk hn)⟩
theorem bel_drewN {B : Nat} {a w : World} (h : Below B a w) (n : Nat) : Below B a (w.drewN n) := ⟨h.os, h.tape, h.output, h.size, h.block⟩
theorem bel_drew {B : Nat} {a w : World} (h : Below B a w) : Below B a w.drew := ⟨h.os, h.tape, h.output, h.size, h.block⟩
theorem addr_add (b o j : Nat) : (⟨b, o, none⟩ : Addr).add j = ⟨b, o + j, none⟩ := by unfold Addr.add; split <;> simp_all
theorem hold {p : Prop} (h : True → p) : p := h trivial
/-- A key's place in the order. -/
def rank (mod k : Int) : Int := if 0 < mod then k % mod else k
/-- .. the other way round, where it is turned. -/
def rk (mod : Int) (tur : Bool) (k : Int) : Int := if tur then - rank mod k else rank mod k
theorem rank_any (lv : Value) (hl : ∃ a n c, lv = .slice a n c) (nx mod : Int) (tur : Bool) (k : Int) (w : World) (h0 : 0 ≤ mod) (h1 : mod ≤ 12) (hk : -9223372036854775808 ≤ k) (hk2 : k ≤ 9223372036854775807) :
    Calls Try.prog 44 #[.agg #[lv, .int .i64 nx, .int .i64 mod, .bool tur], .int .i64 k] w fun e w' => e = .returned (.int .i64 (rank mod k)) ∧ Below w.heap.size w w' := by
  obtain ⟨la, ln, lc, rfl⟩ := hl
  go_enter Try.func44, Try.ntmps44
  by_cases c : 0 < mod
  · have e1 : IntKind.i64.wrap (k.tmod mod) = k.tmod mod := by
      have h2 := Int.tmod_lt_of_pos k c
      have h3 := Int.lt_tmod_of_pos k c
      rw [IntKind.wrap_i64]
      omega
    have e2 : IntKind.i64.wrap (k.tmod mod + mod) = k.tmod mod + mod := by
      have h2 := Int.tmod_lt_of_pos k c
      have h3 := Int.lt_tmod_of_pos k c
      rw [IntKind.wrap_i64]
      omega
    have hne : mod ≠ 0 := by omega
    have hkm : k % mod = if k.tmod mod < 0 then k.tmod mod + mod else k.tmod mod := by
      have h4 := Int.emod_nonneg k hne
      have h5 := Int.emod_lt_of_pos k c
      have h6 := Int.tmod_lt_of_pos k c
      have h7 := Int.lt_tmod_of_pos k c
      have h8 := Int.mul_tdiv_add_tmod k mod
      have h9 := Int.mul_ediv_add_emod k mod
      have h10 : mod * (k.tdiv mod - k / mod) = k % mod - k.tmod mod := by rw [Int.mul_sub]; omega
      generalize k.tdiv mod - k / mod = d at h10
      split
      · have : d = 1 := by
          rcases Int.lt_trichotomy d 1 with h | h | h
          · have : mod * d ≤ mod * 0 := Int.mul_le_mul_of_nonneg_left (by omega) h0
            omega
          · exact h
          · have : mod * 2 ≤ mod * d := Int.mul_le_mul_of_nonneg_left (by omega) h0
            omega
        subst this
        omega
      · have : d = 0 := by
          rcases Int.lt_trichotomy d 0 with h | h | h
          · have : mod * d ≤ mod * (-1) := Int.mul_le_mul_of_nonneg_left (by omega) h0
            omega
          · exact h
          · have : mod * 1 ≤ mod * d := Int.mul_le_mul_of_nonneg_left (by omega) h0
            omega
        subst this
        omega
    by_cases c2 : k.tmod mod < 0
    · go_wp2_with fail
      go_ret
      refine ⟨?_, (Below.refl _ _).alloc (Nat.le_refl _) _⟩
      simp [rank, c, hkm, c2]
    · go_wp2_with fail
      go_ret
      refine ⟨?_, (Below.refl _ _).alloc (Nat.le_refl _) _⟩
      rw [rank, if_pos c, hkm, if_neg (by omega)]
      rfl
  · go_wp2_with fail
    go_ret
    refine ⟨?_, (Below.refl _ _).alloc (Nat.le_refl _) _⟩
    rw [rank, if_neg (by omega)]
    rfl
theorem ahead_ref (lv : Value) (hl : ∃ a n c, lv = .slice a n c) (nx mod : Int) (tur : Bool) (a b : Int) (w : World) (h0 : 0 ≤ mod) (h1 : mod ≤ 12) (ha : -9223372036854775808 ≤ a) (ha2 : a ≤ 9223372036854775807) (hb : -9223372036854775808 ≤ b) (hb2 : b ≤ 9223372036854775807) :
    Calls Try.prog 20 #[.agg #[lv, .int .i64 nx, .int .i64 mod, .bool tur], .int .i64 a, .int .i64 b] w fun e w' => e = .returned (.bool (decide (rk mod tur a < rk mod tur b))) ∧ Below w.heap.size w w' := by
  have R : Hid (∀ k w, -9223372036854775808 ≤ k → k ≤ 9223372036854775807 → Calls Try.prog 44 #[.agg #[lv, .int .i64 nx, .int .i64 mod, .bool tur], .int .i64 k] w fun e w' => e = .returned (.int .i64 (rank mod k)) ∧ Below w.heap.size w w') := fun k w g1 g2 => rank_any lv hl nx mod tur k w h0 h1 g1 g2
  have HB : Hid (Below w.heap.size w (w.alloc (.cells #[lv, .int .i64 nx, .int .i64 mod, .bool tur] 55))) := (Below.refl _ _).alloc (Nat.le_refl _) _
  obtain ⟨la, ln, lc, rfl⟩ := hl
  have hc0 : (w.alloc (.cells #[.slice la ln lc, .int .i64 nx, .int .i64 mod, .bool tur] 55)).cell? ⟨w.heap.size, 0, none⟩ = some (.slice la ln lc) := by simp [go_sem]
  have hc1 : (w.alloc (.cells #[.slice la ln lc, .int .i64 nx, .int .i64 mod, .bool tur] 55)).cell? ⟨w.heap.size, 1, none⟩ = some (.int .i64 nx) := by simp [go_sem]
  have hc2 : (w.alloc (.cells #[.slice la ln lc, .int .i64 nx, .int .i64 mod, .bool tur] 55)).cell? ⟨w.heap.size, 2, none⟩ = some (.int .i64 mod) := by simp [go_sem]
  have hc3 : (w.alloc (.cells #[.slice la ln lc, .int .i64 nx, .int .i64 mod, .bool tur] 55)).cell? ⟨w.heap.size, 3, none⟩ = some (.bool tur) := by simp [go_sem]
  clear HB
  obtain ⟨s, hs⟩ : ∃ s, s = w.heap.size := ⟨_, rfl⟩
  obtain ⟨W, hW⟩ : ∃ W, W = w.alloc (.cells #[.slice la ln lc, .int .i64 nx, .int .i64 mod, .bool tur] 55) := ⟨_, rfl⟩
  have HB : Hid (Below w.heap.size w W) := by rw [hW]; exact (Below.refl _ _).alloc (Nat.le_refl _) _
  have HW : Hid (w.alloc (.cells #[.slice la ln lc, .int .i64 nx, .int .i64 mod, .bool tur] 55) = W ∧ w.heap.size = s) := ⟨hW.symm, hs.symm⟩
  rw [← hW, ← hs] at hc0 hc1 hc2 hc3
  clear hW hs
  go_enter Try.func20, Try.ntmps20
  cases tur
  · go_wp2_with fail
    rename_i hz
    rw [HW.out.1, HW.out.2]
    go_region_held3 (fun w9 => w9.cell? ⟨s, 0, none⟩ = some (.slice la ln lc) ∧ w9.cell? ⟨s, 1, none⟩ = some (.int .i64 nx) ∧ w9.cell? ⟨s, 2, none⟩ = some (.int .i64 mod) ∧ w9.cell? ⟨s, 3, none⟩ = some (.bool false)) (first | (simp [go_sem, *]; done) | (trace_state; fail))
      (first
        | (go_at_call_of 44 (a); refine Calls.mono (R.out a W.drew ha ha2) ?_; rintro e w5 ⟨rfl, hB⟩; have H5 : Hid (Below W.heap.size W w5) := (bel_drew (Below.refl _ _)).trans hB; have m0 := cell_later H5.out hc0; have m1 := cell_later H5.out hc1; have m2 := cell_later H5.out hc2; have m3 := cell_later H5.out hc3; clear hB)
        | (go_at_call_of 44 (b); refine Calls.mono (R.out b w5 hb hb2) ?_; rintro e w6 ⟨rfl, hB⟩; have H6 : Hid (Below w5.heap.size w5 w6) := hB; have p0 := cell_later hB m0; have p1 := cell_later hB m1; have p2 := cell_later hB m2; have p3 := cell_later hB m3; clear hB))
    refine hz _ _ ?_
    go_wp2_with fail
    go_ret
    refine ⟨?_, ?_⟩
    · simp [rk]
    · exact HB.out.trans (((H5.out).trans (H6.out.mono H5.out.size)).mono HB.out.size)
  · go_wp2_with fail
    rename_i hz
    rw [HW.out.1, HW.out.2]
    go_region_held3 (fun w9 => w9.cell? ⟨s, 0, none⟩ = some (.slice la ln lc) ∧ w9.cell? ⟨s, 1, none⟩ = some (.int .i64 nx) ∧ w9.cell? ⟨s, 2, none⟩ = some (.int .i64 mod) ∧ w9.cell? ⟨s, 3, none⟩ = some (.bool true)) (first | (simp [go_sem, *]; done) | (trace_state; fail))
      (first
        | (go_at_call_of 44 (b); refine Calls.mono (R.out b W.drew hb hb2) ?_; rintro e w5 ⟨rfl, hB⟩; have H5 : Hid (Below W.heap.size W w5) := (bel_drew (Below.refl _ _)).trans hB; have m0 := cell_later H5.out hc0; have m1 := cell_later H5.out hc1; have m2 := cell_later H5.out hc2; have m3 := cell_later H5.out hc3; clear hB)
        | (go_at_call_of 44 (a); refine Calls.mono (R.out a w5 ha ha2) ?_; rintro e w6 ⟨rfl, hB⟩; have H6 : Hid (Below w5.heap.size w5 w6) := hB; have p0 := cell_later hB m0; have p1 := cell_later hB m1; have p2 := cell_later hB m2; have p3 := cell_later hB m3; clear hB))
    refine hz _ _ ?_
    go_wp2_with fail
    go_ret
    refine ⟨?_, ?_⟩
    · simp [rk]
    · exact HB.out.trans (((H5.out).trans (H6.out.mono H5.out.size)).mono HB.out.size)
/-- An order of the statements' own, at the block ob. -/
structure Ordr (W : World) (ob : Nat) (lv : Value) (nx mod : Int) (tur : Bool) (lies : Int) (N : Nat) : Prop where
  at' : W.heap[ob]? = some (.cells #[lv, .int .i64 nx, .int .i64 mod, .bool tur, .int .i64 lies, .int .i64 (N : Int)] 57)
  shape : ∃ a n c, lv = .slice a n c
  mod0 : 0 ≤ mod
  mod1 : mod ≤ 12
  lies0 : 0 ≤ lies
  lies1 : lies ≤ 100
theorem Ordr.lt {W : World} {ob : Nat} {lv : Value} {nx mod : Int} {tur : Bool} {lies : Int} {N : Nat} (h : Ordr W ob lv nx mod tur lies N) : ob < W.heap.size := (Array.getElem?_eq_some_iff.1 h.at').1
theorem Ordr.kept {W W' : World} {ob : Nat} {lv : Value} {nx mod : Int} {tur : Bool} {lies : Int} {N : Nat} (h : Ordr W ob lv nx mod tur lies N) (hk : W'.heap[ob]? = W.heap[ob]?) : Ordr W' ob lv nx mod tur lies N := { h with at' := hk.trans h.at' }
theorem Ordr.cells {W : World} {ob : Nat} {lv : Value} {nx mod : Int} {tur : Bool} {lies : Int} {N : Nat} (h : Ordr W ob lv nx mod tur lies N) : W.cell? ⟨ob, 0, none⟩ = some lv ∧ W.cell? ⟨ob, 1, none⟩ = some (.int .i64 nx) ∧ W.cell? ⟨ob, 2, none⟩ = some (.int .i64 mod) ∧ W.cell? ⟨ob, 3, none⟩ = some (.bool tur) ∧ W.cell? ⟨ob, 4, none⟩ = some (.int .i64 lies) ∧ W.cell? ⟨ob, 5, none⟩ = some (.int .i64 (N : Int)) := by
  simp [World.cell?, h.at']
theorem Ordr.ask {W : World} {ob : Nat} {lv : Value} {nx mod : Int} {tur : Bool} {lies : Int} {N : Nat} (h : Ordr W ob lv nx mod tur lies N) (M : Nat) : Ordr (W.setCell ⟨ob, 5, none⟩ (.int .i64 (M : Int))) ob lv nx mod tur lies M :=
  { h with at' := heap_setCell_same W ob 5 _ _ _ h.at' }
/-- Before: one question more. -/
def Asks (W : World) (ob : Nat) (lv : Value) (nx mod : Int) (tur : Bool) (lies : Int) (N : Nat) (P : Bool → Prop) (e : Ending) (W' : World) : Prop :=
  ∃ t, e = .returned (.bool t) ∧ (lies = 0 → P t) ∧ Ordr W' ob lv nx mod tur lies (N + 1) ∧ Tn (fun k => k = ob) W W'
set_option maxHeartbeats 1000000 in
theorem before_any (ob : Nat) (lv : Value) (nx mod : Int) (tur : Bool) (lies : Int) (N : Nat) (a b : Int) (w : World) (h : Ordr w ob lv nx mod tur lies N) (hN : N < 1000000000000) (ha : -9223372036854775808 ≤ a) (ha2 : a ≤ 9223372036854775807) (hb : -9223372036854775808 ≤ b) (hb2 : b ≤ 9223372036854775807) :
    Calls Try.prog 28 #[.pointer (some ⟨ob, 0, none⟩), .int .i64 a, .int .i64 b] w (Asks w ob lv nx mod tur lies N (fun t => t = decide (rk mod tur a < rk mod tur b))) := by
  obtain ⟨c0, c1, c2, c3, c4, c5⟩ := h.cells
  have hf : w.frozen? ⟨ob, 5, none⟩ = false := by simp [World.frozen?, h.at']
  have l0 := h.lies0
  have l1 := h.lies1
  have hw : IntKind.i64.wrap ((N : Int) + 1) = ((N + 1 : Nat) : Int) := by rw [IntKind.wrap_i64]; omega
  have HO := h.ask (N + 1)
  obtain ⟨d0, d1, d2, d3, d4, d5⟩ := HO.cells
  have HT : Hid (Ordr (w.setCell ⟨ob, 5, none⟩ (.int .i64 ((N + 1 : Nat) : Int))) ob lv nx mod tur lies (N + 1) ∧ Tn (fun k => k = ob) w (w.setCell ⟨ob, 5, none⟩ (.int .i64 ((N + 1 : Nat) : Int)))) := ⟨HO, (Tn.refl (fun k => k = ob) w).set (fun _ => rfl) _ _⟩
  have HA : Hid (∀ w, Calls Try.prog 20 #[.agg #[lv, .int .i64 nx, .int .i64 mod, .bool tur], .int .i64 a, .int .i64 b] w fun e w' => e = .returned (.bool (decide (rk mod tur a < rk mod tur b))) ∧ Below w.heap.size w w') := fun w => ahead_ref lv h.shape nx mod tur a b w h.mod0 h.mod1 ha ha2 hb hb2
  obtain ⟨la, ln, lc, rfl⟩ := h.shape
  obtain ⟨W, hW⟩ : ∃ W, W = w.setCell ⟨ob, 5, none⟩ (.int .i64 ((N + 1 : Nat) : Int)) := ⟨_, rfl⟩
  rw [← hW] at d0 d1 d2 d3 d4 d5 HT
  have HW : Hid (w.setCell ⟨ob, 5, none⟩ (.int .i64 ((N : Int) + 1)) = W) := by rw [show (N : Int) + 1 = ((N + 1 : Nat) : Int) by omega]; exact hW.symm
  clear hW HO h
  go_enter Try.func28, Try.ntmps28
  by_cases c : 0 < lies
  · have e1 : IntKind.i64.wrap (lies + 1) = lies + 1 := by rw [IntKind.wrap_i64]; omega
    have e2 : ¬ lies + 1 = 0 := by omega
    clear d0 d1 d2 d3
    go_wp2_with fail
    rw [HW.out]
    go_quiet (fail)
    go_wp2_with fail
    go_ret
    refine ⟨_, rfl, fun e => by omega, HT.out.1.kept rfl, HT.out.2.drewN _⟩
  · obtain rfl : lies = 0 := by omega
    clear d0 d1 d2 d3 d4 d5
    go_wp2_with fail
    rw [HW.out]
    refine Calls.mono (HA.out _) ?_
    rintro e w5 ⟨rfl, hB⟩
    have H5 : Hid (Below W.heap.size W w5) := hB
    clear hB
    go_wp2_with fail
    go_ret
    refine ⟨_, rfl, fun _ => rfl, HT.out.1.kept (H5.out.block _ HT.out.1.lt), HT.out.2.trans (S' := fun k => k = ob) (Tn.of_below H5.out) (fun _ _ e => e)⟩
theorem keep_ask {W W' : World} {ob : Nat} {lv : Value} {nx mod : Int} {tur : Bool} {lies : Int} {N : Nat} (h : Ordr W ob lv nx mod tur lies N) (hT : Tn (fun k => k = ob) W W') : ∀ (k : Nat) (cs : Array Value) (t : TypeId), W.heap[k]? = some (.cells cs t) → t ≠ 57 → W'.heap[k]? = W.heap[k]? := by
  intro k cs t hk ht
  refine hT.block k (Array.getElem?_eq_some_iff.1 hk).1 fun e => ?_
  subst e
  rw [h.at'] at hk
  injection hk with hk
  injection hk with _ e2
  exact ht e2.symm
theorem Ordr.held {W W' : World} {ob : Nat} {lv : Value} {nx mod : Int} {tur : Bool} {lies : Int} {N : Nat} (h : Ordr W ob lv nx mod tur lies N) (hT : Tn (fun k => k = ob) W W') {b i : Nat} {cs : Array Value} {t : TypeId} (hb : W.heap[b]? = some (.cells cs t)) (ht : t ≠ 57) : W'.cell? ⟨b, i, none⟩ = W.cell? ⟨b, i, none⟩ :=
  World.cell?_of_block (keep_ask h hT b cs t hb ht)
/-- The order of the things. -/
def leB (mod : Int) (tur : Bool) (it ke : Nat → Int) (x y : Nat) : Prop := rk mod tur (ke x) < rk mod tur (ke y) ∨ (rk mod tur (ke x) = rk mod tur (ke y) ∧ it x ≤ it y)
theorem leB_total (mod : Int) (tur : Bool) (it ke : Nat → Int) : Total (leB mod tur it ke) :=
  ⟨fun a => .inr ⟨rfl, Int.le_refl _⟩, fun a b c h k => by unfold leB at *; omega, fun a b => by unfold leB; omega⟩
end Go.Proofs.Ytklhenblcgmfhaa
namespace Go.Proofs.Ytklhenblcgmfhaa
open Go.RowKit
set_option maxRecDepth 100000
set_option linter.unusedVariables false
/-- A heap whose place hole is empty: what lies in the others. -/
structure MeI (W : World) (hb ob gp n cap mb : Nat) (pu : Int) (f : Nat → Nat) (B : Nat → Prop) (it ke : Nat → Int) (va : Nat → Int) (hole : Nat) : Prop where
  hd : W.heap[hb]? = some (.cells #[.func (.func 28) #[.pointer (some ⟨ob, 0, none⟩)] #[], .slice (some ⟨gp, 0, none⟩) n cap, .map (some mb), .int .i64 pu] 70)
  row : ∃ cs : Array Value, W.heap[gp]? = some (.cells cs 77) ∧ cs.size = cap ∧ ∀ i, i < n → cs[i]? = some (.pointer (some ⟨f i, 0, none⟩))
  le : n ≤ cap
  lim : n ≤ 1099511627776
  th : ∀ b, B b → ∃ q : Int, W.heap[b]? = some (.cells #[.int .i64 (it b), .int .i64 (ke b), .int .i64 (va b), .int .i64 q] 81)
  fB : ∀ i, i < n → i ≠ hole → B (f i)
  pl : ∀ i, i < n → i ≠ hole → W.heap[f i]? = some (.cells #[.int .i64 (it (f i)), .int .i64 (ke (f i)), .int .i64 (va (f i)), .int .i64 (i : Int)] 81)
  wf : ∀ b, B b → (-9223372036854775808 ≤ it b ∧ it b ≤ 9223372036854775807) ∧ -9223372036854775808 ≤ ke b ∧ ke b ≤ 9223372036854775807
theorem MeI.keep {W W' : World} {hb ob gp n cap mb : Nat} {pu : Int} {f : Nat → Nat} {B : Nat → Prop} {it ke : Nat → Int} {va : Nat → Int} {hole : Nat} (h : MeI W hb ob gp n cap mb pu f B it ke va hole) (hk : ∀ (k : Nat) (cs : Array Value) (t : TypeId), W.heap[k]? = some (.cells cs t) → t ≠ 57 → W'.heap[k]? = W.heap[k]?) : MeI W' hb ob gp n cap mb pu f B it ke va hole := by
  refine { h with hd := (hk _ _ _ h.hd (by decide)).trans h.hd, row := ?_, th := fun b hb => ?_, pl := fun i hi hn => (hk _ _ _ (h.pl i hi hn) (by decide)).trans (h.pl i hi hn) }
  · obtain ⟨cs, e, r⟩ := h.row
    exact ⟨cs, (hk _ _ _ e (by decide)).trans e, r⟩
  · obtain ⟨q, e⟩ := h.th b hb
    exact ⟨q, (hk _ _ _ e (by decide)).trans e⟩
set_option maxHeartbeats 1000000 in
theorem aheadI_any {hb ob gp n cap mb : Nat} {pu : Int} {f : Nat → Nat} {B : Nat → Prop} {it ke : Nat → Int} {va : Nat → Int} {hole : Nat} {lv : Value} {nx mod : Int} {tur : Bool} {lies : Int} {N : Nat} (x y : Nat) (w : World) (h : MeI w hb ob gp n cap mb pu f B it ke va hole) (ho : Ordr w ob lv nx mod tur lies N) (hN : N < 1000000000000) (hx : B x) (hy : B y) :
    Calls Try.prog 74 #[.pointer (some ⟨hb, 0, none⟩), .pointer (some ⟨x, 0, none⟩), .pointer (some ⟨y, 0, none⟩)] w (Asks w ob lv nx mod tur lies N (fun t => (t = true → leB mod tur it ke x y) ∧ (t = false → leB mod tur it ke y x))) := by
  obtain ⟨qx, ex⟩ := h.th x hx
  obtain ⟨qy, ey⟩ := h.th y hy
  have x0 : w.cell? ⟨x, 0, none⟩ = some (.int .i64 (it x)) := by simp [World.cell?, ex]
  have x1 : w.cell? ⟨x, 1, none⟩ = some (.int .i64 (ke x)) := by simp [World.cell?, ex]
  have y0 : w.cell? ⟨y, 0, none⟩ = some (.int .i64 (it y)) := by simp [World.cell?, ey]
  have y1 : w.cell? ⟨y, 1, none⟩ = some (.int .i64 (ke y)) := by simp [World.cell?, ey]
  have b0 : w.cell? ⟨hb, 0, none⟩ = some (.func (.func 28) #[.pointer (some ⟨ob, 0, none⟩)] #[]) := by simp [World.cell?, h.hd]
  obtain ⟨⟨wx1, wx2⟩, wx3, wx4⟩ := h.wf x hx
  obtain ⟨⟨wy1, wy2⟩, wy3, wy4⟩ := h.wf y hy
  have HO : Hid (Ordr w ob lv nx mod tur lies N ∧ (w.heap[hb]? = some (.cells #[.func (.func 28) #[.pointer (some ⟨ob, 0, none⟩)] #[], .slice (some ⟨gp, 0, none⟩) n cap, .map (some mb), .int .i64 pu] 70)) ∧ (w.heap[x]? = some (.cells #[.int .i64 (it x), .int .i64 (ke x), .int .i64 (va x), .int .i64 qx] 81)) ∧ w.heap[y]? = some (.cells #[.int .i64 (it y), .int .i64 (ke y), .int .i64 (va y), .int .i64 qy] 81)) := ⟨ho, h.hd, ex, ey⟩
  clear ex ey h ho
  go_enter Try.func74, Try.ntmps74
  by_cases c : it x < it y
  · go_wp2_with fail
    go_quiet (fail)
    go_wp2_with fail
    rename_i hz
    obtain ⟨W, hW⟩ : ∃ W, W = w.drewN nq := ⟨_, rfl⟩
    have HO2 : Hid (Ordr W ob lv nx mod tur lies N ∧ (W.heap[hb]? = some (.cells #[.func (.func 28) #[.pointer (some ⟨ob, 0, none⟩)] #[], .slice (some ⟨gp, 0, none⟩) n cap, .map (some mb), .int .i64 pu] 70)) ∧ (W.heap[x]? = some (.cells #[.int .i64 (it x), .int .i64 (ke x), .int .i64 (va x), .int .i64 qx] 81)) ∧ W.heap[y]? = some (.cells #[.int .i64 (it y), .int .i64 (ke y), .int .i64 (va y), .int .i64 qy] 81)) := by rw [hW]; exact ⟨HO.out.1.kept rfl, HO.out.2⟩
    have HTn : Hid (Tn (fun k => k = ob) w W) := by rw [hW]; exact (Tn.refl _ _).drewN _
    rw [← hW]
    clear hW HO x0 x1 y0 y1 b0
    have x1 : W.cell? ⟨x, 1, none⟩ = some (.int .i64 (ke x)) := by simp [World.cell?, HO2.out.2.2.1]
    have y1 : W.cell? ⟨y, 1, none⟩ = some (.int .i64 (ke y)) := by simp [World.cell?, HO2.out.2.2.2]
    have b0 : W.cell? ⟨hb, 0, none⟩ = some (.func (.func 28) #[.pointer (some ⟨ob, 0, none⟩)] #[]) := by simp [World.cell?, HO2.out.2.1]
    have BF : Hid (Calls Try.prog 28 #[.pointer (some ⟨ob, 0, none⟩), .int .i64 (ke y), .int .i64 (ke x)] W.drew (Asks W.drew ob lv nx mod tur lies N (fun t => t = decide (rk mod tur (ke y) < rk mod tur (ke x))))) := before_any ob lv nx mod tur lies N (ke y) (ke x) W.drew (HO2.out.1.kept rfl) hN wy3 wy4 wx3 wx4
    go_region_held3 (fun w9 => w9.cell? ⟨hb, 0, none⟩ = some (.func (.func 28) #[.pointer (some ⟨ob, 0, none⟩)] #[]) ∧ w9.cell? ⟨x, 1, none⟩ = some (.int .i64 (ke x)) ∧ w9.cell? ⟨y, 1, none⟩ = some (.int .i64 (ke y))) (first | (simp [go_sem, *]; done) | (trace_state; fail))
      (first
        | (go_at_call 28; refine Calls.mono BF.out ?_; rintro e w5 ⟨t, rfl, hp, h5, hT⟩; have H5 : Hid ((lies = 0 → t = decide (rk mod tur (ke y) < rk mod tur (ke x))) ∧ Ordr w5 ob lv nx mod tur lies (N + 1) ∧ Tn (fun k => k = ob) W w5) := ⟨hp, h5, ⟨hT.os, hT.tape, hT.output, hT.size, hT.block⟩⟩; have m0 := (HO2.out.1.held H5.out.2.2 HO2.out.2.1 (i := 0) (by decide)).trans b0; have m1 := (HO2.out.1.held H5.out.2.2 HO2.out.2.2.1 (i := 1) (by decide)).trans x1; have m2 := (HO2.out.1.held H5.out.2.2 HO2.out.2.2.2 (i := 1) (by decide)).trans y1; clear hp h5 hT))
    refine hz _ _ ?_
    go_wp2_with fail
    go_ret
    refine ⟨_, rfl, fun e0 => ?_, H5.out.2.1, HTn.out.trans (S' := fun k => k = ob) H5.out.2.2 (fun _ _ e => e)⟩
    have ht := H5.out.1 e0
    unfold leB
    subst ht
    constructor
    · intro e1
      simp at e1
      omega
    · intro e1
      simp at e1
      omega
  · go_wp2_with fail
    go_quiet (fail)
    go_wp2_with fail
    rename_i hz
    obtain ⟨W, hW⟩ : ∃ W, W = w.drewN nq := ⟨_, rfl⟩
    have HO2 : Hid (Ordr W ob lv nx mod tur lies N ∧ (W.heap[hb]? = some (.cells #[.func (.func 28) #[.pointer (some ⟨ob, 0, none⟩)] #[], .slice (some ⟨gp, 0, none⟩) n cap, .map (some mb), .int .i64 pu] 70)) ∧ (W.heap[x]? = some (.cells #[.int .i64 (it x), .int .i64 (ke x), .int .i64 (va x), .int .i64 qx] 81)) ∧ W.heap[y]? = some (.cells #[.int .i64 (it y), .int .i64 (ke y), .int .i64 (va y), .int .i64 qy] 81)) := by rw [hW]; exact ⟨HO.out.1.kept rfl, HO.out.2⟩
    have HTn : Hid (Tn (fun k => k = ob) w W) := by rw [hW]; exact (Tn.refl _ _).drewN _
    rw [← hW]
    clear hW HO x0 x1 y0 y1 b0
    have x1 : W.cell? ⟨x, 1, none⟩ = some (.int .i64 (ke x)) := by simp [World.cell?, HO2.out.2.2.1]
    have y1 : W.cell? ⟨y, 1, none⟩ = some (.int .i64 (ke y)) := by simp [World.cell?, HO2.out.2.2.2]
    have b0 : W.cell? ⟨hb, 0, none⟩ = some (.func (.func 28) #[.pointer (some ⟨ob, 0, none⟩)] #[]) := by simp [World.cell?, HO2.out.2.1]
    have BF : Hid (Calls Try.prog 28 #[.pointer (some ⟨ob, 0, none⟩), .int .i64 (ke x), .int .i64 (ke y)] W.drew (Asks W.drew ob lv nx mod tur lies N (fun t => t = decide (rk mod tur (ke x) < rk mod tur (ke y))))) := before_any ob lv nx mod tur lies N (ke x) (ke y) W.drew (HO2.out.1.kept rfl) hN wx3 wx4 wy3 wy4
    go_region_held3 (fun w9 => w9.cell? ⟨hb, 0, none⟩ = some (.func (.func 28) #[.pointer (some ⟨ob, 0, none⟩)] #[]) ∧ w9.cell? ⟨x, 1, none⟩ = some (.int .i64 (ke x)) ∧ w9.cell? ⟨y, 1, none⟩ = some (.int .i64 (ke y))) (first | (simp [go_sem, *]; done) | (trace_state; fail))
      (first
        | (go_at_call 28; refine Calls.mono BF.out ?_; rintro e w5 ⟨t, rfl, hp, h5, hT⟩; have H5 : Hid ((lies = 0 → t = decide (rk mod tur (ke x) < rk mod tur (ke y))) ∧ Ordr w5 ob lv nx mod tur lies (N + 1) ∧ Tn (fun k => k = ob) W w5) := ⟨hp, h5, ⟨hT.os, hT.tape, hT.output, hT.size, hT.block⟩⟩; have m0 := (HO2.out.1.held H5.out.2.2 HO2.out.2.1 (i := 0) (by decide)).trans b0; have m1 := (HO2.out.1.held H5.out.2.2 HO2.out.2.2.1 (i := 1) (by decide)).trans x1; have m2 := (HO2.out.1.held H5.out.2.2 HO2.out.2.2.2 (i := 1) (by decide)).trans y1; clear hp h5 hT))
    refine hz _ _ ?_
    go_wp2_with fail
    go_ret
    refine ⟨_, rfl, fun e0 => ?_, H5.out.2.1, HTn.out.trans (S' := fun k => k = ob) H5.out.2.2 (fun _ _ e => e)⟩
    have ht := H5.out.1 e0
    unfold leB
    subst ht
    constructor
    · intro e1
      simp at e1
      omega
    · intro e1
      simp at e1
      omega
end Go.Proofs.Ytklhenblcgmfhaa
namespace Go.Proofs.Ytklhenblcgmfhaa
open Go.RowKit
set_option maxRecDepth 100000
set_option linter.unusedVariables false
theorem even_any (p : Nat) (hp : p < 4611686018427387904) (w : World) : Calls Try.prog 73 #[.int .i64 (p : Int)] w fun e w' => e = .returned (.bool (decide (p % 2 = 0))) ∧ w' = w := by
  have e1 : (p : Int).tmod 2 = ((p % 2 : Nat) : Int) := by rw [Int.tmod_eq_emod_of_nonneg (by omega)]; omega
  have e2 : IntKind.i64.wrap ((p % 2 : Nat) : Int) = ((p % 2 : Nat) : Int) := by rw [IntKind.wrap_i64]; omega
  go_enter Try.func73, Try.ntmps73
  rcases Nat.mod_two_eq_zero_or_one p with c | c
  · rw [c] at e1 e2
    go_wp2_with fail
    go_ret
    refine ⟨?_, rfl⟩
    simp [c]
  · rw [c] at e1 e2
    go_wp2_with fail
    go_ret
    refine ⟨?_, rfl⟩
    simp [c]
theorem above_any (p : Nat) (h1 : 1 < p) (hp : p < 4611686018427387904) (w : World) : Calls Try.prog 61 #[.int .i64 (p : Int)] w fun e w' => e = .returned (.int .i64 (up p : Int)) ∧ w' = w := by
  have e1 : (p : Int).tmod 2 = ((p % 2 : Nat) : Int) := by rw [Int.tmod_eq_emod_of_nonneg (by omega)]; omega
  have e3 : (p : Int).tdiv 2 = ((p / 2 : Nat) : Int) := by rw [Int.tdiv_eq_ediv_of_nonneg (by omega)]; omega
  have e4 : (((p / 2 : Nat) : Int) - 1) = ((p / 2 - 1 : Nat) : Int) := by omega
  have e5 : ((p / 2 - 1 : Nat) : Int).tdiv 2 = (((p / 2 - 1) / 2 : Nat) : Int) := by rw [Int.tdiv_eq_ediv_of_nonneg (by omega)]; omega
  have e6 : ((p / 2 - 1 : Nat) : Int) / 2 = (((p / 2 - 1) / 2 : Nat) : Int) := by omega
  have e7 : (p : Int) / 2 = ((p / 2 : Nat) : Int) := by omega
  have e8 : (p : Int) % 2 = ((p % 2 : Nat) : Int) := by omega
  have w1 : IntKind.i64.wrap ((p / 2 : Nat) : Int) = ((p / 2 : Nat) : Int) := by rw [IntKind.wrap_i64]; omega
  have w2 : IntKind.i64.wrap ((p / 2 - 1 : Nat) : Int) = ((p / 2 - 1 : Nat) : Int) := by rw [IntKind.wrap_i64]; omega
  have w3 : IntKind.i64.wrap (((p / 2 - 1) / 2 : Nat) : Int) = (((p / 2 - 1) / 2 : Nat) : Int) := by rw [IntKind.wrap_i64]; omega
  have w4 : IntKind.i64.wrap ((((p / 2 - 1) / 2 : Nat) : Int) * 2) = (((p / 2 - 1) / 2 : Nat) : Int) * 2 := by rw [IntKind.wrap_i64]; omega
  have w5 : IntKind.i64.wrap ((p % 2 : Nat) : Int) = ((p % 2 : Nat) : Int) := by rw [IntKind.wrap_i64]; omega
  have w6 : IntKind.i64.wrap ((((p / 2 - 1) / 2 : Nat) : Int) * 2 + ((p % 2 : Nat) : Int)) = ((up p : Nat) : Int) := by unfold up; rw [IntKind.wrap_i64]; omega
  generalize up p = U at w6 ⊢
  generalize p % 2 = r at *
  generalize (p / 2 - 1) / 2 = d at *
  generalize p / 2 - 1 = c at *
  generalize p / 2 = a at *
  go_enter Try.func61, Try.ntmps61
  go_wp2_with fail
  go_ret
  exact ⟨rfl, rfl⟩
/-- The other place of a pair. -/
def tw (p : Nat) : Nat := if p % 2 = 0 then p + 1 else p - 1
theorem xor_one (p : Nat) : p ^^^ 1 = tw p := by
  have h1 : (p ^^^ 1) / 2 = p / 2 := by rw [Nat.xor_div_two]; simp
  have h2 : (p ^^^ 1) % 2 = (p + 1) % 2 := by
    have h3 := Nat.testBit_xor p 1 0
    have h4 : (p ^^^ 1) % 2 = (if (p ^^^ 1).testBit 0 then 1 else 0) := by rw [Nat.testBit_zero]; rcases Nat.mod_two_eq_zero_or_one (p ^^^ 1) with h | h <;> simp [h]
    rw [h4, h3, Nat.testBit_zero, Nat.testBit_zero]
    rcases Nat.mod_two_eq_zero_or_one p with h | h <;> simp [h] <;> omega
  unfold tw
  split <;> omega
theorem bits_twin (p : Nat) (hp : p < 4611686018427387904) : bits .xor .i64 (p : Int) 1 = ((tw p : Nat) : Int) := by
  have hx : p ^^^ 1 < 2 ^ 62 := Nat.xor_lt_two_pow (by omega) (by omega)
  have h1 : (BitVec.ofInt 64 (p : Int)).toNat = p := by
    rw [BitVec.ofInt_natCast, BitVec.toNat_ofNat]; exact Nat.mod_eq_of_lt (by omega)
  show IntKind.i64.wrap ((BitVec.ofInt 64 (p : Int) ^^^ BitVec.ofInt 64 (1 : Int)).toNat : Int) = _
  rw [BitVec.toNat_xor, h1, show (BitVec.ofInt 64 (1 : Int)).toNat = 1 by rfl, ← xor_one, IntKind.wrap_i64]
  omega
/-- The place of p's kind in a pair. -/
def ofM (n pr p : Nat) : Option Nat := if n ≤ 2 * pr then none else if p % 2 = 0 ∨ 2 * pr + 1 = n then some (2 * pr) else some (2 * pr + 1)
def ofV : Option Nat → Value
  | none => .tuple #[.int .i64 0, .bool false]
  | some c => .tuple #[.int .i64 (c : Int), .bool true]
end Go.Proofs.Ytklhenblcgmfhaa
namespace Go.Proofs.Ytklhenblcgmfhaa
set_option linter.unusedVariables false
def acr (n p : Nat) : Nat := if tw p < n then tw p else up p + 1
/-- Where across looks. -/
theorem acr_is {n p : Nat} (hp : p < n) (hn : 1 < n) : acr n p < n ∧ acr n p ≠ p ∧ acr n p % 2 ≠ p % 2 ∧ (acr n p / 2 = p / 2 ∨ (p % 2 = 0 ∧ p + 1 = n ∧ 1 < p ∧ acr n p / 2 = (p / 2 - 1) / 2)) ∧ acr n p / 2 ≤ p / 2 := by
  unfold acr tw up
  split <;> split at * <;> omega
theorem acr_even {n p : Nat} (hp : p < n) (hn : 1 < n) (hl : n ≤ 4 * (p / 2) + 2) (h0 : p % 2 = 0) : (∀ b, b < n → b ≠ p → Rel p b → b = acr n p ∨ Rel (acr n p) b) ∧ ∀ a, a < n → a ≠ p → Rel a p → Rel a (acr n p) := by
  obtain ⟨h1, h2, h3, h4, h5⟩ := acr_is hp hn
  have anc : ∀ i, Anc i (p / 2) → i ≠ p / 2 → Anc i (acr n p / 2) := fun i hA hn' => by
    rcases h4 with e | ⟨_, _, _, e⟩
    · rw [e]; exact hA
    · rw [e]; exact hA.above hn'
  have leaf : ∀ b, b < n → Anc (p / 2) (b / 2) → b / 2 = p / 2 := fun b hb hA => by
    by_cases e : p / 2 = b / 2
    · exact e.symm
    · rcases hA.under e with h | h <;> have := h.le <;> omega
  refine ⟨fun b hb hne hR => ?_, fun a ha hne hR => ?_⟩
  · rcases hR with ⟨_, q2, q3⟩ | ⟨q1, _⟩ | ⟨_, q2, q3⟩
    · have := leaf b hb q3
      omega
    · omega
    · by_cases e : b / 2 = p / 2
      · refine .inl ?_
        rcases h4 with e2 | ⟨_, _, _, _⟩ <;> omega
      · refine .inr (.inr (.inl ⟨by omega, q2, ?_⟩))
        rcases q3 with q3 | q3
        · exact absurd (leaf b hb q3) e
        · exact anc _ q3 e
  · rcases hR with ⟨q1, _, q3⟩ | ⟨_, q2, _⟩ | ⟨_, q2, _⟩
    · exact .inr (.inr ⟨q1, by omega, .inl (anc _ q3 (by omega))⟩)
    · omega
    · omega
theorem acr_odd {n p : Nat} (hp : p < n) (hn : 1 < n) (hl : n ≤ 4 * (p / 2) + 2) (h0 : p % 2 = 1) : (∀ b, b < n → b ≠ p → Rel p b → Rel (acr n p) b) ∧ ∀ a, a < n → a ≠ p → Rel a p → a = acr n p ∨ Rel a (acr n p) := by
  obtain ⟨h1, h2, h3, h4, h5⟩ := acr_is hp hn
  have e0 : acr n p / 2 = p / 2 := by rcases h4 with e | ⟨e, _⟩ <;> omega
  have leaf : ∀ b, b < n → Anc (p / 2) (b / 2) → b / 2 = p / 2 := fun b hb hA => by
    by_cases e : p / 2 = b / 2
    · exact e.symm
    · rcases hA.under e with h | h <;> have := h.le <;> omega
  refine ⟨fun b hb hne hR => ?_, fun a ha hne hR => ?_⟩
  · rcases hR with ⟨q1, _⟩ | ⟨_, q2, q3⟩ | ⟨q1, _⟩
    · omega
    · exact .inr (.inr ⟨by omega, q2, .inr (by rw [e0]; exact q3)⟩)
    · omega
  · rcases hR with ⟨_, q2, _⟩ | ⟨q1, _, q3⟩ | ⟨q1, _, q3⟩
    · omega
    · have := leaf a ha q3
      omega
    · by_cases e : a / 2 = p / 2
      · exact .inl (by omega)
      · rcases q3 with q3 | q3
        · exact .inr (.inl ⟨q1, by omega, by rw [e0]; exact q3⟩)
        · exact absurd (leaf a ha q3) e
/-- The first look, where it changes the place. -/
theorem Ord.first {le : Nat → Nat → Prop} (T : Total le) {n : Nat} {f : Nat → Nat} {p x : Nat} (h : Ord le n f p) (hp : p < n) (hn : 1 < n) (hl : n ≤ 4 * (p / 2) + 2) (hb : if acr n p % 2 = 0 then le x (f (acr n p)) else le (f (acr n p)) x) :
    Ord le n (setF f p (f (acr n p))) (acr n p) ∧ Fits le n (setF f p (f (acr n p))) (acr n p) x := by
  obtain ⟨h1, h2, h3, h4, h5⟩ := acr_is hp hn
  refine ⟨fun a b ha hb' hab hah hbh hR => ?_, ?_⟩
  · by_cases ea : a = p
    · subst ea
      rw [setF_eq, setF_ne (Ne.symm hab)]
      refine h _ b h1 hb' (Ne.symm hbh) h2 (Ne.symm hab) ?_
      rcases Nat.mod_two_eq_zero_or_one a with e0 | e0
      · rcases (acr_even hp hn hl e0).1 b hb' (Ne.symm hab) hR with e | e
        · exact absurd e hbh
        · exact e
      · exact (acr_odd hp hn hl e0).1 b hb' (Ne.symm hab) hR
    · by_cases eb : b = p
      · subst eb
        rw [setF_eq, setF_ne ea]
        refine h a _ ha h1 hah ea h2 ?_
        rcases Nat.mod_two_eq_zero_or_one b with e0 | e0
        · exact (acr_even hp hn hl e0).2 a ha ea hR
        · rcases (acr_odd hp hn hl e0).2 a ha ea hR with e | e
          · exact absurd e hah
          · exact e
      · rw [setF_ne ea, setF_ne eb]
        exact h a b ha hb' hab ea eb hR
  · unfold Fits
    split <;> rename_i c
    · rw [if_pos c] at hb
      intro b hbn hbq hR
      by_cases eb : b = p
      · subst eb
        rw [setF_eq]
        exact hb
      · rw [setF_ne eb]
        exact T.trans _ _ _ hb (h _ _ h1 hbn (Ne.symm hbq) h2 eb hR)
    · rw [if_neg c] at hb
      intro a han haq hR
      by_cases ea : a = p
      · subst ea
        rw [setF_eq]
        exact hb
      · rw [setF_ne ea]
        exact T.trans _ _ _ (h _ _ han h1 haq ea h2 hR) hb
/-- The first look, where it leaves it. -/
theorem Ord.stays {le : Nat → Nat → Prop} (T : Total le) {n : Nat} {f : Nat → Nat} {p x : Nat} (h : Ord le n f p) (hp : p < n) (hn : 1 < n) (hl : n ≤ 4 * (p / 2) + 2) (hb : if acr n p % 2 = 0 then le (f (acr n p)) x else le x (f (acr n p))) : Fits le n f p x := by
  obtain ⟨h1, h2, h3, h4, h5⟩ := acr_is hp hn
  unfold Fits
  split <;> rename_i c
  · rw [if_neg (by omega)] at hb
    intro b hbn hbq hR
    rcases (acr_even hp hn hl c).1 b hbn hbq hR with e | e
    · rw [e]; exact hb
    · by_cases e2 : b = acr n p
      · rw [e2]; exact hb
      · exact T.trans _ _ _ hb (h _ _ h1 hbn (Ne.symm e2) h2 hbq e)
  · rw [if_pos (by omega)] at hb
    intro a han haq hR
    rcases (acr_odd hp hn hl (by omega)).2 a han haq hR with e | e
    · rw [e]; exact hb
    · by_cases e2 : a = acr n p
      · rw [e2]; exact hb
      · exact T.trans _ _ _ (h _ _ han h1 e2 haq h2 e) hb
end Go.Proofs.Ytklhenblcgmfhaa
namespace Go.Proofs.Ytklhenblcgmfhaa
open Go.RowKit
set_option maxRecDepth 100000
set_option linter.unusedVariables false
/-- What over tells. -/
def OvP (le : Nat → Nat → Prop) (x y p : Nat) (t : Bool) : Prop := if p % 2 = 0 then (t = true → le x y) ∧ (t = false → le y x) else (t = true → le y x) ∧ (t = false → le x y)
theorem ne_of_type {W : World} {a b : Nat} {cs cs' : Array Value} {t t' : TypeId} (h : W.heap[a]? = some (.cells cs t)) (k : W.heap[b]? = some (.cells cs' t')) (hn : t ≠ t') : a ≠ b := by
  rintro rfl
  rw [h] at k
  injection k with k
  injection k with _ e
  exact hn e
def Img (n : Nat) (f : Nat → Nat) (p b : Nat) : Prop := ∃ i, i < n ∧ i ≠ p ∧ f i = b
theorem img_put {n : Nat} {f : Nat → Nat} {frm to : Nat} (hf : frm < n) (ht : to < n) (hn : frm ≠ to) (b : Nat) : Img n (setF f to (f frm)) frm b ↔ Img n f to b := by
  constructor
  · rintro ⟨i, hi, hne, e⟩
    by_cases c : i = to
    · subst c
      rw [setF_eq] at e
      exact ⟨frm, hf, hn, e⟩
    · rw [setF_ne c] at e
      exact ⟨i, hi, c, e⟩
  · rintro ⟨i, hi, hne, e⟩
    by_cases c : i = frm
    · subst c
      exact ⟨to, ht, Ne.symm hn, by rw [setF_eq]; exact e⟩
    · exact ⟨i, hi, c, by rw [setF_ne hne]; exact e⟩
theorem pow_lt_many {d x n : Nat} (h : 2 ^ d * (x + 1) ≤ n) (hn : n < 1099511627777) : d ≤ 40 := by
  rcases Nat.lt_or_ge 40 d with h1 | h1
  · have h2 : 2 ^ 41 ≤ 2 ^ d := Nat.pow_le_pow_right (by decide) h1
    have h3 : 2 ^ d * 1 ≤ 2 ^ d * (x + 1) := Nat.mul_le_mul_left _ (by omega)
    have h4 : (2 : Nat) ^ 41 = 2199023255552 := by decide
    omega
  · exact h1
theorem img_lay {n : Nat} {f : Nat → Nat} {p x : Nat} (hp : p < n) (b : Nat) : Img n (setF f p x) n b ↔ Img n f p b ∨ b = x := by
  constructor
  · rintro ⟨i, hi, hne, e⟩
    by_cases c : i = p
    · subst c
      rw [setF_eq] at e
      exact .inr e.symm
    · rw [setF_ne c] at e
      exact .inl ⟨i, hi, c, e⟩
  · rintro (⟨i, hi, hne, e⟩ | rfl)
    · exact ⟨i, hi, by omega, by rw [setF_ne hne]; exact e⟩
    · exact ⟨p, hp, by omega, setF_eq⟩
theorem own_row {W : World} {base gp n cap : Nat} {t : TypeId} {f : Nat → Nat} {cs : Array Value} (h0 : base ≤ gp) (h1 : W.heap[gp]? = some (.cells cs t)) (h2 : cs.size = cap) (h3 : ∀ i, i < n → cs[i]? = some (.pointer (some ⟨f i, 0, none⟩))) (h4 : n ≤ cap) (h5 : cap ≤ maxLen) : W.ownsRow base t 1 (.slice (some ⟨gp, 0, none⟩) n cap) n ((List.range n).map fun i => .pointer (some ⟨f i, 0, none⟩)) := by
  refine ⟨by simp, .inr ⟨gp, cap, cs, rfl, h0, h1, by omega, h5, by omega, ?_⟩⟩
  refine List.ext_getElem? fun i => ?_
  rw [List.getElem?_take]
  split
  · rename_i hi
    have hi2 : i < n := by omega
    rw [Array.getElem?_toList, h3 i hi2]
    simp [hi2]
  · rename_i hi
    rw [List.getElem?_eq_none (by simp; omega)]
/-- The first one's block, or none. -/
def fst? (n : Nat) (f : Nat → Nat) : Option Nat := if n = 0 then none else some (f 0)
def lst? (n : Nat) (f : Nat → Nat) : Option Nat := if n = 0 then none else if n = 1 then some (f 0) else some (f 1)
theorem fst_in {n : Nat} {f : Nat → Nat} : ∀ b, fst? n f = some b → Img n f n b := fun b e => by
  unfold fst? at e
  split at e
  · cases e
  · cases e
    exact ⟨0, by omega, by omega, rfl⟩
theorem lst_in {n : Nat} {f : Nat → Nat} : ∀ b, lst? n f = some b → Img n f n b := fun b e => by
  unfold lst? at e
  split at e
  · cases e
  · split at e
    · cases e
      exact ⟨0, by omega, by omega, rfl⟩
    · cases e
      exact ⟨1, by omega, by omega, rfl⟩
def upN {α : Type} (f : Nat → α) (x : Nat) (v : α) : Nat → α := fun j => if j = x then v else f j
theorem upN_eq {α : Type} {f : Nat → α} {x : Nat} {v : α} : upN f x v x = v := by simp [upN]
theorem upN_ne {α : Type} {f : Nat → α} {x j : Nat} {v : α} (h : j ≠ x) : upN f x v j = f j := by simp [upN, h]
theorem leB_up {mod : Int} {tur : Bool} {it ke : Nat → Int} {x : Nat} {i k : Int} {y z : Nat} (hy : y ≠ x) (hz : z ≠ x) : leB mod tur (upN it x i) (upN ke x k) y z ↔ leB mod tur it ke y z := by
  unfold leB
  rw [upN_ne hy, upN_ne hz, upN_ne hy, upN_ne hz]
theorem info_parts {P : Program} {t : TypeId} {z : Option Value} {a b : Nat} (h : (P.info? t).map (fun i => (i.zero, i.size, i.bytes)) = some (z, a, b)) : ∃ i, P.info? t = some i ∧ i.zero = z ∧ i.size = a ∧ i.bytes = b := by
  cases e : P.info? t with
  | none => rw [e] at h; cases h
  | some i =>
    rw [e] at h
    simp at h
    exact ⟨i, rfl, h.1, h.2.1, h.2.2⟩
theorem map_ne {W : World} {a b : Nat} {es : Array MapEntry} {c : Nat} {cs : Array Value} {t : TypeId} (h : W.heap[a]? = some (.map es c)) (k : W.heap[b]? = some (.cells cs t)) : a ≠ b := by
  rintro rfl
  rw [h] at k
  cases k
theorem own_kept {W W' : World} {b : Nat} {t : TypeId} {s n : Nat} {v : Value} {xs : List Value} (h : W.ownsRow b t s v n xs) (hk : ∀ k, v.ownBlock = some k → W'.heap[k]? = W.heap[k]?) : W'.ownsRow b t s v n xs := by
  refine ⟨h.1, h.2.imp id ?_⟩
  rintro ⟨g, cap, cur, e, hb, hg, rest⟩
  exact ⟨g, cap, cur, e, hb, (hk g (by rw [e]; rfl)).trans hg, rest⟩
theorem step_append_run {P : Program} {ops : Array Oper} {o : Oper} {a : Act} {w : World} {K : Act → World → Prop} {Q : Exit → Act → World → Prop} {E : Prop} (hg : o.guard = none) (s x : Operand) (t : TypeId) (hop : o.op = Op.call { callee := Callee.builtin Builtin.append, args := #[s, x], argTypes := #[t, t] }) (sv xv : Value) (hs : a.eval s = sv) (hx : a.eval x = xv) (v' : Value) (w' : World)
    (hrun : (Builtin.append_ #[t, t] o.type #[sv, xv]).run P w = .ok v' w') (hK : K (a.put o.dst v') w') : if Region.wanted o (yielded ops a.tmps) = true then Oper.wp P o a w K Q else E := by
  have hw : Region.wanted o (yielded ops a.tmps) = true := by simp [Region.wanted, hg]
  rw [if_pos hw]
  unfold Oper.wp
  simp [execOp, hop, resolve, invoke, builtin, hs, hx, hrun, Result.andThen]
  exact hK

end Go.Proofs.Ytklhenblcgmfhaa
namespace Go.Proofs.Ytklhenblcgmfhaa
open Go.RowKit
set_option maxRecDepth 100000
set_option linter.unusedVariables false
theorem MeI.c1 {w : World} {hb ob gp n cap mb : Nat} {pu : Int} {f : Nat → Nat} {B : Nat → Prop} {it ke : Nat → Int} {va : Nat → Int} {hole : Nat} (h : MeI w hb ob gp n cap mb pu f B it ke va hole) : w.cell? ⟨hb, 1, none⟩ = some (.slice (some ⟨gp, 0, none⟩) n cap) := by simp [World.cell?, h.hd]
theorem MeI.at {w : World} {hb ob gp n cap mb : Nat} {pu : Int} {f : Nat → Nat} {B : Nat → Prop} {it ke : Nat → Int} {va : Nat → Int} {hole : Nat} (h : MeI w hb ob gp n cap mb pu f B it ke va hole) {i : Nat} (hi : i < n) : w.cell? ⟨gp, i, none⟩ = some (.pointer (some ⟨f i, 0, none⟩)) := by
  obtain ⟨cs, e, _, hc⟩ := h.row
  simp [World.cell?, e, hc i hi]
set_option maxHeartbeats 1000000 in
theorem overI_any {hb ob gp n cap mb : Nat} {pu : Int} {f : Nat → Nat} {B : Nat → Prop} {it ke : Nat → Int} {va : Nat → Int} {hole : Nat} {lv : Value} {nx mod : Int} {tur : Bool} {lies : Int} {N : Nat} (x y p : Nat) (w : World) (h : MeI w hb ob gp n cap mb pu f B it ke va hole) (ho : Ordr w ob lv nx mod tur lies N) (hN : N < 1000000000000) (hx : B x) (hy : B y) (hp : p < 4611686018427387904) :
    Calls Try.prog 59 #[.pointer (some ⟨hb, 0, none⟩), .pointer (some ⟨x, 0, none⟩), .pointer (some ⟨y, 0, none⟩), .int .i64 (p : Int)] w (Asks w ob lv nx mod tur lies N (OvP (leB mod tur it ke) x y p)) := by
  have A1 : Hid (Calls Try.prog 74 #[.pointer (some ⟨hb, 0, none⟩), .pointer (some ⟨x, 0, none⟩), .pointer (some ⟨y, 0, none⟩)] w (Asks w ob lv nx mod tur lies N (fun t => (t = true → leB mod tur it ke x y) ∧ (t = false → leB mod tur it ke y x)))) := aheadI_any x y w h ho hN hx hy
  have A2 : Hid (Calls Try.prog 74 #[.pointer (some ⟨hb, 0, none⟩), .pointer (some ⟨y, 0, none⟩), .pointer (some ⟨x, 0, none⟩)] w (Asks w ob lv nx mod tur lies N (fun t => (t = true → leB mod tur it ke y x) ∧ (t = false → leB mod tur it ke x y)))) := aheadI_any y x w h ho hN hy hx
  have E : Hid (Calls Try.prog 73 #[.int .i64 (p : Int)] w fun e w' => e = .returned (.bool (decide (p % 2 = 0))) ∧ w' = w) := even_any p hp w
  clear h ho
  rcases Nat.mod_two_eq_zero_or_one p with c | c
  · rw [show decide (p % 2 = 0) = true by simp [c]] at E
    go_enter Try.func59, Try.ntmps59
    go_wp2_with (first | (go_at_call 73; refine Calls.mono E.out ?_; rintro e w1 ⟨rfl, rfl⟩) | (go_at_call 74; refine Calls.mono A1.out ?_; rintro e w2 ⟨t, rfl, hp2, h5, hT⟩))
    go_ret
    exact ⟨t, rfl, fun e => by unfold OvP; rw [if_pos c]; exact hp2 e, h5, hT⟩
  · rw [show decide (p % 2 = 0) = false by simp [c]] at E
    go_enter Try.func59, Try.ntmps59
    go_wp2_with (first | (go_at_call 73; refine Calls.mono E.out ?_; rintro e w1 ⟨rfl, rfl⟩) | (go_at_call 74; refine Calls.mono A2.out ?_; rintro e w2 ⟨t, rfl, hp2, h5, hT⟩))
    go_ret
    exact ⟨t, rfl, fun e => by unfold OvP; rw [if_neg (by omega)]; exact hp2 e, h5, hT⟩
theorem acrossI_any {hb ob gp n cap mb : Nat} {pu : Int} {f : Nat → Nat} {B : Nat → Prop} {it ke : Nat → Int} {va : Nat → Int} {hole : Nat} (p : Nat) (w : World) (h : MeI w hb ob gp n cap mb pu f B it ke va hole) (hp : p < n) (hn : 1 < n) :
    Calls Try.prog 58 #[.pointer (some ⟨hb, 0, none⟩), .int .i64 (p : Int)] w fun e w' => e = .returned (.int .i64 (acr n p : Int)) ∧ w' = w := by
  have hl := h.lim
  have hle := h.le
  have h1 := h.c1
  have hx := bits_twin p (by omega)
  clear h
  go_enter Try.func58, Try.ntmps58
  by_cases c : tw p < n
  · have ea : acr n p = tw p := by unfold acr; rw [if_pos c]
    rw [ea]
    clear ea
    generalize tw p = T at *
    go_wp2_with fail
    go_ret
    exact ⟨rfl, rfl⟩
  · have ea : acr n p = up p + 1 := by unfold acr; rw [if_neg c]
    rw [ea]
    clear ea
    have h2 : 1 < p := by unfold tw at c; split at c <;> omega
    have A : Hid (Calls Try.prog 61 #[.int .i64 (p : Int)] w fun e w' => e = .returned (.int .i64 (up p : Int)) ∧ w' = w) := above_any p h2 (by omega) w
    have hu := up_lt h2
    have hw : IntKind.i64.wrap ((up p : Int) + 1) = ((up p + 1 : Nat) : Int) := by rw [IntKind.wrap_i64]; omega
    have ht : tw p < 4611686018427387904 := by unfold tw; split <;> omega
    generalize tw p = T at *
    generalize up p = U at *
    go_wp2_with (go_at_call 61; refine Calls.mono A.out ?_; rintro e w1 ⟨rfl, rfl⟩)
    go_ret
    exact ⟨by first | rfl | simp, rfl⟩
theorem ofI_any {hb ob gp n cap mb : Nat} {pu : Int} {f : Nat → Nat} {B : Nat → Prop} {it ke : Nat → Int} {va : Nat → Int} {hole : Nat} (pr p : Nat) (w : World) (h : MeI w hb ob gp n cap mb pu f B it ke va hole) (hp : p < 4611686018427387904) (hr : pr < 1152921504606846976) :
    Calls Try.prog 91 #[.pointer (some ⟨hb, 0, none⟩), .int .i64 (pr : Int), .int .i64 (p : Int)] w fun e w' => e = .returned (ofV (ofM n pr p)) ∧ w' = w := by
  have hl := h.lim
  have hle := h.le
  have h1 := h.c1
  have E : Hid (Calls Try.prog 73 #[.int .i64 (p : Int)] w fun e w' => e = .returned (.bool (decide (p % 2 = 0))) ∧ w' = w) := even_any p hp w
  have w1 : IntKind.i64.wrap (2 * (pr : Int)) = ((2 * pr : Nat) : Int) := by rw [IntKind.wrap_i64]; omega
  have w2 : IntKind.i64.wrap (((2 * pr : Nat) : Int) + 1) = ((2 * pr + 1 : Nat) : Int) := by rw [IntKind.wrap_i64]; omega
  clear h
  by_cases c : n ≤ 2 * pr
  · rw [show ofM n pr p = none by unfold ofM; rw [if_pos c]]
    go_enter Try.func91, Try.ntmps91
    go_wp2_with fail
    go_ret2
    exact ⟨rfl, rfl⟩
  · by_cases c2 : p % 2 = 0
    · rw [show ofM n pr p = some (2 * pr) by unfold ofM; rw [if_neg c, if_pos (.inl c2)]]
      rw [show decide (p % 2 = 0) = true by simp [c2]] at E
      go_enter Try.func91, Try.ntmps91
      go_wp2_with (go_at_call 73; refine Calls.mono E.out ?_; rintro e w1 ⟨rfl, rfl⟩)
      go_ret2
      exact ⟨by simp [ofV], rfl⟩
    · rw [show decide (p % 2 = 0) = false by simp [c2]] at E
      by_cases c3 : 2 * pr + 1 = n
      · rw [show ofM n pr p = some (2 * pr) by unfold ofM; rw [if_neg c, if_pos (.inr c3)]]
        go_enter Try.func91, Try.ntmps91
        go_wp2_with (go_at_call 73; refine Calls.mono E.out ?_; rintro e w1 ⟨rfl, rfl⟩)
        go_ret2
        exact ⟨by simp [ofV], rfl⟩
      · rw [show ofM n pr p = some (2 * pr + 1) by unfold ofM; rw [if_neg c, if_neg (by omega)]]
        have c4 : ¬ (2 * (pr : Int) + 1 = (n : Int)) := by omega
        go_enter Try.func91, Try.ntmps91
        go_wp2_with (go_at_call 73; refine Calls.mono E.out ?_; rintro e w1 ⟨rfl, rfl⟩)
        go_ret2
        exact ⟨by simp [ofV], rfl⟩
end Go.Proofs.Ytklhenblcgmfhaa
namespace Go.Proofs.Ytklhenblcgmfhaa
open Go.RowKit
set_option maxRecDepth 100000
set_option linter.unusedVariables false
/-- What below tells: none, or the one that goes up. -/
def BelI (w : World) (n : Nat) (f : Nat → Nat) (le : Nat → Nat → Prop) (ob : Nat) (lv : Value) (nx mod : Int) (tur : Bool) (lies : Int) (N p : Nat) (e : Ending) (w' : World) : Prop :=
  (e = .returned (.tuple #[.int .i64 0, .bool false]) ∧ n ≤ 4 * (p / 2) + 2 ∧ Ordr w' ob lv nx mod tur lies N ∧ Tn (fun k => k = ob) w w') ∨
  ∃ c M : Nat, e = .returned (.tuple #[.int .i64 (c : Int), .bool true]) ∧ c < n ∧ (c / 2 = 2 * (p / 2) + 1 ∨ c / 2 = 2 * (p / 2) + 2) ∧ (lies = 0 → Below2 le n f p c) ∧ N ≤ M ∧ M ≤ N + 1 ∧ Ordr w' ob lv nx mod tur lies M ∧ Tn (fun k => k = ob) w w'
set_option maxHeartbeats 2000000 in
theorem belowI_any {hb ob gp n cap mb : Nat} {pu : Int} {f : Nat → Nat} {B : Nat → Prop} {it ke : Nat → Int} {va : Nat → Int} {lv : Value} {nx mod : Int} {tur : Bool} {lies : Int} {N : Nat} (p : Nat) (w : World) (h : MeI w hb ob gp n cap mb pu f B it ke va p) (ho : Ordr w ob lv nx mod tur lies N) (hN : N < 1000000000000) (hp : p < n) :
    Calls Try.prog 78 #[.pointer (some ⟨hb, 0, none⟩), .int .i64 (p : Int)] w (BelI w n f (leB mod tur it ke) ob lv nx mod tur lies N p) := by
  have hl := h.lim
  have hle := h.le
  obtain ⟨k, ek⟩ : ∃ k, k = p / 2 := ⟨_, rfl⟩
  obtain ⟨P1, e1⟩ : ∃ P1, P1 = 2 * k + 1 := ⟨_, rfl⟩
  obtain ⟨P2, e2⟩ : ∃ P2, P2 = 2 * k + 2 := ⟨_, rfl⟩
  have d1 : (p : Int).tdiv 2 = (k : Int) := by rw [Int.tdiv_eq_ediv_of_nonneg (by omega)]; omega
  have d2 : (p : Int) / 2 = (k : Int) := by omega
  have w0 : IntKind.i64.wrap (k : Int) = (k : Int) := by rw [IntKind.wrap_i64]; omega
  have w1 : IntKind.i64.wrap ((k : Int) * 2) = (k : Int) * 2 := by rw [IntKind.wrap_i64]; omega
  have w2 : IntKind.i64.wrap ((k : Int) * 2 + 1) = (P1 : Int) := by rw [IntKind.wrap_i64]; omega
  have w3 : IntKind.i64.wrap ((P1 : Int) + 1) = (P2 : Int) := by rw [IntKind.wrap_i64]; omega
  have O1 := ofI_any P1 p w h (by omega) (by omega)
  have O2 := ofI_any P2 p w h (by omega) (by omega)
  have HO : Hid (Ordr w ob lv nx mod tur lies N) := ho
  have HE : Hid (k = p / 2 ∧ P1 = 2 * k + 1 ∧ P2 = 2 * k + 2) := ⟨ek, e1, e2⟩
  by_cases c1 : n ≤ 2 * P1
  · rw [show ofM n P1 p = none by unfold ofM; rw [if_pos c1]] at O1
    have O1' : Hid (Calls Try.prog 91 #[.pointer (some ⟨hb, 0, none⟩), .int .i64 (P1 : Int), .int .i64 (p : Int)] w fun e w' => e = .returned (.tuple #[.int .i64 0, .bool false]) ∧ w' = w) := O1
    clear O1 O2 h ho ek e1 e2
    go_enter Try.func78, Try.ntmps78
    go_wp2_with (go_at_call 91; refine Calls.mono O1'.out ?_; rintro e w9 ⟨rfl, rfl⟩)
    go_ret2
    exact .inl ⟨rfl, by have := HE.out; omega, HO.out, Tn.refl _ _⟩
  · obtain ⟨l, el⟩ : ∃ l, ofM n P1 p = some l := by unfold ofM; rw [if_neg c1]; split <;> exact ⟨_, rfl⟩
    have fl : l < n ∧ l / 2 = P1 ∧ (l % 2 = p % 2 ∨ (p % 2 = 1 ∧ l % 2 = 0 ∧ l + 1 = n)) ∧ (2 * P1 + 1 < n → l % 2 = p % 2) := by
      unfold ofM at el
      rw [if_neg c1] at el
      split at el <;> cases el <;> omega
    have HL : Hid (l < n ∧ l / 2 = P1 ∧ (l % 2 = p % 2 ∨ (p % 2 = 1 ∧ l % 2 = 0 ∧ l + 1 = n)) ∧ (2 * P1 + 1 < n → l % 2 = p % 2)) := fl
    rw [el] at O1
    have O1' : Hid (Calls Try.prog 91 #[.pointer (some ⟨hb, 0, none⟩), .int .i64 (P1 : Int), .int .i64 (p : Int)] w fun e w' => e = .returned (.tuple #[.int .i64 (l : Int), .bool true]) ∧ w' = w) := O1
    clear O1 el
    by_cases c2 : n ≤ 2 * P2
    · rw [show ofM n P2 p = none by unfold ofM; rw [if_pos c2]] at O2
      have O2' : Hid (Calls Try.prog 91 #[.pointer (some ⟨hb, 0, none⟩), .int .i64 (P2 : Int), .int .i64 (p : Int)] w fun e w' => e = .returned (.tuple #[.int .i64 0, .bool false]) ∧ w' = w) := O2
      clear O2 h ho fl ek e1 e2
      go_enter Try.func78, Try.ntmps78
      go_wp2_with (first | (go_at_call_of 91 (Value.int IntKind.i64 (P1 : Int)); refine Calls.mono O1'.out ?_; rintro e w9 ⟨rfl, rfl⟩) | (go_at_call_of 91 (Value.int IntKind.i64 (P2 : Int)); refine Calls.mono O2'.out ?_; rintro e w9 ⟨rfl, rfl⟩))
      go_quiet (fail)
      go_wp2_with fail
      go_ret2
      refine .inr ⟨l, N, rfl, HL.out.1, by have := HE.out; have := HL.out; omega, fun _ => ⟨HL.out.1, HL.out.2.2.1, by have := HE.out; have := HL.out; omega, fun d hd hne hk hk2 => ?_⟩, Nat.le_refl _, by omega, HO.out.kept rfl, (Tn.refl _ _).drewN _⟩
      have := HE.out
      have := HL.out
      omega
    · obtain ⟨q, eq⟩ : ∃ q, ofM n P2 p = some q := by unfold ofM; rw [if_neg c2]; split <;> exact ⟨_, rfl⟩
      have fq : q < n ∧ q / 2 = P2 ∧ (q % 2 = p % 2 ∨ (p % 2 = 1 ∧ q % 2 = 0 ∧ q + 1 = n)) := by
        unfold ofM at eq
        rw [if_neg c2] at eq
        split at eq <;> cases eq <;> omega
      have HQ : Hid (q < n ∧ q / 2 = P2 ∧ (q % 2 = p % 2 ∨ (p % 2 = 1 ∧ q % 2 = 0 ∧ q + 1 = n))) := fq
      rw [eq] at O2
      have O2' : Hid (Calls Try.prog 91 #[.pointer (some ⟨hb, 0, none⟩), .int .i64 (P2 : Int), .int .i64 (p : Int)] w fun e w' => e = .returned (.tuple #[.int .i64 (q : Int), .bool true]) ∧ w' = w) := O2
      have hln := fl.1
      have hqn := fq.1
      have b1 := h.c1
      have a1 := h.at hln
      have a2 := h.at hqn
      have Bl : B (f l) := h.fB l hln (by omega)
      have Bq : B (f q) := h.fB q hqn (by omega)
      have OV : Hid (Calls Try.prog 59 #[.pointer (some ⟨hb, 0, none⟩), .pointer (some ⟨f q, 0, none⟩), .pointer (some ⟨f l, 0, none⟩), .int .i64 (p : Int)] w.drew (Asks w.drew ob lv nx mod tur lies N (OvP (leB mod tur it ke) (f q) (f l) p))) := overI_any (f q) (f l) p w.drew (h.keep fun _ _ _ _ _ => rfl) (ho.kept rfl) hN Bq Bl (by omega)
      have HM : Hid (MeI w hb ob gp n cap mb pu f B it ke va p) := h
      clear O2 h ho fl fq ek e1 e2 eq Bl Bq
      go_enter Try.func78, Try.ntmps78
      go_wp2_with (first | (go_at_call_of 91 (Value.int IntKind.i64 (P1 : Int)); refine Calls.mono O1'.out ?_; rintro e w9 ⟨rfl, rfl⟩) | (go_at_call_of 91 (Value.int IntKind.i64 (P2 : Int)); refine Calls.mono O2'.out ?_; rintro e w9 ⟨rfl, rfl⟩))
      rename_i hz
      go_region_held3 (fun w8 => w8.cell? ⟨hb, 1, none⟩ = some (.slice (some ⟨gp, 0, none⟩) n cap) ∧ w8.cell? ⟨gp, l, none⟩ = some (.pointer (some ⟨f l, 0, none⟩)) ∧ w8.cell? ⟨gp, q, none⟩ = some (.pointer (some ⟨f q, 0, none⟩))) (first | (simp [go_sem, *]; done) | (trace_state; fail))
        (first
          | (go_at_call 59; refine Calls.mono OV.out ?_; rintro e w5 ⟨t, rfl, hp5, h5, hT⟩; have H5 : Hid ((lies = 0 → OvP (leB mod tur it ke) (f q) (f l) p t) ∧ Ordr w5 ob lv nx mod tur lies (N + 1) ∧ Tn (fun k => k = ob) w9 w5) := ⟨hp5, h5, ⟨hT.os, hT.tape, hT.output, hT.size, hT.block⟩⟩; have HM5 := HM.out.keep (keep_ask HO.out H5.out.2.2); have m0 := HM5.c1; have m1 := HM5.at hln; have m2 := HM5.at hqn; clear hp5 h5 hT HM5))
      refine hz _ _ ?_
      cases t
      · go_wp2_with fail
        go_ret2
        refine .inr ⟨l, N + 1, rfl, HL.out.1, by have := HE.out; have := HL.out; omega, fun e0 => ⟨HL.out.1, HL.out.2.2.1, by have := HE.out; have := HL.out; omega, fun d hd hne hk hk2 => ?_⟩, by omega, by omega, H5.out.2.1, H5.out.2.2⟩
        have h1 := H5.out.1 e0
        have h2 : d = q := by have := HE.out; have := HL.out; have := HQ.out; omega
        subst h2
        unfold OvP at h1
        split <;> rename_i c9
        · rw [if_pos c9] at h1
          exact h1.2 rfl
        · rw [if_neg c9] at h1
          exact h1.2 rfl
      · go_wp2_with fail
        go_ret2
        refine .inr ⟨q, N + 1, rfl, HQ.out.1, by have := HE.out; have := HQ.out; omega, fun e0 => ⟨HQ.out.1, HQ.out.2.2, by have := HE.out; have := HQ.out; omega, fun d hd hne hk hk2 => ?_⟩, by omega, by omega, H5.out.2.1, H5.out.2.2⟩
        have h1 := H5.out.1 e0
        have h2 : d = l := by have := HE.out; have := HL.out; have := HQ.out; omega
        subst h2
        unfold OvP at h1
        split <;> rename_i c9
        · rw [if_pos c9] at h1
          exact h1.1 rfl
        · rw [if_neg c9] at h1
          exact h1.1 rfl
end Go.Proofs.Ytklhenblcgmfhaa
namespace Go.Proofs.Ytklhenblcgmfhaa
open Go.RowKit
set_option maxRecDepth 100000
set_option linter.unusedVariables false
theorem MeI.inj {W : World} {hb ob gp n cap mb : Nat} {pu : Int} {f : Nat → Nat} {B : Nat → Prop} {it ke : Nat → Int} {va : Nat → Int} {hole : Nat} (h : MeI W hb ob gp n cap mb pu f B it ke va hole) {i j : Nat} (hi : i < n) (hj : j < n) (h1 : i ≠ hole) (h2 : j ≠ hole) (e : f i = f j) : i = j := by
  have a := h.pl i hi h1
  have b := h.pl j hj h2
  rw [e, b] at a
  simp at a
  omega
/-- What lies at from goes to the empty place; from is empty then. -/
theorem MeI.put {W : World} {hb ob gp n cap mb : Nat} {pu : Int} {f : Nat → Nat} {B : Nat → Prop} {it ke : Nat → Int} {va : Nat → Int} {to : Nat} (h : MeI W hb ob gp n cap mb pu f B it ke va to) {frm : Nat} (hf : frm < n) (ht : to < n) (hn : frm ≠ to) :
    MeI ((W.setCell ⟨gp, to, none⟩ (.pointer (some ⟨f frm, 0, none⟩))).setCell ⟨f frm, 3, none⟩ (.int .i64 (to : Int))) hb ob gp n cap mb pu (setF f to (f frm)) B it ke va frm := by
  obtain ⟨cs, ec, hsz, hc⟩ := h.row
  have px := h.pl frm hf hn
  have n1 : gp ≠ f frm := ne_of_type ec px (by decide)
  have n2 : hb ≠ gp := ne_of_type h.hd ec (by decide)
  have n3 : hb ≠ f frm := ne_of_type h.hd px (by decide)
  have kept : ∀ k, k ≠ gp → k ≠ f frm → ((W.setCell ⟨gp, to, none⟩ (.pointer (some ⟨f frm, 0, none⟩))).setCell ⟨f frm, 3, none⟩ (.int .i64 (to : Int))).heap[k]? = W.heap[k]? := fun k h1 h2 => (Below.heap_setCell _ _ _ k h2).trans (Below.heap_setCell _ _ _ k h1)
  have hx : ((W.setCell ⟨gp, to, none⟩ (.pointer (some ⟨f frm, 0, none⟩))).setCell ⟨f frm, 3, none⟩ (.int .i64 (to : Int))).heap[f frm]? = some (.cells #[.int .i64 (it (f frm)), .int .i64 (ke (f frm)), .int .i64 (va (f frm)), .int .i64 (to : Int)] 81) :=
    heap_setCell_same _ (f frm) 3 _ _ _ ((Below.heap_setCell _ _ _ _ (Ne.symm n1)).trans px)
  refine { hd := (kept hb n2 n3).trans h.hd, row := ⟨cs.setIfInBounds to (.pointer (some ⟨f frm, 0, none⟩)), ?_, by simpa using hsz, fun i hi => ?_⟩, le := h.le, lim := h.lim, th := fun b hb' => ?_, fB := fun i hi hne => ?_, pl := fun i hi hne => ?_, wf := h.wf }
  · exact (Below.heap_setCell _ _ _ _ n1).trans (heap_setCell_same W gp to cs _ _ ec)
  · have hle := h.le
    by_cases e : i = to
    · subst e
      rw [setF_eq, Array.getElem?_setIfInBounds_self_of_lt (by omega)]
    · rw [setF_ne e, Array.getElem?_setIfInBounds_ne (Ne.symm e)]
      exact hc i hi
  · by_cases e : b = f frm
    · subst e
      exact ⟨_, hx⟩
    · obtain ⟨q, eq⟩ := h.th b hb'
      exact ⟨q, (kept b (Ne.symm (ne_of_type ec eq (by decide))) e).trans eq⟩
  · by_cases e : i = to
    · subst e
      rw [setF_eq]
      exact h.fB frm hf hn
    · rw [setF_ne e]
      exact h.fB i hi e
  · by_cases e : i = to
    · subst e
      rw [setF_eq]
      exact hx
    · rw [setF_ne e]
      have pi := h.pl i hi e
      exact (kept (f i) (Ne.symm (ne_of_type ec pi (by decide))) fun e2 => hne (h.inj hi hf e hn e2)).trans pi
theorem putI_any {hb ob gp n cap mb : Nat} {pu : Int} {f : Nat → Nat} {B : Nat → Prop} {it ke : Nat → Int} {va : Nat → Int} {to : Nat} {lv : Value} {nx mod : Int} {tur : Bool} {lies : Int} {N : Nat} (frm : Nat) (w : World) (h : MeI w hb ob gp n cap mb pu f B it ke va to) (ho : Ordr w ob lv nx mod tur lies N) (hf : frm < n) (ht : to < n) (hn : frm ≠ to) :
    Calls Try.prog 60 #[.pointer (some ⟨hb, 0, none⟩), .int .i64 (frm : Int), .int .i64 (to : Int)] w fun e w' => e = .returned (.tuple #[]) ∧ MeI w' hb ob gp n cap mb pu (setF f to (f frm)) B it ke va frm ∧ Ordr w' ob lv nx mod tur lies N ∧ Tn (fun k => k = gp ∨ B k) w w' := by
  have hl := h.lim
  have hle := h.le
  have b1 := h.c1
  have a1 := h.at hf
  have a2 := h.at ht
  obtain ⟨cs, ec, hsz, hc⟩ := h.row
  have px := h.pl frm hf hn
  have n1 : f frm ≠ gp := ne_of_type px ec (by decide)
  have z1 : w.frozen? ⟨gp, to, none⟩ = false := by simp [World.frozen?, ec]
  have z2 : w.cell? ⟨f frm, 3, none⟩ = some (.int .i64 (frm : Int)) := by simp [World.cell?, px]
  have z3 : w.frozen? ⟨f frm, 3, none⟩ = false := by simp [World.frozen?, px]
  have HP : Hid (MeI ((w.setCell ⟨gp, to, none⟩ (.pointer (some ⟨f frm, 0, none⟩))).setCell ⟨f frm, 3, none⟩ (.int .i64 (to : Int))) hb ob gp n cap mb pu (setF f to (f frm)) B it ke va frm ∧ Ordr ((w.setCell ⟨gp, to, none⟩ (.pointer (some ⟨f frm, 0, none⟩))).setCell ⟨f frm, 3, none⟩ (.int .i64 (to : Int))) ob lv nx mod tur lies N ∧ Tn (fun k => k = gp ∨ B k) w ((w.setCell ⟨gp, to, none⟩ (.pointer (some ⟨f frm, 0, none⟩))).setCell ⟨f frm, 3, none⟩ (.int .i64 (to : Int)))) :=
    ⟨h.put hf ht hn, ho.kept ((Below.heap_setCell _ _ _ _ (ne_of_type ho.at' px (by decide))).trans (Below.heap_setCell _ _ _ _ (ne_of_type ho.at' ec (by decide)))), ((Tn.refl _ _).set (fun _ => .inl rfl) _ _).set (fun _ => .inr (h.fB frm hf hn)) _ _⟩
  clear h ho ec hc px
  generalize f frm = x at *
  go_enter Try.func60, Try.ntmps60
  go_wp2_with fail
  refine bodyPost_end (results_none rfl _ _ _) rfl ?_
  exact ⟨rfl, HP.out⟩
end Go.Proofs.Ytklhenblcgmfhaa
namespace Go.Proofs.Ytklhenblcgmfhaa
open Go.RowKit
set_option maxRecDepth 100000
set_option linter.unusedVariables false
/-- A hole went from p to p', things moved up. -/
structure SnkI (w0 w : World) (hb ob gp n cap mb : Nat) (pu : Int) (f0 f : Nat → Nat) (B : Nat → Prop) (it ke : Nat → Int) (va : Nat → Int) (lv : Value) (nx mod : Int) (tur : Bool) (lies : Int) (N0 N p0 p : Nat) : Prop where
  me : MeI w hb ob gp n cap mb pu f B it ke va p
  od : Ordr w ob lv nx mod tur lies N
  lt : p < n
  ge : N0 ≤ N
  many : 2 ^ (N - N0) * (p0 / 2 + 1) ≤ p / 2 + 1
  ord : lies = 0 → Ord (leB mod tur it ke) n f0 p0 → Ord (leB mod tur it ke) n f p
  img : ∀ b, Img n f p b ↔ Img n f0 p0 b
  tn : Tn (fun k => k = ob ∨ k = gp ∨ B k) w0 w
def SinksI (w0 : World) (hb ob gp n cap mb : Nat) (pu : Int) (f0 : Nat → Nat) (B : Nat → Prop) (it ke : Nat → Int) (va : Nat → Int) (lv : Value) (nx mod : Int) (tur : Bool) (lies : Int) (N0 p0 : Nat) (e : Ending) (w : World) : Prop :=
  ∃ (p : Nat) (f : Nat → Nat) (N : Nat), e = .returned (.int .i64 (p : Int)) ∧ SnkI w0 w hb ob gp n cap mb pu f0 f B it ke va lv nx mod tur lies N0 N p0 p ∧ n ≤ 4 * (p / 2) + 2
set_option maxHeartbeats 1000000 in
theorem sinkI_any {hb ob gp n cap mb : Nat} {pu : Int} {f : Nat → Nat} {B : Nat → Prop} {it ke : Nat → Int} {va : Nat → Int} {lv : Value} {nx mod : Int} {tur : Bool} {lies : Int} {N : Nat} (p : Nat) (w : World) (h : MeI w hb ob gp n cap mb pu f B it ke va p) (ho : Ordr w ob lv nx mod tur lies N) (hN : N < 999999999900) (hp : p < n) :
    Calls Try.prog 66 #[.pointer (some ⟨hb, 0, none⟩), .int .i64 (p : Int)] w (SinksI w hb ob gp n cap mb pu f B it ke va lv nx mod tur lies N p) := by
  have S0 : Hid (SnkI w w hb ob gp n cap mb pu f f B it ke va lv nx mod tur lies N N p p) := ⟨h, ho, hp, Nat.le_refl _, by simp, fun _ h => h, fun _ => Iff.rfl, Tn.refl _ _⟩
  have hl : n ≤ 1099511627776 := h.lim
  clear h ho
  go_enter Try.func66, Try.ntmps66
  go_wp2_with fail
  go_loopw [1] (fun t wr => ∃ (p' : Nat) (f' : Nat → Nat) (M : Nat), t = .int .i64 (p' : Int) ∧ p' < n ∧ Hid (SnkI w wr hb ob gp n cap mb pu f f' B it ke va lv nx mod tur lies N M p p')) (fun t _ => n - (intOf t).toNat)
  case atStart => exact ⟨p, f, N, rfl, hp, S0⟩
  case round =>
    clear S0
    obtain ⟨p', f', M, rfl, hp', hS⟩ := hrel
    have hM : M - N ≤ 40 := pow_lt_many hS.out.many (by omega)
    have BE : Hid (Calls Try.prog 78 #[.pointer (some ⟨hb, 0, none⟩), .int .i64 (p' : Int)] wr (BelI wr n f' (leB mod tur it ke) ob lv nx mod tur lies M p')) := belowI_any p' wr hS.out.me hS.out.od (by omega) hp'
    go_wp2_with fail
    refine Calls.mono BE.out ?_
    clear BE
    rintro e w1 (⟨rfl, hlast, ho1, hT⟩ | ⟨c, M2, rfl, hc, hkid, hbest, hM1, hM2, ho1, hT⟩)
    · have HR : Hid (SnkI w w1 hb ob gp n cap mb pu f f' B it ke va lv nx mod tur lies N M p p' ∧ n ≤ 4 * (p' / 2) + 2) := ⟨⟨hS.out.me.keep (keep_ask hS.out.od hT), ho1, hp', hS.out.ge, hS.out.many, hS.out.ord, hS.out.img, hS.out.tn.trans hT (fun k _ e => .inl e)⟩, hlast⟩
      clear hS ho1 hT
      go_wp2_with fail
      go_ret
      exact ⟨p', f', M, rfl, HR.out⟩
    · have hcp : c ≠ p' := by intro e; subst e; omega
      have HM1 := hS.out.me.keep (keep_ask hS.out.od hT)
      have PU : Hid (Calls Try.prog 60 #[.pointer (some ⟨hb, 0, none⟩), .int .i64 (c : Int), .int .i64 (p' : Int)] w1 fun e w' => e = .returned (.tuple #[]) ∧ MeI w' hb ob gp n cap mb pu (setF f' p' (f' c)) B it ke va c ∧ Ordr w' ob lv nx mod tur lies M2 ∧ Tn (fun k => k = gp ∨ B k) w1 w') := putI_any c w1 HM1 ho1 hc hp' hcp
      have HX : Hid ((c / 2 = 2 * (p' / 2) + 1 ∨ c / 2 = 2 * (p' / 2) + 2) ∧ (lies = 0 → Below2 (leB mod tur it ke) n f' p' c) ∧ M ≤ M2 ∧ M2 ≤ M + 1 ∧ Tn (fun k => k = ob) wr w1) := ⟨hkid, hbest, hM1, hM2, hT⟩
      clear HM1 hbest hM1 hM2 ho1 hT
      go_wp2_with (go_at_call 60; refine Calls.mono PU.out ?_; rintro e w2 ⟨rfl, hm2, ho2, hT2⟩)
      go_roundw
      case rel =>
        refine ⟨c, _, M2, rfl, hc, hm2, ho2, hc, ?_, ?_, fun e h0 => ?_, fun b => (img_put hc hp' hcp b).trans (hS.out.img b), ?_⟩
        · have := hS.out.ge
          have := HX.out
          omega
        · obtain ⟨hk, _, h3, h4, _⟩ := HX.out
          have hge := hS.out.ge
          have hmany := hS.out.many
          have h5 : 2 ^ (M2 - N) ≤ 2 ^ (M - N + 1) := Nat.pow_le_pow_right (by decide) (by omega)
          have h6 : 2 ^ (M2 - N) * (p / 2 + 1) ≤ 2 ^ (M - N + 1) * (p / 2 + 1) := Nat.mul_le_mul_right _ h5
          rw [Nat.pow_succ, Nat.mul_comm (2 ^ (M - N)) 2, Nat.mul_assoc] at h6
          omega
        · exact (hS.out.ord e h0).sink (leB_total _ _ _ _) hp' (HX.out.2.1 e)
        · exact (hS.out.tn.trans HX.out.2.2.2.2 (fun k _ e => .inl e)).trans hT2 (fun k _ e => .inr e)
      case measure =>
        simp [intOf]
        omega
end Go.Proofs.Ytklhenblcgmfhaa
namespace Go.Proofs.Ytklhenblcgmfhaa
open Go.RowKit
set_option maxRecDepth 100000
set_option linter.unusedVariables false
/-- x on its way up: its place p is empty yet. -/
structure RisI (w0 w : World) (hb ob gp n cap mb : Nat) (pu : Int) (f0 f : Nat → Nat) (B : Nat → Prop) (it ke : Nat → Int) (va : Nat → Int) (lv : Value) (nx mod : Int) (tur : Bool) (lies : Int) (N0 N p0 p x : Nat) : Prop where
  me : MeI w hb ob gp n cap mb pu f B it ke va p
  od : Ordr w ob lv nx mod tur lies N
  lt : p < n
  ge : N0 ≤ N
  few : 2 ^ (N - N0) * (p / 2 + 1) ≤ 2 * (p0 / 2 + 1)
  ord : lies = 0 → Ord (leB mod tur it ke) n f0 p0 → Ord (leB mod tur it ke) n f p ∧ Fits (leB mod tur it ke) n f p x
  img : ∀ b, Img n f p b ↔ Img n f0 p0 b
  tn : Tn (fun k => k = ob ∨ k = gp ∨ B k) w0 w
/-- x lies. -/
structure LayI (w0 w : World) (hb ob gp n cap mb : Nat) (pu : Int) (f0 f : Nat → Nat) (B : Nat → Prop) (it ke : Nat → Int) (va : Nat → Int) (lv : Value) (nx mod : Int) (tur : Bool) (lies : Int) (N0 N p0 x : Nat) : Prop where
  me : MeI w hb ob gp n cap mb pu f B it ke va n
  od : Ordr w ob lv nx mod tur lies N
  ge : N0 ≤ N
  few : 2 ^ (N - N0) ≤ 4 * (p0 / 2 + 1)
  ord : lies = 0 → Ord (leB mod tur it ke) n f0 p0 → Ord (leB mod tur it ke) n f n
  img : ∀ b, Img n f n b ↔ Img n f0 p0 b ∨ b = x
  tn : Tn (fun k => k = ob ∨ k = gp ∨ B k) w0 w
theorem MeI.lay {W : World} {hb ob gp n cap mb : Nat} {pu : Int} {f : Nat → Nat} {B : Nat → Prop} {it ke : Nat → Int} {va : Nat → Int} {p : Nat} (h : MeI W hb ob gp n cap mb pu f B it ke va p) {x : Nat} (hp : p < n) (hB : B x) (hx : ¬ Img n f p x) :
    MeI ((W.setCell ⟨gp, p, none⟩ (.pointer (some ⟨x, 0, none⟩))).setCell ⟨x, 3, none⟩ (.int .i64 (p : Int))) hb ob gp n cap mb pu (setF f p x) B it ke va n := by
  obtain ⟨cs, ec, hsz, hc⟩ := h.row
  obtain ⟨q, px⟩ := h.th x hB
  have n1 : gp ≠ x := ne_of_type ec px (by decide)
  have n2 : hb ≠ gp := ne_of_type h.hd ec (by decide)
  have n3 : hb ≠ x := ne_of_type h.hd px (by decide)
  have kept : ∀ k, k ≠ gp → k ≠ x → ((W.setCell ⟨gp, p, none⟩ (.pointer (some ⟨x, 0, none⟩))).setCell ⟨x, 3, none⟩ (.int .i64 (p : Int))).heap[k]? = W.heap[k]? := fun k h1 h2 => (Below.heap_setCell _ _ _ k h2).trans (Below.heap_setCell _ _ _ k h1)
  have hx2 : ((W.setCell ⟨gp, p, none⟩ (.pointer (some ⟨x, 0, none⟩))).setCell ⟨x, 3, none⟩ (.int .i64 (p : Int))).heap[x]? = some (.cells #[.int .i64 (it x), .int .i64 (ke x), .int .i64 (va x), .int .i64 (p : Int)] 81) :=
    heap_setCell_same _ x 3 _ _ _ ((Below.heap_setCell _ _ _ _ (Ne.symm n1)).trans px)
  refine { hd := (kept hb n2 n3).trans h.hd, row := ⟨cs.setIfInBounds p (.pointer (some ⟨x, 0, none⟩)), ?_, by simpa using hsz, fun i hi => ?_⟩, le := h.le, lim := h.lim, th := fun b hb' => ?_, fB := fun i hi hne => ?_, pl := fun i hi hne => ?_, wf := h.wf }
  · exact (Below.heap_setCell _ _ _ _ n1).trans (heap_setCell_same W gp p cs _ _ ec)
  · have hle := h.le
    by_cases e : i = p
    · subst e
      rw [setF_eq, Array.getElem?_setIfInBounds_self_of_lt (by omega)]
    · rw [setF_ne e, Array.getElem?_setIfInBounds_ne (Ne.symm e)]
      exact hc i hi
  · by_cases e : b = x
    · subst e
      exact ⟨_, hx2⟩
    · obtain ⟨q, eq⟩ := h.th b hb'
      exact ⟨q, (kept b (Ne.symm (ne_of_type ec eq (by decide))) e).trans eq⟩
  · by_cases e : i = p
    · subst e
      rw [setF_eq]
      exact hB
    · rw [setF_ne e]
      exact h.fB i hi e
  · by_cases e : i = p
    · subst e
      rw [setF_eq]
      exact hx2
    · rw [setF_ne e]
      have pi := h.pl i hi e
      exact (kept (f i) (Ne.symm (ne_of_type ec pi (by decide))) fun e2 => hx ⟨i, hi, e, e2⟩).trans pi
/-- The end: the place is told. -/
theorem RisI.end {w0 w : World} {hb ob gp n cap mb : Nat} {pu : Int} {f0 f : Nat → Nat} {B : Nat → Prop} {it ke : Nat → Int} {va : Nat → Int} {lv : Value} {nx mod : Int} {tur : Bool} {lies : Int} {N0 N M p0 p x : Nat} (h : RisI w0 w hb ob gp n cap mb pu f0 f B it ke va lv nx mod tur lies N0 N p0 p x) {w1 : World} (hme : MeI w1 hb ob gp n cap mb pu f B it ke va p) (hod : Ordr w1 ob lv nx mod tur lies M) (htn : Tn (fun k => k = ob) w w1) (hM : N ≤ M) (hM2 : M ≤ N + 1) (hB : B x) (hx : ¬ Img n f0 p0 x) (hb' : lies = 0 → p ≤ 1 ∨ if p % 2 = 0 then leB mod tur it ke (f (up p)) x else leB mod tur it ke x (f (up p))) :
    LayI w0 ((w1.setCell ⟨gp, p, none⟩ (.pointer (some ⟨x, 0, none⟩))).setCell ⟨x, 3, none⟩ (.int .i64 (p : Int))) hb ob gp n cap mb pu f0 (setF f p x) B it ke va lv nx mod tur lies N0 M p0 x := by
  obtain ⟨cs, ec, hsz, hc⟩ := hme.row
  obtain ⟨q, px⟩ := hme.th x hB
  have hge := h.ge
  refine ⟨hme.lay h.lt hB (fun hi => hx ((h.img x).1 hi)), hod.kept ((Below.heap_setCell _ _ _ _ (ne_of_type hod.at' px (by decide))).trans (Below.heap_setCell _ _ _ _ (ne_of_type hod.at' ec (by decide)))), by omega, ?_, fun e0 ho => ?_, fun b => (img_lay h.lt b).trans (or_congr (h.img b) Iff.rfl), ?_⟩
  · have h1 := h.few
    have h2 : 2 ^ (M - N0) ≤ 2 ^ (N - N0 + 1) := Nat.pow_le_pow_right (by decide) (by omega)
    have h3 : 2 ^ (N - N0) * 1 ≤ 2 ^ (N - N0) * (p / 2 + 1) := Nat.mul_le_mul_left _ (by omega)
    rw [Nat.pow_succ] at h2
    omega
  · obtain ⟨h1, h2⟩ := h.ord e0 ho
    exact h1.lay (leB_total _ _ _ _) h.lt h2 (hb' e0)
  · exact ((h.tn.trans htn (fun k _ e => .inl e)).set (fun _ => .inr (.inl rfl)) _ _).set (fun _ => .inr (.inr hB)) _ _
theorem RisI.up {w0 w : World} {hb ob gp n cap mb : Nat} {pu : Int} {f0 f : Nat → Nat} {B : Nat → Prop} {it ke : Nat → Int} {va : Nat → Int} {lv : Value} {nx mod : Int} {tur : Bool} {lies : Int} {N0 N p0 p x : Nat} (h : RisI w0 w hb ob gp n cap mb pu f0 f B it ke va lv nx mod tur lies N0 N p0 p x) (h1 : 1 < p) {w1 : World} (hme : MeI w1 hb ob gp n cap mb pu (setF f p (f (up p))) B it ke va (up p)) (hod : Ordr w1 ob lv nx mod tur lies (N + 1)) (htn : Tn (fun k => k = ob ∨ k = gp ∨ B k) w w1) (hb' : lies = 0 → if p % 2 = 0 then leB mod tur it ke x (f (up p)) else leB mod tur it ke (f (up p)) x) :
    RisI w0 w1 hb ob gp n cap mb pu f0 (setF f p (f (up p))) B it ke va lv nx mod tur lies N0 (N + 1) p0 (up p) x := by
  have hlt := up_lt h1
  have hl := h.lt
  have hge := h.ge
  refine ⟨hme, hod, by omega, by omega, ?_, fun e0 ho => ?_, fun b => (img_put (by omega) h.lt (by omega) b).trans (h.img b), h.tn.trans htn (fun k _ e => e)⟩
  · have h2 := h.few
    have h3 := (up_half h1).1
    have h4 : N + 1 - N0 = N - N0 + 1 := by omega
    rw [h4, Nat.pow_succ, Nat.mul_assoc]
    have h5 : 2 ^ (N - N0) * (2 * (Go.Proofs.Ytklhenblcgmfhaa.up p / 2 + 1)) ≤ 2 ^ (N - N0) * (p / 2 + 1) := Nat.mul_le_mul_left _ (by omega)
    omega
  · obtain ⟨q1, q2⟩ := h.ord e0 ho
    exact q1.lift (leB_total _ _ _ _) h.lt h1 q2 (hb' e0)
end Go.Proofs.Ytklhenblcgmfhaa
