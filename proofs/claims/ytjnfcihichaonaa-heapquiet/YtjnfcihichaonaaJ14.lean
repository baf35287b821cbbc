/- Contracts of the program's functions, part 14: own work, joined in build order. -/
import Derived.Test.YtjnfcihichaonaaJ13
namespace Go.Proofs.Ytjnfcihichaonaa
open Go.RowKit
set_option maxRecDepth 100000
set_option linter.unusedVariables false
/-- Behind Push: one thing more. -/
def PshI (w : World) (base hb ob : Nat) (a : Option Addr) (n cap mb nn : Nat) (pu : Int) (f : Nat → Nat) (it ke : Nat → Int) (va : Nat → Int) (lv : Value) (nx mod : Int) (tur : Bool) (lies : Int) (N : Nat) (k : Int) (v : Int) (e : Ending) (w' : World) : Prop :=
  e = .returned (.int .i64 (pu + 1)) ∧ ∃ a' cap' f' M, HsI w' base hb ob a' (n + 1) cap' mb (nn + 1) (pu + 1) f' (upN it w.heap.size (pu + 1)) (upN ke w.heap.size k) (upN va w.heap.size v) ∧ Ordr w' ob lv nx mod tur lies M ∧ N ≤ M ∧ 2 ^ (M - N) ≤ 4 * (n + 1) ∧
    (lies = 0 → Ord (leB mod tur it ke) n f n → Ord (leB mod tur (upN it w.heap.size (pu + 1)) (upN ke w.heap.size k)) (n + 1) f' (n + 1)) ∧ (∀ b, Img (n + 1) f' (n + 1) b ↔ Img n f n b ∨ b = w.heap.size) ∧ TnN (fun k => k = hb ∨ k = mb ∨ k = ob ∨ (Value.slice a n cap).ownBlock = some k ∨ Img n f n k) w w' (∀ k, (Value.slice a' (n + 1) cap').ownBlock = some k → w.heap.size ≤ k ∨ (Value.slice a n cap).ownBlock = some k)
theorem HsI.laid {w W6 w7 : World} {base hb ob gp : Nat} {a : Option Addr} {n cap cap' mb nn : Nat} {pu : Int} {f f2 : Nat → Nat} {it ke : Nat → Int} {va : Nat → Int} {lv : Value} {nx mod : Int} {tur : Bool} {lies : Int} {N M : Nat} {g : Int → Option Nat} {k : Int} {v : Int} (h : HsI w base hb ob a n cap mb nn pu f it ke va) (hn : n < 1000000000) (hpu : pu < 1000000000) (hb0 : base ≤ w.heap.size) (hbg : base ≤ gp) (hcap : cap' ≤ maxLen) (h6 : MeI W6 hb ob gp (n + 1) cap' mb (pu + 1) (setF f n w.heap.size) (fun b => Img n f n b ∨ b = w.heap.size) (upN it w.heap.size (pu + 1)) (upN ke w.heap.size k) (upN va w.heap.size v) n) (hgp : w.heap.size ≤ gp ∨ (Value.slice a n cap).ownBlock = some gp) (ho6 : Ordr W6 ob lv nx mod tur lies N) (hm : Mp W6 mb (nn + 1) (updI g (pu + 1) (some w.heap.size))) (hg : ∀ i b, g i = some b ↔ Img n f n b ∧ it b = i) (hT : Tn (fun k => k = hb ∨ k = mb ∨ (Value.slice a n cap).ownBlock = some k) w W6)
    (hL : LayI W6 w7 hb ob gp (n + 1) cap' mb (pu + 1) (setF f n w.heap.size) f2 (fun b => Img n f n b ∨ b = w.heap.size) (upN it w.heap.size (pu + 1)) (upN ke w.heap.size k) (upN va w.heap.size v) lv nx mod tur lies N M n w.heap.size) :
    PshI w base hb ob a n cap mb nn pu f it ke va lv nx mod tur lies N k v (.returned (.int .i64 (pu + 1))) w7 := by
  obtain ⟨x, ex⟩ : ∃ x, x = w.heap.size := ⟨_, rfl⟩
  unfold PshI
  rw [← ex] at h6 hgp hm hL hb0 ⊢
  have lt : ∀ {k : Nat} {o : Obj}, w.heap[k]? = some o → k < w.heap.size := fun e => (Array.getElem?_eq_some_iff.1 e).1
  have old : ∀ b, Img n f n b → b ≠ x ∧ b < w.heap.size := fun b hb' => by
    obtain ⟨i, hi, _, rfl⟩ := hb'
    have := lt (h.pl i hi)
    omega
  have im1 : ∀ b, Img (n + 1) (setF f n x) n b ↔ Img n f n b := fun b => by
    constructor
    · rintro ⟨i, hi, hne, e⟩
      rw [setF_ne hne] at e
      exact ⟨i, by omega, by omega, e⟩
    · rintro ⟨i, hi, hne, e⟩
      exact ⟨i, by omega, by omega, by rw [setF_ne (by omega)]; exact e⟩
  have im : ∀ b, Img (n + 1) f2 (n + 1) b ↔ Img n f n b ∨ b = x := fun b => (hL.img b).trans (or_congr (im1 b) Iff.rfl)
  obtain ⟨es, ck, hmb⟩ := hm.block
  obtain ⟨cs6, e6, _⟩ := h6.row
  refine ⟨rfl, some ⟨gp, 0, none⟩, cap', f2, M, ?_, hL.od, hL.ge, ?_, fun e0 h0 => hL.ord e0 fun p q hp hq hpq hpn hqn hR => ?_, im, ?_⟩
  · refine hL.me.hs hbg hcap (by omega) (fun b hb' => ?_) (fun b c hb' hc' e => ?_) (by have := h.pu0; omega) (by omega) (by have := h.nn1; omega) ⟨_, hm.kept (hL.tn.block mb (Array.getElem?_eq_some_iff.1 hmb).1 ?_), fun i b => ?_⟩ h.ge.1 h.ge.2.1 h.ge.2.2.1
    · rcases (im b).1 hb' with h1 | rfl
      · obtain ⟨i, hi, _, rfl⟩ := h1
        rw [upN_ne (old _ ⟨i, hi, by omega, rfl⟩).1]
        have h2 := h.itr i hi
        have h3 := h.ge.2.2.2 i hi
        omega
      · rw [upN_eq]
        have := h.pu0
        omega
    · have big : ∀ b, Img n f n b → it b ≤ pu := fun b hb => by
        obtain ⟨i, hi, _, rfl⟩ := hb
        exact (h.itr i hi).2
      rcases (im b).1 hb' with h1 | rfl
      · rw [upN_ne (old b h1).1] at e
        rcases (im c).1 hc' with h2 | rfl
        · rw [upN_ne (old c h2).1] at e
          obtain ⟨i, hi, _, rfl⟩ := h1
          obtain ⟨j, hj, _, rfl⟩ := h2
          rw [h.iti i j hi hj e]
        · rw [upN_eq] at e
          have := big b h1
          omega
      · rw [upN_eq] at e
        rcases (im c).1 hc' with h2 | rfl
        · rw [upN_ne (old c h2).1] at e
          have := big c h2
          omega
        · rfl
    · rintro (e | e | e)
      · exact map_ne hmb ho6.at' e
      · exact map_ne hmb e6 e
      · obtain ⟨q, e2⟩ := h6.th _ e
        exact map_ne hmb e2 rfl
    · rw [im b]
      unfold updI
      split <;> rename_i c
      · subst c
        constructor
        · intro e
          injection e with e
          subst e
          exact ⟨.inr rfl, upN_eq⟩
        · rintro ⟨h1 | rfl, e⟩
          · rw [upN_ne (old b h1).1] at e
            obtain ⟨j, hj, _, rfl⟩ := h1
            have := (h.itr j hj).2
            omega
          · rfl
      · rw [hg i b]
        constructor
        · rintro ⟨h1, e⟩
          exact ⟨.inl h1, by rw [upN_ne (old b h1).1]; exact e⟩
        · rintro ⟨h1 | rfl, e⟩
          · rw [upN_ne (old b h1).1] at e
            exact ⟨h1, e⟩
          · rw [upN_eq] at e
            exact absurd e.symm c
  · have := hL.few
    omega
  · rw [setF_ne hpn, setF_ne hqn]
    have h1 : Img n f n (f p) := ⟨p, by omega, by omega, rfl⟩
    have h2 : Img n f n (f q) := ⟨q, by omega, by omega, rfl⟩
    exact (leB_up (old _ h1).1 (old _ h2).1).2 (h0 p q (by omega) (by omega) hpq (by omega) (by omega) hR)
  · refine { (hT.mono (S' := fun k => k = hb ∨ k = mb ∨ k = ob ∨ (Value.slice a n cap).ownBlock = some k ∨ Img n f n k) (fun k _ e => ?_)).trans hL.tn (fun k hk e => ?_) with new := fun k hk => ?_ }
    · rcases e with e | e | e
      · exact .inl e
      · exact .inr (.inl e)
      · exact .inr (.inr (.inr (.inl e)))
    · rcases e with e | e | e | e
      · exact .inr (.inr (.inl e))
      · rcases hgp with h1 | h1
        · omega
        · exact .inr (.inr (.inr (.inl (by rw [e]; exact h1))))
      · exact .inr (.inr (.inr (.inr e)))
      · omega
    · have e : k = gp := by injection hk with hk; exact hk.symm
      subst e
      exact hgp
set_option maxHeartbeats 2000000 in
theorem pushI_any {base hb ob : Nat} {a : Option Addr} {n cap mb nn : Nat} {pu : Int} {f : Nat → Nat} {it ke : Nat → Int} {va : Nat → Int} {lv : Value} {nx mod : Int} {tur : Bool} {lies : Int} {N : Nat} (k : Int) (v : Int) (w : World) (h : HsI w base hb ob a n cap mb nn pu f it ke va) (ho : Ordr w ob lv nx mod tur lies N) (hN : N < 999999999800) (hn : n < 1000000000) (hpu : pu < 1000000000) (hk : -9223372036854775808 ≤ k) (hk2 : k ≤ 9223372036854775807) (hb0 : base ≤ w.heap.size) :
    Calls Try.prog 13 #[.pointer (some ⟨hb, 0, none⟩), .int .i64 k, .int .i64 v] w (PshI w base hb ob a n cap mb nn pu f it ke va lv nx mod tur lies N k v) := by
  obtain ⟨c1, c2, c3, c4⟩ := h.cells
  have z3 := c4 3
  have hp0 := h.pu0
  have hw : IntKind.i64.wrap (pu + 1) = pu + 1 := by rw [IntKind.wrap_i64]; omega
  obtain ⟨g, hm, hg⟩ := h.map
  obtain ⟨es, ck, hmb⟩ := hm.block
  have nhm : hb ≠ mb := fun e => map_ne hmb h.hd e.symm
  have hlt : hb < w.heap.size := (Array.getElem?_eq_some_iff.1 h.hd).1
  obtain ⟨W2, hW2⟩ : ∃ W2, W2 = (w.setCell ⟨hb, 3, none⟩ (.int .i64 (pu + 1))).alloc (.cells #[.int .i64 (pu + 1), .int .i64 k, .int .i64 v, .int .i64 0] 81) := ⟨_, rfl⟩
  obtain ⟨x, ex⟩ : ∃ x, x = w.heap.size := ⟨_, rfl⟩
  have m2 : Mp W2.drew mb nn g := hm.kept (by rw [hW2]; exact (Below.heap_alloc _ _ mb (by simpa using (Array.getElem?_eq_some_iff.1 hmb).1)).trans (Below.heap_setCell _ _ _ mb (Ne.symm nhm)))
  obtain ⟨W3, hrun, m3, g3⟩ := m2.store (by have := h.nn1; have := h.pu1; omega) Try.underlying67 (i := pu + 1) (by omega) (by omega) x
  have hh2 : W2.heap[hb]? = some (.cells #[.func (.func 28) #[.pointer (some ⟨ob, 0, none⟩)] #[], .slice a n cap, .map (some mb), .int .i64 (pu + 1)] 70) := by
    rw [hW2]
    exact (Below.heap_alloc _ _ hb (by simpa using hlt)).trans (heap_setCell_same w hb 3 _ _ _ h.hd)
  have hx2 : W2.heap[x]? = some (.cells #[.int .i64 (pu + 1), .int .i64 k, .int .i64 v, .int .i64 0] 81) := by
    rw [hW2, ex]
    have := (MapKept.heap_alloc (w.setCell ⟨hb, 3, none⟩ (.int .i64 (pu + 1))) (.cells #[.int .i64 (pu + 1), .int .i64 k, .int .i64 v, .int .i64 0] 81)).1
    simpa using this
  have xm : x ≠ mb := fun e => by have := (Array.getElem?_eq_some_iff.1 hmb).1; omega
  have hh3 : W3.heap[hb]? = some (.cells #[.func (.func 28) #[.pointer (some ⟨ob, 0, none⟩)] #[], .slice a n cap, .map (some mb), .int .i64 (pu + 1)] 70) := (g3.block hb (Array.getElem?_eq_some_iff.1 hh2).1 (fun e => nhm (by injection e))).trans hh2
  have hx3 : W3.heap[x]? = some (.cells #[.int .i64 (pu + 1), .int .i64 k, .int .i64 v, .int .i64 0] 81) := (g3.block x (Array.getElem?_eq_some_iff.1 hx2).1 (fun e => xm (by injection e))).trans hx2
  have d2 : W2.cell? ⟨hb, 2, none⟩ = some (.map (some mb)) := by simp [World.cell?, hh2]
  have d0 : W2.cell? ⟨x, 0, none⟩ = some (.int .i64 (pu + 1)) := by simp [World.cell?, hx2]
  have q2 : W3.cell? ⟨hb, 2, none⟩ = some (.map (some mb)) := by simp [World.cell?, hh3]
  have q1 : W3.cell? ⟨hb, 1, none⟩ = some (.slice a n cap) := by simp [World.cell?, hh3]
  have q0 : W3.cell? ⟨x, 0, none⟩ = some (.int .i64 (pu + 1)) := by simp [World.cell?, hx3]
  have HW : Hid ((w.setCell ⟨hb, 3, none⟩ (.int .i64 (pu + 1))).alloc (.cells #[.int .i64 (pu + 1), .int .i64 k, .int .i64 v, .int .i64 0] 81) = W2 ∧ w.heap.size = x) := ⟨hW2.symm, ex.symm⟩
  have HH : Hid (HsI w base hb ob a n cap mb nn pu f it ke va ∧ Ordr w ob lv nx mod tur lies N ∧ (∀ i b, g i = some b ↔ Img n f n b ∧ it b = i) ∧ Mp W3 mb (nn + 1) (updI g (pu + 1) (some x)) ∧ W2.grownBy W3 (some mb)) := ⟨h, ho, hg, m3, ⟨g3.os, g3.tape, g3.output, g3.size, g3.block⟩⟩
  clear c4 h ho hg m3 g3 hm hmb m2 hh2 hx2 hh3 hx3 hW2 ex
  go_enter Try.func13, Try.ntmps13
  go_wp2_with fail
  rename_i hz
  rw [HW.out.1, HW.out.2]
  go_region_held3 (fun w9 => w9.cell? ⟨hb, 2, none⟩ = some (.map (some mb)) ∧ w9.cell? ⟨x, 0, none⟩ = some (.int .i64 (pu + 1))) (first | (simp [go_sem, *]; done) | (trace_state; fail)) (fail)
  refine hz _ _ ?_
  have r4 : Hid ((W3.alloc (.cells #[.pointer (some ⟨x, 0, none⟩)] 77)).ownsRow base 77 1 (.slice a n cap) n ((List.range n).map fun i => .pointer (some ⟨f i, 0, none⟩)) ∧ base ≤ (W3.alloc (.cells #[.pointer (some ⟨x, 0, none⟩)] 77)).heap.size) := by
    have h := HH.out.1
    have g3 := HH.out.2.2.2.2
    have z := g3.size
    have e2 : W2.heap.size = w.heap.size + 1 := by rw [← HW.out.1]; simp
    refine ⟨own_kept h.row fun k hk => ?_, by simp; omega⟩
    obtain ⟨_, cs, e⟩ := h.own hk
    have hl : k < w.heap.size := (Array.getElem?_eq_some_iff.1 e).1
    obtain ⟨g9, hm9, _⟩ := h.map
    obtain ⟨es, ck, hmb⟩ := hm9.block
    refine (Below.heap_alloc _ _ k (by omega)).trans ((g3.block k (by omega) (fun e9 => map_ne hmb e (by injection e9 with e9; exact e9.symm))).trans ?_)
    rw [← HW.out.1]
    exact (Below.heap_alloc _ _ k (by simpa using hl)).trans (Below.heap_setCell _ _ _ k (ne_of_type e h.hd (by decide)))
  clear d2 d0 q2 q0 hrun
  go_wp2_with (refine (id ?_ : wpList Try.prog _ _ (⟨some 41, _, _, _, _, _⟩ :: _) _ _); refine hold ?_)
  intro _
  refine wp_appPI rfl (.tmp 38) (.tmp 40) rfl base (.slice a n cap) n _ rfl r4.out.1 ⟨W3.heap.size, 0, none⟩ 1 1 [.pointer (some ⟨x, 0, none⟩)] rfl rfl (fun j u hj => ?cells) (fun u hu => ?ptr) (by omega) r4.out.2 ?_
  case cells =>
    rcases j with _ | j
    · simp at hj
      subst hj
      rw [addr_add]
      simp [go_sem]
    · simp at hj
  case ptr =>
    simp at hu
    exact ⟨_, hu⟩
  intro v' W5 H5
  have HP := HH.out.1.pushed (k := k) (v := v) HH.out.2.1 hk hk2 hpu (by rw [HW.out.1]; exact HH.out.2.2.2.2) HH.out.2.2.2.1 (by rw [HW.out.2]; exact H5.out.2.1) (by rw [HW.out.2]; exact H5.out.1)
  rw [HW.out.2] at HP
  obtain ⟨gp, cap', rfl, hbg, hcap', hMe, hOd, hMp, hTn, t5⟩ := HP
  have hgp : w.heap.size ≤ gp ∨ (Value.slice a n cap).ownBlock = some gp := by
    rcases H5.out.2.2 with e | e
    · exact .inr e.symm
    · left
      have e2 : gp = (W3.alloc (.cells #[.pointer (some ⟨x, 0, none⟩)] 77)).heap.size := by injection e
      have z := HH.out.2.2.2.2.size
      have e3 : W2.heap.size = w.heap.size + 1 := by rw [← HW.out.1]; simp
      simp at e2
      omega
  obtain ⟨W6, hW6⟩ : ∃ W6, W6 = W5.setCell ⟨hb, 1, none⟩ (.slice (some ⟨gp, 0, none⟩) (n + 1) cap') := ⟨_, rfl⟩
  rw [← hW6] at hMe hOd hMp hTn
  have HW6 : Hid (W5.setCell ⟨hb, 1, none⟩ (.slice (some ⟨gp, 0, none⟩) (n + 1) cap') = W6) := hW6.symm
  have t1 : W5.cell? ⟨hb, 1, none⟩ = some (.slice a n cap) := by simp [World.cell?, t5]
  have t2 : W5.frozen? ⟨hb, 1, none⟩ = false := by simp [World.frozen?, t5]
  have u1 := hMe.c1
  have hw2 : IntKind.i64.wrap ((n : Int) + 1 - 1) = (n : Int) := by rw [IntKind.wrap_i64]; omega
  have hw3 : IntKind.i64.wrap (n : Int) = (n : Int) := by rw [IntKind.wrap_i64]; omega
  have RI : Hid (Calls Try.prog 37 #[.pointer (some ⟨hb, 0, none⟩), .int .i64 (n : Int), .pointer (some ⟨x, 0, none⟩)] W6 fun e w' => e = .returned (.tuple #[]) ∧ ∃ f' M, LayI W6 w' hb ob gp (n + 1) cap' mb (pu + 1) (setF f n x) f' (fun b => Img n f n b ∨ b = x) (upN it x (pu + 1)) (upN ke x k) (upN va x v) lv nx mod tur lies N M n x) := by
    refine riseI_any n x W6 hMe hOd (by omega) (by omega) (by omega) (.inr rfl) ?_
    rintro ⟨i, hi, hne, e⟩
    rw [setF_ne hne] at e
    have h9 := (Array.getElem?_eq_some_iff.1 (HH.out.1.pl i (by omega))).1
    have := HW.out.2
    omega
  have HL : Hid (∀ w7 f2 M, LayI W6 w7 hb ob gp (n + 1) cap' mb (pu + 1) (setF f n x) f2 (fun b => Img n f n b ∨ b = x) (upN it x (pu + 1)) (upN ke x k) (upN va x v) lv nx mod tur lies N M n x → PshI w base hb ob a n cap mb nn pu f it ke va lv nx mod tur lies N k v (.returned (.int .i64 (pu + 1))) w7) := fun w7 f2 M hL => by
    refine HH.out.1.laid hn hpu hb0 hbg hcap' (by rw [HW.out.2]; exact hMe) hgp hOd (by rw [HW.out.2]; exact hMp) HH.out.2.2.1 hTn (by rw [HW.out.2]; exact hL)
  clear hMe hOd hMp hTn hW6 H5 r4 q1 t5
  go_wp2_with fail
  rw [HW6.out]
  refine Calls.mono RI.out ?_
  rintro e w7 ⟨rfl, f2, M, hL⟩
  have x7 : w7.cell? ⟨x, 0, none⟩ = some (.int .i64 (pu + 1)) := by
    obtain ⟨q, e⟩ := hL.me.th x (.inr rfl)
    rw [upN_eq, upN_eq, upN_eq] at e
    simp [World.cell?, e]
  have HL7 : Hid (PshI w base hb ob a n cap mb nn pu f it ke va lv nx mod tur lies N k v (.returned (.int .i64 (pu + 1))) w7) := HL.out w7 f2 M hL
  clear hL RI HL u1 t1 t2
  go_wp2_with fail
  go_ret
  exact HL7.out
end Go.Proofs.Ytjnfcihichaonaa
