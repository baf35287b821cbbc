/- Contracts of the program's functions, part 31: own work, joined in build order. -/
import Derived.Test.YtjnfcihichaonaaJ30
namespace Go.Proofs.Ytjnfcihichaonaa
open Go.RowKit
set_option maxRecDepth 100000
set_option linter.unusedVariables false
theorem step_delete_runS {P : Program} {ops : Array Oper} {o : Oper} {a : Act} {w : World} {K : Act → World → Prop} {Q : Exit → Act → World → Prop} {E : Prop} (hg : o.guard = none) (m x : Operand) (t k : TypeId) (hop : o.op = Op.call { callee := Callee.builtin Builtin.delete, args := #[m, x], argTypes := #[t, k] }) (mv xv : Value) (hm : a.eval m = mv) (hx : a.eval x = xv) (w' : World)
    (hrun : (Builtin.delete_ #[t, k] o.type #[mv, xv]).run P w = .ok (.tuple #[]) w') (hK : K (a.put o.dst (.tuple #[])) w') : if Region.wanted o (yielded ops a.tmps) = true then Oper.wp P o a w K Q else E := by
  have hw : Region.wanted o (yielded ops a.tmps) = true := by simp [Region.wanted, hg]
  rw [if_pos hw]
  unfold Oper.wp
  simp [execOp, hop, resolve, invoke, builtin, hm, hx, hrun, Result.andThen]
  exact hK
/-- Behind take: the thing x is out. -/
def TakS (w : World) (base hb ob : Nat) (a : Option Addr) (n cap mb : Nat) (pu : Int) (f : Nat → Nat) (it ke : Nat → Int) (va : Nat → ByteArray) (lv : Value) (nx mod : Int) (tur : Bool) (lies : Int) (N x : Nat) (w' : World) : Prop :=
  ∃ a' cap' mb' nn' f' M, HsS w' base hb ob a' n cap' mb' nn' pu f' it ke va ∧ Ordr w' ob lv nx mod tur lies M ∧ N ≤ M ∧ 2 ^ (M - N) ≤ 4 * (n + 1) * (n + 1) ∧
    (lies = 0 → Ord (leB mod tur it ke) (n + 1) f (n + 1) → Ord (leB mod tur it ke) n f' n) ∧ (∀ b, Img n f' n b ↔ Img (n + 1) f (n + 1) b ∧ b ≠ x) ∧ TnN (fun k => k = hb ∨ k = mb ∨ k = ob ∨ (Value.slice a (n + 1) cap).ownBlock = some k ∨ Img (n + 1) f (n + 1) k) w w' ((∀ k, (Value.slice a' n cap').ownBlock = some k → w.heap.size ≤ k ∨ (Value.slice a (n + 1) cap).ownBlock = some k) ∧ (w.heap.size ≤ mb' ∨ mb' = mb)) ∧ (∃ q : Int, w'.heap[x]? = some (.cells #[.int .i64 (it x), .int .i64 (ke x), .string (va x), .int .i64 q] 98))
/-- The last place is cut off; x's place i0 is empty. -/
theorem HsS.cut {w W1 : World} {base hb ob gp : Nat} {n cap mb nn : Nat} {pu : Int} {f : Nat → Nat} {it ke : Nat → Int} {va : Nat → ByteArray} {lv : Value} {nx mod : Int} {tur : Bool} {lies : Int} {N i0 : Nat} (h : HsS w base hb ob (some ⟨gp, 0, none⟩) (n + 1) cap mb nn pu f it ke va) (ho : Ordr w ob lv nx mod tur lies N) (hi : i0 < n + 1) (g1 : w.grownBy W1 (some mb)) (W3 : World) (hW3 : W3 = (W1.setCell ⟨gp, n, none⟩ (.pointer none)).setCell ⟨hb, 1, none⟩ (.slice (some ⟨gp, 0, none⟩) n cap)) :
    MeS W3 hb ob gp n cap mb pu f (fun b => Img (n + 1) f (n + 1) b) it ke va i0 ∧ Ordr W3 ob lv nx mod tur lies N ∧ W3.heap[mb]? = W1.heap[mb]? ∧ Tn (fun k => k = hb ∨ k = mb ∨ k = gp) w W3 := by
  have lt : ∀ {k : Nat} {o : Obj}, w.heap[k]? = some o → k < w.heap.size := fun e => (Array.getElem?_eq_some_iff.1 e).1
  obtain ⟨gp', e, _, h1, h2, cs, h3, h4, h5⟩ := h.some' (by omega)
  cases e
  obtain ⟨es, ck, hmb⟩ := (h.mp.choose_spec.1).block
  have k1 : ∀ k, k < w.heap.size → k ≠ mb → W1.heap[k]? = w.heap[k]? := fun k h1 h2 => g1.block k h1 (fun e => h2 (by injection e))
  have nhg : hb ≠ gp := ne_of_type h.hd h3 (by decide)
  have nhm : hb ≠ mb := fun e => map_ne hmb h.hd e.symm
  have ngm : gp ≠ mb := fun e => map_ne hmb h3 e.symm
  have kept : ∀ k, k < w.heap.size → k ≠ hb → k ≠ mb → k ≠ gp → W3.heap[k]? = w.heap[k]? := fun k q1 q2 q3 q4 => by
    rw [hW3]
    exact (Below.heap_setCell _ _ _ k q2).trans ((Below.heap_setCell _ _ _ k q4).trans (k1 k q1 q3))
  have hh : W3.heap[hb]? = some (.cells #[.func (.func 28) #[.pointer (some ⟨ob, 0, none⟩)] #[], .slice (some ⟨gp, 0, none⟩) n cap, .map (some mb), .int .i64 pu] 95) := by
    rw [hW3]
    exact heap_setCell_same _ hb 1 _ _ _ ((Below.heap_setCell _ _ _ hb nhg).trans ((k1 hb (lt h.hd) nhm).trans h.hd))
  have hr : W3.heap[gp]? = some (.cells (cs.setIfInBounds n (.pointer none)) 96) := by
    rw [hW3]
    exact (Below.heap_setCell _ _ _ gp (Ne.symm nhg)).trans (heap_setCell_same W1 gp n cs _ _ ((k1 gp (lt h3) ngm).trans h3))
  have hpl : ∀ i, i < n + 1 → W3.heap[f i]? = some (.cells #[.int .i64 (it (f i)), .int .i64 (ke (f i)), .string (va (f i)), .int .i64 (i : Int)] 98) := fun i hi => (kept (f i) (lt (h.pl i hi)) (ne_of_type (h.pl i hi) h.hd (by decide)) (fun e => map_ne hmb (h.pl i hi) e.symm) (ne_of_type (h.pl i hi) h3 (by decide))).trans (h.pl i hi)
  have hl := h.lim
  refine ⟨{ hd := hh, row := ⟨_, hr, by simpa using h4, fun i hi => ?_⟩, le := by omega, lim := by omega, th := ?_, fB := fun i hi _ => ⟨i, by omega, by omega, rfl⟩, pl := fun i hi _ => hpl i (by omega), wf := ?_ }, ho.kept (kept ob ho.lt (ne_of_type ho.at' h.hd (by decide)) (fun e => map_ne hmb ho.at' e.symm) (ne_of_type ho.at' h3 (by decide))), ?_, ?_⟩
  · rw [Array.getElem?_setIfInBounds_ne (by omega)]
    exact h5 i (by omega)
  · rintro b ⟨i, hi, _, rfl⟩
    exact ⟨_, hpl i hi⟩
  · rintro b ⟨i, hi, _, rfl⟩
    have h6 := h.itr i hi
    have h7 := h.wf i hi
    have h8 := h.pu1
    omega
  · rw [hW3]
    exact (Below.heap_setCell _ _ _ mb (Ne.symm nhm)).trans (Below.heap_setCell _ _ _ mb (Ne.symm ngm))
  · have z := g1.size
    refine ⟨by rw [hW3]; exact g1.os, by rw [hW3]; exact g1.tape, by rw [hW3]; exact g1.output, by rw [hW3]; simpa using z, fun k q1 q2 => kept k q1 (fun e => q2 (.inl e)) (fun e => q2 (.inr (.inl e))) (fun e => q2 (.inr (.inr e)))⟩
/-- What was filled, and maybe made narrower. -/
theorem HsS.taken {w W3 W4 W5 : World} {base hb ob gp : Nat} {n cap mb nn : Nat} {pu : Int} {f f2 : Nat → Nat} {it ke : Nat → Int} {va : Nat → ByteArray} {lv : Value} {nx mod : Int} {tur : Bool} {lies : Int} {N M i0 : Nat} {g : Int → Option Nat} (h : HsS w base hb ob (some ⟨gp, 0, none⟩) (n + 1) cap mb nn pu f it ke va) (hi : i0 < n + 1) (hme3 : MeS W3 hb ob gp n cap mb pu f (fun b => Img (n + 1) f (n + 1) b) it ke va i0) (ho3 : Ordr W3 ob lv nx mod tur lies N) (hm : Mp W3 mb nn (updI g (it (f i0)) none)) (hg : ∀ i b, g i = some b ↔ Img (n + 1) f (n + 1) b ∧ it b = i) (hT3 : Tn (fun k => k = hb ∨ k = mb ∨ k = gp) w W3)
    (hme : MeS W4 hb ob gp n cap mb pu f2 (fun b => Img (n + 1) f (n + 1) b) it ke va n) (ho : Ordr W4 ob lv nx mod tur lies M) (hM : N ≤ M) (hfew : 2 ^ (M - N) ≤ 4 * (n + 1) * (n + 1)) (hord : lies = 0 → Ord (leB mod tur it ke) (n + 1) f (n + 1) → Ord (leB mod tur it ke) n f2 n) (him : ∀ b, Img n f2 n b ↔ Img (n + 1) f (n + 1) b ∧ b ≠ f i0) (hT4 : Tn (fun k => k = ob ∨ k = gp ∨ Img (n + 1) f (n + 1) k) W3 W4) :
    HsS W4 base hb ob (some ⟨gp, 0, none⟩) n cap mb nn pu f2 it ke va ∧ (∀ w', NarS W4 base hb ob n pu f2 it ke va (.returned (.tuple #[])) w' → TakS w base hb ob (some ⟨gp, 0, none⟩) n cap mb pu f it ke va lv nx mod tur lies N (f i0) w') := by
  obtain ⟨es, ck, hmb⟩ := hm.block
  obtain ⟨gp', e, hbg, h1, hcap, cs, h3, h4, h5⟩ := h.some' (by omega)
  cases e
  obtain ⟨cs3, r3, _⟩ := hme3.row
  have hl := h.lim
  have HS : HsS W4 base hb ob (some ⟨gp, 0, none⟩) n cap mb nn pu f2 it ke va := by
    refine hme.hs hbg hcap (by omega) (fun b hb' => ?_) (fun b c hb' hc' e => ?_) h.pu0 h.pu1 h.nn1 ⟨_, hm.kept (hT4.block mb (Array.getElem?_eq_some_iff.1 hmb).1 ?_), fun i b => ?_⟩ h.ge.1 h.ge.2.1 h.ge.2.2.1
    · obtain ⟨⟨i, hi', _, rfl⟩, _⟩ := (him b).1 hb'
      have h6 := h.itr i hi'
      have h7 := h.ge.2.2.2 i hi'
      omega
    · obtain ⟨⟨i, hi', _, rfl⟩, _⟩ := (him b).1 hb'
      obtain ⟨⟨j, hj', _, rfl⟩, _⟩ := (him c).1 hc'
      rw [h.iti i j hi' hj' e]
    · rintro (e | e | e)
      · exact map_ne hmb ho3.at' e
      · exact map_ne hmb r3 e
      · obtain ⟨q, e2⟩ := hme3.th _ e
        exact map_ne hmb e2 rfl
    · rw [him b]
      unfold updI
      split <;> rename_i c
      · subst c
        constructor
        · intro e
          cases e
        · rintro ⟨⟨⟨j, hj, _, rfl⟩, hne⟩, e⟩
          exact absurd (by rw [h.iti j i0 hj hi e]) hne
      · rw [hg i b]
        constructor
        · rintro ⟨h6, e⟩
          exact ⟨⟨h6, fun e2 => c (by rw [← e, e2])⟩, e⟩
        · rintro ⟨⟨h6, _⟩, e⟩
          exact ⟨h6, e⟩
  refine ⟨HS, fun w' hN => ?_⟩
  obtain ⟨_, a', cap', mb', nn', hH, hT5⟩ := hN
  have nho : ob ≠ hb := ne_of_type ho.at' hme.hd (by decide)
  refine ⟨a', cap', mb', nn', f2, M, hH, ho.kept (hT5.block ob ho.lt (fun e => nho e)), hM, hfew, hord, him, ?_, ?_⟩
  · refine { ((hT3.mono (S' := fun k => k = hb ∨ k = mb ∨ k = ob ∨ (Value.slice (some ⟨gp, 0, none⟩) (n + 1) cap).ownBlock = some k ∨ Img (n + 1) f (n + 1) k) (fun k _ e => ?_)).trans hT4 (fun k _ e => ?_)).trans hT5.toTn (fun k _ e => .inl e) with new := ⟨fun k hk => ?_, ?_⟩ }
    · rcases e with e | e | e
      · exact .inl e
      · exact .inr (.inl e)
      · exact .inr (.inr (.inr (.inl (by rw [e]; rfl))))
    · rcases e with e | e | e
      · exact .inr (.inr (.inl e))
      · exact .inr (.inr (.inr (.inl (by rw [e]; rfl))))
      · exact .inr (.inr (.inr (.inr e)))
    · have z3 := hT3.size
      have z4 := hT4.size
      rcases hT5.new.1 k hk with h8 | ⟨v0, h8, h9⟩
      · exact .inl (by omega)
      · rw [HS.cells.1] at h8
        cases h8
        exact .inr h9
    · have z3 := hT3.size
      have z4 := hT4.size
      rcases hT5.new.2 with h8 | h8
      · exact .inl (by omega)
      · rw [HS.cells.2.1] at h8
        cases h8
        exact .inr rfl
  · obtain ⟨q, eq⟩ := hme.th (f i0) ⟨i0, hi, by omega, rfl⟩
    exact ⟨q, (hT5.block _ (Array.getElem?_eq_some_iff.1 eq).1 (ne_of_type eq hme.hd (by decide))).trans eq⟩
end Go.Proofs.Ytjnfcihichaonaa
