/- Contracts of the program's functions, part 3: own work, joined in build order. -/
import Derived.Test.YtklhenblcgmfhaaJ2
import Derived.LaidEqlPtr
namespace Go.Proofs.Ytklhenblcgmfhaa
open Go.RowKit
set_option maxRecDepth 100000
set_option linter.unusedVariables false
theorem step_delete_runI {P : Program} {ops : Array Oper} {o : Oper} {a : Act} {w : World} {K : Act → World → Prop} {Q : Exit → Act → World → Prop} {E : Prop} (hg : o.guard = none) (m x : Operand) (t k : TypeId) (hop : o.op = Op.call { callee := Callee.builtin Builtin.delete, args := #[m, x], argTypes := #[t, k] }) (mv xv : Value) (hm : a.eval m = mv) (hx : a.eval x = xv) (w' : World)
    (hrun : (Builtin.delete_ #[t, k] o.type #[mv, xv]).run P w = .ok (.tuple #[]) w') (hK : K (a.put o.dst (.tuple #[])) w') : if Region.wanted o (yielded ops a.tmps) = true then Oper.wp P o a w K Q else E := by
  have hw : Region.wanted o (yielded ops a.tmps) = true := by simp [Region.wanted, hg]
  rw [if_pos hw]
  unfold Oper.wp
  simp [execOp, hop, resolve, invoke, builtin, hm, hx, hrun, Result.andThen]
  exact hK
/-- Behind take: the thing x is out. -/
def TakI (w : World) (base hb ob : Nat) (a : Option Addr) (n cap mb : Nat) (pu : Int) (f : Nat → Nat) (it ke : Nat → Int) (va : Nat → Int) (lv : Value) (nx mod : Int) (tur : Bool) (lies : Int) (N x : Nat) (w' : World) : Prop :=
  ∃ a' cap' mb' nn' f' M, HsI w' base hb ob a' n cap' mb' nn' pu f' it ke va ∧ Ordr w' ob lv nx mod tur lies M ∧ N ≤ M ∧ 2 ^ (M - N) ≤ 4 * (n + 1) * (n + 1) ∧
    (lies = 0 → Ord (leB mod tur it ke) (n + 1) f (n + 1) → Ord (leB mod tur it ke) n f' n) ∧ (∀ b, Img n f' n b ↔ Img (n + 1) f (n + 1) b ∧ b ≠ x) ∧ TnN (fun k => k = hb ∨ k = mb ∨ k = ob ∨ (Value.slice a (n + 1) cap).ownBlock = some k ∨ Img (n + 1) f (n + 1) k) w w' ((∀ k, (Value.slice a' n cap').ownBlock = some k → w.heap.size ≤ k ∨ (Value.slice a (n + 1) cap).ownBlock = some k) ∧ (w.heap.size ≤ mb' ∨ mb' = mb)) ∧ (∃ q : Int, w'.heap[x]? = some (.cells #[.int .i64 (it x), .int .i64 (ke x), .int .i64 (va x), .int .i64 q] 81))
/-- The last place is cut off; x's place i0 is empty. -/
theorem HsI.cut {w W1 : World} {base hb ob gp : Nat} {n cap mb nn : Nat} {pu : Int} {f : Nat → Nat} {it ke : Nat → Int} {va : Nat → Int} {lv : Value} {nx mod : Int} {tur : Bool} {lies : Int} {N i0 : Nat} (h : HsI w base hb ob (some ⟨gp, 0, none⟩) (n + 1) cap mb nn pu f it ke va) (ho : Ordr w ob lv nx mod tur lies N) (hi : i0 < n + 1) (g1 : w.grownBy W1 (some mb)) (W3 : World) (hW3 : W3 = (W1.setCell ⟨gp, n, none⟩ (.pointer none)).setCell ⟨hb, 1, none⟩ (.slice (some ⟨gp, 0, none⟩) n cap)) :
    MeI W3 hb ob gp n cap mb pu f (fun b => Img (n + 1) f (n + 1) b) it ke va i0 ∧ Ordr W3 ob lv nx mod tur lies N ∧ W3.heap[mb]? = W1.heap[mb]? ∧ Tn (fun k => k = hb ∨ k = mb ∨ k = gp) w W3 := by
  have lt : ∀ {k : Nat} {o : Obj}, w.heap[k]? = some o → k < w.heap.size := fun e => (Array.getElem?_eq_some_iff.1 e).1
  obtain ⟨gp', e, _, h1, h2, cs, h3, h4, h5⟩ := h.some' (by omega)
  cases e
  obtain ⟨es, ck, hmb⟩ := (h.mp.choose_spec.1).block
  have k1 : ∀ k, k < w.heap.size → k ≠ mb → W1.heap[k]? = w.heap[k]? := fun k h1 h2 => g1.block k h1 (fun e => h2 (by injection e))
  have nhg : hb ≠ gp := ne_of_type h.hd h3 (by decide)
  have nhm : hb ≠ mb := fun e => map_ne hmb h.hd e.symm
  have ngm : gp ≠ mb := fun e => map_ne hmb h3 e.symm
  have kept : ∀ k, k < w.heap.size → k ≠ hb → k ≠ mb → k ≠ gp → W3.heap[k]? = w.heap[k]? := fun k q1 q2 q3 q4 => by
    rw [hW3]
    exact (Below.heap_setCell _ _ _ k q2).trans ((Below.heap_setCell _ _ _ k q4).trans (k1 k q1 q3))
  have hh : W3.heap[hb]? = some (.cells #[.func (.func 28) #[.pointer (some ⟨ob, 0, none⟩)] #[], .slice (some ⟨gp, 0, none⟩) n cap, .map (some mb), .int .i64 pu] 70) := by
    rw [hW3]
    exact heap_setCell_same _ hb 1 _ _ _ ((Below.heap_setCell _ _ _ hb nhg).trans ((k1 hb (lt h.hd) nhm).trans h.hd))
  have hr : W3.heap[gp]? = some (.cells (cs.setIfInBounds n (.pointer none)) 77) := by
    rw [hW3]
    exact (Below.heap_setCell _ _ _ gp (Ne.symm nhg)).trans (heap_setCell_same W1 gp n cs _ _ ((k1 gp (lt h3) ngm).trans h3))
  have hpl : ∀ i, i < n + 1 → W3.heap[f i]? = some (.cells #[.int .i64 (it (f i)), .int .i64 (ke (f i)), .int .i64 (va (f i)), .int .i64 (i : Int)] 81) := fun i hi => (kept (f i) (lt (h.pl i hi)) (ne_of_type (h.pl i hi) h.hd (by decide)) (fun e => map_ne hmb (h.pl i hi) e.symm) (ne_of_type (h.pl i hi) h3 (by decide))).trans (h.pl i hi)
  have hl := h.lim
  refine ⟨{ hd := hh, row := ⟨_, hr, by simpa using h4, fun i hi => ?_⟩, le := by omega, lim := by omega, th := ?_, fB := fun i hi _ => ⟨i, by omega, by omega, rfl⟩, pl := fun i hi _ => hpl i (by omega), wf := ?_ }, ho.kept (kept ob ho.lt (ne_of_type ho.at' h.hd (by decide)) (fun e => map_ne hmb ho.at' e.symm) (ne_of_type ho.at' h3 (by decide))), ?_, ?_⟩
  · rw [Array.getElem?_setIfInBounds_ne (by omega)]
    exact h5 i (by omega)
  · rintro b ⟨i, hi, _, rfl⟩
    exact ⟨_, hpl i hi⟩
  · rintro b ⟨i, hi, _, rfl⟩
    have h6 := h.itr i hi
    have h7 := h.wf i hi
    have h8 := h.pu1
    omega
  · rw [hW3]
    exact (Below.heap_setCell _ _ _ mb (Ne.symm nhm)).trans (Below.heap_setCell _ _ _ mb (Ne.symm ngm))
  · have z := g1.size
    refine ⟨by rw [hW3]; exact g1.os, by rw [hW3]; exact g1.tape, by rw [hW3]; exact g1.output, by rw [hW3]; simpa using z, fun k q1 q2 => kept k q1 (fun e => q2 (.inl e)) (fun e => q2 (.inr (.inl e))) (fun e => q2 (.inr (.inr e)))⟩
/-- What was filled, and maybe made narrower. -/
theorem HsI.taken {w W3 W4 W5 : World} {base hb ob gp : Nat} {n cap mb nn : Nat} {pu : Int} {f f2 : Nat → Nat} {it ke : Nat → Int} {va : Nat → Int} {lv : Value} {nx mod : Int} {tur : Bool} {lies : Int} {N M i0 : Nat} {g : Int → Option Nat} (h : HsI w base hb ob (some ⟨gp, 0, none⟩) (n + 1) cap mb nn pu f it ke va) (hi : i0 < n + 1) (hme3 : MeI W3 hb ob gp n cap mb pu f (fun b => Img (n + 1) f (n + 1) b) it ke va i0) (ho3 : Ordr W3 ob lv nx mod tur lies N) (hm : Mp W3 mb nn (updI g (it (f i0)) none)) (hg : ∀ i b, g i = some b ↔ Img (n + 1) f (n + 1) b ∧ it b = i) (hT3 : Tn (fun k => k = hb ∨ k = mb ∨ k = gp) w W3)
    (hme : MeI W4 hb ob gp n cap mb pu f2 (fun b => Img (n + 1) f (n + 1) b) it ke va n) (ho : Ordr W4 ob lv nx mod tur lies M) (hM : N ≤ M) (hfew : 2 ^ (M - N) ≤ 4 * (n + 1) * (n + 1)) (hord : lies = 0 → Ord (leB mod tur it ke) (n + 1) f (n + 1) → Ord (leB mod tur it ke) n f2 n) (him : ∀ b, Img n f2 n b ↔ Img (n + 1) f (n + 1) b ∧ b ≠ f i0) (hT4 : Tn (fun k => k = ob ∨ k = gp ∨ Img (n + 1) f (n + 1) k) W3 W4) :
    HsI W4 base hb ob (some ⟨gp, 0, none⟩) n cap mb nn pu f2 it ke va ∧ (∀ w', NarI W4 base hb ob n pu f2 it ke va (.returned (.tuple #[])) w' → TakI w base hb ob (some ⟨gp, 0, none⟩) n cap mb pu f it ke va lv nx mod tur lies N (f i0) w') := by
  obtain ⟨es, ck, hmb⟩ := hm.block
  obtain ⟨gp', e, hbg, h1, hcap, cs, h3, h4, h5⟩ := h.some' (by omega)
  cases e
  obtain ⟨cs3, r3, _⟩ := hme3.row
  have hl := h.lim
  have HS : HsI W4 base hb ob (some ⟨gp, 0, none⟩) n cap mb nn pu f2 it ke va := by
    refine hme.hs hbg hcap (by omega) (fun b hb' => ?_) (fun b c hb' hc' e => ?_) h.pu0 h.pu1 h.nn1 ⟨_, hm.kept (hT4.block mb (Array.getElem?_eq_some_iff.1 hmb).1 ?_), fun i b => ?_⟩ h.ge.1 h.ge.2.1 h.ge.2.2.1
    · obtain ⟨⟨i, hi', _, rfl⟩, _⟩ := (him b).1 hb'
      have h6 := h.itr i hi'
      have h7 := h.ge.2.2.2 i hi'
      omega
    · obtain ⟨⟨i, hi', _, rfl⟩, _⟩ := (him b).1 hb'
      obtain ⟨⟨j, hj', _, rfl⟩, _⟩ := (him c).1 hc'
      rw [h.iti i j hi' hj' e]
    · rintro (e | e | e)
      · exact map_ne hmb ho3.at' e
      · exact map_ne hmb r3 e
      · obtain ⟨q, e2⟩ := hme3.th _ e
        exact map_ne hmb e2 rfl
    · rw [him b]
      unfold updI
      split <;> rename_i c
      · subst c
        constructor
        · intro e
          cases e
        · rintro ⟨⟨⟨j, hj, _, rfl⟩, hne⟩, e⟩
          exact absurd (by rw [h.iti j i0 hj hi e]) hne
      · rw [hg i b]
        constructor
        · rintro ⟨h6, e⟩
          exact ⟨⟨h6, fun e2 => c (by rw [← e, e2])⟩, e⟩
        · rintro ⟨⟨h6, _⟩, e⟩
          exact ⟨h6, e⟩
  refine ⟨HS, fun w' hN => ?_⟩
  obtain ⟨_, a', cap', mb', nn', hH, hT5⟩ := hN
  have nho : ob ≠ hb := ne_of_type ho.at' hme.hd (by decide)
  refine ⟨a', cap', mb', nn', f2, M, hH, ho.kept (hT5.block ob ho.lt (fun e => nho e)), hM, hfew, hord, him, ?_, ?_⟩
  · refine { ((hT3.mono (S' := fun k => k = hb ∨ k = mb ∨ k = ob ∨ (Value.slice (some ⟨gp, 0, none⟩) (n + 1) cap).ownBlock = some k ∨ Img (n + 1) f (n + 1) k) (fun k _ e => ?_)).trans hT4 (fun k _ e => ?_)).trans hT5.toTn (fun k _ e => .inl e) with new := ⟨fun k hk => ?_, ?_⟩ }
    · rcases e with e | e | e
      · exact .inl e
      · exact .inr (.inl e)
      · exact .inr (.inr (.inr (.inl (by rw [e]; rfl))))
    · rcases e with e | e | e
      · exact .inr (.inr (.inl e))
      · exact .inr (.inr (.inr (.inl (by rw [e]; rfl))))
      · exact .inr (.inr (.inr (.inr e)))
    · have z3 := hT3.size
      have z4 := hT4.size
      rcases hT5.new.1 k hk with h8 | ⟨v0, h8, h9⟩
      · exact .inl (by omega)
      · rw [HS.cells.1] at h8
        cases h8
        exact .inr h9
    · have z3 := hT3.size
      have z4 := hT4.size
      rcases hT5.new.2 with h8 | h8
      · exact .inl (by omega)
      · rw [HS.cells.2.1] at h8
        cases h8
        exact .inr rfl
  · obtain ⟨q, eq⟩ := hme.th (f i0) ⟨i0, hi, by omega, rfl⟩
    exact ⟨q, (hT5.block _ (Array.getElem?_eq_some_iff.1 eq).1 (ne_of_type eq hme.hd (by decide))).trans eq⟩
end Go.Proofs.Ytklhenblcgmfhaa
namespace Go.Proofs.Ytklhenblcgmfhaa
open Go.RowKit
set_option maxRecDepth 100000
set_option linter.unusedVariables false
theorem neq_sameI {P : Program} (w : World) {tp te : TypeId} {j : TypeInfo} (a : Addr) (hp : P.underlying tp = some (.pointer te)) (hte : P.info? te = some j) :
    (binOp .neq tp (.pointer (some a)) (.pointer (some a))).run P w = .ok (.bool false) w := by
  have h : ∀ d : Nat, (Op.equalIn (d + 1) tp (.pointer (some a)) (.pointer (some a))).run P w = .ok true w := fun d => by
    simp [Op.equalIn, run_underlying hp, sizeOf, typeInfo, hte, run_sameAddr_same]
  simp only [binOp]
  simp [Op.equal, Op.maxDepth, h 9999]
theorem neq_otherI {P : Program} (w : World) {tp te : TypeId} {j : TypeInfo} {a b : Addr} {ca cb : Array Value} {ta tb : TypeId} (hp : P.underlying tp = some (.pointer te)) (hte : P.info? te = some j) (hsz : j.size ≠ 0)
    (hne : a ≠ b) (ha : w.heap[a.block]? = some (.cells ca ta (0, 0))) (hb : w.heap[b.block]? = some (.cells cb tb (0, 0))) :
    (binOp .neq tp (.pointer (some a)) (.pointer (some b))).run P w = .ok (.bool true) w := by
  have h : ∀ d : Nat, (Op.equalIn (d + 1) tp (.pointer (some a)) (.pointer (some b))).run P w = .ok false w := fun d => by
    simp [Op.equalIn, run_underlying hp, sizeOf, typeInfo, hte, hsz, run_sameAddr_other w hne ha hb]
  simp only [binOp]
  simp [Op.equal, Op.maxDepth, h 9999]
theorem Try.infoTI : (Try.prog.info? 81).map (fun i => i.size) = some 4 := by kernel_rfl
set_option maxHeartbeats 2000000 in
theorem takeI_any {base hb ob gp : Nat} {n cap mb nn : Nat} {pu : Int} {f : Nat → Nat} {it ke : Nat → Int} {va : Nat → Int} {lv : Value} {nx mod : Int} {tur : Bool} {lies : Int} {N : Nat} (i0 : Nat) (w : World) (h : HsI w base hb ob (some ⟨gp, 0, none⟩) (n + 1) cap mb nn pu f it ke va) (ho : Ordr w ob lv nx mod tur lies N) (hN : N < 999999999700) (hi : i0 < n + 1) (hb0 : base ≤ w.heap.size) :
    Calls Try.prog 40 #[.pointer (some ⟨hb, 0, none⟩), .pointer (some ⟨f i0, 0, none⟩)] w fun e w' => e = .returned (.pointer (some ⟨f i0, 0, none⟩)) ∧ TakI w base hb ob (some ⟨gp, 0, none⟩) n cap mb pu f it ke va lv nx mod tur lies N (f i0) w' := by
  have lt : ∀ {k : Nat} {o : Obj}, w.heap[k]? = some o → k < w.heap.size := fun e => (Array.getElem?_eq_some_iff.1 e).1
  obtain ⟨c1, c2, c3, c4⟩ := h.cells
  obtain ⟨gp', e, hbg, h1, hcap, cs, h3, h4, h5⟩ := h.some' (by omega)
  cases e
  obtain ⟨g, hm, hg⟩ := h.map
  obtain ⟨es, ck, hmb⟩ := hm.block
  have hir := h.itr i0 hi
  have hp1 := h.pu1
  have hl := h.lim
  have m2 : Mp w.drew mb nn g := hm.kept rfl
  obtain ⟨W1, hrun, m1, g1⟩ := m2.drop Try.underlying67 (i := it (f i0)) (by omega) (by omega) 0
  have G1 : w.grownBy W1 (some mb) := ⟨g1.os, g1.tape, g1.output, g1.size, g1.block⟩
  have k1 : ∀ k, k < w.heap.size → k ≠ mb → W1.heap[k]? = w.heap[k]? := fun k h1 h2 => g1.block k h1 (fun e => h2 (by injection e))
  have nhm : hb ≠ mb := fun e => map_ne hmb h.hd e.symm
  have ngm : gp ≠ mb := fun e => map_ne hmb h3 e.symm
  have nxm : f i0 ≠ mb := fun e => map_ne hmb (h.pl i0 hi) e.symm
  have px := h.pl i0 hi
  have nxg : f i0 ≠ gp := ne_of_type px h3 (by decide)
  have nxh : f i0 ≠ hb := ne_of_type px h.hd (by decide)
  have nhg : hb ≠ gp := ne_of_type h.hd h3 (by decide)
  have x0 : w.cell? ⟨f i0, 0, none⟩ = some (.int .i64 (it (f i0))) := by simp [World.cell?, px]
  have d1 : W1.cell? ⟨hb, 1, none⟩ = some (.slice (some ⟨gp, 0, none⟩) (n + 1) cap) := (World.cell?_of_block (k1 hb (lt h.hd) nhm)).trans c1
  have d2 : W1.cell? ⟨hb, 2, none⟩ = some (.map (some mb)) := (World.cell?_of_block (k1 hb (lt h.hd) nhm)).trans c2
  have d3 : W1.frozen? ⟨hb, 1, none⟩ = false := by
    have e := (k1 hb (lt h.hd) nhm).trans h.hd
    simp [World.frozen?, e]
  have d4 : W1.cell? ⟨f i0, 0, none⟩ = some (.int .i64 (it (f i0))) := (World.cell?_of_block (k1 _ (lt px) nxm)).trans x0
  have d5 : W1.cell? ⟨f i0, 3, none⟩ = some (.int .i64 (i0 : Int)) := by
    have e := (k1 _ (lt px) nxm).trans px
    simp [World.cell?, e]
  have eg := (k1 gp (lt h3) ngm).trans h3
  have d6 : W1.cell? ⟨gp, n, none⟩ = some (.pointer (some ⟨f n, 0, none⟩)) := by simp [World.cell?, eg, h5 n (by omega)]
  have d7 : W1.frozen? ⟨gp, n, none⟩ = false := by simp [World.frozen?, eg]
  obtain ⟨W3, hW3⟩ : ∃ W3, W3 = (W1.setCell ⟨gp, n, none⟩ (.pointer none)).setCell ⟨hb, 1, none⟩ (.slice (some ⟨gp, 0, none⟩) n cap) := ⟨_, rfl⟩
  obtain ⟨me3, od3, mb3, tn3⟩ := h.cut ho hi G1 W3 hW3
  have e3 : W3.cell? ⟨f i0, 3, none⟩ = some (.int .i64 (i0 : Int)) := by
    rw [hW3]
    exact (World.cell?_of_block ((Below.heap_setCell _ _ _ _ nxh).trans (Below.heap_setCell _ _ _ _ nxg))).trans d5
  have z3 := tn3.size
  have HW3 : Hid ((W1.setCell ⟨gp, n, none⟩ (.pointer none)).setCell ⟨hb, 1, none⟩ (.slice (some ⟨gp, 0, none⟩) n cap) = W3 ∧ base ≤ W3.heap.size) := ⟨hW3.symm, by omega⟩
  have m3 : Mp W3 mb nn (updI g (it (f i0)) none) := m1.kept mb3
  have hw1 : IntKind.i64.wrap ((n : Int) + 1 - 1) = (n : Int) := by rw [IntKind.wrap_i64]; omega
  have hw2 : IntKind.i64.wrap (n : Int) = (n : Int) := by rw [IntKind.wrap_i64]; omega
  obtain ⟨jt, hjt, hjs⟩ : ∃ j, Try.prog.info? 81 = some j ∧ j.size = 4 := by
    have := Try.infoTI
    cases e : Try.prog.info? 81 with
    | none => rw [e] at this; cases this
    | some j => rw [e] at this; exact ⟨j, rfl, by simpa using this⟩
  by_cases ci : i0 = n
  · -- the last one itself
    subst ci
    obtain ⟨HS4, TK⟩ := h.taken (W4 := W3) (W5 := W3) (f2 := f) (M := N) hi me3 od3 m3 hg tn3 me3 od3 (Nat.le_refl _) (by rw [Nat.sub_self, Nat.pow_zero, Nat.mul_assoc]; have := Nat.mul_pos (Nat.succ_pos i0) (Nat.succ_pos i0); simp only [Nat.succ_eq_add_one] at this; omega) (fun _ h0 p q hp hq hpq _ _ hR => h0 p q (by omega) (by omega) hpq (by omega) (by omega) hR) (fun b => ⟨fun ⟨j, hj, _, e⟩ => ⟨⟨j, by omega, by omega, e⟩, fun e2 => by have := h.inj (i := j) (j := i0) (by omega) hi (e.trans e2); omega⟩, fun ⟨⟨j, hj, _, e⟩, hne⟩ => ⟨j, by (have : j ≠ i0 := fun e2 => hne (by rw [← e, e2])); omega, by (have : j ≠ i0 := fun e2 => hne (by rw [← e, e2])); omega, e⟩⟩) (Tn.refl _ _)
    have NA : Hid (Calls Try.prog 65 #[.pointer (some ⟨hb, 0, none⟩)] W3 (NarI W3 base hb ob i0 pu f it ke va)) := narrowI_any W3 HS4 HW3.out.2
    have hnq := neq_sameI (P := Try.prog) ((W1.setCell ⟨gp, i0, none⟩ (.pointer none)).setCell ⟨hb, 1, none⟩ (.slice (some ⟨gp, 0, none⟩) i0 cap)) ⟨f i0, 0, none⟩ Try.underlying77 hjt
    have HT : Hid (∀ w', NarI W3 base hb ob i0 pu f it ke va (.returned (.tuple #[])) w' → TakI w base hb ob (some ⟨gp, 0, none⟩) i0 cap mb pu f it ke va lv nx mod tur lies N (f i0) w') := TK
    clear h ho me3 od3 tn3 m3 m1 g1 G1 k1 m2 hm hg hmb h3 h5 px eg hW3 mb3 HS4 TK lt
    generalize f i0 = x at *
    generalize it x = ix at *
    go_enter Try.func40, Try.ntmps40
    go_wp2_with fail
    rename_i hz
    go_region_held3 (fun w9 => w9.cell? ⟨hb, 2, none⟩ = some (.map (some mb)) ∧ w9.cell? ⟨x, 0, none⟩ = some (.int .i64 ix)) (first | (simp [go_sem, *]; done) | (trace_state; fail)) (first | (refine step_delete_runI rfl (.tmp 12) (.tmp 17) 67 3 rfl _ _ rfl rfl W1 hrun ?_))
    refine hz _ _ ?_
    go_wp2_with fail
    rw [HW3.out.1]
    refine Calls.mono NA.out ?_
    intro e w5 hN
    have e0 := hN.1
    subst e0
    have HT5 : Hid _ := HT.out w5 hN
    clear hN HT NA e3
    go_wp2_with fail
    go_ret
    exact ⟨rfl, HT5.out⟩
  · have hin : i0 < n := by omega
    have hneq : f n ≠ f i0 := fun e => ci (h.inj hi (by omega) e.symm)
    have FI : Hid (Calls Try.prog 42 #[.pointer (some ⟨hb, 0, none⟩), .int .i64 (i0 : Int), .pointer (some ⟨f n, 0, none⟩)] W3 fun e w' => e = .returned (.tuple #[]) ∧ ∃ f' M, FilI W3 hb ob gp n cap mb pu f (fun b => Img (n + 1) f (n + 1) b) it ke va lv nx mod tur lies N i0 (f n) w' f' M) := fillI_any i0 (f n) W3 me3 od3 (by omega) hin ⟨n, by omega, by omega, rfl⟩ (fun ⟨j, hj, _, e⟩ => by have := h.inj (i := j) (j := n) (by omega) (by omega) e; omega)
    have TA : Hid (∀ W4 f2 M, FilI W3 hb ob gp n cap mb pu f (fun b => Img (n + 1) f (n + 1) b) it ke va lv nx mod tur lies N i0 (f n) W4 f2 M → HsI W4 base hb ob (some ⟨gp, 0, none⟩) n cap mb nn pu f2 it ke va ∧ W3.heap.size ≤ W4.heap.size ∧ (∀ w', NarI W4 base hb ob n pu f2 it ke va (.returned (.tuple #[])) w' → TakI w base hb ob (some ⟨gp, 0, none⟩) n cap mb pu f it ke va lv nx mod tur lies N (f i0) w')) := fun W4 f2 M ⟨q1, q2, q3, q4, q5, q6, q7⟩ => by
      have q8 := q7.size
      have him : ∀ b, Img n f2 n b ↔ Img (n + 1) f (n + 1) b ∧ b ≠ f i0 := fun b => by
        refine (q6 b).trans ⟨?_, ?_⟩
        · rintro (⟨j, hj, hne, e⟩ | rfl)
          · exact ⟨⟨j, by omega, by omega, e⟩, fun e2 => hne (h.inj (by omega) hi (e.trans e2))⟩
          · exact ⟨⟨n, by omega, by omega, rfl⟩, hneq⟩
        · rintro ⟨⟨j, hj, _, e⟩, hne⟩
          by_cases ej : j = n
          · subst ej
            exact .inr e.symm
          · exact .inl ⟨j, by omega, fun e2 => hne (by rw [← e, e2]), e⟩
      obtain ⟨r1, r2⟩ := h.taken (W4 := W4) (W5 := W4) (f2 := f2) (M := M) hi me3 od3 m3 hg tn3 q1 q2 q3 q4 (fun e0 h0 => q5 e0 fun p q hp hq hpq _ _ hR => h0 p q (by omega) (by omega) hpq (by omega) (by omega) hR) him q7
      exact ⟨r1, q8, r2⟩
    have HB3 : Hid (base ≤ W3.heap.size) := HW3.out.2
    have hnq : (binOp .neq 77 (.pointer (some ⟨f n, 0, none⟩)) (.pointer (some ⟨f i0, 0, none⟩))).run Try.prog ((W1.setCell ⟨gp, n, none⟩ (.pointer none)).setCell ⟨hb, 1, none⟩ (.slice (some ⟨gp, 0, none⟩) n cap)) = .ok (.bool true) ((W1.setCell ⟨gp, n, none⟩ (.pointer none)).setCell ⟨hb, 1, none⟩ (.slice (some ⟨gp, 0, none⟩) n cap)) := by
      rw [HW3.out.1]
      obtain ⟨q1, t1⟩ := me3.th (f n) ⟨n, by omega, by omega, rfl⟩
      obtain ⟨q2, t2⟩ := me3.th (f i0) ⟨i0, hi, by omega, rfl⟩
      exact neq_otherI (P := Try.prog) W3 Try.underlying77 hjt (by omega) (fun e => hneq (by injection e)) t1 t2
    clear h ho me3 od3 tn3 m3 m1 g1 G1 k1 m2 hm hg hmb h3 h5 px eg hW3 mb3 lt
    generalize f i0 = x at *
    generalize f n = L at *
    generalize it x = ix at *
    go_enter Try.func40, Try.ntmps40
    go_wp2_with fail
    rename_i hz
    go_region_held3 (fun w9 => w9.cell? ⟨hb, 2, none⟩ = some (.map (some mb)) ∧ w9.cell? ⟨x, 0, none⟩ = some (.int .i64 ix)) (first | (simp [go_sem, *]; done) | (trace_state; fail)) (first | (refine step_delete_runI rfl (.tmp 12) (.tmp 17) 67 3 rfl _ _ rfl rfl W1 hrun ?_))
    refine hz _ _ ?_
    go_wp2_with fail
    rw [HW3.out.1]
    go_wp2_with fail
    refine Calls.mono FI.out ?_
    rintro e w4 ⟨rfl, f2, M, hF⟩
    obtain ⟨HS4, hz4, TK⟩ := TA.out w4 f2 M hF
    have NA : Hid (Calls Try.prog 65 #[.pointer (some ⟨hb, 0, none⟩)] w4 (NarI w4 base hb ob n pu f2 it ke va)) := narrowI_any w4 HS4 (by have := HB3.out; omega)
    have HT : Hid (∀ w', NarI w4 base hb ob n pu f2 it ke va (.returned (.tuple #[])) w' → TakI w base hb ob (some ⟨gp, 0, none⟩) n cap mb pu f it ke va lv nx mod tur lies N x w') := TK
    clear hF HS4 TK FI TA e3
    go_wp2_with fail
    refine Calls.mono NA.out ?_
    intro e w5 hN
    have e0 := hN.1
    subst e0
    have HT5 : Hid _ := HT.out w5 hN
    clear hN HT NA
    go_wp2_with fail
    go_ret
    exact ⟨rfl, HT5.out⟩
end Go.Proofs.Ytklhenblcgmfhaa
namespace Go.Proofs.Ytklhenblcgmfhaa
open Go.RowKit
set_option maxRecDepth 100000
set_option linter.unusedVariables false
theorem HsI.drewN {w : World} {base hb ob : Nat} {a : Option Addr} {n cap mb nn : Nat} {pu : Int} {f : Nat → Nat} {it ke : Nat → Int} {va : Nat → Int} (h : HsI w base hb ob a n cap mb nn pu f it ke va) (m : Nat) : HsI (w.drewN m) base hb ob a n cap mb nn pu f it ke va :=
  { h with hd := h.hd, row := own_kept h.row fun _ _ => rfl, pl := h.pl, mp := by obtain ⟨g, h1, h2⟩ := h.mp; exact ⟨g, h1.kept rfl, h2⟩ }
theorem TakI.drewN {w w1 : World} {base hb ob : Nat} {a : Option Addr} {n cap mb : Nat} {pu : Int} {f : Nat → Nat} {it ke : Nat → Int} {va : Nat → Int} {lv : Value} {nx mod : Int} {tur : Bool} {lies : Int} {N x : Nat} (h : TakI w base hb ob a n cap mb pu f it ke va lv nx mod tur lies N x w1) (m : Nat) : TakI w base hb ob a n cap mb pu f it ke va lv nx mod tur lies N x (w1.drewN m) := by
  obtain ⟨a', cap', mb', nn', f', M, q1, q2, q3, q4, q5, q6, q7, q8⟩ := h
  exact ⟨a', cap', mb', nn', f', M, q1.drewN m, q2.kept rfl, q3, q4, q5, q6, { q7.toTn.drewN m with new := q7.new }, q8⟩
theorem takeI_none (hb : Nat) (w : World) : Calls Try.prog 40 #[.pointer (some ⟨hb, 0, none⟩), .pointer none] w fun e w' => e = .returned (.pointer none) ∧ w' = w := by
  go_enter Try.func40, Try.ntmps40
  go_wp2_with fail
  go_ret
  exact ⟨rfl, rfl⟩
set_option maxHeartbeats 1000000 in
theorem popMaxI_none {base hb ob : Nat} {a : Option Addr} {cap mb nn : Nat} {pu : Int} {f : Nat → Nat} {it ke : Nat → Int} {va : Nat → Int} (w : World) (h : HsI w base hb ob a 0 cap mb nn pu f it ke va) :
    Calls Try.prog 21 #[.pointer (some ⟨hb, 0, none⟩)] w fun e w' => e = .returned (.tuple #[.int .i64 0, .int .i64 0, .int .i64 (0 : Int), .bool false]) ∧ ∃ m, w' = w.drewN m := by
  have FI : Hid (Calls Try.prog 45 #[.pointer (some ⟨hb, 0, none⟩)] w fun e w' => e = .returned (.pointer none) ∧ w' = w) := lastI_any w h
  have TA : Hid (Calls Try.prog 40 #[.pointer (some ⟨hb, 0, none⟩), .pointer none] w fun e w' => e = .returned (.pointer none) ∧ w' = w) := takeI_none hb w
  have TE : Hid (Calls Try.prog 41 #[.pointer none] w fun e w' => e = .returned (.tuple #[.int .i64 0, .int .i64 0, .int .i64 (0 : Int), .bool false]) ∧ ∃ m, w' = w.drewN m) := tellI_any (it := it) (ke := ke) (va := va) none w (fun b e => by cases e)
  clear h
  go_enter Try.func21, Try.ntmps21
  go_wp2_with (first | (go_at_call 45; refine Calls.mono FI.out ?_; rintro e w8 ⟨rfl, rfl⟩) | (go_at_call 40; refine Calls.mono TA.out ?_; rintro e w9 ⟨rfl, rfl⟩) | (go_at_call 41; refine Calls.mono TE.out ?_; rintro e w7 ⟨rfl, m, rfl⟩))
  (try simp only [Exit.inBlock, Exit.then]); refine bodyPost_ret (results_tmp4I rfl _ _ _) rfl ?_
  exact ⟨rfl, _, rfl⟩
set_option maxHeartbeats 1000000 in
theorem popMaxI_any {base hb ob : Nat} {a : Option Addr} {n cap mb nn : Nat} {pu : Int} {f : Nat → Nat} {it ke : Nat → Int} {va : Nat → Int} {lv : Value} {nx mod : Int} {tur : Bool} {lies : Int} {N : Nat} (w : World) (h : HsI w base hb ob a (n + 1) cap mb nn pu f it ke va) (ho : Ordr w ob lv nx mod tur lies N) (hN : N < 999999999700) (hb0 : base ≤ w.heap.size) :
    Calls Try.prog 21 #[.pointer (some ⟨hb, 0, none⟩)] w fun e w' => e = .returned (.tuple #[.int .i64 (it (f (if n = 0 then 0 else 1))), .int .i64 (ke (f (if n = 0 then 0 else 1))), .int .i64 (va (f (if n = 0 then 0 else 1))), .bool true]) ∧ TakI w base hb ob a n cap mb pu f it ke va lv nx mod tur lies N (f (if n = 0 then 0 else 1)) w' := by
  obtain ⟨gp, rfl, _⟩ := h.some' (by omega)
  have FI : Hid (Calls Try.prog 45 #[.pointer (some ⟨hb, 0, none⟩)] w fun e w' => e = .returned (.pointer (some ⟨f (if n = 0 then 0 else 1), 0, none⟩)) ∧ w' = w) := by
    have := lastI_any w h
    rw [show lst? (n + 1) f = some (f (if n = 0 then 0 else 1)) by unfold lst?; rw [if_neg (by omega)]; split <;> split <;> first | rfl | omega] at this
    exact this
  have TA : Hid (Calls Try.prog 40 #[.pointer (some ⟨hb, 0, none⟩), .pointer (some ⟨f (if n = 0 then 0 else 1), 0, none⟩)] w fun e w' => e = .returned (.pointer (some ⟨f (if n = 0 then 0 else 1), 0, none⟩)) ∧ TakI w base hb ob (some ⟨gp, 0, none⟩) n cap mb pu f it ke va lv nx mod tur lies N (f (if n = 0 then 0 else 1)) w') := takeI_any (if n = 0 then 0 else 1) w h ho hN (by split <;> omega) hb0
  clear h ho
  generalize f (if n = 0 then 0 else 1) = x at *
  go_enter Try.func21, Try.ntmps21
  go_wp2_with (first | (go_at_call 45; refine Calls.mono FI.out ?_; rintro e w8 ⟨rfl, rfl⟩))
  refine Calls.mono TA.out ?_
  rintro e w9 ⟨rfl, hT⟩
  have TE : Hid (Calls Try.prog 41 #[.pointer (some ⟨x, 0, none⟩)] w9 fun e w' => e = .returned (.tuple #[.int .i64 (it x), .int .i64 (ke x), .int .i64 (va x), .bool true]) ∧ ∃ m, w' = w9.drewN m) := tellI_any (some x) w9 (fun b e => by
    cases e
    obtain ⟨a', cap', mb', nn', f', M, _, _, _, _, _, _, _, q8⟩ := hT
    exact q8)
  have HT : Hid _ := hT
  clear hT
  go_wp2_with (first | (go_at_call 41; refine Calls.mono TE.out ?_; rintro e w7 ⟨rfl, m, rfl⟩))
  (try simp only [Exit.inBlock, Exit.then]); refine bodyPost_ret (results_tmp4I rfl _ _ _) rfl ?_
  exact ⟨rfl, TakI.drewN HT.out _⟩
theorem updateI_none {base hb ob : Nat} {a : Option Addr} {n cap mb nn : Nat} {pu : Int} {f : Nat → Nat} {it ke : Nat → Int} {va : Nat → Int} (i k : Int) (w : World) (h : HsI w base hb ob a n cap mb nn pu f it ke va) (h1 : -9223372036854775808 ≤ i) (h2 : i ≤ 9223372036854775807) (hn : ∀ b, Img n f n b → it b ≠ i) :
    Calls Try.prog 16 #[.pointer (some ⟨hb, 0, none⟩), .int .i64 i, .int .i64 k] w fun e w' => e = .returned (.int .i64 50) ∧ w' = w := by
  obtain ⟨c1, c2, c3, c4⟩ := h.cells
  obtain ⟨g, hm, hg⟩ := h.map
  have hr := hm.look Try.underlying67 (by rfl) (i := i) h1 h2
  have e0 : g i = none := by
    cases e : g i with
    | none => rfl
    | some b => exact absurd ((hg i b).1 e).2 (hn b ((hg i b).1 e).1)
  rw [e0] at hr
  simp only [pV] at hr
  clear h hm hg
  go_enter Try.func16, Try.ntmps16
  go_wp2_with fail
  go_ret
  exact ⟨rfl, rfl⟩
theorem fn_nilI (ob : Nat) (w : World) : (binOp .eql 66 (.func (.func 28) #[.pointer (some ⟨ob, 0, none⟩)] #[]) .nilFunc).run Try.prog w = .ok (.bool false) w := by kernel_rfl
theorem newI_any (ob : Nat) (base : Nat) (w : World) (hb : base ≤ w.heap.size) (ho : base ≤ ob) :
    Calls Try.prog 10 #[.func (.func 28) #[.pointer (some ⟨ob, 0, none⟩)] #[]] w fun e w' => e = .returned (.pointer (some ⟨w.heap.size + 1, 0, none⟩)) ∧ HsI w' base (w.heap.size + 1) ob none 0 0 w.heap.size 0 0 (fun _ => 0) (fun _ => 0) (fun _ => 0) (fun _ => (0 : Int)) ∧ Below w.heap.size w w' := by
  have hmm := @run_makeMap Try.prog
  have hfn := fn_nilI ob w
  go_enter Try.func10, Try.ntmps10
  go_wp2_with fail
  go_ret
  have s1 : (w.alloc (.map #[] 0)).heap.size = w.heap.size + 1 := by simp
  refine ⟨rfl, ?_, ((Below.refl _ _).alloc (Nat.le_refl _) _).alloc (by simp) _⟩
  have e1 := (MapKept.heap_alloc (w.alloc (.map #[] 0)) (.cells #[.func (.func 28) #[.pointer (some ⟨ob, 0, none⟩)] #[], .slice none 0 0, .map (some w.heap.size), .int .i64 0] 70)).1
  rw [s1] at e1
  refine { hd := e1, row := World.ownsRow_nil _ _ _ _, lim := by omega, pl := fun i hi => by omega, wf := fun i hi => by omega, itr := fun i hi => by omega, iti := fun i j hi => by omega, pu0 := Int.le_refl _, pu1 := by omega, nn1 := by omega, mp := ⟨fun _ => none, (Mp.made w).kept (Below.heap_alloc _ _ _ (by simp)), fun i b => ⟨fun e => (by cases e), fun e => (by obtain ⟨j, hj, _⟩ := e; omega)⟩⟩, ge := ⟨by omega, ho, hb, fun i hi => by omega⟩ }
end Go.Proofs.Ytklhenblcgmfhaa
namespace Go.Proofs.Ytklhenblcgmfhaa
open Go.RowKit
set_option maxRecDepth 100000
set_option linter.unusedVariables false
theorem anc_root : ∀ j, Anc 0 j := by
  intro j
  induction j using Nat.strongRecOn with
  | _ j ih =>
    rcases Nat.eq_zero_or_pos j with rfl | h
    · exact .refl
    · exact .step h (ih _ (by omega))
theorem ord_min {le : Nat → Nat → Prop} (T : Total le) {n : Nat} {f : Nat → Nat} (h : Ord le n f n) {b : Nat} (hb : Img n f n b) : le (f 0) b := by
  obtain ⟨i, hi, _, rfl⟩ := hb
  by_cases c : i = 0
  · subst c
    exact T.refl _
  · refine h 0 i (by omega) hi (Ne.symm c) (by omega) (by omega) ?_
    rcases Nat.mod_two_eq_zero_or_one i with e | e
    · exact .inl ⟨rfl, e, anc_root _⟩
    · exact .inr (.inr ⟨rfl, e, .inl (anc_root _)⟩)
theorem ord_max {le : Nat → Nat → Prop} (T : Total le) {n : Nat} {f : Nat → Nat} (h : Ord le (n + 1) f (n + 1)) {b : Nat} (hb : Img (n + 1) f (n + 1) b) : le b (f (if n = 0 then 0 else 1)) := by
  obtain ⟨i, hi, _, rfl⟩ := hb
  split
  · have : i = 0 := by omega
    subst this
    exact T.refl _
  · by_cases c : i = 1
    · subst c
      exact T.refl _
    · refine h i 1 hi (by omega) c (by omega) (by omega) ?_
      rcases Nat.mod_two_eq_zero_or_one i with e | e
      · exact .inr (.inr ⟨e, rfl, .inr (anc_root _)⟩)
      · exact .inr (.inl ⟨e, rfl, anc_root _⟩)
theorem asked_any (n : Nat) (hn : n ≤ 1000000) (w : World) : Calls Try.prog 26 #[.int .i64 (n : Int)] w fun e w' => (∃ d : Nat, e = .returned (.int .i64 ((12 * d + 12 : Nat) : Int)) ∧ n < 2 ^ d ∧ d ≤ 20) ∧ w' = w := by
  go_enter Try.func26, Try.ntmps26
  go_wp2_with fail
  go_loopw [0, 3] (fun t s wr => ∃ (m d : Nat), t = .int .i64 (m : Int) ∧ s = .int .i64 (d : Int) ∧ wr = w ∧ Hid (n < 2 ^ d * (m + 1) ∧ d ≤ 20 ∧ m * 2 ^ d ≤ 1000000)) (fun t _ _ => (intOf t).toNat)
  case atStart => exact ⟨n, 0, rfl, rfl, rfl, ⟨by omega, by omega, by omega⟩⟩
  case round =>
    obtain ⟨m, d, rfl, rfl, rfl, hH⟩ := hrel
    by_cases c : 0 < m
    · have hd : d ≤ 19 := by
        rcases Nat.lt_or_ge 19 d with h | h
        · have h5 : 2 ^ 20 ≤ 2 ^ d := Nat.pow_le_pow_right (by decide) h
          have h6 : 1 * 2 ^ d ≤ m * 2 ^ d := Nat.mul_le_mul_right _ c
          have h3 := hH.out.2.2
          have : (2 : Nat) ^ 20 = 1048576 := by decide
          omega
        · exact h
      have hm : m ≤ 1000000 := by
        have h6 : m * 1 ≤ m * 2 ^ d := Nat.mul_le_mul_left _ (Nat.one_le_two_pow)
        have h3 := hH.out.2.2
        omega
      have e1 : (m : Int).tdiv 2 = ((m / 2 : Nat) : Int) := by rw [Int.tdiv_eq_ediv_of_nonneg (by omega)]; omega
      have e2 : (m : Int) / 2 = ((m / 2 : Nat) : Int) := by omega
      have w1 : IntKind.i64.wrap ((m / 2 : Nat) : Int) = ((m / 2 : Nat) : Int) := by rw [IntKind.wrap_i64]; omega
      have w2 : IntKind.i64.wrap ((d : Int) + 1) = (d : Int) + 1 := by rw [IntKind.wrap_i64]; omega
      obtain ⟨q, eq⟩ : ∃ q, q = m / 2 := ⟨_, rfl⟩
      rw [← eq] at e1 e2 w1
      have HQ : Hid (q = m / 2) := eq
      clear eq
      go_wp2_with fail
      go_roundw
      case rel =>
        obtain ⟨h1, h2, h3⟩ := hH.out
        have eq := HQ.out
        refine ⟨q, d + 1, rfl, by go_num, by first | rfl | trivial, ⟨?_, by omega, ?_⟩⟩
        · rw [Nat.pow_succ, Nat.mul_assoc]
          have : 2 ^ d * (m + 1) ≤ 2 ^ d * (2 * (q + 1)) := Nat.mul_le_mul_left _ (by omega)
          omega
        · rw [Nat.pow_succ, Nat.mul_comm (2 ^ d) 2, ← Nat.mul_assoc]
          have : q * 2 * 2 ^ d ≤ m * 2 ^ d := Nat.mul_le_mul_right _ (by omega)
          omega
      case measure =>
        have eq := HQ.out
        simp [intOf]
        omega
    · obtain rfl : m = 0 := by omega
      have hd : d ≤ 20 := hH.out.2.1
      have w3 : IntKind.i64.wrap (12 * (d : Int)) = 12 * (d : Int) := by rw [IntKind.wrap_i64]; omega
      have w4 : IntKind.i64.wrap (12 * (d : Int) + 12) = ((12 * d + 12 : Nat) : Int) := by rw [IntKind.wrap_i64]; omega
      go_wp2_with fail
      go_ret
      exact ⟨⟨d, by simp, by have := hH.out.1; omega, hd⟩, rfl⟩
/-- So seldom is it asked. -/
theorem few_asked {M n d : Nat} (h : 2 ^ M ≤ 4 * (n + 1) * (n + 1)) (hd : n < 2 ^ d) : M ≤ 12 * d + 12 := by
  rcases Nat.lt_or_ge (2 * d + 2) M with h1 | h1
  · have h2 : 2 ^ (2 * d + 3) ≤ 2 ^ M := Nat.pow_le_pow_right (by decide) h1
    have h3 : (n + 1) * (n + 1) ≤ 2 ^ d * 2 ^ d := Nat.mul_le_mul hd hd
    have h4 : 2 ^ (2 * d + 3) = 8 * (2 ^ d * 2 ^ d) := by rw [Nat.pow_add, Nat.two_mul, Nat.pow_add]; omega
    rw [Nat.mul_assoc] at h
    have h5 : 0 < 2 ^ d * 2 ^ d := Nat.mul_pos (Nat.two_pow_pos _) (Nat.two_pow_pos _)
    omega
  · omega
theorem few_pushed {M n d : Nat} (h : 2 ^ M ≤ 4 * (n + 1)) (hd : n < 2 ^ d) : M ≤ 12 * d + 12 := by
  refine few_asked (n := n) (Nat.le_trans h ?_) hd
  exact Nat.le_mul_of_pos_right _ (by omega)
end Go.Proofs.Ytklhenblcgmfhaa
namespace Go.Proofs.Ytklhenblcgmfhaa
open Go.RowKit
set_option maxRecDepth 100000
set_option linter.unusedVariables false
/-- A heap whose place hole is empty: what lies in the others. -/
structure MeS (W : World) (hb ob gp n cap mb : Nat) (pu : Int) (f : Nat → Nat) (B : Nat → Prop) (it ke : Nat → Int) (va : Nat → ByteArray) (hole : Nat) : Prop where
  hd : W.heap[hb]? = some (.cells #[.func (.func 28) #[.pointer (some ⟨ob, 0, none⟩)] #[], .slice (some ⟨gp, 0, none⟩) n cap, .map (some mb), .int .i64 pu] 95)
  row : ∃ cs : Array Value, W.heap[gp]? = some (.cells cs 96) ∧ cs.size = cap ∧ ∀ i, i < n → cs[i]? = some (.pointer (some ⟨f i, 0, none⟩))
  le : n ≤ cap
  lim : n ≤ 1099511627776
  th : ∀ b, B b → ∃ q : Int, W.heap[b]? = some (.cells #[.int .i64 (it b), .int .i64 (ke b), .string (va b), .int .i64 q] 98)
  fB : ∀ i, i < n → i ≠ hole → B (f i)
  pl : ∀ i, i < n → i ≠ hole → W.heap[f i]? = some (.cells #[.int .i64 (it (f i)), .int .i64 (ke (f i)), .string (va (f i)), .int .i64 (i : Int)] 98)
  wf : ∀ b, B b → (-9223372036854775808 ≤ it b ∧ it b ≤ 9223372036854775807) ∧ -9223372036854775808 ≤ ke b ∧ ke b ≤ 9223372036854775807
theorem MeS.keep {W W' : World} {hb ob gp n cap mb : Nat} {pu : Int} {f : Nat → Nat} {B : Nat → Prop} {it ke : Nat → Int} {va : Nat → ByteArray} {hole : Nat} (h : MeS W hb ob gp n cap mb pu f B it ke va hole) (hk : ∀ (k : Nat) (cs : Array Value) (t : TypeId), W.heap[k]? = some (.cells cs t) → t ≠ 57 → W'.heap[k]? = W.heap[k]?) : MeS W' hb ob gp n cap mb pu f B it ke va hole := by
  refine { h with hd := (hk _ _ _ h.hd (by decide)).trans h.hd, row := ?_, th := fun b hb => ?_, pl := fun i hi hn => (hk _ _ _ (h.pl i hi hn) (by decide)).trans (h.pl i hi hn) }
  · obtain ⟨cs, e, r⟩ := h.row
    exact ⟨cs, (hk _ _ _ e (by decide)).trans e, r⟩
  · obtain ⟨q, e⟩ := h.th b hb
    exact ⟨q, (hk _ _ _ e (by decide)).trans e⟩
set_option maxHeartbeats 1000000 in
theorem aheadS_any {hb ob gp n cap mb : Nat} {pu : Int} {f : Nat → Nat} {B : Nat → Prop} {it ke : Nat → Int} {va : Nat → ByteArray} {hole : Nat} {lv : Value} {nx mod : Int} {tur : Bool} {lies : Int} {N : Nat} (x y : Nat) (w : World) (h : MeS w hb ob gp n cap mb pu f B it ke va hole) (ho : Ordr w ob lv nx mod tur lies N) (hN : N < 1000000000000) (hx : B x) (hy : B y) :
    Calls Try.prog 79 #[.pointer (some ⟨hb, 0, none⟩), .pointer (some ⟨x, 0, none⟩), .pointer (some ⟨y, 0, none⟩)] w (Asks w ob lv nx mod tur lies N (fun t => (t = true → leB mod tur it ke x y) ∧ (t = false → leB mod tur it ke y x))) := by
  obtain ⟨qx, ex⟩ := h.th x hx
  obtain ⟨qy, ey⟩ := h.th y hy
  have x0 : w.cell? ⟨x, 0, none⟩ = some (.int .i64 (it x)) := by simp [World.cell?, ex]
  have x1 : w.cell? ⟨x, 1, none⟩ = some (.int .i64 (ke x)) := by simp [World.cell?, ex]
  have y0 : w.cell? ⟨y, 0, none⟩ = some (.int .i64 (it y)) := by simp [World.cell?, ey]
  have y1 : w.cell? ⟨y, 1, none⟩ = some (.int .i64 (ke y)) := by simp [World.cell?, ey]
  have b0 : w.cell? ⟨hb, 0, none⟩ = some (.func (.func 28) #[.pointer (some ⟨ob, 0, none⟩)] #[]) := by simp [World.cell?, h.hd]
  obtain ⟨⟨wx1, wx2⟩, wx3, wx4⟩ := h.wf x hx
  obtain ⟨⟨wy1, wy2⟩, wy3, wy4⟩ := h.wf y hy
  have HO : Hid (Ordr w ob lv nx mod tur lies N ∧ (w.heap[hb]? = some (.cells #[.func (.func 28) #[.pointer (some ⟨ob, 0, none⟩)] #[], .slice (some ⟨gp, 0, none⟩) n cap, .map (some mb), .int .i64 pu] 95)) ∧ (w.heap[x]? = some (.cells #[.int .i64 (it x), .int .i64 (ke x), .string (va x), .int .i64 qx] 98)) ∧ w.heap[y]? = some (.cells #[.int .i64 (it y), .int .i64 (ke y), .string (va y), .int .i64 qy] 98)) := ⟨ho, h.hd, ex, ey⟩
  clear ex ey h ho
  go_enter Try.func79, Try.ntmps79
  by_cases c : it x < it y
  · go_wp2_with fail
    go_quiet (fail)
    go_wp2_with fail
    rename_i hz
    obtain ⟨W, hW⟩ : ∃ W, W = w.drewN nq := ⟨_, rfl⟩
    have HO2 : Hid (Ordr W ob lv nx mod tur lies N ∧ (W.heap[hb]? = some (.cells #[.func (.func 28) #[.pointer (some ⟨ob, 0, none⟩)] #[], .slice (some ⟨gp, 0, none⟩) n cap, .map (some mb), .int .i64 pu] 95)) ∧ (W.heap[x]? = some (.cells #[.int .i64 (it x), .int .i64 (ke x), .string (va x), .int .i64 qx] 98)) ∧ W.heap[y]? = some (.cells #[.int .i64 (it y), .int .i64 (ke y), .string (va y), .int .i64 qy] 98)) := by rw [hW]; exact ⟨HO.out.1.kept rfl, HO.out.2⟩
    have HTn : Hid (Tn (fun k => k = ob) w W) := by rw [hW]; exact (Tn.refl _ _).drewN _
    rw [← hW]
    clear hW HO x0 x1 y0 y1 b0
    have x1 : W.cell? ⟨x, 1, none⟩ = some (.int .i64 (ke x)) := by simp [World.cell?, HO2.out.2.2.1]
    have y1 : W.cell? ⟨y, 1, none⟩ = some (.int .i64 (ke y)) := by simp [World.cell?, HO2.out.2.2.2]
    have b0 : W.cell? ⟨hb, 0, none⟩ = some (.func (.func 28) #[.pointer (some ⟨ob, 0, none⟩)] #[]) := by simp [World.cell?, HO2.out.2.1]
    have BF : Hid (Calls Try.prog 28 #[.pointer (some ⟨ob, 0, none⟩), .int .i64 (ke y), .int .i64 (ke x)] W.drew (Asks W.drew ob lv nx mod tur lies N (fun t => t = decide (rk mod tur (ke y) < rk mod tur (ke x))))) := before_any ob lv nx mod tur lies N (ke y) (ke x) W.drew (HO2.out.1.kept rfl) hN wy3 wy4 wx3 wx4
    go_region_held3 (fun w9 => w9.cell? ⟨hb, 0, none⟩ = some (.func (.func 28) #[.pointer (some ⟨ob, 0, none⟩)] #[]) ∧ w9.cell? ⟨x, 1, none⟩ = some (.int .i64 (ke x)) ∧ w9.cell? ⟨y, 1, none⟩ = some (.int .i64 (ke y))) (first | (simp [go_sem, *]; done) | (trace_state; fail))
      (first
        | (go_at_call 28; refine Calls.mono BF.out ?_; rintro e w5 ⟨t, rfl, hp, h5, hT⟩; have H5 : Hid ((lies = 0 → t = decide (rk mod tur (ke y) < rk mod tur (ke x))) ∧ Ordr w5 ob lv nx mod tur lies (N + 1) ∧ Tn (fun k => k = ob) W w5) := ⟨hp, h5, ⟨hT.os, hT.tape, hT.output, hT.size, hT.block⟩⟩; have m0 := (HO2.out.1.held H5.out.2.2 HO2.out.2.1 (i := 0) (by decide)).trans b0; have m1 := (HO2.out.1.held H5.out.2.2 HO2.out.2.2.1 (i := 1) (by decide)).trans x1; have m2 := (HO2.out.1.held H5.out.2.2 HO2.out.2.2.2 (i := 1) (by decide)).trans y1; clear hp h5 hT))
    refine hz _ _ ?_
    go_wp2_with fail
    go_ret
    refine ⟨_, rfl, fun e0 => ?_, H5.out.2.1, HTn.out.trans (S' := fun k => k = ob) H5.out.2.2 (fun _ _ e => e)⟩
    have ht := H5.out.1 e0
    unfold leB
    subst ht
    constructor
    · intro e1
      simp at e1
      omega
    · intro e1
      simp at e1
      omega
  · go_wp2_with fail
    go_quiet (fail)
    go_wp2_with fail
    rename_i hz
    obtain ⟨W, hW⟩ : ∃ W, W = w.drewN nq := ⟨_, rfl⟩
    have HO2 : Hid (Ordr W ob lv nx mod tur lies N ∧ (W.heap[hb]? = some (.cells #[.func (.func 28) #[.pointer (some ⟨ob, 0, none⟩)] #[], .slice (some ⟨gp, 0, none⟩) n cap, .map (some mb), .int .i64 pu] 95)) ∧ (W.heap[x]? = some (.cells #[.int .i64 (it x), .int .i64 (ke x), .string (va x), .int .i64 qx] 98)) ∧ W.heap[y]? = some (.cells #[.int .i64 (it y), .int .i64 (ke y), .string (va y), .int .i64 qy] 98)) := by rw [hW]; exact ⟨HO.out.1.kept rfl, HO.out.2⟩
    have HTn : Hid (Tn (fun k => k = ob) w W) := by rw [hW]; exact (Tn.refl _ _).drewN _
    rw [← hW]
    clear hW HO x0 x1 y0 y1 b0
    have x1 : W.cell? ⟨x, 1, none⟩ = some (.int .i64 (ke x)) := by simp [World.cell?, HO2.out.2.2.1]
    have y1 : W.cell? ⟨y, 1, none⟩ = some (.int .i64 (ke y)) := by simp [World.cell?, HO2.out.2.2.2]
    have b0 : W.cell? ⟨hb, 0, none⟩ = some (.func (.func 28) #[.pointer (some ⟨ob, 0, none⟩)] #[]) := by simp [World.cell?, HO2.out.2.1]
    have BF : Hid (Calls Try.prog 28 #[.pointer (some ⟨ob, 0, none⟩), .int .i64 (ke x), .int .i64 (ke y)] W.drew (Asks W.drew ob lv nx mod tur lies N (fun t => t = decide (rk mod tur (ke x) < rk mod tur (ke y))))) := before_any ob lv nx mod tur lies N (ke x) (ke y) W.drew (HO2.out.1.kept rfl) hN wx3 wx4 wy3 wy4
    go_region_held3 (fun w9 => w9.cell? ⟨hb, 0, none⟩ = some (.func (.func 28) #[.pointer (some ⟨ob, 0, none⟩)] #[]) ∧ w9.cell? ⟨x, 1, none⟩ = some (.int .i64 (ke x)) ∧ w9.cell? ⟨y, 1, none⟩ = some (.int .i64 (ke y))) (first | (simp [go_sem, *]; done) | (trace_state; fail))
      (first
        | (go_at_call 28; refine Calls.mono BF.out ?_; rintro e w5 ⟨t, rfl, hp, h5, hT⟩; have H5 : Hid ((lies = 0 → t = decide (rk mod tur (ke x) < rk mod tur (ke y))) ∧ Ordr w5 ob lv nx mod tur lies (N + 1) ∧ Tn (fun k => k = ob) W w5) := ⟨hp, h5, ⟨hT.os, hT.tape, hT.output, hT.size, hT.block⟩⟩; have m0 := (HO2.out.1.held H5.out.2.2 HO2.out.2.1 (i := 0) (by decide)).trans b0; have m1 := (HO2.out.1.held H5.out.2.2 HO2.out.2.2.1 (i := 1) (by decide)).trans x1; have m2 := (HO2.out.1.held H5.out.2.2 HO2.out.2.2.2 (i := 1) (by decide)).trans y1; clear hp h5 hT))
    refine hz _ _ ?_
    go_wp2_with fail
    go_ret
    refine ⟨_, rfl, fun e0 => ?_, H5.out.2.1, HTn.out.trans (S' := fun k => k = ob) H5.out.2.2 (fun _ _ e => e)⟩
    have ht := H5.out.1 e0
    unfold leB
    subst ht
    constructor
    · intro e1
      simp at e1
      omega
    · intro e1
      simp at e1
      omega
end Go.Proofs.Ytklhenblcgmfhaa
namespace Go.Proofs.Ytklhenblcgmfhaa
open Go.RowKit
set_option maxRecDepth 100000
set_option linter.unusedVariables false
theorem MeS.c1 {w : World} {hb ob gp n cap mb : Nat} {pu : Int} {f : Nat → Nat} {B : Nat → Prop} {it ke : Nat → Int} {va : Nat → ByteArray} {hole : Nat} (h : MeS w hb ob gp n cap mb pu f B it ke va hole) : w.cell? ⟨hb, 1, none⟩ = some (.slice (some ⟨gp, 0, none⟩) n cap) := by simp [World.cell?, h.hd]
theorem MeS.at {w : World} {hb ob gp n cap mb : Nat} {pu : Int} {f : Nat → Nat} {B : Nat → Prop} {it ke : Nat → Int} {va : Nat → ByteArray} {hole : Nat} (h : MeS w hb ob gp n cap mb pu f B it ke va hole) {i : Nat} (hi : i < n) : w.cell? ⟨gp, i, none⟩ = some (.pointer (some ⟨f i, 0, none⟩)) := by
  obtain ⟨cs, e, _, hc⟩ := h.row
  simp [World.cell?, e, hc i hi]
set_option maxHeartbeats 1000000 in
theorem overS_any {hb ob gp n cap mb : Nat} {pu : Int} {f : Nat → Nat} {B : Nat → Prop} {it ke : Nat → Int} {va : Nat → ByteArray} {hole : Nat} {lv : Value} {nx mod : Int} {tur : Bool} {lies : Int} {N : Nat} (x y p : Nat) (w : World) (h : MeS w hb ob gp n cap mb pu f B it ke va hole) (ho : Ordr w ob lv nx mod tur lies N) (hN : N < 1000000000000) (hx : B x) (hy : B y) (hp : p < 4611686018427387904) :
    Calls Try.prog 69 #[.pointer (some ⟨hb, 0, none⟩), .pointer (some ⟨x, 0, none⟩), .pointer (some ⟨y, 0, none⟩), .int .i64 (p : Int)] w (Asks w ob lv nx mod tur lies N (OvP (leB mod tur it ke) x y p)) := by
  have A1 : Hid (Calls Try.prog 79 #[.pointer (some ⟨hb, 0, none⟩), .pointer (some ⟨x, 0, none⟩), .pointer (some ⟨y, 0, none⟩)] w (Asks w ob lv nx mod tur lies N (fun t => (t = true → leB mod tur it ke x y) ∧ (t = false → leB mod tur it ke y x)))) := aheadS_any x y w h ho hN hx hy
  have A2 : Hid (Calls Try.prog 79 #[.pointer (some ⟨hb, 0, none⟩), .pointer (some ⟨y, 0, none⟩), .pointer (some ⟨x, 0, none⟩)] w (Asks w ob lv nx mod tur lies N (fun t => (t = true → leB mod tur it ke y x) ∧ (t = false → leB mod tur it ke x y)))) := aheadS_any y x w h ho hN hy hx
  have E : Hid (Calls Try.prog 73 #[.int .i64 (p : Int)] w fun e w' => e = .returned (.bool (decide (p % 2 = 0))) ∧ w' = w) := even_any p hp w
  clear h ho
  rcases Nat.mod_two_eq_zero_or_one p with c | c
  · rw [show decide (p % 2 = 0) = true by simp [c]] at E
    go_enter Try.func69, Try.ntmps69
    go_wp2_with (first | (go_at_call 73; refine Calls.mono E.out ?_; rintro e w1 ⟨rfl, rfl⟩) | (go_at_call 79; refine Calls.mono A1.out ?_; rintro e w2 ⟨t, rfl, hp2, h5, hT⟩))
    go_ret
    exact ⟨t, rfl, fun e => by unfold OvP; rw [if_pos c]; exact hp2 e, h5, hT⟩
  · rw [show decide (p % 2 = 0) = false by simp [c]] at E
    go_enter Try.func69, Try.ntmps69
    go_wp2_with (first | (go_at_call 73; refine Calls.mono E.out ?_; rintro e w1 ⟨rfl, rfl⟩) | (go_at_call 79; refine Calls.mono A2.out ?_; rintro e w2 ⟨t, rfl, hp2, h5, hT⟩))
    go_ret
    exact ⟨t, rfl, fun e => by unfold OvP; rw [if_neg (by omega)]; exact hp2 e, h5, hT⟩
theorem acrossS_any {hb ob gp n cap mb : Nat} {pu : Int} {f : Nat → Nat} {B : Nat → Prop} {it ke : Nat → Int} {va : Nat → ByteArray} {hole : Nat} (p : Nat) (w : World) (h : MeS w hb ob gp n cap mb pu f B it ke va hole) (hp : p < n) (hn : 1 < n) :
    Calls Try.prog 68 #[.pointer (some ⟨hb, 0, none⟩), .int .i64 (p : Int)] w fun e w' => e = .returned (.int .i64 (acr n p : Int)) ∧ w' = w := by
  have hl := h.lim
  have hle := h.le
  have h1 := h.c1
  have hx := bits_twin p (by omega)
  clear h
  go_enter Try.func68, Try.ntmps68
  by_cases c : tw p < n
  · have ea : acr n p = tw p := by unfold acr; rw [if_pos c]
    rw [ea]
    clear ea
    generalize tw p = T at *
    go_wp2_with fail
    go_ret
    exact ⟨rfl, rfl⟩
  · have ea : acr n p = up p + 1 := by unfold acr; rw [if_neg c]
    rw [ea]
    clear ea
    have h2 : 1 < p := by unfold tw at c; split at c <;> omega
    have A : Hid (Calls Try.prog 61 #[.int .i64 (p : Int)] w fun e w' => e = .returned (.int .i64 (up p : Int)) ∧ w' = w) := above_any p h2 (by omega) w
    have hu := up_lt h2
    have hw : IntKind.i64.wrap ((up p : Int) + 1) = ((up p + 1 : Nat) : Int) := by rw [IntKind.wrap_i64]; omega
    have ht : tw p < 4611686018427387904 := by unfold tw; split <;> omega
    generalize tw p = T at *
    generalize up p = U at *
    go_wp2_with (go_at_call 61; refine Calls.mono A.out ?_; rintro e w1 ⟨rfl, rfl⟩)
    go_ret
    exact ⟨by first | rfl | simp, rfl⟩
theorem ofS_any {hb ob gp n cap mb : Nat} {pu : Int} {f : Nat → Nat} {B : Nat → Prop} {it ke : Nat → Int} {va : Nat → ByteArray} {hole : Nat} (pr p : Nat) (w : World) (h : MeS w hb ob gp n cap mb pu f B it ke va hole) (hp : p < 4611686018427387904) (hr : pr < 1152921504606846976) :
    Calls Try.prog 92 #[.pointer (some ⟨hb, 0, none⟩), .int .i64 (pr : Int), .int .i64 (p : Int)] w fun e w' => e = .returned (ofV (ofM n pr p)) ∧ w' = w := by
  have hl := h.lim
  have hle := h.le
  have h1 := h.c1
  have E : Hid (Calls Try.prog 73 #[.int .i64 (p : Int)] w fun e w' => e = .returned (.bool (decide (p % 2 = 0))) ∧ w' = w) := even_any p hp w
  have w1 : IntKind.i64.wrap (2 * (pr : Int)) = ((2 * pr : Nat) : Int) := by rw [IntKind.wrap_i64]; omega
  have w2 : IntKind.i64.wrap (((2 * pr : Nat) : Int) + 1) = ((2 * pr + 1 : Nat) : Int) := by rw [IntKind.wrap_i64]; omega
  clear h
  by_cases c : n ≤ 2 * pr
  · rw [show ofM n pr p = none by unfold ofM; rw [if_pos c]]
    go_enter Try.func92, Try.ntmps92
    go_wp2_with fail
    go_ret2
    exact ⟨rfl, rfl⟩
  · by_cases c2 : p % 2 = 0
    · rw [show ofM n pr p = some (2 * pr) by unfold ofM; rw [if_neg c, if_pos (.inl c2)]]
      rw [show decide (p % 2 = 0) = true by simp [c2]] at E
      go_enter Try.func92, Try.ntmps92
      go_wp2_with (go_at_call 73; refine Calls.mono E.out ?_; rintro e w1 ⟨rfl, rfl⟩)
      go_ret2
      exact ⟨by simp [ofV], rfl⟩
    · rw [show decide (p % 2 = 0) = false by simp [c2]] at E
      by_cases c3 : 2 * pr + 1 = n
      · rw [show ofM n pr p = some (2 * pr) by unfold ofM; rw [if_neg c, if_pos (.inr c3)]]
        go_enter Try.func92, Try.ntmps92
        go_wp2_with (go_at_call 73; refine Calls.mono E.out ?_; rintro e w1 ⟨rfl, rfl⟩)
        go_ret2
        exact ⟨by simp [ofV], rfl⟩
      · rw [show ofM n pr p = some (2 * pr + 1) by unfold ofM; rw [if_neg c, if_neg (by omega)]]
        have c4 : ¬ (2 * (pr : Int) + 1 = (n : Int)) := by omega
        go_enter Try.func92, Try.ntmps92
        go_wp2_with (go_at_call 73; refine Calls.mono E.out ?_; rintro e w1 ⟨rfl, rfl⟩)
        go_ret2
        exact ⟨by simp [ofV], rfl⟩
end Go.Proofs.Ytklhenblcgmfhaa
namespace Go.Proofs.Ytklhenblcgmfhaa
open Go.RowKit
set_option maxRecDepth 100000
set_option linter.unusedVariables false
/-- What below tells: none, or the one that goes up. -/
def BelS (w : World) (n : Nat) (f : Nat → Nat) (le : Nat → Nat → Prop) (ob : Nat) (lv : Value) (nx mod : Int) (tur : Bool) (lies : Int) (N p : Nat) (e : Ending) (w' : World) : Prop :=
  (e = .returned (.tuple #[.int .i64 0, .bool false]) ∧ n ≤ 4 * (p / 2) + 2 ∧ Ordr w' ob lv nx mod tur lies N ∧ Tn (fun k => k = ob) w w') ∨
  ∃ c M : Nat, e = .returned (.tuple #[.int .i64 (c : Int), .bool true]) ∧ c < n ∧ (c / 2 = 2 * (p / 2) + 1 ∨ c / 2 = 2 * (p / 2) + 2) ∧ (lies = 0 → Below2 le n f p c) ∧ N ≤ M ∧ M ≤ N + 1 ∧ Ordr w' ob lv nx mod tur lies M ∧ Tn (fun k => k = ob) w w'
set_option maxHeartbeats 2000000 in
theorem belowS_any {hb ob gp n cap mb : Nat} {pu : Int} {f : Nat → Nat} {B : Nat → Prop} {it ke : Nat → Int} {va : Nat → ByteArray} {lv : Value} {nx mod : Int} {tur : Bool} {lies : Int} {N : Nat} (p : Nat) (w : World) (h : MeS w hb ob gp n cap mb pu f B it ke va p) (ho : Ordr w ob lv nx mod tur lies N) (hN : N < 1000000000000) (hp : p < n) :
    Calls Try.prog 80 #[.pointer (some ⟨hb, 0, none⟩), .int .i64 (p : Int)] w (BelS w n f (leB mod tur it ke) ob lv nx mod tur lies N p) := by
  have hl := h.lim
  have hle := h.le
  obtain ⟨k, ek⟩ : ∃ k, k = p / 2 := ⟨_, rfl⟩
  obtain ⟨P1, e1⟩ : ∃ P1, P1 = 2 * k + 1 := ⟨_, rfl⟩
  obtain ⟨P2, e2⟩ : ∃ P2, P2 = 2 * k + 2 := ⟨_, rfl⟩
  have d1 : (p : Int).tdiv 2 = (k : Int) := by rw [Int.tdiv_eq_ediv_of_nonneg (by omega)]; omega
  have d2 : (p : Int) / 2 = (k : Int) := by omega
  have w0 : IntKind.i64.wrap (k : Int) = (k : Int) := by rw [IntKind.wrap_i64]; omega
  have w1 : IntKind.i64.wrap ((k : Int) * 2) = (k : Int) * 2 := by rw [IntKind.wrap_i64]; omega
  have w2 : IntKind.i64.wrap ((k : Int) * 2 + 1) = (P1 : Int) := by rw [IntKind.wrap_i64]; omega
  have w3 : IntKind.i64.wrap ((P1 : Int) + 1) = (P2 : Int) := by rw [IntKind.wrap_i64]; omega
  have O1 := ofS_any P1 p w h (by omega) (by omega)
  have O2 := ofS_any P2 p w h (by omega) (by omega)
  have HO : Hid (Ordr w ob lv nx mod tur lies N) := ho
  have HE : Hid (k = p / 2 ∧ P1 = 2 * k + 1 ∧ P2 = 2 * k + 2) := ⟨ek, e1, e2⟩
  by_cases c1 : n ≤ 2 * P1
  · rw [show ofM n P1 p = none by unfold ofM; rw [if_pos c1]] at O1
    have O1' : Hid (Calls Try.prog 92 #[.pointer (some ⟨hb, 0, none⟩), .int .i64 (P1 : Int), .int .i64 (p : Int)] w fun e w' => e = .returned (.tuple #[.int .i64 0, .bool false]) ∧ w' = w) := O1
    clear O1 O2 h ho ek e1 e2
    go_enter Try.func80, Try.ntmps80
    go_wp2_with (go_at_call 92; refine Calls.mono O1'.out ?_; rintro e w9 ⟨rfl, rfl⟩)
    go_ret2
    exact .inl ⟨rfl, by have := HE.out; omega, HO.out, Tn.refl _ _⟩
  · obtain ⟨l, el⟩ : ∃ l, ofM n P1 p = some l := by unfold ofM; rw [if_neg c1]; split <;> exact ⟨_, rfl⟩
    have fl : l < n ∧ l / 2 = P1 ∧ (l % 2 = p % 2 ∨ (p % 2 = 1 ∧ l % 2 = 0 ∧ l + 1 = n)) ∧ (2 * P1 + 1 < n → l % 2 = p % 2) := by
      unfold ofM at el
      rw [if_neg c1] at el
      split at el <;> cases el <;> omega
    have HL : Hid (l < n ∧ l / 2 = P1 ∧ (l % 2 = p % 2 ∨ (p % 2 = 1 ∧ l % 2 = 0 ∧ l + 1 = n)) ∧ (2 * P1 + 1 < n → l % 2 = p % 2)) := fl
    rw [el] at O1
    have O1' : Hid (Calls Try.prog 92 #[.pointer (some ⟨hb, 0, none⟩), .int .i64 (P1 : Int), .int .i64 (p : Int)] w fun e w' => e = .returned (.tuple #[.int .i64 (l : Int), .bool true]) ∧ w' = w) := O1
    clear O1 el
    by_cases c2 : n ≤ 2 * P2
    · rw [show ofM n P2 p = none by unfold ofM; rw [if_pos c2]] at O2
      have O2' : Hid (Calls Try.prog 92 #[.pointer (some ⟨hb, 0, none⟩), .int .i64 (P2 : Int), .int .i64 (p : Int)] w fun e w' => e = .returned (.tuple #[.int .i64 0, .bool false]) ∧ w' = w) := O2
      clear O2 h ho fl ek e1 e2
      go_enter Try.func80, Try.ntmps80
      go_wp2_with (first | (go_at_call_of 92 (Value.int IntKind.i64 (P1 : Int)); refine Calls.mono O1'.out ?_; rintro e w9 ⟨rfl, rfl⟩) | (go_at_call_of 92 (Value.int IntKind.i64 (P2 : Int)); refine Calls.mono O2'.out ?_; rintro e w9 ⟨rfl, rfl⟩))
      go_quiet (fail)
      go_wp2_with fail
      go_ret2
      refine .inr ⟨l, N, rfl, HL.out.1, by have := HE.out; have := HL.out; omega, fun _ => ⟨HL.out.1, HL.out.2.2.1, by have := HE.out; have := HL.out; omega, fun d hd hne hk hk2 => ?_⟩, Nat.le_refl _, by omega, HO.out.kept rfl, (Tn.refl _ _).drewN _⟩
      have := HE.out
      have := HL.out
      omega
    · obtain ⟨q, eq⟩ : ∃ q, ofM n P2 p = some q := by unfold ofM; rw [if_neg c2]; split <;> exact ⟨_, rfl⟩
      have fq : q < n ∧ q / 2 = P2 ∧ (q % 2 = p % 2 ∨ (p % 2 = 1 ∧ q % 2 = 0 ∧ q + 1 = n)) := by
        unfold ofM at eq
        rw [if_neg c2] at eq
        split at eq <;> cases eq <;> omega
      have HQ : Hid (q < n ∧ q / 2 = P2 ∧ (q % 2 = p % 2 ∨ (p % 2 = 1 ∧ q % 2 = 0 ∧ q + 1 = n))) := fq
      rw [eq] at O2
      have O2' : Hid (Calls Try.prog 92 #[.pointer (some ⟨hb, 0, none⟩), .int .i64 (P2 : Int), .int .i64 (p : Int)] w fun e w' => e = .returned (.tuple #[.int .i64 (q : Int), .bool true]) ∧ w' = w) := O2
      have hln := fl.1
      have hqn := fq.1
      have b1 := h.c1
      have a1 := h.at hln
      have a2 := h.at hqn
      have Bl : B (f l) := h.fB l hln (by omega)
      have Bq : B (f q) := h.fB q hqn (by omega)
      have OV : Hid (Calls Try.prog 69 #[.pointer (some ⟨hb, 0, none⟩), .pointer (some ⟨f q, 0, none⟩), .pointer (some ⟨f l, 0, none⟩), .int .i64 (p : Int)] w.drew (Asks w.drew ob lv nx mod tur lies N (OvP (leB mod tur it ke) (f q) (f l) p))) := overS_any (f q) (f l) p w.drew (h.keep fun _ _ _ _ _ => rfl) (ho.kept rfl) hN Bq Bl (by omega)
      have HM : Hid (MeS w hb ob gp n cap mb pu f B it ke va p) := h
      clear O2 h ho fl fq ek e1 e2 eq Bl Bq
      go_enter Try.func80, Try.ntmps80
      go_wp2_with (first | (go_at_call_of 92 (Value.int IntKind.i64 (P1 : Int)); refine Calls.mono O1'.out ?_; rintro e w9 ⟨rfl, rfl⟩) | (go_at_call_of 92 (Value.int IntKind.i64 (P2 : Int)); refine Calls.mono O2'.out ?_; rintro e w9 ⟨rfl, rfl⟩))
      rename_i hz
      go_region_held3 (fun w8 => w8.cell? ⟨hb, 1, none⟩ = some (.slice (some ⟨gp, 0, none⟩) n cap) ∧ w8.cell? ⟨gp, l, none⟩ = some (.pointer (some ⟨f l, 0, none⟩)) ∧ w8.cell? ⟨gp, q, none⟩ = some (.pointer (some ⟨f q, 0, none⟩))) (first | (simp [go_sem, *]; done) | (trace_state; fail))
        (first
          | (go_at_call 69; refine Calls.mono OV.out ?_; rintro e w5 ⟨t, rfl, hp5, h5, hT⟩; have H5 : Hid ((lies = 0 → OvP (leB mod tur it ke) (f q) (f l) p t) ∧ Ordr w5 ob lv nx mod tur lies (N + 1) ∧ Tn (fun k => k = ob) w9 w5) := ⟨hp5, h5, ⟨hT.os, hT.tape, hT.output, hT.size, hT.block⟩⟩; have HM5 := HM.out.keep (keep_ask HO.out H5.out.2.2); have m0 := HM5.c1; have m1 := HM5.at hln; have m2 := HM5.at hqn; clear hp5 h5 hT HM5))
      refine hz _ _ ?_
      cases t
      · go_wp2_with fail
        go_ret2
        refine .inr ⟨l, N + 1, rfl, HL.out.1, by have := HE.out; have := HL.out; omega, fun e0 => ⟨HL.out.1, HL.out.2.2.1, by have := HE.out; have := HL.out; omega, fun d hd hne hk hk2 => ?_⟩, by omega, by omega, H5.out.2.1, H5.out.2.2⟩
        have h1 := H5.out.1 e0
        have h2 : d = q := by have := HE.out; have := HL.out; have := HQ.out; omega
        subst h2
        unfold OvP at h1
        split <;> rename_i c9
        · rw [if_pos c9] at h1
          exact h1.2 rfl
        · rw [if_neg c9] at h1
          exact h1.2 rfl
      · go_wp2_with fail
        go_ret2
        refine .inr ⟨q, N + 1, rfl, HQ.out.1, by have := HE.out; have := HQ.out; omega, fun e0 => ⟨HQ.out.1, HQ.out.2.2, by have := HE.out; have := HQ.out; omega, fun d hd hne hk hk2 => ?_⟩, by omega, by omega, H5.out.2.1, H5.out.2.2⟩
        have h1 := H5.out.1 e0
        have h2 : d = l := by have := HE.out; have := HL.out; have := HQ.out; omega
        subst h2
        unfold OvP at h1
        split <;> rename_i c9
        · rw [if_pos c9] at h1
          exact h1.1 rfl
        · rw [if_neg c9] at h1
          exact h1.1 rfl
end Go.Proofs.Ytklhenblcgmfhaa
namespace Go.Proofs.Ytklhenblcgmfhaa
open Go.RowKit
set_option maxRecDepth 100000
set_option linter.unusedVariables false
theorem MeS.inj {W : World} {hb ob gp n cap mb : Nat} {pu : Int} {f : Nat → Nat} {B : Nat → Prop} {it ke : Nat → Int} {va : Nat → ByteArray} {hole : Nat} (h : MeS W hb ob gp n cap mb pu f B it ke va hole) {i j : Nat} (hi : i < n) (hj : j < n) (h1 : i ≠ hole) (h2 : j ≠ hole) (e : f i = f j) : i = j := by
  have a := h.pl i hi h1
  have b := h.pl j hj h2
  rw [e, b] at a
  simp at a
  omega
/-- What lies at from goes to the empty place; from is empty then. -/
theorem MeS.put {W : World} {hb ob gp n cap mb : Nat} {pu : Int} {f : Nat → Nat} {B : Nat → Prop} {it ke : Nat → Int} {va : Nat → ByteArray} {to : Nat} (h : MeS W hb ob gp n cap mb pu f B it ke va to) {frm : Nat} (hf : frm < n) (ht : to < n) (hn : frm ≠ to) :
    MeS ((W.setCell ⟨gp, to, none⟩ (.pointer (some ⟨f frm, 0, none⟩))).setCell ⟨f frm, 3, none⟩ (.int .i64 (to : Int))) hb ob gp n cap mb pu (setF f to (f frm)) B it ke va frm := by
  obtain ⟨cs, ec, hsz, hc⟩ := h.row
  have px := h.pl frm hf hn
  have n1 : gp ≠ f frm := ne_of_type ec px (by decide)
  have n2 : hb ≠ gp := ne_of_type h.hd ec (by decide)
  have n3 : hb ≠ f frm := ne_of_type h.hd px (by decide)
  have kept : ∀ k, k ≠ gp → k ≠ f frm → ((W.setCell ⟨gp, to, none⟩ (.pointer (some ⟨f frm, 0, none⟩))).setCell ⟨f frm, 3, none⟩ (.int .i64 (to : Int))).heap[k]? = W.heap[k]? := fun k h1 h2 => (Below.heap_setCell _ _ _ k h2).trans (Below.heap_setCell _ _ _ k h1)
  have hx : ((W.setCell ⟨gp, to, none⟩ (.pointer (some ⟨f frm, 0, none⟩))).setCell ⟨f frm, 3, none⟩ (.int .i64 (to : Int))).heap[f frm]? = some (.cells #[.int .i64 (it (f frm)), .int .i64 (ke (f frm)), .string (va (f frm)), .int .i64 (to : Int)] 98) :=
    heap_setCell_same _ (f frm) 3 _ _ _ ((Below.heap_setCell _ _ _ _ (Ne.symm n1)).trans px)
  refine { hd := (kept hb n2 n3).trans h.hd, row := ⟨cs.setIfInBounds to (.pointer (some ⟨f frm, 0, none⟩)), ?_, by simpa using hsz, fun i hi => ?_⟩, le := h.le, lim := h.lim, th := fun b hb' => ?_, fB := fun i hi hne => ?_, pl := fun i hi hne => ?_, wf := h.wf }
  · exact (Below.heap_setCell _ _ _ _ n1).trans (heap_setCell_same W gp to cs _ _ ec)
  · have hle := h.le
    by_cases e : i = to
    · subst e
      rw [setF_eq, Array.getElem?_setIfInBounds_self_of_lt (by omega)]
    · rw [setF_ne e, Array.getElem?_setIfInBounds_ne (Ne.symm e)]
      exact hc i hi
  · by_cases e : b = f frm
    · subst e
      exact ⟨_, hx⟩
    · obtain ⟨q, eq⟩ := h.th b hb'
      exact ⟨q, (kept b (Ne.symm (ne_of_type ec eq (by decide))) e).trans eq⟩
  · by_cases e : i = to
    · subst e
      rw [setF_eq]
      exact h.fB frm hf hn
    · rw [setF_ne e]
      exact h.fB i hi e
  · by_cases e : i = to
    · subst e
      rw [setF_eq]
      exact hx
    · rw [setF_ne e]
      have pi := h.pl i hi e
      exact (kept (f i) (Ne.symm (ne_of_type ec pi (by decide))) fun e2 => hne (h.inj hi hf e hn e2)).trans pi
theorem putS_any {hb ob gp n cap mb : Nat} {pu : Int} {f : Nat → Nat} {B : Nat → Prop} {it ke : Nat → Int} {va : Nat → ByteArray} {to : Nat} {lv : Value} {nx mod : Int} {tur : Bool} {lies : Int} {N : Nat} (frm : Nat) (w : World) (h : MeS w hb ob gp n cap mb pu f B it ke va to) (ho : Ordr w ob lv nx mod tur lies N) (hf : frm < n) (ht : to < n) (hn : frm ≠ to) :
    Calls Try.prog 70 #[.pointer (some ⟨hb, 0, none⟩), .int .i64 (frm : Int), .int .i64 (to : Int)] w fun e w' => e = .returned (.tuple #[]) ∧ MeS w' hb ob gp n cap mb pu (setF f to (f frm)) B it ke va frm ∧ Ordr w' ob lv nx mod tur lies N ∧ Tn (fun k => k = gp ∨ B k) w w' := by
  have hl := h.lim
  have hle := h.le
  have b1 := h.c1
  have a1 := h.at hf
  have a2 := h.at ht
  obtain ⟨cs, ec, hsz, hc⟩ := h.row
  have px := h.pl frm hf hn
  have n1 : f frm ≠ gp := ne_of_type px ec (by decide)
  have z1 : w.frozen? ⟨gp, to, none⟩ = false := by simp [World.frozen?, ec]
  have z2 : w.cell? ⟨f frm, 3, none⟩ = some (.int .i64 (frm : Int)) := by simp [World.cell?, px]
  have z3 : w.frozen? ⟨f frm, 3, none⟩ = false := by simp [World.frozen?, px]
  have HP : Hid (MeS ((w.setCell ⟨gp, to, none⟩ (.pointer (some ⟨f frm, 0, none⟩))).setCell ⟨f frm, 3, none⟩ (.int .i64 (to : Int))) hb ob gp n cap mb pu (setF f to (f frm)) B it ke va frm ∧ Ordr ((w.setCell ⟨gp, to, none⟩ (.pointer (some ⟨f frm, 0, none⟩))).setCell ⟨f frm, 3, none⟩ (.int .i64 (to : Int))) ob lv nx mod tur lies N ∧ Tn (fun k => k = gp ∨ B k) w ((w.setCell ⟨gp, to, none⟩ (.pointer (some ⟨f frm, 0, none⟩))).setCell ⟨f frm, 3, none⟩ (.int .i64 (to : Int)))) :=
    ⟨h.put hf ht hn, ho.kept ((Below.heap_setCell _ _ _ _ (ne_of_type ho.at' px (by decide))).trans (Below.heap_setCell _ _ _ _ (ne_of_type ho.at' ec (by decide)))), ((Tn.refl _ _).set (fun _ => .inl rfl) _ _).set (fun _ => .inr (h.fB frm hf hn)) _ _⟩
  clear h ho ec hc px
  generalize f frm = x at *
  go_enter Try.func70, Try.ntmps70
  go_wp2_with fail
  refine bodyPost_end (results_none rfl _ _ _) rfl ?_
  exact ⟨rfl, HP.out⟩
end Go.Proofs.Ytklhenblcgmfhaa
namespace Go.Proofs.Ytklhenblcgmfhaa
open Go.RowKit
set_option maxRecDepth 100000
set_option linter.unusedVariables false
/-- A hole went from p to p', things moved up. -/
structure SnkS (w0 w : World) (hb ob gp n cap mb : Nat) (pu : Int) (f0 f : Nat → Nat) (B : Nat → Prop) (it ke : Nat → Int) (va : Nat → ByteArray) (lv : Value) (nx mod : Int) (tur : Bool) (lies : Int) (N0 N p0 p : Nat) : Prop where
  me : MeS w hb ob gp n cap mb pu f B it ke va p
  od : Ordr w ob lv nx mod tur lies N
  lt : p < n
  ge : N0 ≤ N
  many : 2 ^ (N - N0) * (p0 / 2 + 1) ≤ p / 2 + 1
  ord : lies = 0 → Ord (leB mod tur it ke) n f0 p0 → Ord (leB mod tur it ke) n f p
  img : ∀ b, Img n f p b ↔ Img n f0 p0 b
  tn : Tn (fun k => k = ob ∨ k = gp ∨ B k) w0 w
def SinksS (w0 : World) (hb ob gp n cap mb : Nat) (pu : Int) (f0 : Nat → Nat) (B : Nat → Prop) (it ke : Nat → Int) (va : Nat → ByteArray) (lv : Value) (nx mod : Int) (tur : Bool) (lies : Int) (N0 p0 : Nat) (e : Ending) (w : World) : Prop :=
  ∃ (p : Nat) (f : Nat → Nat) (N : Nat), e = .returned (.int .i64 (p : Int)) ∧ SnkS w0 w hb ob gp n cap mb pu f0 f B it ke va lv nx mod tur lies N0 N p0 p ∧ n ≤ 4 * (p / 2) + 2
set_option maxHeartbeats 1000000 in
theorem sinkS_any {hb ob gp n cap mb : Nat} {pu : Int} {f : Nat → Nat} {B : Nat → Prop} {it ke : Nat → Int} {va : Nat → ByteArray} {lv : Value} {nx mod : Int} {tur : Bool} {lies : Int} {N : Nat} (p : Nat) (w : World) (h : MeS w hb ob gp n cap mb pu f B it ke va p) (ho : Ordr w ob lv nx mod tur lies N) (hN : N < 999999999900) (hp : p < n) :
    Calls Try.prog 72 #[.pointer (some ⟨hb, 0, none⟩), .int .i64 (p : Int)] w (SinksS w hb ob gp n cap mb pu f B it ke va lv nx mod tur lies N p) := by
  have S0 : Hid (SnkS w w hb ob gp n cap mb pu f f B it ke va lv nx mod tur lies N N p p) := ⟨h, ho, hp, Nat.le_refl _, by simp, fun _ h => h, fun _ => Iff.rfl, Tn.refl _ _⟩
  have hl : n ≤ 1099511627776 := h.lim
  clear h ho
  go_enter Try.func72, Try.ntmps72
  go_wp2_with fail
  go_loopw [1] (fun t wr => ∃ (p' : Nat) (f' : Nat → Nat) (M : Nat), t = .int .i64 (p' : Int) ∧ p' < n ∧ Hid (SnkS w wr hb ob gp n cap mb pu f f' B it ke va lv nx mod tur lies N M p p')) (fun t _ => n - (intOf t).toNat)
  case atStart => exact ⟨p, f, N, rfl, hp, S0⟩
  case round =>
    clear S0
    obtain ⟨p', f', M, rfl, hp', hS⟩ := hrel
    have hM : M - N ≤ 40 := pow_lt_many hS.out.many (by omega)
    have BE : Hid (Calls Try.prog 80 #[.pointer (some ⟨hb, 0, none⟩), .int .i64 (p' : Int)] wr (BelS wr n f' (leB mod tur it ke) ob lv nx mod tur lies M p')) := belowS_any p' wr hS.out.me hS.out.od (by omega) hp'
    go_wp2_with fail
    refine Calls.mono BE.out ?_
    clear BE
    rintro e w1 (⟨rfl, hlast, ho1, hT⟩ | ⟨c, M2, rfl, hc, hkid, hbest, hM1, hM2, ho1, hT⟩)
    · have HR : Hid (SnkS w w1 hb ob gp n cap mb pu f f' B it ke va lv nx mod tur lies N M p p' ∧ n ≤ 4 * (p' / 2) + 2) := ⟨⟨hS.out.me.keep (keep_ask hS.out.od hT), ho1, hp', hS.out.ge, hS.out.many, hS.out.ord, hS.out.img, hS.out.tn.trans hT (fun k _ e => .inl e)⟩, hlast⟩
      clear hS ho1 hT
      go_wp2_with fail
      go_ret
      exact ⟨p', f', M, rfl, HR.out⟩
    · have hcp : c ≠ p' := by intro e; subst e; omega
      have HM1 := hS.out.me.keep (keep_ask hS.out.od hT)
      have PU : Hid (Calls Try.prog 70 #[.pointer (some ⟨hb, 0, none⟩), .int .i64 (c : Int), .int .i64 (p' : Int)] w1 fun e w' => e = .returned (.tuple #[]) ∧ MeS w' hb ob gp n cap mb pu (setF f' p' (f' c)) B it ke va c ∧ Ordr w' ob lv nx mod tur lies M2 ∧ Tn (fun k => k = gp ∨ B k) w1 w') := putS_any c w1 HM1 ho1 hc hp' hcp
      have HX : Hid ((c / 2 = 2 * (p' / 2) + 1 ∨ c / 2 = 2 * (p' / 2) + 2) ∧ (lies = 0 → Below2 (leB mod tur it ke) n f' p' c) ∧ M ≤ M2 ∧ M2 ≤ M + 1 ∧ Tn (fun k => k = ob) wr w1) := ⟨hkid, hbest, hM1, hM2, hT⟩
      clear HM1 hbest hM1 hM2 ho1 hT
      go_wp2_with (go_at_call 70; refine Calls.mono PU.out ?_; rintro e w2 ⟨rfl, hm2, ho2, hT2⟩)
      go_roundw
      case rel =>
        refine ⟨c, _, M2, rfl, hc, hm2, ho2, hc, ?_, ?_, fun e h0 => ?_, fun b => (img_put hc hp' hcp b).trans (hS.out.img b), ?_⟩
        · have := hS.out.ge
          have := HX.out
          omega
        · obtain ⟨hk, _, h3, h4, _⟩ := HX.out
          have hge := hS.out.ge
          have hmany := hS.out.many
          have h5 : 2 ^ (M2 - N) ≤ 2 ^ (M - N + 1) := Nat.pow_le_pow_right (by decide) (by omega)
          have h6 : 2 ^ (M2 - N) * (p / 2 + 1) ≤ 2 ^ (M - N + 1) * (p / 2 + 1) := Nat.mul_le_mul_right _ h5
          rw [Nat.pow_succ, Nat.mul_comm (2 ^ (M - N)) 2, Nat.mul_assoc] at h6
          omega
        · exact (hS.out.ord e h0).sink (leB_total _ _ _ _) hp' (HX.out.2.1 e)
        · exact (hS.out.tn.trans HX.out.2.2.2.2 (fun k _ e => .inl e)).trans hT2 (fun k _ e => .inr e)
      case measure =>
        simp [intOf]
        omega
end Go.Proofs.Ytklhenblcgmfhaa
namespace Go.Proofs.Ytklhenblcgmfhaa
open Go.RowKit
set_option maxRecDepth 100000
set_option linter.unusedVariables false
/-- x on its way up: its place p is empty yet. -/
structure RisS (w0 w : World) (hb ob gp n cap mb : Nat) (pu : Int) (f0 f : Nat → Nat) (B : Nat → Prop) (it ke : Nat → Int) (va : Nat → ByteArray) (lv : Value) (nx mod : Int) (tur : Bool) (lies : Int) (N0 N p0 p x : Nat) : Prop where
  me : MeS w hb ob gp n cap mb pu f B it ke va p
  od : Ordr w ob lv nx mod tur lies N
  lt : p < n
  ge : N0 ≤ N
  few : 2 ^ (N - N0) * (p / 2 + 1) ≤ 2 * (p0 / 2 + 1)
  ord : lies = 0 → Ord (leB mod tur it ke) n f0 p0 → Ord (leB mod tur it ke) n f p ∧ Fits (leB mod tur it ke) n f p x
  img : ∀ b, Img n f p b ↔ Img n f0 p0 b
  tn : Tn (fun k => k = ob ∨ k = gp ∨ B k) w0 w
/-- x lies. -/
structure LayS (w0 w : World) (hb ob gp n cap mb : Nat) (pu : Int) (f0 f : Nat → Nat) (B : Nat → Prop) (it ke : Nat → Int) (va : Nat → ByteArray) (lv : Value) (nx mod : Int) (tur : Bool) (lies : Int) (N0 N p0 x : Nat) : Prop where
  me : MeS w hb ob gp n cap mb pu f B it ke va n
  od : Ordr w ob lv nx mod tur lies N
  ge : N0 ≤ N
  few : 2 ^ (N - N0) ≤ 4 * (p0 / 2 + 1)
  ord : lies = 0 → Ord (leB mod tur it ke) n f0 p0 → Ord (leB mod tur it ke) n f n
  img : ∀ b, Img n f n b ↔ Img n f0 p0 b ∨ b = x
  tn : Tn (fun k => k = ob ∨ k = gp ∨ B k) w0 w
theorem MeS.lay {W : World} {hb ob gp n cap mb : Nat} {pu : Int} {f : Nat → Nat} {B : Nat → Prop} {it ke : Nat → Int} {va : Nat → ByteArray} {p : Nat} (h : MeS W hb ob gp n cap mb pu f B it ke va p) {x : Nat} (hp : p < n) (hB : B x) (hx : ¬ Img n f p x) :
    MeS ((W.setCell ⟨gp, p, none⟩ (.pointer (some ⟨x, 0, none⟩))).setCell ⟨x, 3, none⟩ (.int .i64 (p : Int))) hb ob gp n cap mb pu (setF f p x) B it ke va n := by
  obtain ⟨cs, ec, hsz, hc⟩ := h.row
  obtain ⟨q, px⟩ := h.th x hB
  have n1 : gp ≠ x := ne_of_type ec px (by decide)
  have n2 : hb ≠ gp := ne_of_type h.hd ec (by decide)
  have n3 : hb ≠ x := ne_of_type h.hd px (by decide)
  have kept : ∀ k, k ≠ gp → k ≠ x → ((W.setCell ⟨gp, p, none⟩ (.pointer (some ⟨x, 0, none⟩))).setCell ⟨x, 3, none⟩ (.int .i64 (p : Int))).heap[k]? = W.heap[k]? := fun k h1 h2 => (Below.heap_setCell _ _ _ k h2).trans (Below.heap_setCell _ _ _ k h1)
  have hx2 : ((W.setCell ⟨gp, p, none⟩ (.pointer (some ⟨x, 0, none⟩))).setCell ⟨x, 3, none⟩ (.int .i64 (p : Int))).heap[x]? = some (.cells #[.int .i64 (it x), .int .i64 (ke x), .string (va x), .int .i64 (p : Int)] 98) :=
    heap_setCell_same _ x 3 _ _ _ ((Below.heap_setCell _ _ _ _ (Ne.symm n1)).trans px)
  refine { hd := (kept hb n2 n3).trans h.hd, row := ⟨cs.setIfInBounds p (.pointer (some ⟨x, 0, none⟩)), ?_, by simpa using hsz, fun i hi => ?_⟩, le := h.le, lim := h.lim, th := fun b hb' => ?_, fB := fun i hi hne => ?_, pl := fun i hi hne => ?_, wf := h.wf }
  · exact (Below.heap_setCell _ _ _ _ n1).trans (heap_setCell_same W gp p cs _ _ ec)
  · have hle := h.le
    by_cases e : i = p
    · subst e
      rw [setF_eq, Array.getElem?_setIfInBounds_self_of_lt (by omega)]
    · rw [setF_ne e, Array.getElem?_setIfInBounds_ne (Ne.symm e)]
      exact hc i hi
  · by_cases e : b = x
    · subst e
      exact ⟨_, hx2⟩
    · obtain ⟨q, eq⟩ := h.th b hb'
      exact ⟨q, (kept b (Ne.symm (ne_of_type ec eq (by decide))) e).trans eq⟩
  · by_cases e : i = p
    · subst e
      rw [setF_eq]
      exact hB
    · rw [setF_ne e]
      exact h.fB i hi e
  · by_cases e : i = p
    · subst e
      rw [setF_eq]
      exact hx2
    · rw [setF_ne e]
      have pi := h.pl i hi e
      exact (kept (f i) (Ne.symm (ne_of_type ec pi (by decide))) fun e2 => hx ⟨i, hi, e, e2⟩).trans pi
/-- The end: the place is told. -/
theorem RisS.end {w0 w : World} {hb ob gp n cap mb : Nat} {pu : Int} {f0 f : Nat → Nat} {B : Nat → Prop} {it ke : Nat → Int} {va : Nat → ByteArray} {lv : Value} {nx mod : Int} {tur : Bool} {lies : Int} {N0 N M p0 p x : Nat} (h : RisS w0 w hb ob gp n cap mb pu f0 f B it ke va lv nx mod tur lies N0 N p0 p x) {w1 : World} (hme : MeS w1 hb ob gp n cap mb pu f B it ke va p) (hod : Ordr w1 ob lv nx mod tur lies M) (htn : Tn (fun k => k = ob) w w1) (hM : N ≤ M) (hM2 : M ≤ N + 1) (hB : B x) (hx : ¬ Img n f0 p0 x) (hb' : lies = 0 → p ≤ 1 ∨ if p % 2 = 0 then leB mod tur it ke (f (up p)) x else leB mod tur it ke x (f (up p))) :
    LayS w0 ((w1.setCell ⟨gp, p, none⟩ (.pointer (some ⟨x, 0, none⟩))).setCell ⟨x, 3, none⟩ (.int .i64 (p : Int))) hb ob gp n cap mb pu f0 (setF f p x) B it ke va lv nx mod tur lies N0 M p0 x := by
  obtain ⟨cs, ec, hsz, hc⟩ := hme.row
  obtain ⟨q, px⟩ := hme.th x hB
  have hge := h.ge
  refine ⟨hme.lay h.lt hB (fun hi => hx ((h.img x).1 hi)), hod.kept ((Below.heap_setCell _ _ _ _ (ne_of_type hod.at' px (by decide))).trans (Below.heap_setCell _ _ _ _ (ne_of_type hod.at' ec (by decide)))), by omega, ?_, fun e0 ho => ?_, fun b => (img_lay h.lt b).trans (or_congr (h.img b) Iff.rfl), ?_⟩
  · have h1 := h.few
    have h2 : 2 ^ (M - N0) ≤ 2 ^ (N - N0 + 1) := Nat.pow_le_pow_right (by decide) (by omega)
    have h3 : 2 ^ (N - N0) * 1 ≤ 2 ^ (N - N0) * (p / 2 + 1) := Nat.mul_le_mul_left _ (by omega)
    rw [Nat.pow_succ] at h2
    omega
  · obtain ⟨h1, h2⟩ := h.ord e0 ho
    exact h1.lay (leB_total _ _ _ _) h.lt h2 (hb' e0)
  · exact ((h.tn.trans htn (fun k _ e => .inl e)).set (fun _ => .inr (.inl rfl)) _ _).set (fun _ => .inr (.inr hB)) _ _
theorem RisS.up {w0 w : World} {hb ob gp n cap mb : Nat} {pu : Int} {f0 f : Nat → Nat} {B : Nat → Prop} {it ke : Nat → Int} {va : Nat → ByteArray} {lv : Value} {nx mod : Int} {tur : Bool} {lies : Int} {N0 N p0 p x : Nat} (h : RisS w0 w hb ob gp n cap mb pu f0 f B it ke va lv nx mod tur lies N0 N p0 p x) (h1 : 1 < p) {w1 : World} (hme : MeS w1 hb ob gp n cap mb pu (setF f p (f (up p))) B it ke va (up p)) (hod : Ordr w1 ob lv nx mod tur lies (N + 1)) (htn : Tn (fun k => k = ob ∨ k = gp ∨ B k) w w1) (hb' : lies = 0 → if p % 2 = 0 then leB mod tur it ke x (f (up p)) else leB mod tur it ke (f (up p)) x) :
    RisS w0 w1 hb ob gp n cap mb pu f0 (setF f p (f (up p))) B it ke va lv nx mod tur lies N0 (N + 1) p0 (up p) x := by
  have hlt := up_lt h1
  have hl := h.lt
  have hge := h.ge
  refine ⟨hme, hod, by omega, by omega, ?_, fun e0 ho => ?_, fun b => (img_put (by omega) h.lt (by omega) b).trans (h.img b), h.tn.trans htn (fun k _ e => e)⟩
  · have h2 := h.few
    have h3 := (up_half h1).1
    have h4 : N + 1 - N0 = N - N0 + 1 := by omega
    rw [h4, Nat.pow_succ, Nat.mul_assoc]
    have h5 : 2 ^ (N - N0) * (2 * (Go.Proofs.Ytklhenblcgmfhaa.up p / 2 + 1)) ≤ 2 ^ (N - N0) * (p / 2 + 1) := Nat.mul_le_mul_left _ (by omega)
    omega
  · obtain ⟨q1, q2⟩ := h.ord e0 ho
    exact q1.lift (leB_total _ _ _ _) h.lt h1 q2 (hb' e0)
end Go.Proofs.Ytklhenblcgmfhaa
