/- Contracts of the program's functions, part 17: own work, joined in build order. -/
import Derived.Test.YtjnfcihichaonaaJ16
import Derived.LaidEqlPtr
namespace Go.Proofs.Ytjnfcihichaonaa
open Go.RowKit
set_option maxRecDepth 100000
set_option linter.unusedVariables false
theorem neq_sameI {P : Program} (w : World) {tp te : TypeId} {j : TypeInfo} (a : Addr) (hp : P.underlying tp = some (.pointer te)) (hte : P.info? te = some j) :
    (binOp .neq tp (.pointer (some a)) (.pointer (some a))).run P w = .ok (.bool false) w := by
  have h : ∀ d : Nat, (Op.equalIn (d + 1) tp (.pointer (some a)) (.pointer (some a))).run P w = .ok true w := fun d => by
    simp [Op.equalIn, run_underlying hp, sizeOf, typeInfo, hte, run_sameAddr_same]
  simp only [binOp]
  simp [Op.equal, Op.maxDepth, h 9999]
theorem neq_otherI {P : Program} (w : World) {tp te : TypeId} {j : TypeInfo} {a b : Addr} {ca cb : Array Value} {ta tb : TypeId} (hp : P.underlying tp = some (.pointer te)) (hte : P.info? te = some j) (hsz : j.size ≠ 0)
    (hne : a ≠ b) (ha : w.heap[a.block]? = some (.cells ca ta (0, 0))) (hb : w.heap[b.block]? = some (.cells cb tb (0, 0))) :
    (binOp .neq tp (.pointer (some a)) (.pointer (some b))).run P w = .ok (.bool true) w := by
  have h : ∀ d : Nat, (Op.equalIn (d + 1) tp (.pointer (some a)) (.pointer (some b))).run P w = .ok false w := fun d => by
    simp [Op.equalIn, run_underlying hp, sizeOf, typeInfo, hte, hsz, run_sameAddr_other w hne ha hb]
  simp only [binOp]
  simp [Op.equal, Op.maxDepth, h 9999]
theorem Try.infoTI : (Try.prog.info? 81).map (fun i => i.size) = some 4 := by kernel_rfl
set_option maxHeartbeats 2000000 in
theorem takeI_any {base hb ob gp : Nat} {n cap mb nn : Nat} {pu : Int} {f : Nat → Nat} {it ke : Nat → Int} {va : Nat → Int} {lv : Value} {nx mod : Int} {tur : Bool} {lies : Int} {N : Nat} (i0 : Nat) (w : World) (h : HsI w base hb ob (some ⟨gp, 0, none⟩) (n + 1) cap mb nn pu f it ke va) (ho : Ordr w ob lv nx mod tur lies N) (hN : N < 999999999700) (hi : i0 < n + 1) (hb0 : base ≤ w.heap.size) :
    Calls Try.prog 40 #[.pointer (some ⟨hb, 0, none⟩), .pointer (some ⟨f i0, 0, none⟩)] w fun e w' => e = .returned (.pointer (some ⟨f i0, 0, none⟩)) ∧ TakI w base hb ob (some ⟨gp, 0, none⟩) n cap mb pu f it ke va lv nx mod tur lies N (f i0) w' := by
  have lt : ∀ {k : Nat} {o : Obj}, w.heap[k]? = some o → k < w.heap.size := fun e => (Array.getElem?_eq_some_iff.1 e).1
  obtain ⟨c1, c2, c3, c4⟩ := h.cells
  obtain ⟨gp', e, hbg, h1, hcap, cs, h3, h4, h5⟩ := h.some' (by omega)
  cases e
  obtain ⟨g, hm, hg⟩ := h.map
  obtain ⟨es, ck, hmb⟩ := hm.block
  have hir := h.itr i0 hi
  have hp1 := h.pu1
  have hl := h.lim
  have m2 : Mp w.drew mb nn g := hm.kept rfl
  obtain ⟨W1, hrun, m1, g1⟩ := m2.drop Try.underlying67 (i := it (f i0)) (by omega) (by omega) 0
  have G1 : w.grownBy W1 (some mb) := ⟨g1.os, g1.tape, g1.output, g1.size, g1.block⟩
  have k1 : ∀ k, k < w.heap.size → k ≠ mb → W1.heap[k]? = w.heap[k]? := fun k h1 h2 => g1.block k h1 (fun e => h2 (by injection e))
  have nhm : hb ≠ mb := fun e => map_ne hmb h.hd e.symm
  have ngm : gp ≠ mb := fun e => map_ne hmb h3 e.symm
  have nxm : f i0 ≠ mb := fun e => map_ne hmb (h.pl i0 hi) e.symm
  have px := h.pl i0 hi
  have nxg : f i0 ≠ gp := ne_of_type px h3 (by decide)
  have nxh : f i0 ≠ hb := ne_of_type px h.hd (by decide)
  have nhg : hb ≠ gp := ne_of_type h.hd h3 (by decide)
  have x0 : w.cell? ⟨f i0, 0, none⟩ = some (.int .i64 (it (f i0))) := by simp [World.cell?, px]
  have d1 : W1.cell? ⟨hb, 1, none⟩ = some (.slice (some ⟨gp, 0, none⟩) (n + 1) cap) := (World.cell?_of_block (k1 hb (lt h.hd) nhm)).trans c1
  have d2 : W1.cell? ⟨hb, 2, none⟩ = some (.map (some mb)) := (World.cell?_of_block (k1 hb (lt h.hd) nhm)).trans c2
  have d3 : W1.frozen? ⟨hb, 1, none⟩ = false := by
    have e := (k1 hb (lt h.hd) nhm).trans h.hd
    simp [World.frozen?, e]
  have d4 : W1.cell? ⟨f i0, 0, none⟩ = some (.int .i64 (it (f i0))) := (World.cell?_of_block (k1 _ (lt px) nxm)).trans x0
  have d5 : W1.cell? ⟨f i0, 3, none⟩ = some (.int .i64 (i0 : Int)) := by
    have e := (k1 _ (lt px) nxm).trans px
    simp [World.cell?, e]
  have eg := (k1 gp (lt h3) ngm).trans h3
  have d6 : W1.cell? ⟨gp, n, none⟩ = some (.pointer (some ⟨f n, 0, none⟩)) := by simp [World.cell?, eg, h5 n (by omega)]
  have d7 : W1.frozen? ⟨gp, n, none⟩ = false := by simp [World.frozen?, eg]
  obtain ⟨W3, hW3⟩ : ∃ W3, W3 = (W1.setCell ⟨gp, n, none⟩ (.pointer none)).setCell ⟨hb, 1, none⟩ (.slice (some ⟨gp, 0, none⟩) n cap) := ⟨_, rfl⟩
  obtain ⟨me3, od3, mb3, tn3⟩ := h.cut ho hi G1 W3 hW3
  have e3 : W3.cell? ⟨f i0, 3, none⟩ = some (.int .i64 (i0 : Int)) := by
    rw [hW3]
    exact (World.cell?_of_block ((Below.heap_setCell _ _ _ _ nxh).trans (Below.heap_setCell _ _ _ _ nxg))).trans d5
  have z3 := tn3.size
  have HW3 : Hid ((W1.setCell ⟨gp, n, none⟩ (.pointer none)).setCell ⟨hb, 1, none⟩ (.slice (some ⟨gp, 0, none⟩) n cap) = W3 ∧ base ≤ W3.heap.size) := ⟨hW3.symm, by omega⟩
  have m3 : Mp W3 mb nn (updI g (it (f i0)) none) := m1.kept mb3
  have hw1 : IntKind.i64.wrap ((n : Int) + 1 - 1) = (n : Int) := by rw [IntKind.wrap_i64]; omega
  have hw2 : IntKind.i64.wrap (n : Int) = (n : Int) := by rw [IntKind.wrap_i64]; omega
  obtain ⟨jt, hjt, hjs⟩ : ∃ j, Try.prog.info? 81 = some j ∧ j.size = 4 := by
    have := Try.infoTI
    cases e : Try.prog.info? 81 with
    | none => rw [e] at this; cases this
    | some j => rw [e] at this; exact ⟨j, rfl, by simpa using this⟩
  by_cases ci : i0 = n
  · -- the last one itself
    subst ci
    obtain ⟨HS4, TK⟩ := h.taken (W4 := W3) (W5 := W3) (f2 := f) (M := N) hi me3 od3 m3 hg tn3 me3 od3 (Nat.le_refl _) (by rw [Nat.sub_self, Nat.pow_zero, Nat.mul_assoc]; have := Nat.mul_pos (Nat.succ_pos i0) (Nat.succ_pos i0); simp only [Nat.succ_eq_add_one] at this; omega) (fun _ h0 p q hp hq hpq _ _ hR => h0 p q (by omega) (by omega) hpq (by omega) (by omega) hR) (fun b => ⟨fun ⟨j, hj, _, e⟩ => ⟨⟨j, by omega, by omega, e⟩, fun e2 => by have := h.inj (i := j) (j := i0) (by omega) hi (e.trans e2); omega⟩, fun ⟨⟨j, hj, _, e⟩, hne⟩ => ⟨j, by (have : j ≠ i0 := fun e2 => hne (by rw [← e, e2])); omega, by (have : j ≠ i0 := fun e2 => hne (by rw [← e, e2])); omega, e⟩⟩) (Tn.refl _ _)
    have NA : Hid (Calls Try.prog 65 #[.pointer (some ⟨hb, 0, none⟩)] W3 (NarI W3 base hb ob i0 pu f it ke va)) := narrowI_any W3 HS4 HW3.out.2
    have hnq := neq_sameI (P := Try.prog) ((W1.setCell ⟨gp, i0, none⟩ (.pointer none)).setCell ⟨hb, 1, none⟩ (.slice (some ⟨gp, 0, none⟩) i0 cap)) ⟨f i0, 0, none⟩ Try.underlying77 hjt
    have HT : Hid (∀ w', NarI W3 base hb ob i0 pu f it ke va (.returned (.tuple #[])) w' → TakI w base hb ob (some ⟨gp, 0, none⟩) i0 cap mb pu f it ke va lv nx mod tur lies N (f i0) w') := TK
    clear h ho me3 od3 tn3 m3 m1 g1 G1 k1 m2 hm hg hmb h3 h5 px eg hW3 mb3 HS4 TK lt
    generalize f i0 = x at *
    generalize it x = ix at *
    go_enter Try.func40, Try.ntmps40
    go_wp2_with fail
    rename_i hz
    go_region_held3 (fun w9 => w9.cell? ⟨hb, 2, none⟩ = some (.map (some mb)) ∧ w9.cell? ⟨x, 0, none⟩ = some (.int .i64 ix)) (first | (simp [go_sem, *]; done) | (trace_state; fail)) (first | (refine step_delete_runI rfl (.tmp 12) (.tmp 17) 67 3 rfl _ _ rfl rfl W1 hrun ?_))
    refine hz _ _ ?_
    go_wp2_with fail
    rw [HW3.out.1]
    refine Calls.mono NA.out ?_
    intro e w5 hN
    have e0 := hN.1
    subst e0
    have HT5 : Hid _ := HT.out w5 hN
    clear hN HT NA e3
    go_wp2_with fail
    go_ret
    exact ⟨rfl, HT5.out⟩
  · have hin : i0 < n := by omega
    have hneq : f n ≠ f i0 := fun e => ci (h.inj hi (by omega) e.symm)
    have FI : Hid (Calls Try.prog 42 #[.pointer (some ⟨hb, 0, none⟩), .int .i64 (i0 : Int), .pointer (some ⟨f n, 0, none⟩)] W3 fun e w' => e = .returned (.tuple #[]) ∧ ∃ f' M, FilI W3 hb ob gp n cap mb pu f (fun b => Img (n + 1) f (n + 1) b) it ke va lv nx mod tur lies N i0 (f n) w' f' M) := fillI_any i0 (f n) W3 me3 od3 (by omega) hin ⟨n, by omega, by omega, rfl⟩ (fun ⟨j, hj, _, e⟩ => by have := h.inj (i := j) (j := n) (by omega) (by omega) e; omega)
    have TA : Hid (∀ W4 f2 M, FilI W3 hb ob gp n cap mb pu f (fun b => Img (n + 1) f (n + 1) b) it ke va lv nx mod tur lies N i0 (f n) W4 f2 M → HsI W4 base hb ob (some ⟨gp, 0, none⟩) n cap mb nn pu f2 it ke va ∧ W3.heap.size ≤ W4.heap.size ∧ (∀ w', NarI W4 base hb ob n pu f2 it ke va (.returned (.tuple #[])) w' → TakI w base hb ob (some ⟨gp, 0, none⟩) n cap mb pu f it ke va lv nx mod tur lies N (f i0) w')) := fun W4 f2 M ⟨q1, q2, q3, q4, q5, q6, q7⟩ => by
      have q8 := q7.size
      have him : ∀ b, Img n f2 n b ↔ Img (n + 1) f (n + 1) b ∧ b ≠ f i0 := fun b => by
        refine (q6 b).trans ⟨?_, ?_⟩
        · rintro (⟨j, hj, hne, e⟩ | rfl)
          · exact ⟨⟨j, by omega, by omega, e⟩, fun e2 => hne (h.inj (by omega) hi (e.trans e2))⟩
          · exact ⟨⟨n, by omega, by omega, rfl⟩, hneq⟩
        · rintro ⟨⟨j, hj, _, e⟩, hne⟩
          by_cases ej : j = n
          · subst ej
            exact .inr e.symm
          · exact .inl ⟨j, by omega, fun e2 => hne (by rw [← e, e2]), e⟩
      obtain ⟨r1, r2⟩ := h.taken (W4 := W4) (W5 := W4) (f2 := f2) (M := M) hi me3 od3 m3 hg tn3 q1 q2 q3 q4 (fun e0 h0 => q5 e0 fun p q hp hq hpq _ _ hR => h0 p q (by omega) (by omega) hpq (by omega) (by omega) hR) him q7
      exact ⟨r1, q8, r2⟩
    have HB3 : Hid (base ≤ W3.heap.size) := HW3.out.2
    have hnq : (binOp .neq 77 (.pointer (some ⟨f n, 0, none⟩)) (.pointer (some ⟨f i0, 0, none⟩))).run Try.prog ((W1.setCell ⟨gp, n, none⟩ (.pointer none)).setCell ⟨hb, 1, none⟩ (.slice (some ⟨gp, 0, none⟩) n cap)) = .ok (.bool true) ((W1.setCell ⟨gp, n, none⟩ (.pointer none)).setCell ⟨hb, 1, none⟩ (.slice (some ⟨gp, 0, none⟩) n cap)) := by
      rw [HW3.out.1]
      obtain ⟨q1, t1⟩ := me3.th (f n) ⟨n, by omega, by omega, rfl⟩
      obtain ⟨q2, t2⟩ := me3.th (f i0) ⟨i0, hi, by omega, rfl⟩
      exact neq_otherI (P := Try.prog) W3 Try.underlying77 hjt (by omega) (fun e => hneq (by injection e)) t1 t2
    clear h ho me3 od3 tn3 m3 m1 g1 G1 k1 m2 hm hg hmb h3 h5 px eg hW3 mb3 lt
    generalize f i0 = x at *
    generalize f n = L at *
    generalize it x = ix at *
    go_enter Try.func40, Try.ntmps40
    go_wp2_with fail
    rename_i hz
    go_region_held3 (fun w9 => w9.cell? ⟨hb, 2, none⟩ = some (.map (some mb)) ∧ w9.cell? ⟨x, 0, none⟩ = some (.int .i64 ix)) (first | (simp [go_sem, *]; done) | (trace_state; fail)) (first | (refine step_delete_runI rfl (.tmp 12) (.tmp 17) 67 3 rfl _ _ rfl rfl W1 hrun ?_))
    refine hz _ _ ?_
    go_wp2_with fail
    rw [HW3.out.1]
    go_wp2_with fail
    refine Calls.mono FI.out ?_
    rintro e w4 ⟨rfl, f2, M, hF⟩
    obtain ⟨HS4, hz4, TK⟩ := TA.out w4 f2 M hF
    have NA : Hid (Calls Try.prog 65 #[.pointer (some ⟨hb, 0, none⟩)] w4 (NarI w4 base hb ob n pu f2 it ke va)) := narrowI_any w4 HS4 (by have := HB3.out; omega)
    have HT : Hid (∀ w', NarI w4 base hb ob n pu f2 it ke va (.returned (.tuple #[])) w' → TakI w base hb ob (some ⟨gp, 0, none⟩) n cap mb pu f it ke va lv nx mod tur lies N x w') := TK
    clear hF HS4 TK FI TA e3
    go_wp2_with fail
    refine Calls.mono NA.out ?_
    intro e w5 hN
    have e0 := hN.1
    subst e0
    have HT5 : Hid _ := HT.out w5 hN
    clear hN HT NA
    go_wp2_with fail
    go_ret
    exact ⟨rfl, HT5.out⟩
end Go.Proofs.Ytjnfcihichaonaa
