/- Contracts of the program's functions, part 5: own work, joined in build order. -/
import Derived.Test.YtklhenblcgmfhaaJ4
import Derived.LaidEqlPtr
namespace Go.Proofs.Ytklhenblcgmfhaa
open Go.RowKit
set_option maxRecDepth 100000
set_option linter.unusedVariables false
theorem neq_sameS {P : Program} (w : World) {tp te : TypeId} {j : TypeInfo} (a : Addr) (hp : P.underlying tp = some (.pointer te)) (hte : P.info? te = some j) :
    (binOp .neq tp (.pointer (some a)) (.pointer (some a))).run P w = .ok (.bool false) w := by
  have h : ∀ d : Nat, (Op.equalIn (d + 1) tp (.pointer (some a)) (.pointer (some a))).run P w = .ok true w := fun d => by
    simp [Op.equalIn, run_underlying hp, sizeOf, typeInfo, hte, run_sameAddr_same]
  simp only [binOp]
  simp [Op.equal, Op.maxDepth, h 9999]
theorem neq_otherS {P : Program} (w : World) {tp te : TypeId} {j : TypeInfo} {a b : Addr} {ca cb : Array Value} {ta tb : TypeId} (hp : P.underlying tp = some (.pointer te)) (hte : P.info? te = some j) (hsz : j.size ≠ 0)
    (hne : a ≠ b) (ha : w.heap[a.block]? = some (.cells ca ta (0, 0))) (hb : w.heap[b.block]? = some (.cells cb tb (0, 0))) :
    (binOp .neq tp (.pointer (some a)) (.pointer (some b))).run P w = .ok (.bool true) w := by
  have h : ∀ d : Nat, (Op.equalIn (d + 1) tp (.pointer (some a)) (.pointer (some b))).run P w = .ok false w := fun d => by
    simp [Op.equalIn, run_underlying hp, sizeOf, typeInfo, hte, hsz, run_sameAddr_other w hne ha hb]
  simp only [binOp]
  simp [Op.equal, Op.maxDepth, h 9999]
theorem Try.infoTS : (Try.prog.info? 98).map (fun i => i.size) = some 4 := by kernel_rfl
set_option maxHeartbeats 2000000 in
theorem takeS_any {base hb ob gp : Nat} {n cap mb nn : Nat} {pu : Int} {f : Nat → Nat} {it ke : Nat → Int} {va : Nat → ByteArray} {lv : Value} {nx mod : Int} {tur : Bool} {lies : Int} {N : Nat} (i0 : Nat) (w : World) (h : HsS w base hb ob (some ⟨gp, 0, none⟩) (n + 1) cap mb nn pu f it ke va) (ho : Ordr w ob lv nx mod tur lies N) (hN : N < 999999999700) (hi : i0 < n + 1) (hb0 : base ≤ w.heap.size) :
    Calls Try.prog 53 #[.pointer (some ⟨hb, 0, none⟩), .pointer (some ⟨f i0, 0, none⟩)] w fun e w' => e = .returned (.pointer (some ⟨f i0, 0, none⟩)) ∧ TakS w base hb ob (some ⟨gp, 0, none⟩) n cap mb pu f it ke va lv nx mod tur lies N (f i0) w' := by
  have lt : ∀ {k : Nat} {o : Obj}, w.heap[k]? = some o → k < w.heap.size := fun e => (Array.getElem?_eq_some_iff.1 e).1
  obtain ⟨c1, c2, c3, c4⟩ := h.cells
  obtain ⟨gp', e, hbg, h1, hcap, cs, h3, h4, h5⟩ := h.some' (by omega)
  cases e
  obtain ⟨g, hm, hg⟩ := h.map
  obtain ⟨es, ck, hmb⟩ := hm.block
  have hir := h.itr i0 hi
  have hp1 := h.pu1
  have hl := h.lim
  have m2 : Mp w.drew mb nn g := hm.kept rfl
  obtain ⟨W1, hrun, m1, g1⟩ := m2.drop Try.underlying92 (i := it (f i0)) (by omega) (by omega) 0
  have G1 : w.grownBy W1 (some mb) := ⟨g1.os, g1.tape, g1.output, g1.size, g1.block⟩
  have k1 : ∀ k, k < w.heap.size → k ≠ mb → W1.heap[k]? = w.heap[k]? := fun k h1 h2 => g1.block k h1 (fun e => h2 (by injection e))
  have nhm : hb ≠ mb := fun e => map_ne hmb h.hd e.symm
  have ngm : gp ≠ mb := fun e => map_ne hmb h3 e.symm
  have nxm : f i0 ≠ mb := fun e => map_ne hmb (h.pl i0 hi) e.symm
  have px := h.pl i0 hi
  have nxg : f i0 ≠ gp := ne_of_type px h3 (by decide)
  have nxh : f i0 ≠ hb := ne_of_type px h.hd (by decide)
  have nhg : hb ≠ gp := ne_of_type h.hd h3 (by decide)
  have x0 : w.cell? ⟨f i0, 0, none⟩ = some (.int .i64 (it (f i0))) := by simp [World.cell?, px]
  have d1 : W1.cell? ⟨hb, 1, none⟩ = some (.slice (some ⟨gp, 0, none⟩) (n + 1) cap) := (World.cell?_of_block (k1 hb (lt h.hd) nhm)).trans c1
  have d2 : W1.cell? ⟨hb, 2, none⟩ = some (.map (some mb)) := (World.cell?_of_block (k1 hb (lt h.hd) nhm)).trans c2
  have d3 : W1.frozen? ⟨hb, 1, none⟩ = false := by
    have e := (k1 hb (lt h.hd) nhm).trans h.hd
    simp [World.frozen?, e]
  have d4 : W1.cell? ⟨f i0, 0, none⟩ = some (.int .i64 (it (f i0))) := (World.cell?_of_block (k1 _ (lt px) nxm)).trans x0
  have d5 : W1.cell? ⟨f i0, 3, none⟩ = some (.int .i64 (i0 : Int)) := by
    have e := (k1 _ (lt px) nxm).trans px
    simp [World.cell?, e]
  have eg := (k1 gp (lt h3) ngm).trans h3
  have d6 : W1.cell? ⟨gp, n, none⟩ = some (.pointer (some ⟨f n, 0, none⟩)) := by simp [World.cell?, eg, h5 n (by omega)]
  have d7 : W1.frozen? ⟨gp, n, none⟩ = false := by simp [World.frozen?, eg]
  obtain ⟨W3, hW3⟩ : ∃ W3, W3 = (W1.setCell ⟨gp, n, none⟩ (.pointer none)).setCell ⟨hb, 1, none⟩ (.slice (some ⟨gp, 0, none⟩) n cap) := ⟨_, rfl⟩
  obtain ⟨me3, od3, mb3, tn3⟩ := h.cut ho hi G1 W3 hW3
  have e3 : W3.cell? ⟨f i0, 3, none⟩ = some (.int .i64 (i0 : Int)) := by
    rw [hW3]
    exact (World.cell?_of_block ((Below.heap_setCell _ _ _ _ nxh).trans (Below.heap_setCell _ _ _ _ nxg))).trans d5
  have z3 := tn3.size
  have HW3 : Hid ((W1.setCell ⟨gp, n, none⟩ (.pointer none)).setCell ⟨hb, 1, none⟩ (.slice (some ⟨gp, 0, none⟩) n cap) = W3 ∧ base ≤ W3.heap.size) := ⟨hW3.symm, by omega⟩
  have m3 : Mp W3 mb nn (updI g (it (f i0)) none) := m1.kept mb3
  have hw1 : IntKind.i64.wrap ((n : Int) + 1 - 1) = (n : Int) := by rw [IntKind.wrap_i64]; omega
  have hw2 : IntKind.i64.wrap (n : Int) = (n : Int) := by rw [IntKind.wrap_i64]; omega
  obtain ⟨jt, hjt, hjs⟩ : ∃ j, Try.prog.info? 98 = some j ∧ j.size = 4 := by
    have := Try.infoTS
    cases e : Try.prog.info? 98 with
    | none => rw [e] at this; cases this
    | some j => rw [e] at this; exact ⟨j, rfl, by simpa using this⟩
  by_cases ci : i0 = n
  · -- the last one itself
    subst ci
    obtain ⟨HS4, TK⟩ := h.taken (W4 := W3) (W5 := W3) (f2 := f) (M := N) hi me3 od3 m3 hg tn3 me3 od3 (Nat.le_refl _) (by rw [Nat.sub_self, Nat.pow_zero, Nat.mul_assoc]; have := Nat.mul_pos (Nat.succ_pos i0) (Nat.succ_pos i0); simp only [Nat.succ_eq_add_one] at this; omega) (fun _ h0 p q hp hq hpq _ _ hR => h0 p q (by omega) (by omega) hpq (by omega) (by omega) hR) (fun b => ⟨fun ⟨j, hj, _, e⟩ => ⟨⟨j, by omega, by omega, e⟩, fun e2 => by have := h.inj (i := j) (j := i0) (by omega) hi (e.trans e2); omega⟩, fun ⟨⟨j, hj, _, e⟩, hne⟩ => ⟨j, by (have : j ≠ i0 := fun e2 => hne (by rw [← e, e2])); omega, by (have : j ≠ i0 := fun e2 => hne (by rw [← e, e2])); omega, e⟩⟩) (Tn.refl _ _)
    have NA : Hid (Calls Try.prog 71 #[.pointer (some ⟨hb, 0, none⟩)] W3 (NarS W3 base hb ob i0 pu f it ke va)) := narrowS_any W3 HS4 HW3.out.2
    have hnq := neq_sameS (P := Try.prog) ((W1.setCell ⟨gp, i0, none⟩ (.pointer none)).setCell ⟨hb, 1, none⟩ (.slice (some ⟨gp, 0, none⟩) i0 cap)) ⟨f i0, 0, none⟩ Try.underlying96 hjt
    have HT : Hid (∀ w', NarS W3 base hb ob i0 pu f it ke va (.returned (.tuple #[])) w' → TakS w base hb ob (some ⟨gp, 0, none⟩) i0 cap mb pu f it ke va lv nx mod tur lies N (f i0) w') := TK
    clear h ho me3 od3 tn3 m3 m1 g1 G1 k1 m2 hm hg hmb h3 h5 px eg hW3 mb3 HS4 TK lt
    generalize f i0 = x at *
    generalize it x = ix at *
    go_enter Try.func53, Try.ntmps53
    go_wp2_with fail
    rename_i hz
    go_region_held3 (fun w9 => w9.cell? ⟨hb, 2, none⟩ = some (.map (some mb)) ∧ w9.cell? ⟨x, 0, none⟩ = some (.int .i64 ix)) (first | (simp [go_sem, *]; done) | (trace_state; fail)) (first | (refine step_delete_runS rfl (.tmp 12) (.tmp 17) 92 3 rfl _ _ rfl rfl W1 hrun ?_))
    refine hz _ _ ?_
    go_wp2_with fail
    rw [HW3.out.1]
    refine Calls.mono NA.out ?_
    intro e w5 hN
    have e0 := hN.1
    subst e0
    have HT5 : Hid _ := HT.out w5 hN
    clear hN HT NA e3
    go_wp2_with fail
    go_ret
    exact ⟨rfl, HT5.out⟩
  · have hin : i0 < n := by omega
    have hneq : f n ≠ f i0 := fun e => ci (h.inj hi (by omega) e.symm)
    have FI : Hid (Calls Try.prog 57 #[.pointer (some ⟨hb, 0, none⟩), .int .i64 (i0 : Int), .pointer (some ⟨f n, 0, none⟩)] W3 fun e w' => e = .returned (.tuple #[]) ∧ ∃ f' M, FilS W3 hb ob gp n cap mb pu f (fun b => Img (n + 1) f (n + 1) b) it ke va lv nx mod tur lies N i0 (f n) w' f' M) := fillS_any i0 (f n) W3 me3 od3 (by omega) hin ⟨n, by omega, by omega, rfl⟩ (fun ⟨j, hj, _, e⟩ => by have := h.inj (i := j) (j := n) (by omega) (by omega) e; omega)
    have TA : Hid (∀ W4 f2 M, FilS W3 hb ob gp n cap mb pu f (fun b => Img (n + 1) f (n + 1) b) it ke va lv nx mod tur lies N i0 (f n) W4 f2 M → HsS W4 base hb ob (some ⟨gp, 0, none⟩) n cap mb nn pu f2 it ke va ∧ W3.heap.size ≤ W4.heap.size ∧ (∀ w', NarS W4 base hb ob n pu f2 it ke va (.returned (.tuple #[])) w' → TakS w base hb ob (some ⟨gp, 0, none⟩) n cap mb pu f it ke va lv nx mod tur lies N (f i0) w')) := fun W4 f2 M ⟨q1, q2, q3, q4, q5, q6, q7⟩ => by
      have q8 := q7.size
      have him : ∀ b, Img n f2 n b ↔ Img (n + 1) f (n + 1) b ∧ b ≠ f i0 := fun b => by
        refine (q6 b).trans ⟨?_, ?_⟩
        · rintro (⟨j, hj, hne, e⟩ | rfl)
          · exact ⟨⟨j, by omega, by omega, e⟩, fun e2 => hne (h.inj (by omega) hi (e.trans e2))⟩
          · exact ⟨⟨n, by omega, by omega, rfl⟩, hneq⟩
        · rintro ⟨⟨j, hj, _, e⟩, hne⟩
          by_cases ej : j = n
          · subst ej
            exact .inr e.symm
          · exact .inl ⟨j, by omega, fun e2 => hne (by rw [← e, e2]), e⟩
      obtain ⟨r1, r2⟩ := h.taken (W4 := W4) (W5 := W4) (f2 := f2) (M := M) hi me3 od3 m3 hg tn3 q1 q2 q3 q4 (fun e0 h0 => q5 e0 fun p q hp hq hpq _ _ hR => h0 p q (by omega) (by omega) hpq (by omega) (by omega) hR) him q7
      exact ⟨r1, q8, r2⟩
    have HB3 : Hid (base ≤ W3.heap.size) := HW3.out.2
    have hnq : (binOp .neq 96 (.pointer (some ⟨f n, 0, none⟩)) (.pointer (some ⟨f i0, 0, none⟩))).run Try.prog ((W1.setCell ⟨gp, n, none⟩ (.pointer none)).setCell ⟨hb, 1, none⟩ (.slice (some ⟨gp, 0, none⟩) n cap)) = .ok (.bool true) ((W1.setCell ⟨gp, n, none⟩ (.pointer none)).setCell ⟨hb, 1, none⟩ (.slice (some ⟨gp, 0, none⟩) n cap)) := by
      rw [HW3.out.1]
      obtain ⟨q1, t1⟩ := me3.th (f n) ⟨n, by omega, by omega, rfl⟩
      obtain ⟨q2, t2⟩ := me3.th (f i0) ⟨i0, hi, by omega, rfl⟩
      exact neq_otherS (P := Try.prog) W3 Try.underlying96 hjt (by omega) (fun e => hneq (by injection e)) t1 t2
    clear h ho me3 od3 tn3 m3 m1 g1 G1 k1 m2 hm hg hmb h3 h5 px eg hW3 mb3 lt
    generalize f i0 = x at *
    generalize f n = L at *
    generalize it x = ix at *
    go_enter Try.func53, Try.ntmps53
    go_wp2_with fail
    rename_i hz
    go_region_held3 (fun w9 => w9.cell? ⟨hb, 2, none⟩ = some (.map (some mb)) ∧ w9.cell? ⟨x, 0, none⟩ = some (.int .i64 ix)) (first | (simp [go_sem, *]; done) | (trace_state; fail)) (first | (refine step_delete_runS rfl (.tmp 12) (.tmp 17) 92 3 rfl _ _ rfl rfl W1 hrun ?_))
    refine hz _ _ ?_
    go_wp2_with fail
    rw [HW3.out.1]
    go_wp2_with fail
    refine Calls.mono FI.out ?_
    rintro e w4 ⟨rfl, f2, M, hF⟩
    obtain ⟨HS4, hz4, TK⟩ := TA.out w4 f2 M hF
    have NA : Hid (Calls Try.prog 71 #[.pointer (some ⟨hb, 0, none⟩)] w4 (NarS w4 base hb ob n pu f2 it ke va)) := narrowS_any w4 HS4 (by have := HB3.out; omega)
    have HT : Hid (∀ w', NarS w4 base hb ob n pu f2 it ke va (.returned (.tuple #[])) w' → TakS w base hb ob (some ⟨gp, 0, none⟩) n cap mb pu f it ke va lv nx mod tur lies N x w') := TK
    clear hF HS4 TK FI TA e3
    go_wp2_with fail
    refine Calls.mono NA.out ?_
    intro e w5 hN
    have e0 := hN.1
    subst e0
    have HT5 : Hid _ := HT.out w5 hN
    clear hN HT NA
    go_wp2_with fail
    go_ret
    exact ⟨rfl, HT5.out⟩
end Go.Proofs.Ytklhenblcgmfhaa
namespace Go.Proofs.Ytklhenblcgmfhaa
open Go.RowKit
set_option maxRecDepth 100000
set_option linter.unusedVariables false
theorem HsS.drewN {w : World} {base hb ob : Nat} {a : Option Addr} {n cap mb nn : Nat} {pu : Int} {f : Nat → Nat} {it ke : Nat → Int} {va : Nat → ByteArray} (h : HsS w base hb ob a n cap mb nn pu f it ke va) (m : Nat) : HsS (w.drewN m) base hb ob a n cap mb nn pu f it ke va :=
  { h with hd := h.hd, row := own_kept h.row fun _ _ => rfl, pl := h.pl, mp := by obtain ⟨g, h1, h2⟩ := h.mp; exact ⟨g, h1.kept rfl, h2⟩ }
theorem TakS.drewN {w w1 : World} {base hb ob : Nat} {a : Option Addr} {n cap mb : Nat} {pu : Int} {f : Nat → Nat} {it ke : Nat → Int} {va : Nat → ByteArray} {lv : Value} {nx mod : Int} {tur : Bool} {lies : Int} {N x : Nat} (h : TakS w base hb ob a n cap mb pu f it ke va lv nx mod tur lies N x w1) (m : Nat) : TakS w base hb ob a n cap mb pu f it ke va lv nx mod tur lies N x (w1.drewN m) := by
  obtain ⟨a', cap', mb', nn', f', M, q1, q2, q3, q4, q5, q6, q7, q8⟩ := h
  exact ⟨a', cap', mb', nn', f', M, q1.drewN m, q2.kept rfl, q3, q4, q5, q6, { q7.toTn.drewN m with new := q7.new }, q8⟩
theorem takeS_none (hb : Nat) (w : World) : Calls Try.prog 53 #[.pointer (some ⟨hb, 0, none⟩), .pointer none] w fun e w' => e = .returned (.pointer none) ∧ w' = w := by
  go_enter Try.func53, Try.ntmps53
  go_wp2_with fail
  go_ret
  exact ⟨rfl, rfl⟩
set_option maxHeartbeats 1000000 in
theorem popMaxS_none {base hb ob : Nat} {a : Option Addr} {cap mb nn : Nat} {pu : Int} {f : Nat → Nat} {it ke : Nat → Int} {va : Nat → ByteArray} (w : World) (h : HsS w base hb ob a 0 cap mb nn pu f it ke va) :
    Calls Try.prog 32 #[.pointer (some ⟨hb, 0, none⟩)] w fun e w' => e = .returned (.tuple #[.int .i64 0, .int .i64 0, .string (⟨#[]⟩ : ByteArray), .bool false]) ∧ ∃ m, w' = w.drewN m := by
  have FI : Hid (Calls Try.prog 54 #[.pointer (some ⟨hb, 0, none⟩)] w fun e w' => e = .returned (.pointer none) ∧ w' = w) := lastS_any w h
  have TA : Hid (Calls Try.prog 53 #[.pointer (some ⟨hb, 0, none⟩), .pointer none] w fun e w' => e = .returned (.pointer none) ∧ w' = w) := takeS_none hb w
  have TE : Hid (Calls Try.prog 55 #[.pointer none] w fun e w' => e = .returned (.tuple #[.int .i64 0, .int .i64 0, .string (⟨#[]⟩ : ByteArray), .bool false]) ∧ ∃ m, w' = w.drewN m) := tellS_any (it := it) (ke := ke) (va := va) none w (fun b e => by cases e)
  clear h
  go_enter Try.func32, Try.ntmps32
  go_wp2_with (first | (go_at_call 54; refine Calls.mono FI.out ?_; rintro e w8 ⟨rfl, rfl⟩) | (go_at_call 53; refine Calls.mono TA.out ?_; rintro e w9 ⟨rfl, rfl⟩) | (go_at_call 55; refine Calls.mono TE.out ?_; rintro e w7 ⟨rfl, m, rfl⟩))
  (try simp only [Exit.inBlock, Exit.then]); refine bodyPost_ret (results_tmp4S rfl _ _ _) rfl ?_
  exact ⟨rfl, _, rfl⟩
set_option maxHeartbeats 1000000 in
theorem popMaxS_any {base hb ob : Nat} {a : Option Addr} {n cap mb nn : Nat} {pu : Int} {f : Nat → Nat} {it ke : Nat → Int} {va : Nat → ByteArray} {lv : Value} {nx mod : Int} {tur : Bool} {lies : Int} {N : Nat} (w : World) (h : HsS w base hb ob a (n + 1) cap mb nn pu f it ke va) (ho : Ordr w ob lv nx mod tur lies N) (hN : N < 999999999700) (hb0 : base ≤ w.heap.size) :
    Calls Try.prog 32 #[.pointer (some ⟨hb, 0, none⟩)] w fun e w' => e = .returned (.tuple #[.int .i64 (it (f (if n = 0 then 0 else 1))), .int .i64 (ke (f (if n = 0 then 0 else 1))), .string (va (f (if n = 0 then 0 else 1))), .bool true]) ∧ TakS w base hb ob a n cap mb pu f it ke va lv nx mod tur lies N (f (if n = 0 then 0 else 1)) w' := by
  obtain ⟨gp, rfl, _⟩ := h.some' (by omega)
  have FI : Hid (Calls Try.prog 54 #[.pointer (some ⟨hb, 0, none⟩)] w fun e w' => e = .returned (.pointer (some ⟨f (if n = 0 then 0 else 1), 0, none⟩)) ∧ w' = w) := by
    have := lastS_any w h
    rw [show lst? (n + 1) f = some (f (if n = 0 then 0 else 1)) by unfold lst?; rw [if_neg (by omega)]; split <;> split <;> first | rfl | omega] at this
    exact this
  have TA : Hid (Calls Try.prog 53 #[.pointer (some ⟨hb, 0, none⟩), .pointer (some ⟨f (if n = 0 then 0 else 1), 0, none⟩)] w fun e w' => e = .returned (.pointer (some ⟨f (if n = 0 then 0 else 1), 0, none⟩)) ∧ TakS w base hb ob (some ⟨gp, 0, none⟩) n cap mb pu f it ke va lv nx mod tur lies N (f (if n = 0 then 0 else 1)) w') := takeS_any (if n = 0 then 0 else 1) w h ho hN (by split <;> omega) hb0
  clear h ho
  generalize f (if n = 0 then 0 else 1) = x at *
  go_enter Try.func32, Try.ntmps32
  go_wp2_with (first | (go_at_call 54; refine Calls.mono FI.out ?_; rintro e w8 ⟨rfl, rfl⟩))
  refine Calls.mono TA.out ?_
  rintro e w9 ⟨rfl, hT⟩
  have TE : Hid (Calls Try.prog 55 #[.pointer (some ⟨x, 0, none⟩)] w9 fun e w' => e = .returned (.tuple #[.int .i64 (it x), .int .i64 (ke x), .string (va x), .bool true]) ∧ ∃ m, w' = w9.drewN m) := tellS_any (some x) w9 (fun b e => by
    cases e
    obtain ⟨a', cap', mb', nn', f', M, _, _, _, _, _, _, _, q8⟩ := hT
    exact q8)
  have HT : Hid _ := hT
  clear hT
  go_wp2_with (first | (go_at_call 55; refine Calls.mono TE.out ?_; rintro e w7 ⟨rfl, m, rfl⟩))
  (try simp only [Exit.inBlock, Exit.then]); refine bodyPost_ret (results_tmp4S rfl _ _ _) rfl ?_
  exact ⟨rfl, TakS.drewN HT.out _⟩
theorem updateS_none {base hb ob : Nat} {a : Option Addr} {n cap mb nn : Nat} {pu : Int} {f : Nat → Nat} {it ke : Nat → Int} {va : Nat → ByteArray} (i k : Int) (w : World) (h : HsS w base hb ob a n cap mb nn pu f it ke va) (h1 : -9223372036854775808 ≤ i) (h2 : i ≤ 9223372036854775807) (hn : ∀ b, Img n f n b → it b ≠ i) :
    Calls Try.prog 36 #[.pointer (some ⟨hb, 0, none⟩), .int .i64 i, .int .i64 k] w fun e w' => e = .returned (.int .i64 50) ∧ w' = w := by
  obtain ⟨c1, c2, c3, c4⟩ := h.cells
  obtain ⟨g, hm, hg⟩ := h.map
  have hr := hm.look Try.underlying92 (by rfl) (i := i) h1 h2
  have e0 : g i = none := by
    cases e : g i with
    | none => rfl
    | some b => exact absurd ((hg i b).1 e).2 (hn b ((hg i b).1 e).1)
  rw [e0] at hr
  simp only [pV] at hr
  clear h hm hg
  go_enter Try.func36, Try.ntmps36
  go_wp2_with fail
  go_ret
  exact ⟨rfl, rfl⟩
theorem fn_nilS (ob : Nat) (w : World) : (binOp .eql 66 (.func (.func 28) #[.pointer (some ⟨ob, 0, none⟩)] #[]) .nilFunc).run Try.prog w = .ok (.bool false) w := by kernel_rfl
theorem newS_any (ob : Nat) (base : Nat) (w : World) (hb : base ≤ w.heap.size) (ho : base ≤ ob) :
    Calls Try.prog 30 #[.func (.func 28) #[.pointer (some ⟨ob, 0, none⟩)] #[]] w fun e w' => e = .returned (.pointer (some ⟨w.heap.size + 1, 0, none⟩)) ∧ HsS w' base (w.heap.size + 1) ob none 0 0 w.heap.size 0 0 (fun _ => 0) (fun _ => 0) (fun _ => 0) (fun _ => (⟨#[]⟩ : ByteArray)) ∧ Below w.heap.size w w' := by
  have hmm := @run_makeMap Try.prog
  have hfn := fn_nilS ob w
  go_enter Try.func30, Try.ntmps30
  go_wp2_with fail
  go_ret
  have s1 : (w.alloc (.map #[] 0)).heap.size = w.heap.size + 1 := by simp
  refine ⟨rfl, ?_, ((Below.refl _ _).alloc (Nat.le_refl _) _).alloc (by simp) _⟩
  have e1 := (MapKept.heap_alloc (w.alloc (.map #[] 0)) (.cells #[.func (.func 28) #[.pointer (some ⟨ob, 0, none⟩)] #[], .slice none 0 0, .map (some w.heap.size), .int .i64 0] 95)).1
  rw [s1] at e1
  refine { hd := e1, row := World.ownsRow_nil _ _ _ _, lim := by omega, pl := fun i hi => by omega, wf := fun i hi => by omega, itr := fun i hi => by omega, iti := fun i j hi => by omega, pu0 := Int.le_refl _, pu1 := by omega, nn1 := by omega, mp := ⟨fun _ => none, (Mp.made w).kept (Below.heap_alloc _ _ _ (by simp)), fun i b => ⟨fun e => (by cases e), fun e => (by obtain ⟨j, hj, _⟩ := e; omega)⟩⟩, ge := ⟨by omega, ho, hb, fun i hi => by omega⟩ }
end Go.Proofs.Ytklhenblcgmfhaa
namespace Go.Proofs.Ytklhenblcgmfhaa
open Go.RowKit
set_option maxRecDepth 100000
set_option linter.unusedVariables false
theorem num_any (i : Int) (w : World) : Calls Try.prog 35 #[.int .i64 i] w fun e w' => e = .returned (.int .i64 i) ∧ w' = w := by
  go_enter Try.func35, Try.ntmps35
  go_wp2_with fail
  go_ret
  exact ⟨rfl, rfl⟩
theorem rk0 (k : Int) : rk 0 false k = k := by simp [rk, rank]
/-- Three things in a heap of texts. -/
structure St3 (w0 W : World) (hb ob : Nat) (it ke : Nat → Int) (va : Nat → ByteArray) (x1 x2 x3 : Nat) : Prop where
  ex : ∃ a cap mb nn f N, HsS W w0.heap.size hb ob a 3 cap mb nn 3 f it ke va ∧ Ordr W ob (.slice none 0 0) 0 0 false 0 N ∧ N ≤ 1000 ∧ Ord (leB 0 false it ke) 3 f 3 ∧ ∀ b, Img 3 f 3 b ↔ b = x1 ∨ b = x2 ∨ b = x3
  i1 : it x1 = 1 ∧ ke x1 = 5
  i2 : it x2 = 2 ∧ ke x2 = 3 ∧ va x2 = ⟨#[98]⟩
  i3 : it x3 = 3 ∧ ke x3 = 5 ∧ va x3 = ⟨#[99]⟩
  bel : Below w0.heap.size w0 W
theorem tn_below {S : Nat → Prop} {w0 w w' : World} (hB : Below w0.heap.size w0 w) (h : Tn S w w') (hs : ∀ k, S k → w0.heap.size ≤ k) : Below w0.heap.size w0 w' :=
  ⟨h.os.trans hB.os, h.tape.trans hB.tape, h.output.trans hB.output, Nat.le_trans hB.size h.size, fun k hk => (h.block k (Nat.lt_of_lt_of_le hk hB.size) (fun e => by have := hs k e; omega)).trans (hB.block k hk)⟩
theorem pow_le (M N : Nat) (h : 2 ^ (M - N) ≤ 64) (hn : N ≤ M) : M ≤ N + 6 := by
  rcases Nat.lt_or_ge 6 (M - N) with h1 | h1
  · have : 2 ^ 7 ≤ 2 ^ (M - N) := Nat.pow_le_pow_right (by decide) h1
    have : (2 : Nat) ^ 7 = 128 := by decide
    omega
  · omega
theorem push_step {w0 W : World} {hb ob : Nat} {a : Option Addr} {n cap mb nn : Nat} {pu : Int} {f : Nat → Nat} {it ke : Nat → Int} {va : Nat → ByteArray} {N : Nat} (h : HsS W w0.heap.size hb ob a n cap mb nn pu f it ke va) (ho : Ordr W ob (.slice none 0 0) 0 0 false 0 N) (hord : Ord (leB 0 false it ke) n f n) (hB : Below w0.heap.size w0 W) (k : Int) (v : ByteArray) (hn : n ≤ 10) (hN : N ≤ 500) (hp : pu ≤ 100) (hk : -1000 ≤ k) (hk2 : k ≤ 1000) :
    Calls Try.prog 31 #[.pointer (some ⟨hb, 0, none⟩), .int .i64 k, .string v] W fun e w' => e = .returned (.int .i64 (pu + 1)) ∧ ∃ a' cap' f' M, HsS w' w0.heap.size hb ob a' (n + 1) cap' mb (nn + 1) (pu + 1) f' (upN it W.heap.size (pu + 1)) (upN ke W.heap.size k) (upN va W.heap.size v) ∧ Ordr w' ob (.slice none 0 0) 0 0 false 0 M ∧ M ≤ N + 6 ∧ Ord (leB 0 false (upN it W.heap.size (pu + 1)) (upN ke W.heap.size k)) (n + 1) f' (n + 1) ∧ (∀ b, Img (n + 1) f' (n + 1) b ↔ Img n f n b ∨ b = W.heap.size) ∧ Below w0.heap.size w0 w' ∧ W.heap.size < w'.heap.size := by
  refine (pushS_any k v W h ho (by omega) (by omega) (by omega) (by omega) (by omega) hB.size).mono ?_
  rintro e w' ⟨rfl, a', cap', f', M, q1, q2, q3, q4, q5, q6, q7⟩
  refine ⟨rfl, a', cap', f', M, q1, q2, pow_le M N (by omega) q3, q5 rfl hord, q6, tn_below hB q7.toTn ?_, ?_⟩
  · rintro k (e | e | e | e | e)
    · rw [e]; exact h.ge.1
    · rw [e]; exact h.ge.2.2.1
    · rw [e]; exact h.ge.2.1
    · exact (h.own e).1
    · obtain ⟨i, hi, _, rfl⟩ := e
      exact h.ge.2.2.2 i hi
  · obtain ⟨i, hi, _, e⟩ := (q6 W.heap.size).2 (.inr rfl)
    have := (Array.getElem?_eq_some_iff.1 (q1.pl i hi)).1
    rw [e] at this
    exact this
set_option maxHeartbeats 2000000 in
theorem started_any (w : World) : Calls Try.prog 12 #[] w fun e w' => e = .returned (.bool true) ∧ Below w.heap.size w w' := by
  obtain ⟨W1, hW1⟩ : ∃ W1, W1 = w.alloc (.cells #[.slice none 0 0, .int .i64 0, .int .i64 0, .bool false, .int .i64 0, .int .i64 0] 57) := ⟨_, rfl⟩
  have B1 : Below w.heap.size w W1 := by rw [hW1]; exact (Below.refl _ _).alloc (Nat.le_refl _) _
  have s1 : W1.heap.size = w.heap.size + 1 := by rw [hW1]; simp
  have O1 : Ordr W1 w.heap.size (.slice none 0 0) 0 0 false 0 0 := ⟨by rw [hW1]; exact (MapKept.heap_alloc w _).1, ⟨_, _, _, rfl⟩, by omega, by omega, by omega, by omega⟩
  have NW : Hid (Calls Try.prog 30 #[.func (.func 28) #[.pointer (some ⟨w.heap.size, 0, none⟩)] #[]] W1 fun e w' => e = .returned (.pointer (some ⟨W1.heap.size + 1, 0, none⟩)) ∧ HsS w' w.heap.size (W1.heap.size + 1) w.heap.size none 0 0 W1.heap.size 0 0 (fun _ => 0) (fun _ => 0) (fun _ => 0) (fun _ => (⟨#[]⟩ : ByteArray)) ∧ Below W1.heap.size W1 w') := newS_any w.heap.size w.heap.size W1 B1.size (Nat.le_refl _)
  have HW : Hid (w.alloc (.cells #[.slice none 0 0, .int .i64 0, .int .i64 0, .bool false, .int .i64 0, .int .i64 0] 57) = W1) := hW1.symm
  have H1 : Hid (Below w.heap.size w W1 ∧ W1.heap.size = w.heap.size + 1 ∧ Ordr W1 w.heap.size (.slice none 0 0) 0 0 false 0 0) := ⟨B1, s1, O1⟩
  clear hW1 B1 s1 O1
  go_enter Try.func12, Try.ntmps12
  go_wp2_with fail
  rw [HW.out]
  refine Calls.mono NW.out ?_
  rintro e W2 ⟨rfl, S0, hB0⟩
  obtain ⟨hb, ehb⟩ : ∃ hb, hb = W1.heap.size + 1 := ⟨_, rfl⟩
  rw [← ehb] at S0 ⊢
  have B2 := H1.out.1.trans (hB0.mono H1.out.1.size)
  have O2 : Ordr W2 w.heap.size (.slice none 0 0) 0 0 false 0 0 := H1.out.2.2.kept (hB0.block _ H1.out.2.2.lt)
  have P1 : Hid _ := push_step S0 O2 (fun a b ha => by omega) B2 5 ⟨#[97]⟩ (by omega) (by omega) (by omega) (by omega) (by omega)
  clear S0 O2 B2 ehb hB0 NW
  go_wp2_with fail
  refine Calls.mono P1.out ?_
  rintro e W3 ⟨rfl, a3, cap3, f3, N3, S3, O3, hN3, R3, I3, B3, z3⟩
  have P2 : Hid _ := push_step S3 O3 R3 B3 3 ⟨#[98]⟩ (by omega) (by omega) (by omega) (by omega) (by omega)
  have J3 : Hid (∀ b, Img 1 f3 1 b ↔ b = W2.heap.size) := fun b => (I3 b).trans ⟨fun h => h.elim (fun ⟨i, hi, _⟩ => by omega) id, .inr⟩
  clear S3 O3 R3 I3 B3 P1
  go_wp2_with fail
  refine Calls.mono P2.out ?_
  rintro e W4 ⟨rfl, a4, cap4, f4, N4, S4, O4, hN4, R4, I4, B4, z4⟩
  have P3 : Hid _ := push_step S4 O4 R4 B4 5 ⟨#[99]⟩ (by omega) (by omega) (by omega) (by omega) (by omega)
  have J4 : Hid (∀ b, Img 2 f4 2 b ↔ b = W2.heap.size ∨ b = W3.heap.size) := fun b => (I4 b).trans (or_congr (J3.out b) Iff.rfl)
  clear S4 O4 R4 I4 B4 P2 J3
  go_wp2_with fail
  refine Calls.mono P3.out ?_
  rintro e W5 ⟨rfl, a5, cap5, f5, N5, S5, O5, hN5, R5, I5, B5, z5⟩
  have J5 : ∀ b, Img 3 f5 3 b ↔ (b = W2.heap.size ∨ b = W3.heap.size) ∨ b = W4.heap.size := fun b => (I5 b).trans (or_congr (J4.out b) Iff.rfl)
  have zz : W2.heap.size < W3.heap.size ∧ W3.heap.size < W4.heap.size := ⟨z3, z4⟩
  obtain ⟨x1, e1⟩ : ∃ x, x = W2.heap.size := ⟨_, rfl⟩
  obtain ⟨x2, e2⟩ : ∃ x, x = W3.heap.size := ⟨_, rfl⟩
  obtain ⟨x3, e3⟩ : ∃ x, x = W4.heap.size := ⟨_, rfl⟩
  rw [← e1, ← e2, ← e3] at S5 R5 J5
  rw [← e1, ← e2] at zz
  rw [← e3] at zz
  obtain ⟨it, eit⟩ : ∃ it, it = upN (upN (upN (fun _ => (0 : Int)) x1 (0 + 1)) x2 (0 + 1 + 1)) x3 (0 + 1 + 1 + 1) := ⟨_, rfl⟩
  obtain ⟨ke, eke⟩ : ∃ ke, ke = upN (upN (upN (fun _ => (0 : Int)) x1 5) x2 3) x3 5 := ⟨_, rfl⟩
  obtain ⟨va, eva⟩ : ∃ va, va = upN (upN (upN (fun _ => (⟨#[]⟩ : ByteArray)) x1 ⟨#[97]⟩) x2 ⟨#[98]⟩) x3 ⟨#[99]⟩ := ⟨_, rfl⟩
  rw [← eit, ← eke] at R5
  rw [← eit, ← eke, ← eva] at S5
  have n12 : x1 ≠ x2 := by omega
  have n13 : x1 ≠ x3 := by omega
  have n23 : x2 ≠ x3 := by omega
  have v1 : it x1 = 1 ∧ ke x1 = 5 := by rw [eit, eke, upN_ne n13, upN_ne n12, upN_eq, upN_ne n13, upN_ne n12, upN_eq]; exact ⟨rfl, rfl⟩
  have v2 : it x2 = 2 ∧ ke x2 = 3 ∧ va x2 = ⟨#[98]⟩ := by rw [eit, eke, eva, upN_ne n23, upN_eq, upN_ne n23, upN_eq, upN_ne n23, upN_eq]; exact ⟨rfl, rfl, rfl⟩
  have v3 : it x3 = 3 ∧ ke x3 = 5 ∧ va x3 = ⟨#[99]⟩ := by rw [eit, eke, eva, upN_eq, upN_eq, upN_eq]; exact ⟨rfl, rfl, rfl⟩
  clear eit eke eva e1 e2 e3
  -- the last one
  have hx : f5 1 = x3 := by
    have hm := ord_max (leB_total _ _ _ _) R5 ((J5 x3).2 (.inr rfl))
    rw [if_neg (by omega)] at hm
    unfold leB at hm
    rw [rk0, rk0, v3.1, v3.2.1] at hm
    rcases (J5 (f5 1)).1 ⟨1, by omega, by omega, rfl⟩ with (e | e) | e
    · rw [e, v1.1, v1.2] at hm
      omega
    · rw [e, v2.1, v2.2.1] at hm
      omega
    · exact e
  have PX : Hid (Calls Try.prog 32 #[.pointer (some ⟨hb, 0, none⟩)] W5 fun e w' => e = .returned (.tuple #[.int .i64 3, .int .i64 5, .string ⟨#[99]⟩, .bool true]) ∧ ∃ a6 cap6 mb6 nn6 f6, HsS w' w.heap.size hb w.heap.size a6 2 cap6 mb6 nn6 3 f6 it ke va ∧ Ord (leB 0 false it ke) 2 f6 2 ∧ (∀ b, Img 2 f6 2 b ↔ b = x1 ∨ b = x2) ∧ Below w.heap.size w w') := by
    refine (popMaxS_any (n := 2) W5 S5 O5 (by omega) B5.size).mono ?_
    rintro e w' ⟨rfl, q⟩
    rw [if_neg (by omega), hx] at q ⊢
    obtain ⟨a6, cap6, mb6, nn6, f6, M, q1, q2, q3, q4, q5, q6, q7, q8⟩ := q
    refine ⟨by rw [v3.1, v3.2.1, v3.2.2], a6, cap6, mb6, nn6, f6, q1, q5 rfl R5, fun b => (q6 b).trans ⟨fun ⟨h1, h2⟩ => ?_, fun h1 => ⟨(J5 b).2 (.inl h1), ?_⟩⟩, tn_below B5 q7.toTn ?_⟩
    · exact ((J5 b).1 h1).elim id (fun e => absurd e h2)
    · rcases h1 with e | e <;> rw [e]
      · exact n13
      · exact n23
    · rintro k (e | e | e | e | e)
      · rw [e]; exact S5.ge.1
      · rw [e]; exact S5.ge.2.2.1
      · rw [e]; exact S5.ge.2.1
      · exact (S5.own e).1
      · obtain ⟨i, hi, _, rfl⟩ := e
        exact S5.ge.2.2.2 i hi
  have HV : Hid ((it x1 = 1 ∧ ke x1 = 5) ∧ it x2 = 2 ∧ ke x2 = 3 ∧ va x2 = ⟨#[98]⟩) := ⟨v1, v2⟩
  clear S5 O5 R5 I5 B5 J5 J4 P3 v1 v2 v3 hx zz z3 z4 z5 hN3 hN4 hN5
  go_wp2_with fail
  refine Calls.mono PX.out ?_
  rintro e W6 ⟨rfl, a6, cap6, mb6, nn6, f6, S6, R6, I6, B6⟩
  have hy : f6 0 = x2 := by
    have hm := ord_min (leB_total _ _ _ _) R6 ((I6 x2).2 (.inr rfl))
    unfold leB at hm
    obtain ⟨v1, v2⟩ := HV.out
    rw [rk0, rk0, v2.1, v2.2.1] at hm
    rcases (I6 (f6 0)).1 ⟨0, by omega, by omega, rfl⟩ with e | e
    · rw [e, v1.1, v1.2] at hm
      omega
    · exact e
  have MN : Hid (Calls Try.prog 33 #[.pointer (some ⟨hb, 0, none⟩)] W6 fun e w' => e = .returned (.tuple #[.int .i64 2, .int .i64 3, .string ⟨#[98]⟩, .bool true]) ∧ ∃ m, w' = W6.drewN m) := by
    refine (minS_any W6 S6).mono ?_
    rintro e w' ⟨rfl, q⟩
    refine ⟨?_, q⟩
    obtain ⟨_, v2⟩ := HV.out
    rw [show fst? 2 f6 = some (f6 0) from rfl, hy]
    simp only [telS]
    rw [v2.1, v2.2.1, v2.2.2]
  have LN : Hid (∀ m, Calls Try.prog 34 #[.pointer (some ⟨hb, 0, none⟩)] (W6.drewN m) fun e w' => e = .returned (.int .i64 2) ∧ w' = W6.drewN m) := fun m => lenS_any _ (S6.drewN m)
  have UP : Hid (∀ m, Calls Try.prog 36 #[.pointer (some ⟨hb, 0, none⟩), .int .i64 3, .int .i64 9] (W6.drewN m) fun e w' => e = .returned (.int .i64 50) ∧ w' = W6.drewN m) := fun m => updateS_none 3 9 _ (S6.drewN m) (by omega) (by omega) (fun b hb' => by
    obtain ⟨v1, v2⟩ := HV.out
    rcases (I6 b).1 hb' with e | e
    · rw [e, v1.1]; omega
    · rw [e, v2.1]; omega)
  have NM : Hid (∀ m, Calls Try.prog 35 #[.int .i64 50] (W6.drewN m) fun e w' => e = .returned (.int .i64 50) ∧ w' = W6.drewN m) := fun m => num_any 50 _
  have HB : Hid (Below w.heap.size w W6) := B6
  clear S6 R6 I6 B6 hy PX HV
  go_wp2_with (first | (go_at_call 33; refine Calls.mono MN.out ?_; rintro e w7 ⟨rfl, m, rfl⟩) | (go_at_call 34; refine Calls.mono (LN.out m) ?_; rintro e w8 ⟨rfl, rfl⟩) | (go_at_call 36; refine Calls.mono (UP.out m) ?_; rintro e w8 ⟨rfl, rfl⟩) | (go_at_call 35; refine Calls.mono (NM.out m) ?_; rintro e w8 ⟨rfl, rfl⟩))
  go_ret
  exact ⟨rfl, bel_drewN HB.out _⟩
end Go.Proofs.Ytklhenblcgmfhaa
namespace Go.Proofs.Ytklhenblcgmfhaa
open Go.RowKit
set_option maxRecDepth 100000
set_option linter.unusedVariables false
set_option maxHeartbeats 1000000 in
theorem popMinI_none {base hb ob : Nat} {a : Option Addr} {cap mb nn : Nat} {pu : Int} {f : Nat → Nat} {it ke : Nat → Int} {va : Nat → Int} (w : World) (h : HsI w base hb ob a 0 cap mb nn pu f it ke va) :
    Calls Try.prog 19 #[.pointer (some ⟨hb, 0, none⟩)] w fun e w' => e = .returned (.tuple #[.int .i64 0, .int .i64 0, .int .i64 (0 : Int), .bool false]) ∧ ∃ m, w' = w.drewN m := by
  have FI : Hid (Calls Try.prog 43 #[.pointer (some ⟨hb, 0, none⟩)] w fun e w' => e = .returned (.pointer none) ∧ w' = w) := firstI_any w h
  have TA : Hid (Calls Try.prog 40 #[.pointer (some ⟨hb, 0, none⟩), .pointer none] w fun e w' => e = .returned (.pointer none) ∧ w' = w) := takeI_none hb w
  have TE : Hid (Calls Try.prog 41 #[.pointer none] w fun e w' => e = .returned (.tuple #[.int .i64 0, .int .i64 0, .int .i64 (0 : Int), .bool false]) ∧ ∃ m, w' = w.drewN m) := tellI_any (it := it) (ke := ke) (va := va) none w (fun b e => by cases e)
  clear h
  go_enter Try.func19, Try.ntmps19
  go_wp2_with (first | (go_at_call 43; refine Calls.mono FI.out ?_; rintro e w8 ⟨rfl, rfl⟩) | (go_at_call 40; refine Calls.mono TA.out ?_; rintro e w9 ⟨rfl, rfl⟩) | (go_at_call 41; refine Calls.mono TE.out ?_; rintro e w7 ⟨rfl, m, rfl⟩))
  (try simp only [Exit.inBlock, Exit.then]); refine bodyPost_ret (results_tmp4I rfl _ _ _) rfl ?_
  exact ⟨rfl, _, rfl⟩
set_option maxHeartbeats 1000000 in
theorem popMinI_any {base hb ob : Nat} {a : Option Addr} {n cap mb nn : Nat} {pu : Int} {f : Nat → Nat} {it ke : Nat → Int} {va : Nat → Int} {lv : Value} {nx mod : Int} {tur : Bool} {lies : Int} {N : Nat} (w : World) (h : HsI w base hb ob a (n + 1) cap mb nn pu f it ke va) (ho : Ordr w ob lv nx mod tur lies N) (hN : N < 999999999700) (hb0 : base ≤ w.heap.size) :
    Calls Try.prog 19 #[.pointer (some ⟨hb, 0, none⟩)] w fun e w' => e = .returned (.tuple #[.int .i64 (it (f 0)), .int .i64 (ke (f 0)), .int .i64 (va (f 0)), .bool true]) ∧ TakI w base hb ob a n cap mb pu f it ke va lv nx mod tur lies N (f 0) w' := by
  obtain ⟨gp, rfl, _⟩ := h.some' (by omega)
  have FI : Hid (Calls Try.prog 43 #[.pointer (some ⟨hb, 0, none⟩)] w fun e w' => e = .returned (.pointer (some ⟨f 0, 0, none⟩)) ∧ w' = w) := by
    have := firstI_any w h
    rw [show fst? (n + 1) f = some (f 0) by unfold fst?; rw [if_neg (by omega)]] at this
    exact this
  have TA : Hid (Calls Try.prog 40 #[.pointer (some ⟨hb, 0, none⟩), .pointer (some ⟨f 0, 0, none⟩)] w fun e w' => e = .returned (.pointer (some ⟨f 0, 0, none⟩)) ∧ TakI w base hb ob (some ⟨gp, 0, none⟩) n cap mb pu f it ke va lv nx mod tur lies N (f 0) w') := takeI_any (0) w h ho hN (by omega) hb0
  clear h ho
  generalize f 0 = x at *
  go_enter Try.func19, Try.ntmps19
  go_wp2_with (first | (go_at_call 43; refine Calls.mono FI.out ?_; rintro e w8 ⟨rfl, rfl⟩))
  refine Calls.mono TA.out ?_
  rintro e w9 ⟨rfl, hT⟩
  have TE : Hid (Calls Try.prog 41 #[.pointer (some ⟨x, 0, none⟩)] w9 fun e w' => e = .returned (.tuple #[.int .i64 (it x), .int .i64 (ke x), .int .i64 (va x), .bool true]) ∧ ∃ m, w' = w9.drewN m) := tellI_any (some x) w9 (fun b e => by
    cases e
    obtain ⟨a', cap', mb', nn', f', M, _, _, _, _, _, _, _, q8⟩ := hT
    exact q8)
  have HT : Hid _ := hT
  clear hT
  go_wp2_with (first | (go_at_call 41; refine Calls.mono TE.out ?_; rintro e w7 ⟨rfl, m, rfl⟩))
  (try simp only [Exit.inBlock, Exit.then]); refine bodyPost_ret (results_tmp4I rfl _ _ _) rfl ?_
  exact ⟨rfl, TakI.drewN HT.out _⟩
end Go.Proofs.Ytklhenblcgmfhaa
namespace Go.Proofs.Ytklhenblcgmfhaa
open Go.RowKit
set_option maxRecDepth 100000
set_option linter.unusedVariables false
/-- A heap stays what it is while orders and pairs are written. -/
theorem HsI.keep {W W' : World} {base hb ob : Nat} {a : Option Addr} {n cap mb nn : Nat} {pu : Int} {f : Nat → Nat} {it ke va : Nat → Int} (h : HsI W base hb ob a n cap mb nn pu f it ke va) (hk : ∀ (k : Nat) (o : Obj), W.heap[k]? = some o → (∀ cs, o ≠ .cells cs 57) → (∀ cs, o ≠ .cells cs 26) → W'.heap[k]? = W.heap[k]?) : HsI W' base hb ob a n cap mb nn pu f it ke va := by
  have hc : ∀ (k : Nat) (cs : Array Value) (t : TypeId), W.heap[k]? = some (.cells cs t) → t ≠ 57 → t ≠ 26 → W'.heap[k]? = W.heap[k]? := fun k cs t e h1 h2 => hk k _ e (fun cs' e2 => by injection e2 with _ e3; exact h1 e3) (fun cs' e2 => by injection e2 with _ e3; exact h2 e3)
  refine { h with hd := (hc _ _ _ h.hd (by decide) (by decide)).trans h.hd, row := own_kept h.row fun k hk2 => ?_, pl := fun i hi => (hc _ _ _ (h.pl i hi) (by decide) (by decide)).trans (h.pl i hi), mp := ?_ }
  · obtain ⟨_, cs, e⟩ := h.own hk2
    exact hc _ _ _ e (by decide) (by decide)
  · obtain ⟨g, hm, hg⟩ := h.mp
    obtain ⟨es, ck, hmb⟩ := hm.block
    exact ⟨g, hm.kept (hk _ _ hmb (fun cs e => by cases e) (fun cs e => by cases e)), hg⟩
/-- An empty pair. -/
def Made (w : World) (tur : Bool) (lies : Int) (e : Ending) (w' : World) : Prop :=
  ∃ hb ob mb md, e = .returned (.agg #[.pointer (some ⟨hb, 0, none⟩), .pointer (some ⟨ob, 0, none⟩)]) ∧ HsI w' w.heap.size hb ob none 0 0 mb 0 0 (fun _ => 0) (fun _ => 0) (fun _ => 0) (fun _ => 0) ∧ Ordr w' ob (.slice none 0 0) 0 md tur lies 0 ∧ Below w.heap.size w w'
theorem made_any (mod : Int) (tur : Bool) (lies : Int) (w : World) (h1 : -9223372036854775808 ≤ mod) (h2 : mod ≤ 9223372036854775807) (h3 : 0 ≤ lies) (h4 : lies ≤ 100) :
    Calls Try.prog 9 #[.int .i64 mod, .bool tur, .int .i64 lies] w (Made w tur lies) := by
  obtain ⟨md, emd⟩ : ∃ md : Int, md = (if mod < 0 then -(mod + 1) else mod).tmod 12 := ⟨_, rfl⟩
  have m0 : 0 ≤ md ∧ md ≤ 12 := by
    have hp : 0 ≤ (if mod < 0 then -(mod + 1) else mod) := by split <;> omega
    have h5 := Int.tmod_nonneg 12 hp
    have h6 := Int.tmod_lt_of_pos (if mod < 0 then -(mod + 1) else mod) (by omega : (0 : Int) < 12)
    omega
  have hw3 : IntKind.i64.wrap md = md := by rw [IntKind.wrap_i64]; omega
  obtain ⟨W1, hW1⟩ : ∃ W1, W1 = (w.alloc (.cells #[.pointer none, .pointer none] 26)).alloc (.cells #[.slice none 0 0, .int .i64 0, .int .i64 md, .bool tur, .int .i64 lies, .int .i64 0] 57) := ⟨_, rfl⟩
  have sA : (w.alloc (.cells #[.pointer none, .pointer none] 26)).heap.size = w.heap.size + 1 := by simp
  have s1 : W1.heap.size = w.heap.size + 2 := by rw [hW1]; simp
  have B1 : Below w.heap.size w W1 := by rw [hW1]; exact ((Below.refl _ _).alloc (Nat.le_refl _) _).alloc (by simp) _
  have e1 : W1.heap[w.heap.size + 1]? = some (.cells #[.slice none 0 0, .int .i64 0, .int .i64 md, .bool tur, .int .i64 lies, .int .i64 0] 57) := by
    rw [hW1, ← sA]
    exact (MapKept.heap_alloc _ _).1
  have e0 : W1.heap[w.heap.size]? = some (.cells #[.pointer none, .pointer none] 26) := by
    rw [hW1]
    exact (Below.heap_alloc _ _ _ (by omega)).trans (MapKept.heap_alloc _ _).1
  have O1 : Ordr W1 (w.heap.size + 1) (.slice none 0 0) 0 md tur lies 0 := ⟨e1, ⟨_, _, _, rfl⟩, m0.1, m0.2, h3, h4⟩
  have NW : Hid (Calls Try.prog 10 #[.func (.func 28) #[.pointer (some ⟨w.heap.size + 1, 0, none⟩)] #[]] W1 fun e w' => e = .returned (.pointer (some ⟨W1.heap.size + 1, 0, none⟩)) ∧ HsI w' w.heap.size (W1.heap.size + 1) (w.heap.size + 1) none 0 0 W1.heap.size 0 0 (fun _ => 0) (fun _ => 0) (fun _ => 0) (fun _ => 0) ∧ Below W1.heap.size W1 w') := newI_any (w.heap.size + 1) w.heap.size W1 B1.size (by omega)
  have HW : Hid ((w.alloc (.cells #[.pointer none, .pointer none] 26)).alloc (.cells #[.slice none 0 0, .int .i64 0, .int .i64 md, .bool tur, .int .i64 lies, .int .i64 0] 57) = W1) := hW1.symm
  have H1 : Hid (Below w.heap.size w W1 ∧ W1.heap.size = w.heap.size + 2 ∧ Ordr W1 (w.heap.size + 1) (.slice none 0 0) 0 md tur lies 0 ∧ W1.heap[w.heap.size]? = some (.cells #[.pointer none, .pointer none] 26)) := ⟨B1, s1, O1, e0⟩
  clear hW1 B1 s1 O1 e1 e0 sA
  by_cases c : mod < 0
  · have hw1 : IntKind.i64.wrap (mod + 1) = mod + 1 := by rw [IntKind.wrap_i64]; omega
    have hw2 : IntKind.i64.wrap (-(mod + 1)) = -(mod + 1) := by rw [IntKind.wrap_i64]; omega
    have emd2 : (-(mod + 1)).tmod 12 = md := by rw [emd, if_pos c]
    clear emd
    go_enter Try.func9, Try.ntmps9
    go_wp2_with fail
    rw [HW.out]
    refine Calls.mono NW.out ?_
    rintro e w2 ⟨rfl, S2, B2⟩
    have e0 : w2.heap[w.heap.size]? = some (.cells #[.pointer none, .pointer none] 26) := (B2.block _ (by have := H1.out.2.1; omega)).trans H1.out.2.2.2
    have c0 : w2.cell? ⟨w.heap.size, 0, none⟩ = some (.pointer none) := by simp [World.cell?, e0]
    have c1 : w2.cell? ⟨w.heap.size, 1, none⟩ = some (.pointer none) := by simp [World.cell?, e0]
    have z0 : w2.frozen? ⟨w.heap.size, 0, none⟩ = false := by simp [World.frozen?, e0]
    have z1 : w2.frozen? ⟨w.heap.size, 1, none⟩ = false := by simp [World.frozen?, e0]
    obtain ⟨hb, ehb⟩ : ∃ hb, hb = W1.heap.size + 1 := ⟨_, rfl⟩
    obtain ⟨ob, eob⟩ : ∃ ob, ob = w.heap.size + 1 := ⟨_, rfl⟩
    obtain ⟨pb, epb⟩ : ∃ pb, pb = w.heap.size := ⟨_, rfl⟩
    have HR : Hid (∀ W3, W3 = (w2.setCell ⟨pb, 0, none⟩ (.pointer (some ⟨hb, 0, none⟩))).setCell ⟨pb, 1, none⟩ (.pointer (some ⟨ob, 0, none⟩)) → Made w tur lies (.returned (.agg #[.pointer (some ⟨hb, 0, none⟩), .pointer (some ⟨ob, 0, none⟩)])) W3) := fun W3 hW3 => by
      have kept : ∀ k, k ≠ pb → W3.heap[k]? = w2.heap[k]? := fun k hk => by
        rw [hW3]
        exact (Below.heap_setCell _ _ _ k hk).trans (Below.heap_setCell _ _ _ k hk)
      rw [← ehb, ← eob] at S2
      refine ⟨hb, ob, W1.heap.size, md, rfl, S2.keep fun k o e h1 h2 => kept k fun e2 => ?_, ?_, ?_⟩
      · rw [e2, epb, e0] at e
        injection e with e
        exact h2 _ e.symm
      · rw [eob]
        exact H1.out.2.2.1.kept ((kept _ (by omega)).trans (B2.block _ H1.out.2.2.1.lt))
      · rw [hW3, epb]
        exact ((H1.out.1.trans (B2.mono H1.out.1.size)).setCell (Nat.le_refl _) _).setCell (Nat.le_refl _) _
    rw [← ehb, ← eob, ← epb]
    rw [← epb] at c0 c1 z0 z1 e0
    have HE : Hid (w2.heap[pb]? = some (.cells #[.pointer none, .pointer none] 26)) := e0
    clear S2 B2 e0 ehb eob NW HW H1 epb
    go_wp2_with fail
    obtain ⟨W3, hW3⟩ : ∃ W3, W3 = (w2.setCell ⟨pb, 0, none⟩ (.pointer (some ⟨hb, 0, none⟩))).setCell ⟨pb, 1, none⟩ (.pointer (some ⟨ob, 0, none⟩)) := ⟨_, rfl⟩
    have g3 : W3.heap[pb]? = some (.cells #[.pointer (some ⟨hb, 0, none⟩), .pointer (some ⟨ob, 0, none⟩)] 26) := by
      rw [hW3]
      exact heap_setCell_same _ pb 1 _ _ _ (heap_setCell_same _ pb 0 _ _ _ HE.out)
    have q0 : W3.cell? ⟨pb, 0, none⟩ = some (.pointer (some ⟨hb, 0, none⟩)) := by simp [World.cell?, g3]
    have q1 : W3.cell? ⟨pb, 1, none⟩ = some (.pointer (some ⟨ob, 0, none⟩)) := by simp [World.cell?, g3]
    rw [← hW3]
    refine bodyPost_ret (v := .agg #[.pointer (some ⟨hb, 0, none⟩), .pointer (some ⟨ob, 0, none⟩)]) (by simp [results, Try.results9, go_sem, q0, q1]) rfl ?_
    exact HR.out _ hW3
  · have emd2 : mod.tmod 12 = md := by rw [emd, if_neg c]
    clear emd
    go_enter Try.func9, Try.ntmps9
    go_wp2_with fail
    rw [HW.out]
    refine Calls.mono NW.out ?_
    rintro e w2 ⟨rfl, S2, B2⟩
    have e0 : w2.heap[w.heap.size]? = some (.cells #[.pointer none, .pointer none] 26) := (B2.block _ (by have := H1.out.2.1; omega)).trans H1.out.2.2.2
    have c0 : w2.cell? ⟨w.heap.size, 0, none⟩ = some (.pointer none) := by simp [World.cell?, e0]
    have c1 : w2.cell? ⟨w.heap.size, 1, none⟩ = some (.pointer none) := by simp [World.cell?, e0]
    have z0 : w2.frozen? ⟨w.heap.size, 0, none⟩ = false := by simp [World.frozen?, e0]
    have z1 : w2.frozen? ⟨w.heap.size, 1, none⟩ = false := by simp [World.frozen?, e0]
    obtain ⟨hb, ehb⟩ : ∃ hb, hb = W1.heap.size + 1 := ⟨_, rfl⟩
    obtain ⟨ob, eob⟩ : ∃ ob, ob = w.heap.size + 1 := ⟨_, rfl⟩
    obtain ⟨pb, epb⟩ : ∃ pb, pb = w.heap.size := ⟨_, rfl⟩
    have HR : Hid (∀ W3, W3 = (w2.setCell ⟨pb, 0, none⟩ (.pointer (some ⟨hb, 0, none⟩))).setCell ⟨pb, 1, none⟩ (.pointer (some ⟨ob, 0, none⟩)) → Made w tur lies (.returned (.agg #[.pointer (some ⟨hb, 0, none⟩), .pointer (some ⟨ob, 0, none⟩)])) W3) := fun W3 hW3 => by
      have kept : ∀ k, k ≠ pb → W3.heap[k]? = w2.heap[k]? := fun k hk => by
        rw [hW3]
        exact (Below.heap_setCell _ _ _ k hk).trans (Below.heap_setCell _ _ _ k hk)
      rw [← ehb, ← eob] at S2
      refine ⟨hb, ob, W1.heap.size, md, rfl, S2.keep fun k o e h1 h2 => kept k fun e2 => ?_, ?_, ?_⟩
      · rw [e2, epb, e0] at e
        injection e with e
        exact h2 _ e.symm
      · rw [eob]
        exact H1.out.2.2.1.kept ((kept _ (by omega)).trans (B2.block _ H1.out.2.2.1.lt))
      · rw [hW3, epb]
        exact ((H1.out.1.trans (B2.mono H1.out.1.size)).setCell (Nat.le_refl _) _).setCell (Nat.le_refl _) _
    rw [← ehb, ← eob, ← epb]
    rw [← epb] at c0 c1 z0 z1 e0
    have HE : Hid (w2.heap[pb]? = some (.cells #[.pointer none, .pointer none] 26)) := e0
    clear S2 B2 e0 ehb eob NW HW H1 epb
    go_wp2_with fail
    obtain ⟨W3, hW3⟩ : ∃ W3, W3 = (w2.setCell ⟨pb, 0, none⟩ (.pointer (some ⟨hb, 0, none⟩))).setCell ⟨pb, 1, none⟩ (.pointer (some ⟨ob, 0, none⟩)) := ⟨_, rfl⟩
    have g3 : W3.heap[pb]? = some (.cells #[.pointer (some ⟨hb, 0, none⟩), .pointer (some ⟨ob, 0, none⟩)] 26) := by
      rw [hW3]
      exact heap_setCell_same _ pb 1 _ _ _ (heap_setCell_same _ pb 0 _ _ _ HE.out)
    have q0 : W3.cell? ⟨pb, 0, none⟩ = some (.pointer (some ⟨hb, 0, none⟩)) := by simp [World.cell?, g3]
    have q1 : W3.cell? ⟨pb, 1, none⟩ = some (.pointer (some ⟨ob, 0, none⟩)) := by simp [World.cell?, g3]
    rw [← hW3]
    refine bodyPost_ret (v := .agg #[.pointer (some ⟨hb, 0, none⟩), .pointer (some ⟨ob, 0, none⟩)]) (by simp [results, Try.results9, go_sem, q0, q1]) rfl ?_
    exact HR.out _ hW3
end Go.Proofs.Ytklhenblcgmfhaa
namespace Go.Proofs.Ytklhenblcgmfhaa
open Go.RowKit
set_option maxRecDepth 100000
set_option linter.unusedVariables false
theorem i64_mask (n : Int) (k : Nat) (hk : k ≤ 40) (m : Int) (hm : m = ((2 ^ k : Nat) : Int) - 1) : bits .and .i64 n m = n % ((2 ^ k : Nat) : Int) := by
  subst hm
  have hp : 2 ^ k ≤ 2 ^ 40 := Nat.pow_le_pow_right (by decide) hk
  have hp0 : 0 < 2 ^ k := Nat.pow_pos (by decide)
  have h127 : (BitVec.ofInt 64 (((2 ^ k : Nat) : Int) - 1)).toNat = 2 ^ k - 1 := by
    rw [BitVec.toNat_ofInt]
    omega
  have key : (BitVec.ofInt 64 n &&& BitVec.ofInt 64 (((2 ^ k : Nat) : Int) - 1)).toNat = (n % ((2 ^ 64 : Nat) : Int)).toNat % 2 ^ k := by
    rw [BitVec.toNat_and, BitVec.toNat_ofInt, h127, Nat.and_two_pow_sub_one_eq_mod]
  show IntKind.i64.wrap ((BitVec.ofInt 64 n &&& BitVec.ofInt 64 (((2 ^ k : Nat) : Int) - 1)).toNat : Nat) = n % ((2 ^ k : Nat) : Int)
  have hd : (2 ^ k : Nat) ∣ 2 ^ 64 := Nat.pow_dvd_pow 2 (by omega)
  have e1 : (((n % ((2 ^ 64 : Nat) : Int)).toNat % 2 ^ k : Nat) : Int) = n % ((2 ^ k : Nat) : Int) := by
    rw [Int.natCast_emod, Int.toNat_of_nonneg (Int.emod_nonneg _ (by decide))]
    exact Int.emod_emod_of_dvd _ (by exact_mod_cast hd)
  rw [key, e1, IntKind.wrap_i64]
  have h1 := Int.emod_nonneg n (show ((2 ^ k : Nat) : Int) ≠ 0 by omega)
  have h2 := Int.emod_lt_of_pos n (show (0 : Int) < ((2 ^ k : Nat) : Int) by omega)
  omega
/-- Between two calls: a heap of n things, of which pu were laid in. -/
structure Mn (w W : World) (xb hb ob : Nat) (md : Int) (n : Nat) (pu : Int) (R : (Nat → Nat) → (Nat → Int) → (Nat → Int) → Prop) : Prop where
  pair : W.heap[xb]? = some (.cells #[.pointer (some ⟨hb, 0, none⟩), .pointer (some ⟨ob, 0, none⟩)] 26)
  ge : w.heap.size ≤ xb
  ex : ∃ a cap mb nn f it ke va N, HsI W w.heap.size hb ob a n cap mb nn pu f it ke va ∧ Ordr W ob (.slice none 0 0) 0 md false 0 N ∧ Ord (leB md false it ke) n f n ∧ N ≤ 1000 ∧ R f it ke
  bel : Below w.heap.size w W
theorem Mn.cells {w W : World} {xb hb ob : Nat} {md : Int} {n : Nat} {pu : Int} {R : (Nat → Nat) → (Nat → Int) → (Nat → Int) → Prop} (h : Mn w W xb hb ob md n pu R) : W.cell? ⟨xb, 0, none⟩ = some (.pointer (some ⟨hb, 0, none⟩)) ∧ W.cell? ⟨xb, 1, none⟩ = some (.pointer (some ⟨ob, 0, none⟩)) ∧ (∃ N : Int, W.cell? ⟨ob, 5, none⟩ = some (.int .i64 N)) ∧ W.frozen? ⟨ob, 5, none⟩ = false := by
  obtain ⟨a, cap, mb, nn, f, it, ke, va, N, hS, hO, _⟩ := h.ex
  exact ⟨by simp [World.cell?, h.pair], by simp [World.cell?, h.pair], ⟨_, hO.cells.2.2.2.2.2⟩, by simp [World.frozen?, hO.at']⟩
theorem Mn.weak {w W : World} {xb hb ob : Nat} {md : Int} {n : Nat} {pu : Int} {R R' : (Nat → Nat) → (Nat → Int) → (Nat → Int) → Prop} (h : Mn w W xb hb ob md n pu R) (hr : ∀ f it ke, R f it ke → R' f it ke) : Mn w W xb hb ob md n pu R' := by
  obtain ⟨a, cap, mb, nn, f, it, ke, va, N, h1, h2, h3, h4, h5⟩ := h.ex
  exact ⟨h.pair, h.ge, ⟨a, cap, mb, nn, f, it, ke, va, N, h1, h2, h3, h4, hr _ _ _ h5⟩, h.bel⟩
theorem Mn.mono {w W W' : World} {xb hb ob : Nat} {md : Int} {n : Nat} {pu : Int} {R : (Nat → Nat) → (Nat → Int) → (Nat → Int) → Prop} (h : Mn w W xb hb ob md n pu R) (hB : Below W.heap.size W W') : Mn w W' xb hb ob md n pu R := by
  obtain ⟨a, cap, mb, nn, f, it, ke, va, N, h1, h2, h3, h4, h5⟩ := h.ex
  exact ⟨(hB.block _ (Array.getElem?_eq_some_iff.1 h.pair).1).trans h.pair, h.ge, ⟨a, cap, mb, nn, f, it, ke, va, N, h1.keep fun k o e _ _ => hB.block k (Array.getElem?_eq_some_iff.1 e).1, h2.kept (hB.block _ h2.lt), h3, h4, h5⟩, h.bel.trans (hB.mono h.bel.size)⟩
/-- The count is set to 0. -/
theorem Mn.zero {w W : World} {xb hb ob : Nat} {md : Int} {n : Nat} {pu : Int} {R : (Nat → Nat) → (Nat → Int) → (Nat → Int) → Prop} (h : Mn w W xb hb ob md n pu R) : ∃ a cap mb nn f it ke va, HsI (W.setCell ⟨ob, 5, none⟩ (.int .i64 0)) w.heap.size hb ob a n cap mb nn pu f it ke va ∧ Ordr (W.setCell ⟨ob, 5, none⟩ (.int .i64 0)) ob (.slice none 0 0) 0 md false 0 0 ∧ Ord (leB md false it ke) n f n ∧ R f it ke ∧ Below w.heap.size w (W.setCell ⟨ob, 5, none⟩ (.int .i64 0)) ∧ (W.setCell ⟨ob, 5, none⟩ (.int .i64 0)).heap[xb]? = some (.cells #[.pointer (some ⟨hb, 0, none⟩), .pointer (some ⟨ob, 0, none⟩)] 26) := by
  obtain ⟨a, cap, mb, nn, f, it, ke, va, N, hS, hO, hR, _, hQ⟩ := h.ex
  refine ⟨a, cap, mb, nn, f, it, ke, va, hS.keep fun k o e h1 h2 => Below.heap_setCell _ _ _ k fun e2 => ?_, hO.ask 0, hR, hQ, h.bel.setCell hS.ge.2.1 _, (Below.heap_setCell _ _ _ xb (ne_of_type h.pair hO.at' (by decide))).trans h.pair⟩
  have e3 : k = ob := e2
  rw [e3, hO.at'] at e
  injection e with e
  exact h1 _ e.symm
theorem hs_ge {W : World} {base hb ob : Nat} {a : Option Addr} {n cap mb nn : Nat} {pu : Int} {f : Nat → Nat} {it ke va : Nat → Int} (h : HsI W base hb ob a n cap mb nn pu f it ke va) : ∀ k, (k = hb ∨ k = mb ∨ k = ob ∨ (Value.slice a n cap).ownBlock = some k ∨ Img n f n k) → base ≤ k := by
  rintro k (e | e | e | e | e)
  · rw [e]; exact h.ge.1
  · rw [e]; exact h.ge.2.2.1
  · rw [e]; exact h.ge.2.1
  · exact (h.own e).1
  · obtain ⟨i, hi, _, rfl⟩ := e
    exact h.ge.2.2.2 i hi
theorem hs_pair {W : World} {base hb ob xb : Nat} {a : Option Addr} {n cap mb nn : Nat} {pu : Int} {f : Nat → Nat} {it ke va : Nat → Int} {lv : Value} {nx mod : Int} {tur : Bool} {lies : Int} {N : Nat} {cs : Array Value} (h : HsI W base hb ob a n cap mb nn pu f it ke va) (ho : Ordr W ob lv nx mod tur lies N) (hp : W.heap[xb]? = some (.cells cs 26)) : ¬ (xb = hb ∨ xb = mb ∨ xb = ob ∨ (Value.slice a n cap).ownBlock = some xb ∨ Img n f n xb) := by
  obtain ⟨g, hm, _⟩ := h.map
  obtain ⟨es, ck, hmb⟩ := hm.block
  rintro (e | e | e | e | e)
  · exact ne_of_type hp h.hd (by decide) e
  · exact map_ne hmb hp e.symm
  · exact ne_of_type hp ho.at' (by decide) e
  · obtain ⟨_, cs2, e2⟩ := h.own e
    exact ne_of_type hp e2 (by decide) rfl
  · obtain ⟨i, hi, _, e2⟩ := e
    exact ne_of_type hp (h.pl i hi) (by decide) e2.symm
/-- One thing more. -/
theorem Mn.push {w W : World} {xb hb ob : Nat} {md : Int} {i : Nat} (h : Mn w W xb hb ob md i (i : Int) (fun _ _ _ => True)) (k : Int) (hi : i < 2047) (hk : 0 ≤ k) (hk2 : k ≤ 2000) : Calls Try.prog 13 #[.pointer (some ⟨hb, 0, none⟩), .int .i64 k, .int .i64 (i : Int)] (W.setCell ⟨ob, 5, none⟩ (.int .i64 0)) fun e w' => (∃ v, e = .returned (.int .i64 v)) ∧ Mn w w' xb hb ob md (i + 1) ((i + 1 : Nat) : Int) (fun _ _ _ => True) ∧ ∃ M : Nat, w'.cell? ⟨ob, 5, none⟩ = some (.int .i64 (M : Int)) ∧ ∀ d, i < 2 ^ d → M ≤ 12 * d + 12 := by
  obtain ⟨a, cap, mb, nn, f, it, ke, va, hS, hO, hR, _, hB, hp⟩ := h.zero
  refine (pushI_any k (i : Int) _ hS hO (by omega) (by omega) (by omega) (by omega) (by omega) hB.size).mono ?_
  rintro e w' ⟨rfl, a', cap', f', M, q1, q2, q3, q4, q5, q6, q7⟩
  have hM : M ≤ 1000 := by
    have h1 : M ≤ 12 * 11 + 12 := few_pushed (n := i) (d := 11) q4 (by omega)
    omega
  have e1 : (i : Int) + 1 = ((i + 1 : Nat) : Int) := by omega
  rw [e1] at q1 q5
  refine ⟨⟨_, rfl⟩, ⟨(q7.block xb (Array.getElem?_eq_some_iff.1 hp).1 (hs_pair hS hO hp)).trans hp, h.ge, ⟨a', cap', mb, nn + 1, f', _, _, _, M, q1, q2, q5 rfl hR, hM, trivial⟩, tn_below hB q7.toTn (hs_ge hS)⟩, M, q2.cells.2.2.2.2.2, fun d hd => few_pushed (n := i) q4 hd⟩
/-- All that lie in it come behind what came out last. -/
def Rst (md : Int) (n : Nat) (last frm : Int) (f : Nat → Nat) (it ke : Nat → Int) : Prop := ∀ b, Img n f n b → rk md false last < rk md false (ke b) ∨ (rk md false last = rk md false (ke b) ∧ frm ≤ it b)
/-- The first one comes out. -/
theorem Mn.pop {w W : World} {xb hb ob : Nat} {md : Int} {n : Nat} {pu last frm : Int} {c : Prop} (h : Mn w W xb hb ob md (n + 1) pu (fun f it ke => c → Rst md (n + 1) last frm f it ke)) (hn : n < 2047) : Calls Try.prog 19 #[.pointer (some ⟨hb, 0, none⟩)] (W.setCell ⟨ob, 5, none⟩ (.int .i64 0)) fun e w' => ∃ i k v, e = .returned (.tuple #[.int .i64 i, .int .i64 k, .int .i64 v, .bool true]) ∧ (-9223372036854775808 ≤ k ∧ k ≤ 9223372036854775807) ∧ (c → rk md false last < rk md false k ∨ (rk md false last = rk md false k ∧ frm ≤ i)) ∧ Mn w w' xb hb ob md n pu (fun f it ke => True → Rst md n k i f it ke) ∧ ∃ M : Nat, w'.cell? ⟨ob, 5, none⟩ = some (.int .i64 (M : Int)) ∧ ∀ d, n < 2 ^ d → M ≤ 12 * d + 12 := by
  obtain ⟨a, cap, mb, nn, f, it, ke, va, hS, hO, hR, hQ, hB, hp⟩ := h.zero
  refine (popMinI_any _ hS hO (by omega) hB.size).mono ?_
  rintro e w' ⟨rfl, a', cap', mb', nn', f', M, q1, q2, q3, q4, q5, q6, q7, q8⟩
  have hM : M ≤ 1000 := by
    have h1 : M ≤ 12 * 11 + 12 := few_asked (n := n) (d := 11) q4 (by omega)
    omega
  have h0 : Img (n + 1) f (n + 1) (f 0) := ⟨0, by omega, by omega, rfl⟩
  refine ⟨_, _, _, rfl, hS.wf 0 (by omega), fun hc => hQ hc _ h0, ⟨(q7.block xb (Array.getElem?_eq_some_iff.1 hp).1 (hs_pair hS hO hp)).trans hp, h.ge, ⟨a', cap', mb', nn', f', it, ke, va, M, q1, q2, q5 rfl hR, hM, fun _ b hb' => ?_⟩, tn_below hB q7.toTn (hs_ge hS)⟩, M, q2.cells.2.2.2.2.2, fun d hd => few_asked (n := n) q4 hd⟩
  exact ord_min (leB_total _ _ _ _) hR ((q6 b).1 hb').1
end Go.Proofs.Ytklhenblcgmfhaa
namespace Go.Proofs.Ytklhenblcgmfhaa
open Go.RowKit
set_option maxRecDepth 100000
set_option linter.unusedVariables false
theorem maxI_any {base hb ob : Nat} {a : Option Addr} {n cap mb nn : Nat} {pu : Int} {f : Nat → Nat} {it ke : Nat → Int} {va : Nat → Int} (w : World) (h : HsI w base hb ob a n cap mb nn pu f it ke va) :
    Calls Try.prog 47 #[.pointer (some ⟨hb, 0, none⟩)] w fun e w' => e = .returned (telI it ke va (lst? n f)) ∧ ∃ m, w' = w.drewN m := by
  have F : Hid (Calls Try.prog 45 #[.pointer (some ⟨hb, 0, none⟩)] w fun e w' => e = .returned (pV (lst? n f)) ∧ w' = w) := lastI_any w h
  have T : Hid (Calls Try.prog 41 #[pV (lst? n f)] w fun e w' => e = .returned (telI it ke va (lst? n f)) ∧ ∃ m, w' = w.drewN m) := tellI_any _ w (h.thing _ lst_in)
  clear h
  generalize lst? n f = o at *
  cases o <;> simp only [telI] at T ⊢ <;>
  · go_enter Try.func47, Try.ntmps47
    go_wp2_with (first | (go_at_call 45; refine Calls.mono F.out ?_; rintro e w8 ⟨rfl, rfl⟩) | (go_at_call 41; refine Calls.mono T.out ?_; rintro e w9 ⟨rfl, m, rfl⟩))
    (try simp only [Exit.inBlock, Exit.then]); refine bodyPost_ret (results_tmp4I rfl _ _ _) rfl ?_
    exact ⟨rfl, _, rfl⟩
/-- The thing of a number, if there is one. -/
theorem HsI.find {W : World} {base hb ob : Nat} {a : Option Addr} {n cap mb nn : Nat} {pu : Int} {f : Nat → Nat} {it ke : Nat → Int} {va : Nat → Int} (h : HsI W base hb ob a n cap mb nn pu f it ke va) {i : Int} (h1 : -9223372036854775808 ≤ i) (h2 : i ≤ 9223372036854775807) :
    ∃ o, (Instr.lookup 67 (.map (some mb)) (.int .i64 i) false).run Try.prog W = .ok (pV o) W ∧ ∀ b, o = some b ↔ Img n f n b ∧ it b = i := by
  obtain ⟨g, hm, hg⟩ := h.map
  exact ⟨g i, hm.look Try.underlying67 (by rfl) (i := i) h1 h2, fun b => hg i b⟩
set_option maxHeartbeats 1000000 in
theorem getI_any {base hb ob : Nat} {a : Option Addr} {n cap mb nn : Nat} {pu : Int} {f : Nat → Nat} {it ke : Nat → Int} {va : Nat → Int} (i : Int) (w : World) (h : HsI w base hb ob a n cap mb nn pu f it ke va) (h1 : -9223372036854775808 ≤ i) (h2 : i ≤ 9223372036854775807) :
    Calls Try.prog 27 #[.pointer (some ⟨hb, 0, none⟩), .int .i64 i] w fun e w' => ((∃ b, Img n f n b ∧ it b = i ∧ e = .returned (.tuple #[.int .i64 (ke b), .int .i64 (va b), .bool true])) ∨ ((∀ b, Img n f n b → it b ≠ i) ∧ e = .returned (.tuple #[.int .i64 0, .int .i64 (0 : Int), .bool false]))) ∧ ∃ m, w' = w.drewN m := by
  obtain ⟨c1, c2, c3, c4⟩ := h.cells
  obtain ⟨o, hr, ho⟩ := h.find h1 h2
  have T : Hid (Calls Try.prog 41 #[pV o] w fun e w' => e = .returned (telI it ke va o) ∧ ∃ m, w' = w.drewN m) := tellI_any _ w (h.thing _ fun b e => ((ho b).1 e).1)
  have HO : Hid (∀ b, o = some b ↔ Img n f n b ∧ it b = i) := ho
  clear h ho c4
  cases o with
  | none =>
    simp only [telI, pV] at T hr
    go_enter Try.func27, Try.ntmps27
    go_wp2_with (first | (go_at_call 41; refine Calls.mono T.out ?_; rintro e w9 ⟨rfl, m, rfl⟩))
    go_ret3
    exact ⟨.inr ⟨fun b hb e => (by have := (HO.out b).2 ⟨hb, e⟩; cases this), rfl⟩, _, rfl⟩
  | some b =>
    simp only [telI, pV] at T hr
    go_enter Try.func27, Try.ntmps27
    go_wp2_with (first | (go_at_call 41; refine Calls.mono T.out ?_; rintro e w9 ⟨rfl, m, rfl⟩))
    go_ret3
    exact ⟨.inl ⟨b, ((HO.out b).1 rfl).1, ((HO.out b).1 rfl).2, rfl⟩, _, rfl⟩
theorem removeI_none {base hb ob : Nat} {a : Option Addr} {n cap mb nn : Nat} {pu : Int} {f : Nat → Nat} {it ke : Nat → Int} {va : Nat → Int} (i : Int) (w : World) (h : HsI w base hb ob a n cap mb nn pu f it ke va) (h1 : -9223372036854775808 ≤ i) (h2 : i ≤ 9223372036854775807) (hn : ∀ b, Img n f n b → it b ≠ i) :
    Calls Try.prog 15 #[.pointer (some ⟨hb, 0, none⟩), .int .i64 i] w fun e w' => e = .returned (.tuple #[.int .i64 0, .int .i64 (0 : Int), .bool false]) ∧ ∃ m, w' = w.drewN m := by
  obtain ⟨c1, c2, c3, c4⟩ := h.cells
  obtain ⟨o, hr, ho⟩ := h.find h1 h2
  obtain rfl : o = none := by
    cases o with
    | none => rfl
    | some b => exact absurd ((ho b).1 rfl).2 (hn b ((ho b).1 rfl).1)
  have TA : Hid (Calls Try.prog 40 #[.pointer (some ⟨hb, 0, none⟩), .pointer none] w fun e w' => e = .returned (.pointer none) ∧ w' = w) := takeI_none hb w
  have TE : Hid (Calls Try.prog 41 #[.pointer none] w fun e w' => e = .returned (.tuple #[.int .i64 0, .int .i64 0, .int .i64 (0 : Int), .bool false]) ∧ ∃ m, w' = w.drewN m) := tellI_any (it := it) (ke := ke) (va := va) none w (fun b e => by cases e)
  simp only [pV] at hr
  clear h ho c4
  go_enter Try.func15, Try.ntmps15
  go_wp2_with (first | (go_at_call 40; refine Calls.mono TA.out ?_; rintro e w9 ⟨rfl, rfl⟩) | (go_at_call 41; refine Calls.mono TE.out ?_; rintro e w7 ⟨rfl, m, rfl⟩))
  go_ret3
  exact ⟨rfl, _, rfl⟩
set_option maxHeartbeats 1000000 in
theorem removeI_any {base hb ob : Nat} {a : Option Addr} {n cap mb nn : Nat} {pu : Int} {f : Nat → Nat} {it ke : Nat → Int} {va : Nat → Int} {lv : Value} {nx mod : Int} {tur : Bool} {lies : Int} {N : Nat} (x : Nat) (w : World) (h : HsI w base hb ob a (n + 1) cap mb nn pu f it ke va) (ho : Ordr w ob lv nx mod tur lies N) (hN : N < 999999999700) (hb0 : base ≤ w.heap.size) (hx : Img (n + 1) f (n + 1) x) :
    Calls Try.prog 15 #[.pointer (some ⟨hb, 0, none⟩), .int .i64 (it x)] w fun e w' => e = .returned (.tuple #[.int .i64 (ke x), .int .i64 (va x), .bool true]) ∧ TakI w base hb ob a n cap mb pu f it ke va lv nx mod tur lies N x w' := by
  obtain ⟨gp, rfl, _⟩ := h.some' (by omega)
  obtain ⟨c1, c2, c3, c4⟩ := h.cells
  obtain ⟨i0, hi0, _, e0⟩ := hx
  have hir := h.itr i0 hi0
  have hp1 := h.pu1
  rw [e0] at hir
  obtain ⟨o, hr, hq⟩ := h.find (i := it x) (by omega) (by omega)
  have eo := (hq x).2 ⟨⟨i0, hi0, by omega, e0⟩, rfl⟩
  subst eo
  have TA : Hid (Calls Try.prog 40 #[.pointer (some ⟨hb, 0, none⟩), .pointer (some ⟨x, 0, none⟩)] w fun e w' => e = .returned (.pointer (some ⟨x, 0, none⟩)) ∧ TakI w base hb ob (some ⟨gp, 0, none⟩) n cap mb pu f it ke va lv nx mod tur lies N x w') := by
    have := takeI_any i0 w h ho hN hi0 hb0
    rw [e0] at this
    exact this
  simp only [pV] at hr
  clear h ho hq c4 e0 hir
  go_enter Try.func15, Try.ntmps15
  go_wp2_with fail
  refine Calls.mono TA.out ?_
  rintro e w9 ⟨rfl, hT⟩
  have TE : Hid (Calls Try.prog 41 #[.pointer (some ⟨x, 0, none⟩)] w9 fun e w' => e = .returned (.tuple #[.int .i64 (it x), .int .i64 (ke x), .int .i64 (va x), .bool true]) ∧ ∃ m, w' = w9.drewN m) := tellI_any (some x) w9 (fun b e => by
    cases e
    obtain ⟨a', cap', mb', nn', f', M, _, _, _, _, _, _, _, q8⟩ := hT
    exact q8)
  have HT : Hid _ := hT
  clear hT
  go_wp2_with (first | (go_at_call 41; refine Calls.mono TE.out ?_; rintro e w7 ⟨rfl, m, rfl⟩))
  go_ret3
  exact ⟨rfl, TakI.drewN HT.out _⟩
end Go.Proofs.Ytklhenblcgmfhaa
namespace Go.Proofs.Ytklhenblcgmfhaa
open Go.RowKit
set_option maxRecDepth 100000
set_option linter.unusedVariables false
theorem leB_keI {mod : Int} {tur : Bool} {it ke : Nat → Int} {x : Nat} {k : Int} {y z : Nat} (hy : y ≠ x) (hz : z ≠ x) : leB mod tur it (upN ke x k) y z ↔ leB mod tur it ke y z := by
  unfold leB
  rw [upN_ne hy, upN_ne hz]
/-- Behind Update: x has the key k. -/
def UpdI (w : World) (base hb ob : Nat) (a : Option Addr) (n cap mb nn : Nat) (pu : Int) (f : Nat → Nat) (it ke : Nat → Int) (va : Nat → Int) (lv : Value) (nx mod : Int) (tur : Bool) (lies : Int) (N x : Nat) (k : Int) (e : Ending) (w' : World) : Prop :=
  e = .returned (.int .i64 0) ∧ ∃ f' M, HsI w' base hb ob a n cap mb nn pu f' it (upN ke x k) va ∧ Ordr w' ob lv nx mod tur lies M ∧ N ≤ M ∧ 2 ^ (M - N) ≤ 4 * (n + 1) * (n + 1) ∧
    (lies = 0 → Ord (leB mod tur it ke) n f n → Ord (leB mod tur it (upN ke x k)) n f' n) ∧ (∀ b, Img n f' n b ↔ Img n f n b) ∧ Tn (fun k => k = hb ∨ k = mb ∨ k = ob ∨ (Value.slice a n cap).ownBlock = some k ∨ Img n f n k) w w'
set_option maxHeartbeats 1000000 in
theorem updateI_any {base hb ob : Nat} {a : Option Addr} {n cap mb nn : Nat} {pu : Int} {f : Nat → Nat} {it ke : Nat → Int} {va : Nat → Int} {lv : Value} {nx mod : Int} {tur : Bool} {lies : Int} {N : Nat} (x : Nat) (k : Int) (w : World) (h : HsI w base hb ob a n cap mb nn pu f it ke va) (ho : Ordr w ob lv nx mod tur lies N) (hN : N < 999999999700) (hk : -9223372036854775808 ≤ k) (hk2 : k ≤ 9223372036854775807) (hx : Img n f n x) :
    Calls Try.prog 16 #[.pointer (some ⟨hb, 0, none⟩), .int .i64 (it x), .int .i64 k] w (UpdI w base hb ob a n cap mb nn pu f it ke va lv nx mod tur lies N x k) := by
  obtain ⟨i0, hi0, _, e0⟩ := hx
  obtain ⟨gp, rfl, hbg, hle, hcap, cs, h3, h4, h5⟩ := h.some' (by omega)
  obtain ⟨c1, c2, c3, c4⟩ := h.cells
  have px := h.pl i0 hi0
  have hir := h.itr i0 hi0
  have hp1 := h.pu1
  rw [e0] at hir px
  obtain ⟨o, hr, hq⟩ := h.find (i := it x) (by omega) (by omega)
  have eo := (hq x).2 ⟨⟨i0, hi0, by omega, e0⟩, rfl⟩
  subst eo
  simp only [pV] at hr
  have x1 : w.cell? ⟨x, 1, none⟩ = some (.int .i64 (ke x)) := by simp [World.cell?, px]
  have x2 : w.frozen? ⟨x, 1, none⟩ = false := by simp [World.frozen?, px]
  have x3 : w.cell? ⟨x, 3, none⟩ = some (.int .i64 (i0 : Int)) := by simp [World.cell?, px]
  obtain ⟨W1, hW1⟩ : ∃ W1, W1 = w.setCell ⟨x, 1, none⟩ (.int .i64 k) := ⟨_, rfl⟩
  have kept : ∀ j, j ≠ x → W1.heap[j]? = w.heap[j]? := fun j hj => by rw [hW1]; exact Below.heap_setCell _ _ _ j hj
  have p1 : W1.heap[x]? = some (.cells #[.int .i64 (it x), .int .i64 k, .int .i64 (va x), .int .i64 (i0 : Int)] 81) := by
    rw [hW1]
    exact heap_setCell_same w x 1 _ _ _ px
  have inj : ∀ i, i < n → i ≠ i0 → f i ≠ x := fun i hi hne e => hne (h.inj hi hi0 (e.trans e0.symm))
  have hl := h.lim
  have me1 : MeI W1 hb ob gp n cap mb pu f (fun b => Img n f n b) it (upN ke x k) va i0 := by
    refine { hd := (kept hb (ne_of_type h.hd px (by decide))).trans h.hd, row := ⟨cs, (kept gp (ne_of_type h3 px (by decide))).trans h3, h4, h5⟩, le := hle, lim := by omega, th := ?_, fB := fun i hi _ => ⟨i, hi, by omega, rfl⟩, pl := fun i hi hne => ?_, wf := ?_ }
    · rintro b ⟨i, hi, _, rfl⟩
      by_cases e : f i = x
      · rw [e, upN_eq]
        exact ⟨_, p1⟩
      · rw [upN_ne e]
        exact ⟨_, (kept _ e).trans (h.pl i hi)⟩
    · rw [upN_ne (inj i hi hne)]
      exact (kept _ (inj i hi hne)).trans (h.pl i hi)
    · rintro b ⟨i, hi, _, rfl⟩
      have h6 := h.itr i hi
      have h7 := h.wf i hi
      by_cases e : f i = x
      · rw [e] at h6 ⊢
        rw [upN_eq]
        omega
      · rw [upN_ne e]
        omega
  have od1 : Ordr W1 ob lv nx mod tur lies N := ho.kept (kept ob (ne_of_type ho.at' px (by decide)))
  obtain ⟨g, hm, hg⟩ := h.map
  obtain ⟨es, ck, hmb⟩ := hm.block
  have mp1 : Mp W1 mb nn g := hm.kept (kept mb (fun e => map_ne hmb px e))
  have FI : Hid (Calls Try.prog 42 #[.pointer (some ⟨hb, 0, none⟩), .int .i64 (i0 : Int), .pointer (some ⟨x, 0, none⟩)] W1 fun e w' => e = .returned (.tuple #[]) ∧ ∃ f' M, FilI W1 hb ob gp n cap mb pu f (fun b => Img n f n b) it (upN ke x k) va lv nx mod tur lies N i0 x w' f' M) := fillI_any i0 x W1 me1 od1 (by omega) hi0 ⟨i0, hi0, by omega, e0⟩ (fun ⟨j, hj, hne, e⟩ => inj j hj hne e)
  have FU : Hid (∀ w' f' M, FilI W1 hb ob gp n cap mb pu f (fun b => Img n f n b) it (upN ke x k) va lv nx mod tur lies N i0 x w' f' M → UpdI w base hb ob (some ⟨gp, 0, none⟩) n cap mb nn pu f it ke va lv nx mod tur lies N x k (.returned (.int .i64 0)) w') := fun w' f' M ⟨q1, q2, q3, q4, q5, q6, q7⟩ => by
    have im : ∀ b, Img n f' n b ↔ Img n f n b := fun b => by
      refine (q6 b).trans ⟨?_, ?_⟩
      · rintro (⟨j, hj, _, e⟩ | rfl)
        · exact ⟨j, hj, by omega, e⟩
        · exact ⟨i0, hi0, by omega, e0⟩
      · rintro ⟨j, hj, _, e⟩
        by_cases ej : j = i0
        · subst ej
          exact .inr (e.symm.trans e0)
        · exact .inl ⟨j, hj, ej, e⟩
    have nmo : ¬ (mb = ob ∨ mb = gp ∨ Img n f n mb) := by
      rintro (e | e | ⟨j, hj, _, e⟩)
      · exact map_ne hmb ho.at' e
      · exact map_ne hmb h3 e
      · exact map_ne hmb (h.pl j hj) e.symm
    have mb1 : mb < W1.heap.size := by
      rw [hW1]
      simpa using (Array.getElem?_eq_some_iff.1 hmb).1
    refine ⟨rfl, f', M, q1.hs hbg hcap hl (fun b hb' => ?_) (fun b c hb' hc' e => ?_) h.pu0 h.pu1 h.nn1 ⟨g, mp1.kept (q7.block mb mb1 nmo), fun i b => by rw [im b]; exact hg i b⟩ h.ge.1 h.ge.2.1 h.ge.2.2.1, q2, q3, q4, fun e9 h0 => q5 e9 fun p q hp hq hpq hpi hqi hR => (leB_keI (inj p hp hpi) (inj q hq hqi)).2 (h0 p q hp hq hpq (by omega) (by omega) hR), im, ?_⟩
    · obtain ⟨i, hi, _, rfl⟩ := (im b).1 hb'
      have h6 := h.itr i hi
      have h7 := h.ge.2.2.2 i hi
      omega
    · obtain ⟨i, hi, _, rfl⟩ := (im b).1 hb'
      obtain ⟨j, hj, _, rfl⟩ := (im c).1 hc'
      rw [h.iti i j hi hj e]
    · have t1 : Tn (fun k => k = hb ∨ k = mb ∨ k = ob ∨ (Value.slice (some ⟨gp, 0, none⟩) n cap).ownBlock = some k ∨ Img n f n k) w W1 := by
        rw [hW1]
        exact (Tn.refl _ _).set (fun _ => .inr (.inr (.inr (.inr ⟨i0, hi0, by omega, e0⟩)))) _ _
      refine t1.trans q7 (fun j _ e => ?_)
      rcases e with e | e | e
      · exact .inr (.inr (.inl e))
      · exact .inr (.inr (.inr (.inl (by rw [e]; rfl))))
      · exact .inr (.inr (.inr (.inr e)))
  have y3 : W1.cell? ⟨x, 3, none⟩ = some (.int .i64 (i0 : Int)) := by simp [World.cell?, p1]
  have HW : Hid (w.setCell ⟨x, 1, none⟩ (.int .i64 k) = W1) := hW1.symm
  clear h ho hq c4 hir me1 od1 mp1 hm hg hmb px p1 kept hW1 inj h3 h5 e0
  go_enter Try.func16, Try.ntmps16
  go_wp2_with fail
  rw [HW.out]
  refine Calls.mono FI.out ?_
  rintro e w5 ⟨rfl, f', M, hF⟩
  have HU : Hid _ := FU.out w5 f' M hF
  clear hF FI FU
  go_wp2_with fail
  go_ret
  exact ⟨rfl, HU.out.2⟩
end Go.Proofs.Ytklhenblcgmfhaa
