/- Contracts of the program's functions, part 3: own work, joined in build order. -/
import Derived.Test.YtjnfcihichaonaaJ2
namespace Go.Proofs.Ytjnfcihichaonaa
open Go.RowKit
set_option maxRecDepth 100000
set_option linter.unusedVariables false
/-- A heap whose place hole is empty: what lies in the others. -/
structure MeI (W : World) (hb ob gp n cap mb : Nat) (pu : Int) (f : Nat → Nat) (B : Nat → Prop) (it ke : Nat → Int) (va : Nat → Int) (hole : Nat) : Prop where
  hd : W.heap[hb]? = some (.cells #[.func (.func 28) #[.pointer (some ⟨ob, 0, none⟩)] #[], .slice (some ⟨gp, 0, none⟩) n cap, .map (some mb), .int .i64 pu] 70)
  row : ∃ cs : Array Value, W.heap[gp]? = some (.cells cs 77) ∧ cs.size = cap ∧ ∀ i, i < n → cs[i]? = some (.pointer (some ⟨f i, 0, none⟩))
  le : n ≤ cap
  lim : n ≤ 1099511627776
  th : ∀ b, B b → ∃ q : Int, W.heap[b]? = some (.cells #[.int .i64 (it b), .int .i64 (ke b), .int .i64 (va b), .int .i64 q] 81)
  fB : ∀ i, i < n → i ≠ hole → B (f i)
  pl : ∀ i, i < n → i ≠ hole → W.heap[f i]? = some (.cells #[.int .i64 (it (f i)), .int .i64 (ke (f i)), .int .i64 (va (f i)), .int .i64 (i : Int)] 81)
  wf : ∀ b, B b → (-9223372036854775808 ≤ it b ∧ it b ≤ 9223372036854775807) ∧ -9223372036854775808 ≤ ke b ∧ ke b ≤ 9223372036854775807
theorem MeI.keep {W W' : World} {hb ob gp n cap mb : Nat} {pu : Int} {f : Nat → Nat} {B : Nat → Prop} {it ke : Nat → Int} {va : Nat → Int} {hole : Nat} (h : MeI W hb ob gp n cap mb pu f B it ke va hole) (hk : ∀ (k : Nat) (cs : Array Value) (t : TypeId), W.heap[k]? = some (.cells cs t) → t ≠ 57 → W'.heap[k]? = W.heap[k]?) : MeI W' hb ob gp n cap mb pu f B it ke va hole := by
  refine { h with hd := (hk _ _ _ h.hd (by decide)).trans h.hd, row := ?_, th := fun b hb => ?_, pl := fun i hi hn => (hk _ _ _ (h.pl i hi hn) (by decide)).trans (h.pl i hi hn) }
  · obtain ⟨cs, e, r⟩ := h.row
    exact ⟨cs, (hk _ _ _ e (by decide)).trans e, r⟩
  · obtain ⟨q, e⟩ := h.th b hb
    exact ⟨q, (hk _ _ _ e (by decide)).trans e⟩
set_option maxHeartbeats 1000000 in
theorem aheadI_any {hb ob gp n cap mb : Nat} {pu : Int} {f : Nat → Nat} {B : Nat → Prop} {it ke : Nat → Int} {va : Nat → Int} {hole : Nat} {lv : Value} {nx mod : Int} {tur : Bool} {lies : Int} {N : Nat} (x y : Nat) (w : World) (h : MeI w hb ob gp n cap mb pu f B it ke va hole) (ho : Ordr w ob lv nx mod tur lies N) (hN : N < 1000000000000) (hx : B x) (hy : B y) :
    Calls Try.prog 74 #[.pointer (some ⟨hb, 0, none⟩), .pointer (some ⟨x, 0, none⟩), .pointer (some ⟨y, 0, none⟩)] w (Asks w ob lv nx mod tur lies N (fun t => (t = true → leB mod tur it ke x y) ∧ (t = false → leB mod tur it ke y x))) := by
  obtain ⟨qx, ex⟩ := h.th x hx
  obtain ⟨qy, ey⟩ := h.th y hy
  have x0 : w.cell? ⟨x, 0, none⟩ = some (.int .i64 (it x)) := by simp [World.cell?, ex]
  have x1 : w.cell? ⟨x, 1, none⟩ = some (.int .i64 (ke x)) := by simp [World.cell?, ex]
  have y0 : w.cell? ⟨y, 0, none⟩ = some (.int .i64 (it y)) := by simp [World.cell?, ey]
  have y1 : w.cell? ⟨y, 1, none⟩ = some (.int .i64 (ke y)) := by simp [World.cell?, ey]
  have b0 : w.cell? ⟨hb, 0, none⟩ = some (.func (.func 28) #[.pointer (some ⟨ob, 0, none⟩)] #[]) := by simp [World.cell?, h.hd]
  obtain ⟨⟨wx1, wx2⟩, wx3, wx4⟩ := h.wf x hx
  obtain ⟨⟨wy1, wy2⟩, wy3, wy4⟩ := h.wf y hy
  have HO : Hid (Ordr w ob lv nx mod tur lies N ∧ (w.heap[hb]? = some (.cells #[.func (.func 28) #[.pointer (some ⟨ob, 0, none⟩)] #[], .slice (some ⟨gp, 0, none⟩) n cap, .map (some mb), .int .i64 pu] 70)) ∧ (w.heap[x]? = some (.cells #[.int .i64 (it x), .int .i64 (ke x), .int .i64 (va x), .int .i64 qx] 81)) ∧ w.heap[y]? = some (.cells #[.int .i64 (it y), .int .i64 (ke y), .int .i64 (va y), .int .i64 qy] 81)) := ⟨ho, h.hd, ex, ey⟩
  clear ex ey h ho
  go_enter Try.func74, Try.ntmps74
  by_cases c : it x < it y
  · go_wp2_with fail
    go_quiet (fail)
    go_wp2_with fail
    rename_i hz
    obtain ⟨W, hW⟩ : ∃ W, W = w.drewN nq := ⟨_, rfl⟩
    have HO2 : Hid (Ordr W ob lv nx mod tur lies N ∧ (W.heap[hb]? = some (.cells #[.func (.func 28) #[.pointer (some ⟨ob, 0, none⟩)] #[], .slice (some ⟨gp, 0, none⟩) n cap, .map (some mb), .int .i64 pu] 70)) ∧ (W.heap[x]? = some (.cells #[.int .i64 (it x), .int .i64 (ke x), .int .i64 (va x), .int .i64 qx] 81)) ∧ W.heap[y]? = some (.cells #[.int .i64 (it y), .int .i64 (ke y), .int .i64 (va y), .int .i64 qy] 81)) := by rw [hW]; exact ⟨HO.out.1.kept rfl, HO.out.2⟩
    have HTn : Hid (Tn (fun k => k = ob) w W) := by rw [hW]; exact (Tn.refl _ _).drewN _
    rw [← hW]
    clear hW HO x0 x1 y0 y1 b0
    have x1 : W.cell? ⟨x, 1, none⟩ = some (.int .i64 (ke x)) := by simp [World.cell?, HO2.out.2.2.1]
    have y1 : W.cell? ⟨y, 1, none⟩ = some (.int .i64 (ke y)) := by simp [World.cell?, HO2.out.2.2.2]
    have b0 : W.cell? ⟨hb, 0, none⟩ = some (.func (.func 28) #[.pointer (some ⟨ob, 0, none⟩)] #[]) := by simp [World.cell?, HO2.out.2.1]
    have BF : Hid (Calls Try.prog 28 #[.pointer (some ⟨ob, 0, none⟩), .int .i64 (ke y), .int .i64 (ke x)] W.drew (Asks W.drew ob lv nx mod tur lies N (fun t => t = decide (rk mod tur (ke y) < rk mod tur (ke x))))) := before_any ob lv nx mod tur lies N (ke y) (ke x) W.drew (HO2.out.1.kept rfl) hN wy3 wy4 wx3 wx4
    go_region_held3 (fun w9 => w9.cell? ⟨hb, 0, none⟩ = some (.func (.func 28) #[.pointer (some ⟨ob, 0, none⟩)] #[]) ∧ w9.cell? ⟨x, 1, none⟩ = some (.int .i64 (ke x)) ∧ w9.cell? ⟨y, 1, none⟩ = some (.int .i64 (ke y))) (first | (simp [go_sem, *]; done) | (trace_state; fail))
      (first
        | (go_at_call 28; refine Calls.mono BF.out ?_; rintro e w5 ⟨t, rfl, hp, h5, hT⟩; have H5 : Hid ((lies = 0 → t = decide (rk mod tur (ke y) < rk mod tur (ke x))) ∧ Ordr w5 ob lv nx mod tur lies (N + 1) ∧ Tn (fun k => k = ob) W w5) := ⟨hp, h5, ⟨hT.os, hT.tape, hT.output, hT.size, hT.block⟩⟩; have m0 := (HO2.out.1.held H5.out.2.2 HO2.out.2.1 (i := 0) (by decide)).trans b0; have m1 := (HO2.out.1.held H5.out.2.2 HO2.out.2.2.1 (i := 1) (by decide)).trans x1; have m2 := (HO2.out.1.held H5.out.2.2 HO2.out.2.2.2 (i := 1) (by decide)).trans y1; clear hp h5 hT))
    refine hz _ _ ?_
    go_wp2_with fail
    go_ret
    refine ⟨_, rfl, fun e0 => ?_, H5.out.2.1, HTn.out.trans (S' := fun k => k = ob) H5.out.2.2 (fun _ _ e => e)⟩
    have ht := H5.out.1 e0
    unfold leB
    subst ht
    constructor
    · intro e1
      simp at e1
      omega
    · intro e1
      simp at e1
      omega
  · go_wp2_with fail
    go_quiet (fail)
    go_wp2_with fail
    rename_i hz
    obtain ⟨W, hW⟩ : ∃ W, W = w.drewN nq := ⟨_, rfl⟩
    have HO2 : Hid (Ordr W ob lv nx mod tur lies N ∧ (W.heap[hb]? = some (.cells #[.func (.func 28) #[.pointer (some ⟨ob, 0, none⟩)] #[], .slice (some ⟨gp, 0, none⟩) n cap, .map (some mb), .int .i64 pu] 70)) ∧ (W.heap[x]? = some (.cells #[.int .i64 (it x), .int .i64 (ke x), .int .i64 (va x), .int .i64 qx] 81)) ∧ W.heap[y]? = some (.cells #[.int .i64 (it y), .int .i64 (ke y), .int .i64 (va y), .int .i64 qy] 81)) := by rw [hW]; exact ⟨HO.out.1.kept rfl, HO.out.2⟩
    have HTn : Hid (Tn (fun k => k = ob) w W) := by rw [hW]; exact (Tn.refl _ _).drewN _
    rw [← hW]
    clear hW HO x0 x1 y0 y1 b0
    have x1 : W.cell? ⟨x, 1, none⟩ = some (.int .i64 (ke x)) := by simp [World.cell?, HO2.out.2.2.1]
    have y1 : W.cell? ⟨y, 1, none⟩ = some (.int .i64 (ke y)) := by simp [World.cell?, HO2.out.2.2.2]
    have b0 : W.cell? ⟨hb, 0, none⟩ = some (.func (.func 28) #[.pointer (some ⟨ob, 0, none⟩)] #[]) := by simp [World.cell?, HO2.out.2.1]
    have BF : Hid (Calls Try.prog 28 #[.pointer (some ⟨ob, 0, none⟩), .int .i64 (ke x), .int .i64 (ke y)] W.drew (Asks W.drew ob lv nx mod tur lies N (fun t => t = decide (rk mod tur (ke x) < rk mod tur (ke y))))) := before_any ob lv nx mod tur lies N (ke x) (ke y) W.drew (HO2.out.1.kept rfl) hN wx3 wx4 wy3 wy4
    go_region_held3 (fun w9 => w9.cell? ⟨hb, 0, none⟩ = some (.func (.func 28) #[.pointer (some ⟨ob, 0, none⟩)] #[]) ∧ w9.cell? ⟨x, 1, none⟩ = some (.int .i64 (ke x)) ∧ w9.cell? ⟨y, 1, none⟩ = some (.int .i64 (ke y))) (first | (simp [go_sem, *]; done) | (trace_state; fail))
      (first
        | (go_at_call 28; refine Calls.mono BF.out ?_; rintro e w5 ⟨t, rfl, hp, h5, hT⟩; have H5 : Hid ((lies = 0 → t = decide (rk mod tur (ke x) < rk mod tur (ke y))) ∧ Ordr w5 ob lv nx mod tur lies (N + 1) ∧ Tn (fun k => k = ob) W w5) := ⟨hp, h5, ⟨hT.os, hT.tape, hT.output, hT.size, hT.block⟩⟩; have m0 := (HO2.out.1.held H5.out.2.2 HO2.out.2.1 (i := 0) (by decide)).trans b0; have m1 := (HO2.out.1.held H5.out.2.2 HO2.out.2.2.1 (i := 1) (by decide)).trans x1; have m2 := (HO2.out.1.held H5.out.2.2 HO2.out.2.2.2 (i := 1) (by decide)).trans y1; clear hp h5 hT))
    refine hz _ _ ?_
    go_wp2_with fail
    go_ret
    refine ⟨_, rfl, fun e0 => ?_, H5.out.2.1, HTn.out.trans (S' := fun k => k = ob) H5.out.2.2 (fun _ _ e => e)⟩
    have ht := H5.out.1 e0
    unfold leB
    subst ht
    constructor
    · intro e1
      simp at e1
      omega
    · intro e1
      simp at e1
      omega
end Go.Proofs.Ytjnfcihichaonaa
