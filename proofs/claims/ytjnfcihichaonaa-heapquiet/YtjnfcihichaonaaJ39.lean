/- Contracts of the program's functions, part 39: own work, joined in build order. -/
import Derived.Test.YtjnfcihichaonaaJ38
namespace Go.Proofs.Ytjnfcihichaonaa
open Go.RowKit
set_option maxRecDepth 100000
set_option linter.unusedVariables false
theorem leB_keI {mod : Int} {tur : Bool} {it ke : Nat → Int} {x : Nat} {k : Int} {y z : Nat} (hy : y ≠ x) (hz : z ≠ x) : leB mod tur it (upN ke x k) y z ↔ leB mod tur it ke y z := by
  unfold leB
  rw [upN_ne hy, upN_ne hz]
/-- Behind Update: x has the key k. -/
def UpdI (w : World) (base hb ob : Nat) (a : Option Addr) (n cap mb nn : Nat) (pu : Int) (f : Nat → Nat) (it ke : Nat → Int) (va : Nat → Int) (lv : Value) (nx mod : Int) (tur : Bool) (lies : Int) (N x : Nat) (k : Int) (e : Ending) (w' : World) : Prop :=
  e = .returned (.int .i64 0) ∧ ∃ f' M, HsI w' base hb ob a n cap mb nn pu f' it (upN ke x k) va ∧ Ordr w' ob lv nx mod tur lies M ∧ N ≤ M ∧ 2 ^ (M - N) ≤ 4 * (n + 1) * (n + 1) ∧
    (lies = 0 → Ord (leB mod tur it ke) n f n → Ord (leB mod tur it (upN ke x k)) n f' n) ∧ (∀ b, Img n f' n b ↔ Img n f n b) ∧ Tn (fun k => k = hb ∨ k = mb ∨ k = ob ∨ (Value.slice a n cap).ownBlock = some k ∨ Img n f n k) w w'
set_option maxHeartbeats 1000000 in
theorem updateI_any {base hb ob : Nat} {a : Option Addr} {n cap mb nn : Nat} {pu : Int} {f : Nat → Nat} {it ke : Nat → Int} {va : Nat → Int} {lv : Value} {nx mod : Int} {tur : Bool} {lies : Int} {N : Nat} (x : Nat) (k : Int) (w : World) (h : HsI w base hb ob a n cap mb nn pu f it ke va) (ho : Ordr w ob lv nx mod tur lies N) (hN : N < 999999999700) (hk : -9223372036854775808 ≤ k) (hk2 : k ≤ 9223372036854775807) (hx : Img n f n x) :
    Calls Try.prog 16 #[.pointer (some ⟨hb, 0, none⟩), .int .i64 (it x), .int .i64 k] w (UpdI w base hb ob a n cap mb nn pu f it ke va lv nx mod tur lies N x k) := by
  obtain ⟨i0, hi0, _, e0⟩ := hx
  obtain ⟨gp, rfl, hbg, hle, hcap, cs, h3, h4, h5⟩ := h.some' (by omega)
  obtain ⟨c1, c2, c3, c4⟩ := h.cells
  have px := h.pl i0 hi0
  have hir := h.itr i0 hi0
  have hp1 := h.pu1
  rw [e0] at hir px
  obtain ⟨o, hr, hq⟩ := h.find (i := it x) (by omega) (by omega)
  have eo := (hq x).2 ⟨⟨i0, hi0, by omega, e0⟩, rfl⟩
  subst eo
  simp only [pV] at hr
  have x1 : w.cell? ⟨x, 1, none⟩ = some (.int .i64 (ke x)) := by simp [World.cell?, px]
  have x2 : w.frozen? ⟨x, 1, none⟩ = false := by simp [World.frozen?, px]
  have x3 : w.cell? ⟨x, 3, none⟩ = some (.int .i64 (i0 : Int)) := by simp [World.cell?, px]
  obtain ⟨W1, hW1⟩ : ∃ W1, W1 = w.setCell ⟨x, 1, none⟩ (.int .i64 k) := ⟨_, rfl⟩
  have kept : ∀ j, j ≠ x → W1.heap[j]? = w.heap[j]? := fun j hj => by rw [hW1]; exact Below.heap_setCell _ _ _ j hj
  have p1 : W1.heap[x]? = some (.cells #[.int .i64 (it x), .int .i64 k, .int .i64 (va x), .int .i64 (i0 : Int)] 81) := by
    rw [hW1]
    exact heap_setCell_same w x 1 _ _ _ px
  have inj : ∀ i, i < n → i ≠ i0 → f i ≠ x := fun i hi hne e => hne (h.inj hi hi0 (e.trans e0.symm))
  have hl := h.lim
  have me1 : MeI W1 hb ob gp n cap mb pu f (fun b => Img n f n b) it (upN ke x k) va i0 := by
    refine { hd := (kept hb (ne_of_type h.hd px (by decide))).trans h.hd, row := ⟨cs, (kept gp (ne_of_type h3 px (by decide))).trans h3, h4, h5⟩, le := hle, lim := by omega, th := ?_, fB := fun i hi _ => ⟨i, hi, by omega, rfl⟩, pl := fun i hi hne => ?_, wf := ?_ }
    · rintro b ⟨i, hi, _, rfl⟩
      by_cases e : f i = x
      · rw [e, upN_eq]
        exact ⟨_, p1⟩
      · rw [upN_ne e]
        exact ⟨_, (kept _ e).trans (h.pl i hi)⟩
    · rw [upN_ne (inj i hi hne)]
      exact (kept _ (inj i hi hne)).trans (h.pl i hi)
    · rintro b ⟨i, hi, _, rfl⟩
      have h6 := h.itr i hi
      have h7 := h.wf i hi
      by_cases e : f i = x
      · rw [e] at h6 ⊢
        rw [upN_eq]
        omega
      · rw [upN_ne e]
        omega
  have od1 : Ordr W1 ob lv nx mod tur lies N := ho.kept (kept ob (ne_of_type ho.at' px (by decide)))
  obtain ⟨g, hm, hg⟩ := h.map
  obtain ⟨es, ck, hmb⟩ := hm.block
  have mp1 : Mp W1 mb nn g := hm.kept (kept mb (fun e => map_ne hmb px e))
  have FI : Hid (Calls Try.prog 42 #[.pointer (some ⟨hb, 0, none⟩), .int .i64 (i0 : Int), .pointer (some ⟨x, 0, none⟩)] W1 fun e w' => e = .returned (.tuple #[]) ∧ ∃ f' M, FilI W1 hb ob gp n cap mb pu f (fun b => Img n f n b) it (upN ke x k) va lv nx mod tur lies N i0 x w' f' M) := fillI_any i0 x W1 me1 od1 (by omega) hi0 ⟨i0, hi0, by omega, e0⟩ (fun ⟨j, hj, hne, e⟩ => inj j hj hne e)
  have FU : Hid (∀ w' f' M, FilI W1 hb ob gp n cap mb pu f (fun b => Img n f n b) it (upN ke x k) va lv nx mod tur lies N i0 x w' f' M → UpdI w base hb ob (some ⟨gp, 0, none⟩) n cap mb nn pu f it ke va lv nx mod tur lies N x k (.returned (.int .i64 0)) w') := fun w' f' M ⟨q1, q2, q3, q4, q5, q6, q7⟩ => by
    have im : ∀ b, Img n f' n b ↔ Img n f n b := fun b => by
      refine (q6 b).trans ⟨?_, ?_⟩
      · rintro (⟨j, hj, _, e⟩ | rfl)
        · exact ⟨j, hj, by omega, e⟩
        · exact ⟨i0, hi0, by omega, e0⟩
      · rintro ⟨j, hj, _, e⟩
        by_cases ej : j = i0
        · subst ej
          exact .inr (e.symm.trans e0)
        · exact .inl ⟨j, hj, ej, e⟩
    have nmo : ¬ (mb = ob ∨ mb = gp ∨ Img n f n mb) := by
      rintro (e | e | ⟨j, hj, _, e⟩)
      · exact map_ne hmb ho.at' e
      · exact map_ne hmb h3 e
      · exact map_ne hmb (h.pl j hj) e.symm
    have mb1 : mb < W1.heap.size := by
      rw [hW1]
      simpa using (Array.getElem?_eq_some_iff.1 hmb).1
    refine ⟨rfl, f', M, q1.hs hbg hcap hl (fun b hb' => ?_) (fun b c hb' hc' e => ?_) h.pu0 h.pu1 h.nn1 ⟨g, mp1.kept (q7.block mb mb1 nmo), fun i b => by rw [im b]; exact hg i b⟩ h.ge.1 h.ge.2.1 h.ge.2.2.1, q2, q3, q4, fun e9 h0 => q5 e9 fun p q hp hq hpq hpi hqi hR => (leB_keI (inj p hp hpi) (inj q hq hqi)).2 (h0 p q hp hq hpq (by omega) (by omega) hR), im, ?_⟩
    · obtain ⟨i, hi, _, rfl⟩ := (im b).1 hb'
      have h6 := h.itr i hi
      have h7 := h.ge.2.2.2 i hi
      omega
    · obtain ⟨i, hi, _, rfl⟩ := (im b).1 hb'
      obtain ⟨j, hj, _, rfl⟩ := (im c).1 hc'
      rw [h.iti i j hi hj e]
    · have t1 : Tn (fun k => k = hb ∨ k = mb ∨ k = ob ∨ (Value.slice (some ⟨gp, 0, none⟩) n cap).ownBlock = some k ∨ Img n f n k) w W1 := by
        rw [hW1]
        exact (Tn.refl _ _).set (fun _ => .inr (.inr (.inr (.inr ⟨i0, hi0, by omega, e0⟩)))) _ _
      refine t1.trans q7 (fun j _ e => ?_)
      rcases e with e | e | e
      · exact .inr (.inr (.inl e))
      · exact .inr (.inr (.inr (.inl (by rw [e]; rfl))))
      · exact .inr (.inr (.inr (.inr e)))
  have y3 : W1.cell? ⟨x, 3, none⟩ = some (.int .i64 (i0 : Int)) := by simp [World.cell?, p1]
  have HW : Hid (w.setCell ⟨x, 1, none⟩ (.int .i64 k) = W1) := hW1.symm
  clear h ho hq c4 hir me1 od1 mp1 hm hg hmb px p1 kept hW1 inj h3 h5 e0
  go_enter Try.func16, Try.ntmps16
  go_wp2_with fail
  rw [HW.out]
  refine Calls.mono FI.out ?_
  rintro e w5 ⟨rfl, f', M, hF⟩
  have HU : Hid _ := FU.out w5 f' M hF
  clear hF FI FU
  go_wp2_with fail
  go_ret
  exact ⟨rfl, HU.out.2⟩
end Go.Proofs.Ytjnfcihichaonaa
