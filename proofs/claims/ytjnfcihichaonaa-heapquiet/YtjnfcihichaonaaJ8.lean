/- Contracts of the program's functions, part 8: own work, joined in build order. -/
import Derived.Test.YtjnfcihichaonaaJ7
namespace Go.Proofs.Ytjnfcihichaonaa
open Go.RowKit
set_option maxRecDepth 100000
set_option linter.unusedVariables false
theorem MeI.inj {W : World} {hb ob gp n cap mb : Nat} {pu : Int} {f : Nat → Nat} {B : Nat → Prop} {it ke : Nat → Int} {va : Nat → Int} {hole : Nat} (h : MeI W hb ob gp n cap mb pu f B it ke va hole) {i j : Nat} (hi : i < n) (hj : j < n) (h1 : i ≠ hole) (h2 : j ≠ hole) (e : f i = f j) : i = j := by
  have a := h.pl i hi h1
  have b := h.pl j hj h2
  rw [e, b] at a
  simp at a
  omega
/-- What lies at from goes to the empty place; from is empty then. -/
theorem MeI.put {W : World} {hb ob gp n cap mb : Nat} {pu : Int} {f : Nat → Nat} {B : Nat → Prop} {it ke : Nat → Int} {va : Nat → Int} {to : Nat} (h : MeI W hb ob gp n cap mb pu f B it ke va to) {frm : Nat} (hf : frm < n) (ht : to < n) (hn : frm ≠ to) :
    MeI ((W.setCell ⟨gp, to, none⟩ (.pointer (some ⟨f frm, 0, none⟩))).setCell ⟨f frm, 3, none⟩ (.int .i64 (to : Int))) hb ob gp n cap mb pu (setF f to (f frm)) B it ke va frm := by
  obtain ⟨cs, ec, hsz, hc⟩ := h.row
  have px := h.pl frm hf hn
  have n1 : gp ≠ f frm := ne_of_type ec px (by decide)
  have n2 : hb ≠ gp := ne_of_type h.hd ec (by decide)
  have n3 : hb ≠ f frm := ne_of_type h.hd px (by decide)
  have kept : ∀ k, k ≠ gp → k ≠ f frm → ((W.setCell ⟨gp, to, none⟩ (.pointer (some ⟨f frm, 0, none⟩))).setCell ⟨f frm, 3, none⟩ (.int .i64 (to : Int))).heap[k]? = W.heap[k]? := fun k h1 h2 => (Below.heap_setCell _ _ _ k h2).trans (Below.heap_setCell _ _ _ k h1)
  have hx : ((W.setCell ⟨gp, to, none⟩ (.pointer (some ⟨f frm, 0, none⟩))).setCell ⟨f frm, 3, none⟩ (.int .i64 (to : Int))).heap[f frm]? = some (.cells #[.int .i64 (it (f frm)), .int .i64 (ke (f frm)), .int .i64 (va (f frm)), .int .i64 (to : Int)] 81) :=
    heap_setCell_same _ (f frm) 3 _ _ _ ((Below.heap_setCell _ _ _ _ (Ne.symm n1)).trans px)
  refine { hd := (kept hb n2 n3).trans h.hd, row := ⟨cs.setIfInBounds to (.pointer (some ⟨f frm, 0, none⟩)), ?_, by simpa using hsz, fun i hi => ?_⟩, le := h.le, lim := h.lim, th := fun b hb' => ?_, fB := fun i hi hne => ?_, pl := fun i hi hne => ?_, wf := h.wf }
  · exact (Below.heap_setCell _ _ _ _ n1).trans (heap_setCell_same W gp to cs _ _ ec)
  · have hle := h.le
    by_cases e : i = to
    · subst e
      rw [setF_eq, Array.getElem?_setIfInBounds_self_of_lt (by omega)]
    · rw [setF_ne e, Array.getElem?_setIfInBounds_ne (Ne.symm e)]
      exact hc i hi
  · by_cases e : b = f frm
    · subst e
      exact ⟨_, hx⟩
    · obtain ⟨q, eq⟩ := h.th b hb'
      exact ⟨q, (kept b (Ne.symm (ne_of_type ec eq (by decide))) e).trans eq⟩
  · by_cases e : i = to
    · subst e
      rw [setF_eq]
      exact h.fB frm hf hn
    · rw [setF_ne e]
      exact h.fB i hi e
  · by_cases e : i = to
    · subst e
      rw [setF_eq]
      exact hx
    · rw [setF_ne e]
      have pi := h.pl i hi e
      exact (kept (f i) (Ne.symm (ne_of_type ec pi (by decide))) fun e2 => hne (h.inj hi hf e hn e2)).trans pi
theorem putI_any {hb ob gp n cap mb : Nat} {pu : Int} {f : Nat → Nat} {B : Nat → Prop} {it ke : Nat → Int} {va : Nat → Int} {to : Nat} {lv : Value} {nx mod : Int} {tur : Bool} {lies : Int} {N : Nat} (frm : Nat) (w : World) (h : MeI w hb ob gp n cap mb pu f B it ke va to) (ho : Ordr w ob lv nx mod tur lies N) (hf : frm < n) (ht : to < n) (hn : frm ≠ to) :
    Calls Try.prog 60 #[.pointer (some ⟨hb, 0, none⟩), .int .i64 (frm : Int), .int .i64 (to : Int)] w fun e w' => e = .returned (.tuple #[]) ∧ MeI w' hb ob gp n cap mb pu (setF f to (f frm)) B it ke va frm ∧ Ordr w' ob lv nx mod tur lies N ∧ Tn (fun k => k = gp ∨ B k) w w' := by
  have hl := h.lim
  have hle := h.le
  have b1 := h.c1
  have a1 := h.at hf
  have a2 := h.at ht
  obtain ⟨cs, ec, hsz, hc⟩ := h.row
  have px := h.pl frm hf hn
  have n1 : f frm ≠ gp := ne_of_type px ec (by decide)
  have z1 : w.frozen? ⟨gp, to, none⟩ = false := by simp [World.frozen?, ec]
  have z2 : w.cell? ⟨f frm, 3, none⟩ = some (.int .i64 (frm : Int)) := by simp [World.cell?, px]
  have z3 : w.frozen? ⟨f frm, 3, none⟩ = false := by simp [World.frozen?, px]
  have HP : Hid (MeI ((w.setCell ⟨gp, to, none⟩ (.pointer (some ⟨f frm, 0, none⟩))).setCell ⟨f frm, 3, none⟩ (.int .i64 (to : Int))) hb ob gp n cap mb pu (setF f to (f frm)) B it ke va frm ∧ Ordr ((w.setCell ⟨gp, to, none⟩ (.pointer (some ⟨f frm, 0, none⟩))).setCell ⟨f frm, 3, none⟩ (.int .i64 (to : Int))) ob lv nx mod tur lies N ∧ Tn (fun k => k = gp ∨ B k) w ((w.setCell ⟨gp, to, none⟩ (.pointer (some ⟨f frm, 0, none⟩))).setCell ⟨f frm, 3, none⟩ (.int .i64 (to : Int)))) :=
    ⟨h.put hf ht hn, ho.kept ((Below.heap_setCell _ _ _ _ (ne_of_type ho.at' px (by decide))).trans (Below.heap_setCell _ _ _ _ (ne_of_type ho.at' ec (by decide)))), ((Tn.refl _ _).set (fun _ => .inl rfl) _ _).set (fun _ => .inr (h.fB frm hf hn)) _ _⟩
  clear h ho ec hc px
  generalize f frm = x at *
  go_enter Try.func60, Try.ntmps60
  go_wp2_with fail
  refine bodyPost_end (results_none rfl _ _ _) rfl ?_
  exact ⟨rfl, HP.out⟩
end Go.Proofs.Ytjnfcihichaonaa
namespace Go.Proofs.Ytjnfcihichaonaa
open Go.RowKit
set_option maxRecDepth 100000
set_option linter.unusedVariables false
/-- A hole went from p to p', things moved up. -/
structure SnkI (w0 w : World) (hb ob gp n cap mb : Nat) (pu : Int) (f0 f : Nat → Nat) (B : Nat → Prop) (it ke : Nat → Int) (va : Nat → Int) (lv : Value) (nx mod : Int) (tur : Bool) (lies : Int) (N0 N p0 p : Nat) : Prop where
  me : MeI w hb ob gp n cap mb pu f B it ke va p
  od : Ordr w ob lv nx mod tur lies N
  lt : p < n
  ge : N0 ≤ N
  many : 2 ^ (N - N0) * (p0 / 2 + 1) ≤ p / 2 + 1
  ord : lies = 0 → Ord (leB mod tur it ke) n f0 p0 → Ord (leB mod tur it ke) n f p
  img : ∀ b, Img n f p b ↔ Img n f0 p0 b
  tn : Tn (fun k => k = ob ∨ k = gp ∨ B k) w0 w
def SinksI (w0 : World) (hb ob gp n cap mb : Nat) (pu : Int) (f0 : Nat → Nat) (B : Nat → Prop) (it ke : Nat → Int) (va : Nat → Int) (lv : Value) (nx mod : Int) (tur : Bool) (lies : Int) (N0 p0 : Nat) (e : Ending) (w : World) : Prop :=
  ∃ (p : Nat) (f : Nat → Nat) (N : Nat), e = .returned (.int .i64 (p : Int)) ∧ SnkI w0 w hb ob gp n cap mb pu f0 f B it ke va lv nx mod tur lies N0 N p0 p ∧ n ≤ 4 * (p / 2) + 2
set_option maxHeartbeats 1000000 in
theorem sinkI_any {hb ob gp n cap mb : Nat} {pu : Int} {f : Nat → Nat} {B : Nat → Prop} {it ke : Nat → Int} {va : Nat → Int} {lv : Value} {nx mod : Int} {tur : Bool} {lies : Int} {N : Nat} (p : Nat) (w : World) (h : MeI w hb ob gp n cap mb pu f B it ke va p) (ho : Ordr w ob lv nx mod tur lies N) (hN : N < 999999999900) (hp : p < n) :
    Calls Try.prog 66 #[.pointer (some ⟨hb, 0, none⟩), .int .i64 (p : Int)] w (SinksI w hb ob gp n cap mb pu f B it ke va lv nx mod tur lies N p) := by
  have S0 : Hid (SnkI w w hb ob gp n cap mb pu f f B it ke va lv nx mod tur lies N N p p) := ⟨h, ho, hp, Nat.le_refl _, by simp, fun _ h => h, fun _ => Iff.rfl, Tn.refl _ _⟩
  have hl : n ≤ 1099511627776 := h.lim
  clear h ho
  go_enter Try.func66, Try.ntmps66
  go_wp2_with fail
  go_loopw [1] (fun t wr => ∃ (p' : Nat) (f' : Nat → Nat) (M : Nat), t = .int .i64 (p' : Int) ∧ p' < n ∧ Hid (SnkI w wr hb ob gp n cap mb pu f f' B it ke va lv nx mod tur lies N M p p')) (fun t _ => n - (intOf t).toNat)
  case atStart => exact ⟨p, f, N, rfl, hp, S0⟩
  case round =>
    clear S0
    obtain ⟨p', f', M, rfl, hp', hS⟩ := hrel
    have hM : M - N ≤ 40 := pow_lt_many hS.out.many (by omega)
    have BE : Hid (Calls Try.prog 78 #[.pointer (some ⟨hb, 0, none⟩), .int .i64 (p' : Int)] wr (BelI wr n f' (leB mod tur it ke) ob lv nx mod tur lies M p')) := belowI_any p' wr hS.out.me hS.out.od (by omega) hp'
    go_wp2_with fail
    refine Calls.mono BE.out ?_
    clear BE
    rintro e w1 (⟨rfl, hlast, ho1, hT⟩ | ⟨c, M2, rfl, hc, hkid, hbest, hM1, hM2, ho1, hT⟩)
    · have HR : Hid (SnkI w w1 hb ob gp n cap mb pu f f' B it ke va lv nx mod tur lies N M p p' ∧ n ≤ 4 * (p' / 2) + 2) := ⟨⟨hS.out.me.keep (keep_ask hS.out.od hT), ho1, hp', hS.out.ge, hS.out.many, hS.out.ord, hS.out.img, hS.out.tn.trans hT (fun k _ e => .inl e)⟩, hlast⟩
      clear hS ho1 hT
      go_wp2_with fail
      go_ret
      exact ⟨p', f', M, rfl, HR.out⟩
    · have hcp : c ≠ p' := by intro e; subst e; omega
      have HM1 := hS.out.me.keep (keep_ask hS.out.od hT)
      have PU : Hid (Calls Try.prog 60 #[.pointer (some ⟨hb, 0, none⟩), .int .i64 (c : Int), .int .i64 (p' : Int)] w1 fun e w' => e = .returned (.tuple #[]) ∧ MeI w' hb ob gp n cap mb pu (setF f' p' (f' c)) B it ke va c ∧ Ordr w' ob lv nx mod tur lies M2 ∧ Tn (fun k => k = gp ∨ B k) w1 w') := putI_any c w1 HM1 ho1 hc hp' hcp
      have HX : Hid ((c / 2 = 2 * (p' / 2) + 1 ∨ c / 2 = 2 * (p' / 2) + 2) ∧ (lies = 0 → Below2 (leB mod tur it ke) n f' p' c) ∧ M ≤ M2 ∧ M2 ≤ M + 1 ∧ Tn (fun k => k = ob) wr w1) := ⟨hkid, hbest, hM1, hM2, hT⟩
      clear HM1 hbest hM1 hM2 ho1 hT
      go_wp2_with (go_at_call 60; refine Calls.mono PU.out ?_; rintro e w2 ⟨rfl, hm2, ho2, hT2⟩)
      go_roundw
      case rel =>
        refine ⟨c, _, M2, rfl, hc, hm2, ho2, hc, ?_, ?_, fun e h0 => ?_, fun b => (img_put hc hp' hcp b).trans (hS.out.img b), ?_⟩
        · have := hS.out.ge
          have := HX.out
          omega
        · obtain ⟨hk, _, h3, h4, _⟩ := HX.out
          have hge := hS.out.ge
          have hmany := hS.out.many
          have h5 : 2 ^ (M2 - N) ≤ 2 ^ (M - N + 1) := Nat.pow_le_pow_right (by decide) (by omega)
          have h6 : 2 ^ (M2 - N) * (p / 2 + 1) ≤ 2 ^ (M - N + 1) * (p / 2 + 1) := Nat.mul_le_mul_right _ h5
          rw [Nat.pow_succ, Nat.mul_comm (2 ^ (M - N)) 2, Nat.mul_assoc] at h6
          omega
        · exact (hS.out.ord e h0).sink (leB_total _ _ _ _) hp' (HX.out.2.1 e)
        · exact (hS.out.tn.trans HX.out.2.2.2.2 (fun k _ e => .inl e)).trans hT2 (fun k _ e => .inr e)
      case measure =>
        simp [intOf]
        omega
end Go.Proofs.Ytjnfcihichaonaa
