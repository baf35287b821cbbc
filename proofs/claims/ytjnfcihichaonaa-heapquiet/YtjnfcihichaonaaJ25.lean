/- Contracts of the program's functions, part 25: own work, joined in build order. -/
import Derived.Test.YtjnfcihichaonaaJ24
namespace Go.Proofs.Ytjnfcihichaonaa
open Go.RowKit
set_option maxRecDepth 100000
set_option linter.unusedVariables false
theorem MeS.sto {W : World} {hb ob gp n cap mb : Nat} {pu : Int} {f : Nat → Nat} {B : Nat → Prop} {it ke : Nat → Int} {va : Nat → ByteArray} {p hole : Nat} (h : MeS W hb ob gp n cap mb pu f B it ke va hole) {x : Nat} (hp : p < n) (hB : B x) :
    W.cell? ⟨hb, 1, none⟩ = some (.slice (some ⟨gp, 0, none⟩) n cap) ∧ W.cell? ⟨gp, p, none⟩ = some (.pointer (some ⟨f p, 0, none⟩)) ∧ W.frozen? ⟨gp, p, none⟩ = false ∧ (∃ q : Int, W.cell? ⟨x, 3, none⟩ = some (.int .i64 q)) ∧ W.frozen? ⟨x, 3, none⟩ = false ∧ x ≠ gp := by
  obtain ⟨cs, ec, hsz, hc⟩ := h.row
  obtain ⟨q, px⟩ := h.th x hB
  exact ⟨h.c1, h.at hp, by simp [World.frozen?, ec], ⟨q, by simp [World.cell?, px]⟩, by simp [World.frozen?, px], ne_of_type px ec (by decide)⟩
set_option maxHeartbeats 4000000 in
theorem riseS_any {hb ob gp n cap mb : Nat} {pu : Int} {f : Nat → Nat} {B : Nat → Prop} {it ke : Nat → Int} {va : Nat → ByteArray} {lv : Value} {nx mod : Int} {tur : Bool} {lies : Int} {N : Nat} (p x : Nat) (w : World) (h : MeS w hb ob gp n cap mb pu f B it ke va p) (ho : Ordr w ob lv nx mod tur lies N) (hN : N < 999999999900) (hp : p < n) (hl : n ≤ 4 * (p / 2) + 2) (hB : B x) (hx : ¬ Img n f p x) :
    Calls Try.prog 52 #[.pointer (some ⟨hb, 0, none⟩), .int .i64 (p : Int), .pointer (some ⟨x, 0, none⟩)] w fun e w' => e = .returned (.tuple #[]) ∧ ∃ f' M, LayS w w' hb ob gp n cap mb pu f f' B it ke va lv nx mod tur lies N M p x := by
  have hcap : n ≤ 1099511627776 := h.lim
  have HB : Hid (B x ∧ ¬ Img n f p x) := ⟨hB, hx⟩
  have h1 := h.c1
  by_cases c : 1 < n
  · obtain ⟨o1, o2, o3, o4, o5⟩ := acr_is hp c
    have AC : Hid (Calls Try.prog 68 #[.pointer (some ⟨hb, 0, none⟩), .int .i64 (p : Int)] w fun e w' => e = .returned (.int .i64 (acr n p : Int)) ∧ w' = w) := acrossS_any p w h hp c
    have OV : Hid (Calls Try.prog 69 #[.pointer (some ⟨hb, 0, none⟩), .pointer (some ⟨x, 0, none⟩), .pointer (some ⟨f (acr n p), 0, none⟩), .int .i64 (acr n p : Int)] w (Asks w ob lv nx mod tur lies N (OvP (leB mod tur it ke) x (f (acr n p)) (acr n p)))) := overS_any x (f (acr n p)) (acr n p) w h ho (by omega) hB (h.fB _ o1 o2) (by omega)
    have a0 := h.at o1
    have HM : Hid (MeS w hb ob gp n cap mb pu f B it ke va p ∧ Ordr w ob lv nx mod tur lies N) := ⟨h, ho⟩
    have HA : Hid (acr n p ≠ p ∧ acr n p / 2 ≤ p / 2) := ⟨o2, o5⟩
    have FI : Hid (Ord (leB mod tur it ke) n f p → (if acr n p % 2 = 0 then leB mod tur it ke x (f (acr n p)) else leB mod tur it ke (f (acr n p)) x) → Ord (leB mod tur it ke) n (setF f p (f (acr n p))) (acr n p) ∧ Fits (leB mod tur it ke) n (setF f p (f (acr n p))) (acr n p) x) := fun a b => a.first (leB_total _ _ _ _) hp c hl b
    have FS : Hid (Ord (leB mod tur it ke) n f p → (if acr n p % 2 = 0 then leB mod tur it ke (f (acr n p)) x else leB mod tur it ke x (f (acr n p))) → Fits (leB mod tur it ke) n f p x) := fun a b => a.stays (leB_total _ _ _ _) hp c hl b
    clear h ho hB hx o2 o3 o4 o5
    generalize acr n p = o at *
    go_enter Try.func52, Try.ntmps52
    go_wp2_with (first | (go_at_call 68; refine Calls.mono AC.out ?_; rintro e w8 ⟨rfl, rfl⟩))
    refine Calls.mono OV.out ?_
    rintro e w5 ⟨t, rfl, hp5, h5, hT⟩
    have H5 : Hid ((lies = 0 → OvP (leB mod tur it ke) x (f o) o t) ∧ Ordr w5 ob lv nx mod tur lies (N + 1) ∧ Tn (fun k => k = ob) w8 w5) := ⟨hp5, h5, hT⟩
    have HM5 : Hid (MeS w5 hb ob gp n cap mb pu f B it ke va p) := HM.out.1.keep (keep_ask HM.out.2 hT)
    clear hp5 h5 hT OV AC a0 h1
    have b1 := HM5.out.c1
    cases t
    · have ST : Hid (RisS w8 w5 hb ob gp n cap mb pu f f B it ke va lv nx mod tur lies N (N + 1) p p x) := by
        refine ⟨HM5.out, H5.out.2.1, hp, by omega, by rw [show N + 1 - N = 1 by omega]; omega, fun e0 h0 => ⟨h0, FS.out h0 ?_⟩, fun _ => Iff.rfl, H5.out.2.2.mono (fun k _ e => .inl e)⟩
        have h2 := H5.out.1 e0
        unfold OvP at h2
        split <;> rename_i c8
        · rw [if_pos c8] at h2
          exact h2.2 rfl
        · rw [if_neg c8] at h2
          exact h2.2 rfl
      clear HM5 H5 HM FI FS b1
      go_wp2_with fail
      go_loopw [1] (fun t wr => ∃ (p' : Nat) (f' : Nat → Nat) (M : Nat), t = .int .i64 (p' : Int) ∧ p' < n ∧ Hid (RisS w8 wr hb ob gp n cap mb pu f f' B it ke va lv nx mod tur lies N M p p' x)) (fun t _ => (intOf t).toNat)
      case atStart => exact ⟨p, f, N + 1, rfl, hp, ST⟩
      case round =>
        obtain ⟨p', f', M, rfl, hp', hS⟩ := hrel
        have hM : M - N ≤ 42 := by
          have h1 := hS.out.few
          rcases Nat.lt_or_ge 42 (M - N) with h2 | h2
          · have h3 : 2 ^ 43 ≤ 2 ^ (M - N) := Nat.pow_le_pow_right (by decide) h2
            have h4 : 2 ^ (M - N) * 1 ≤ 2 ^ (M - N) * (p' / 2 + 1) := Nat.mul_le_mul_left _ (by omega)
            have h5 : (2 : Nat) ^ 43 = 8796093022208 := by decide
            omega
          · exact h2
        by_cases c9 : p' ≤ 1
        · obtain ⟨b1, a1, z1, ⟨q, z2⟩, z3, z4⟩ := hS.out.me.sto hp' HB.out.1
          have hk : ¬ (1 : Int) < (p' : Int) := by omega
          have hk2 : decide ((1 : Int) < (p' : Int)) = false := decide_eq_false hk
          have hk3 : decide (1 < p') = false := decide_eq_false (by omega)
          go_wp2_with fail
          go_quiet (fail)
          obtain ⟨W9, hW9⟩ : ∃ W9, W9 = wr.drewN nq := ⟨_, rfl⟩
          have HF : Hid (LayS w8 ((W9.setCell ⟨gp, p', none⟩ (.pointer (some ⟨x, 0, none⟩))).setCell ⟨x, 3, none⟩ (.int .i64 (p' : Int))) hb ob gp n cap mb pu f (setF f' p' x) B it ke va lv nx mod tur lies N M p x) := by
            rw [hW9]
            exact hS.out.end (hS.out.me.keep fun _ _ _ _ _ => rfl) (hS.out.od.kept rfl) ((Tn.refl _ _).drewN _) (Nat.le_refl _) (by omega) HB.out.1 HB.out.2 (fun _ => .inl c9)
          have b1' : W9.cell? ⟨hb, 1, none⟩ = some (.slice (some ⟨gp, 0, none⟩) n cap) := by rw [hW9]; exact b1
          have a1' : W9.cell? ⟨gp, p', none⟩ = some (.pointer (some ⟨f' p', 0, none⟩)) := by rw [hW9]; exact a1
          have z1' : W9.frozen? ⟨gp, p', none⟩ = false := by rw [hW9]; exact z1
          have z2' : W9.cell? ⟨x, 3, none⟩ = some (.int .i64 q) := by rw [hW9]; exact z2
          have z3' : W9.frozen? ⟨x, 3, none⟩ = false := by rw [hW9]; exact z3
          rw [← hW9]
          clear hW9 b1 a1 z1 z2 z3 hS
          go_wp2_with fail
          refine bodyPost_end (results_none rfl _ _ _) rfl ?_
          exact ⟨rfl, _, _, HF.out⟩
        · have h1 : 1 < p' := by omega
          have hk : (1 : Int) < (p' : Int) := by omega
          have hk2 : decide ((1 : Int) < (p' : Int)) = true := decide_eq_true hk
          have hk3 : decide (1 < p') = true := decide_eq_true h1
          have hu := up_lt h1
          have hun : up p' < n := by omega
          have hui : ((up p' : Nat) : Int) < (n : Int) := by omega
          have huz : (0 : Int) ≤ ((up p' : Nat) : Int) := by omega
          have b1 := hS.out.me.c1
          have a1 := hS.out.me.at (i := up p') (by omega)
          have OV : Hid (Calls Try.prog 69 #[.pointer (some ⟨hb, 0, none⟩), .pointer (some ⟨x, 0, none⟩), .pointer (some ⟨f' (up p'), 0, none⟩), .int .i64 (p' : Int)] wr.drew (Asks wr.drew ob lv nx mod tur lies M (OvP (leB mod tur it ke) x (f' (up p')) p'))) := overS_any x (f' (up p')) p' wr.drew (hS.out.me.keep fun _ _ _ _ _ => rfl) (hS.out.od.kept rfl) (by omega) HB.out.1 (hS.out.me.fB _ (by omega) (by omega)) (by omega)
          have AB : Hid (∀ W, Calls Try.prog 61 #[.int .i64 (p' : Int)] W fun e w' => e = .returned (.int .i64 (up p' : Int)) ∧ w' = W) := fun W => above_any p' h1 (by omega) W
          go_wp2_with fail
          rename_i hz
          go_region_held3 (fun w8 => w8.cell? ⟨hb, 1, none⟩ = some (.slice (some ⟨gp, 0, none⟩) n cap) ∧ w8.cell? ⟨gp, up p', none⟩ = some (.pointer (some ⟨f' (up p'), 0, none⟩))) (first | (simp [go_sem, *]; done) | (trace_state; fail))
            (first
              | (go_at_call 61; refine Calls.mono (AB.out _) ?_; rintro e w8 ⟨rfl, rfl⟩)
              | (go_at_call 69; refine Calls.mono OV.out ?_; rintro e w5 ⟨t, rfl, hp5, h5, hT⟩; have H5 : Hid ((lies = 0 → OvP (leB mod tur it ke) x (f' (up p')) p' t) ∧ Ordr w5 ob lv nx mod tur lies (M + 1) ∧ Tn (fun k => k = ob) wr w5) := ⟨hp5, h5, ⟨hT.os, hT.tape, hT.output, hT.size, hT.block⟩⟩; have HM5 := hS.out.me.keep (keep_ask hS.out.od H5.out.2.2); have m0 := HM5.c1; have m1 := HM5.at (i := up p') (by omega); clear hp5 h5 hT HM5))
          refine hz _ _ ?_
          clear m0 m1 b1 a1 OV
          have HM5 : Hid (MeS w5 hb ob gp n cap mb pu f' B it ke va p') := hS.out.me.keep (keep_ask hS.out.od H5.out.2.2)
          cases t
          · have HF : Hid (LayS w8 ((w5.setCell ⟨gp, p', none⟩ (.pointer (some ⟨x, 0, none⟩))).setCell ⟨x, 3, none⟩ (.int .i64 (p' : Int))) hb ob gp n cap mb pu f (setF f' p' x) B it ke va lv nx mod tur lies N (M + 1) p x) := by
              refine hS.out.end HM5.out H5.out.2.1 H5.out.2.2 (by omega) (Nat.le_refl _) HB.out.1 HB.out.2 (fun e0 => .inr ?_)
              have h2 := H5.out.1 e0
              unfold OvP at h2
              split <;> rename_i c8
              · rw [if_pos c8] at h2
                exact h2.2 rfl
              · rw [if_neg c8] at h2
                exact h2.2 rfl
            obtain ⟨b1, a1, z1, ⟨q, z2⟩, z3, z4⟩ := HM5.out.sto hp' HB.out.1
            go_wp2_with fail
            refine bodyPost_end (results_none rfl _ _ _) rfl ?_
            exact ⟨rfl, _, _, HF.out⟩
          · have PU : Hid (Calls Try.prog 70 #[.pointer (some ⟨hb, 0, none⟩), .int .i64 (up p' : Int), .int .i64 (p' : Int)] w5 fun e w' => e = .returned (.tuple #[]) ∧ MeS w' hb ob gp n cap mb pu (setF f' p' (f' (up p'))) B it ke va (up p') ∧ Ordr w' ob lv nx mod tur lies (M + 1) ∧ Tn (fun k => k = gp ∨ B k) w5 w') := putS_any (up p') w5 HM5.out H5.out.2.1 (by omega) hp' (by omega)
            go_wp2_with (first | (go_at_call 61; refine Calls.mono (AB.out _) ?_; rintro e w8 ⟨rfl, rfl⟩) | (go_at_call 70; refine Calls.mono PU.out ?_; rintro e w6 ⟨rfl, hm6, ho6, hT6⟩))
            go_roundw
            case rel =>
              refine ⟨up p', _, M + 1, rfl, by omega, hS.out.up h1 hm6 ho6 ((H5.out.2.2.mono (fun k _ e => .inl e)).trans hT6 (fun k _ e => .inr e)) fun e0 => ?_⟩
              have h2 := H5.out.1 e0
              unfold OvP at h2
              split <;> rename_i c8
              · rw [if_pos c8] at h2
                exact h2.1 rfl
              · rw [if_neg c8] at h2
                exact h2.1 rfl
            case measure =>
              simp [intOf]
              omega
    · have PU : Hid (Calls Try.prog 70 #[.pointer (some ⟨hb, 0, none⟩), .int .i64 (o : Int), .int .i64 (p : Int)] w5 fun e w' => e = .returned (.tuple #[]) ∧ MeS w' hb ob gp n cap mb pu (setF f p (f o)) B it ke va o ∧ Ordr w' ob lv nx mod tur lies (N + 1) ∧ Tn (fun k => k = gp ∨ B k) w5 w') := putS_any o w5 HM5.out H5.out.2.1 o1 hp HA.out.1
      have MK : Hid (∀ w6, MeS w6 hb ob gp n cap mb pu (setF f p (f o)) B it ke va o → Ordr w6 ob lv nx mod tur lies (N + 1) → Tn (fun k => k = gp ∨ B k) w5 w6 → RisS w8 w6 hb ob gp n cap mb pu f (setF f p (f o)) B it ke va lv nx mod tur lies N (N + 1) p o x) := fun w6 hm6 ho6 hT6 => by
        refine ⟨hm6, ho6, o1, by omega, by rw [show N + 1 - N = 1 by omega]; have := HA.out; omega, fun e0 h0 => FI.out h0 ?_, fun b => img_put o1 hp HA.out.1 b, (H5.out.2.2.mono (fun k _ e => .inl e)).trans hT6 (fun k _ e => .inr e)⟩
        have h2 := H5.out.1 e0
        unfold OvP at h2
        split <;> rename_i c8
        · rw [if_pos c8] at h2
          exact h2.1 rfl
        · rw [if_neg c8] at h2
          exact h2.1 rfl
      go_wp2_with (first | (go_at_call 70; refine Calls.mono PU.out ?_; rintro e w6 ⟨rfl, hm6, ho6, hT6⟩; have ST := MK.out w6 hm6 ho6 hT6; replace ST : Hid _ := ST; clear hm6 ho6 hT6))
      clear HM5 H5 HM FI FS b1 PU MK
      go_loopw [1] (fun t wr => ∃ (p' : Nat) (f' : Nat → Nat) (M : Nat), t = .int .i64 (p' : Int) ∧ p' < n ∧ Hid (RisS w8 wr hb ob gp n cap mb pu f f' B it ke va lv nx mod tur lies N M p p' x)) (fun t _ => (intOf t).toNat)
      case atStart => exact ⟨o, _, N + 1, rfl, o1, ST⟩
      case round =>
        obtain ⟨p', f', M, rfl, hp', hS⟩ := hrel
        have hM : M - N ≤ 42 := by
          have h1 := hS.out.few
          rcases Nat.lt_or_ge 42 (M - N) with h2 | h2
          · have h3 : 2 ^ 43 ≤ 2 ^ (M - N) := Nat.pow_le_pow_right (by decide) h2
            have h4 : 2 ^ (M - N) * 1 ≤ 2 ^ (M - N) * (p' / 2 + 1) := Nat.mul_le_mul_left _ (by omega)
            have h5 : (2 : Nat) ^ 43 = 8796093022208 := by decide
            omega
          · exact h2
        by_cases c9 : p' ≤ 1
        · obtain ⟨b1, a1, z1, ⟨q, z2⟩, z3, z4⟩ := hS.out.me.sto hp' HB.out.1
          have hk : ¬ (1 : Int) < (p' : Int) := by omega
          have hk2 : decide ((1 : Int) < (p' : Int)) = false := decide_eq_false hk
          have hk3 : decide (1 < p') = false := decide_eq_false (by omega)
          go_wp2_with fail
          go_quiet (fail)
          obtain ⟨W9, hW9⟩ : ∃ W9, W9 = wr.drewN nq := ⟨_, rfl⟩
          have HF : Hid (LayS w8 ((W9.setCell ⟨gp, p', none⟩ (.pointer (some ⟨x, 0, none⟩))).setCell ⟨x, 3, none⟩ (.int .i64 (p' : Int))) hb ob gp n cap mb pu f (setF f' p' x) B it ke va lv nx mod tur lies N M p x) := by
            rw [hW9]
            exact hS.out.end (hS.out.me.keep fun _ _ _ _ _ => rfl) (hS.out.od.kept rfl) ((Tn.refl _ _).drewN _) (Nat.le_refl _) (by omega) HB.out.1 HB.out.2 (fun _ => .inl c9)
          have b1' : W9.cell? ⟨hb, 1, none⟩ = some (.slice (some ⟨gp, 0, none⟩) n cap) := by rw [hW9]; exact b1
          have a1' : W9.cell? ⟨gp, p', none⟩ = some (.pointer (some ⟨f' p', 0, none⟩)) := by rw [hW9]; exact a1
          have z1' : W9.frozen? ⟨gp, p', none⟩ = false := by rw [hW9]; exact z1
          have z2' : W9.cell? ⟨x, 3, none⟩ = some (.int .i64 q) := by rw [hW9]; exact z2
          have z3' : W9.frozen? ⟨x, 3, none⟩ = false := by rw [hW9]; exact z3
          rw [← hW9]
          clear hW9 b1 a1 z1 z2 z3 hS
          go_wp2_with fail
          refine bodyPost_end (results_none rfl _ _ _) rfl ?_
          exact ⟨rfl, _, _, HF.out⟩
        · have h1 : 1 < p' := by omega
          have hk : (1 : Int) < (p' : Int) := by omega
          have hk2 : decide ((1 : Int) < (p' : Int)) = true := decide_eq_true hk
          have hk3 : decide (1 < p') = true := decide_eq_true h1
          have hu := up_lt h1
          have hun : up p' < n := by omega
          have hui : ((up p' : Nat) : Int) < (n : Int) := by omega
          have huz : (0 : Int) ≤ ((up p' : Nat) : Int) := by omega
          have b1 := hS.out.me.c1
          have a1 := hS.out.me.at (i := up p') (by omega)
          have OV : Hid (Calls Try.prog 69 #[.pointer (some ⟨hb, 0, none⟩), .pointer (some ⟨x, 0, none⟩), .pointer (some ⟨f' (up p'), 0, none⟩), .int .i64 (p' : Int)] wr.drew (Asks wr.drew ob lv nx mod tur lies M (OvP (leB mod tur it ke) x (f' (up p')) p'))) := overS_any x (f' (up p')) p' wr.drew (hS.out.me.keep fun _ _ _ _ _ => rfl) (hS.out.od.kept rfl) (by omega) HB.out.1 (hS.out.me.fB _ (by omega) (by omega)) (by omega)
          have AB : Hid (∀ W, Calls Try.prog 61 #[.int .i64 (p' : Int)] W fun e w' => e = .returned (.int .i64 (up p' : Int)) ∧ w' = W) := fun W => above_any p' h1 (by omega) W
          go_wp2_with fail
          rename_i hz
          go_region_held3 (fun w8 => w8.cell? ⟨hb, 1, none⟩ = some (.slice (some ⟨gp, 0, none⟩) n cap) ∧ w8.cell? ⟨gp, up p', none⟩ = some (.pointer (some ⟨f' (up p'), 0, none⟩))) (first | (simp [go_sem, *]; done) | (trace_state; fail))
            (first
              | (go_at_call 61; refine Calls.mono (AB.out _) ?_; rintro e w8 ⟨rfl, rfl⟩)
              | (go_at_call 69; refine Calls.mono OV.out ?_; rintro e w5 ⟨t, rfl, hp5, h5, hT⟩; have H5 : Hid ((lies = 0 → OvP (leB mod tur it ke) x (f' (up p')) p' t) ∧ Ordr w5 ob lv nx mod tur lies (M + 1) ∧ Tn (fun k => k = ob) wr w5) := ⟨hp5, h5, ⟨hT.os, hT.tape, hT.output, hT.size, hT.block⟩⟩; have HM5 := hS.out.me.keep (keep_ask hS.out.od H5.out.2.2); have m0 := HM5.c1; have m1 := HM5.at (i := up p') (by omega); clear hp5 h5 hT HM5))
          refine hz _ _ ?_
          clear m0 m1 b1 a1 OV
          have HM5 : Hid (MeS w5 hb ob gp n cap mb pu f' B it ke va p') := hS.out.me.keep (keep_ask hS.out.od H5.out.2.2)
          cases t
          · have HF : Hid (LayS w8 ((w5.setCell ⟨gp, p', none⟩ (.pointer (some ⟨x, 0, none⟩))).setCell ⟨x, 3, none⟩ (.int .i64 (p' : Int))) hb ob gp n cap mb pu f (setF f' p' x) B it ke va lv nx mod tur lies N (M + 1) p x) := by
              refine hS.out.end HM5.out H5.out.2.1 H5.out.2.2 (by omega) (Nat.le_refl _) HB.out.1 HB.out.2 (fun e0 => .inr ?_)
              have h2 := H5.out.1 e0
              unfold OvP at h2
              split <;> rename_i c8
              · rw [if_pos c8] at h2
                exact h2.2 rfl
              · rw [if_neg c8] at h2
                exact h2.2 rfl
            obtain ⟨b1, a1, z1, ⟨q, z2⟩, z3, z4⟩ := HM5.out.sto hp' HB.out.1
            go_wp2_with fail
            refine bodyPost_end (results_none rfl _ _ _) rfl ?_
            exact ⟨rfl, _, _, HF.out⟩
          · have PU : Hid (Calls Try.prog 70 #[.pointer (some ⟨hb, 0, none⟩), .int .i64 (up p' : Int), .int .i64 (p' : Int)] w5 fun e w' => e = .returned (.tuple #[]) ∧ MeS w' hb ob gp n cap mb pu (setF f' p' (f' (up p'))) B it ke va (up p') ∧ Ordr w' ob lv nx mod tur lies (M + 1) ∧ Tn (fun k => k = gp ∨ B k) w5 w') := putS_any (up p') w5 HM5.out H5.out.2.1 (by omega) hp' (by omega)
            go_wp2_with (first | (go_at_call 61; refine Calls.mono (AB.out _) ?_; rintro e w8 ⟨rfl, rfl⟩) | (go_at_call 70; refine Calls.mono PU.out ?_; rintro e w6 ⟨rfl, hm6, ho6, hT6⟩))
            go_roundw
            case rel =>
              refine ⟨up p', _, M + 1, rfl, by omega, hS.out.up h1 hm6 ho6 ((H5.out.2.2.mono (fun k _ e => .inl e)).trans hT6 (fun k _ e => .inr e)) fun e0 => ?_⟩
              have h2 := H5.out.1 e0
              unfold OvP at h2
              split <;> rename_i c8
              · rw [if_pos c8] at h2
                exact h2.1 rfl
              · rw [if_neg c8] at h2
                exact h2.1 rfl
            case measure =>
              simp [intOf]
              omega
  · have e1 : n = 1 := by omega
    have e2 : p = 0 := by omega
    have ST : Hid (RisS w w hb ob gp n cap mb pu f f B it ke va lv nx mod tur lies N N p p x) := by
      refine ⟨h, ho, hp, Nat.le_refl _, by rw [Nat.sub_self]; omega, fun e0 h0 => ⟨h0, ?_⟩, fun _ => Iff.rfl, Tn.refl _ _⟩
      unfold Fits
      split
      · intro b hb hne
        omega
      · intro b hb hne
        omega
    clear h ho hB hx e2
    go_enter Try.func52, Try.ntmps52
    go_wp2_with fail
    go_loopw [1] (fun t wr => ∃ (p' : Nat) (f' : Nat → Nat) (M : Nat), t = .int .i64 (p' : Int) ∧ p' < n ∧ Hid (RisS w wr hb ob gp n cap mb pu f f' B it ke va lv nx mod tur lies N M p p' x)) (fun t _ => (intOf t).toNat)
    case atStart => exact ⟨p, f, N, rfl, hp, ST⟩
    case round =>
      obtain ⟨p', f', M, rfl, hp', hS⟩ := hrel
      have hM : M - N ≤ 42 := by
        have h1 := hS.out.few
        rcases Nat.lt_or_ge 42 (M - N) with h2 | h2
        · have h3 : 2 ^ 43 ≤ 2 ^ (M - N) := Nat.pow_le_pow_right (by decide) h2
          have h4 : 2 ^ (M - N) * 1 ≤ 2 ^ (M - N) * (p' / 2 + 1) := Nat.mul_le_mul_left _ (by omega)
          have h5 : (2 : Nat) ^ 43 = 8796093022208 := by decide
          omega
        · exact h2
      by_cases c9 : p' ≤ 1
      · obtain ⟨b1, a1, z1, ⟨q, z2⟩, z3, z4⟩ := hS.out.me.sto hp' HB.out.1
        have hk : ¬ (1 : Int) < (p' : Int) := by omega
        have hk2 : decide ((1 : Int) < (p' : Int)) = false := decide_eq_false hk
        have hk3 : decide (1 < p') = false := decide_eq_false (by omega)
        go_wp2_with fail
        go_quiet (fail)
        obtain ⟨W9, hW9⟩ : ∃ W9, W9 = wr.drewN nq := ⟨_, rfl⟩
        have HF : Hid (LayS w ((W9.setCell ⟨gp, p', none⟩ (.pointer (some ⟨x, 0, none⟩))).setCell ⟨x, 3, none⟩ (.int .i64 (p' : Int))) hb ob gp n cap mb pu f (setF f' p' x) B it ke va lv nx mod tur lies N M p x) := by
          rw [hW9]
          exact hS.out.end (hS.out.me.keep fun _ _ _ _ _ => rfl) (hS.out.od.kept rfl) ((Tn.refl _ _).drewN _) (Nat.le_refl _) (by omega) HB.out.1 HB.out.2 (fun _ => .inl c9)
        have b1' : W9.cell? ⟨hb, 1, none⟩ = some (.slice (some ⟨gp, 0, none⟩) n cap) := by rw [hW9]; exact b1
        have a1' : W9.cell? ⟨gp, p', none⟩ = some (.pointer (some ⟨f' p', 0, none⟩)) := by rw [hW9]; exact a1
        have z1' : W9.frozen? ⟨gp, p', none⟩ = false := by rw [hW9]; exact z1
        have z2' : W9.cell? ⟨x, 3, none⟩ = some (.int .i64 q) := by rw [hW9]; exact z2
        have z3' : W9.frozen? ⟨x, 3, none⟩ = false := by rw [hW9]; exact z3
        rw [← hW9]
        clear hW9 b1 a1 z1 z2 z3 hS
        go_wp2_with fail
        refine bodyPost_end (results_none rfl _ _ _) rfl ?_
        exact ⟨rfl, _, _, HF.out⟩
      · omega
end Go.Proofs.Ytjnfcihichaonaa
