/- Contracts of the program's functions, part 4: own work, joined in build order. -/
import Derived.Test.YtklhenblcgmfhaaJ3
import Derived.Maps.AppendAt
import Derived.Laws.MakeOwn
import Derived.Deep.RegionLaw
namespace Go.Proofs.Ytklhenblcgmfhaa
open Go.RowKit
set_option maxRecDepth 100000
set_option linter.unusedVariables false
theorem MeS.sto {W : World} {hb ob gp n cap mb : Nat} {pu : Int} {f : Nat → Nat} {B : Nat → Prop} {it ke : Nat → Int} {va : Nat → ByteArray} {p hole : Nat} (h : MeS W hb ob gp n cap mb pu f B it ke va hole) {x : Nat} (hp : p < n) (hB : B x) :
    W.cell? ⟨hb, 1, none⟩ = some (.slice (some ⟨gp, 0, none⟩) n cap) ∧ W.cell? ⟨gp, p, none⟩ = some (.pointer (some ⟨f p, 0, none⟩)) ∧ W.frozen? ⟨gp, p, none⟩ = false ∧ (∃ q : Int, W.cell? ⟨x, 3, none⟩ = some (.int .i64 q)) ∧ W.frozen? ⟨x, 3, none⟩ = false ∧ x ≠ gp := by
  obtain ⟨cs, ec, hsz, hc⟩ := h.row
  obtain ⟨q, px⟩ := h.th x hB
  exact ⟨h.c1, h.at hp, by simp [World.frozen?, ec], ⟨q, by simp [World.cell?, px]⟩, by simp [World.frozen?, px], ne_of_type px ec (by decide)⟩
set_option maxHeartbeats 4000000 in
theorem riseS_any {hb ob gp n cap mb : Nat} {pu : Int} {f : Nat → Nat} {B : Nat → Prop} {it ke : Nat → Int} {va : Nat → ByteArray} {lv : Value} {nx mod : Int} {tur : Bool} {lies : Int} {N : Nat} (p x : Nat) (w : World) (h : MeS w hb ob gp n cap mb pu f B it ke va p) (ho : Ordr w ob lv nx mod tur lies N) (hN : N < 999999999900) (hp : p < n) (hl : n ≤ 4 * (p / 2) + 2) (hB : B x) (hx : ¬ Img n f p x) :
    Calls Try.prog 52 #[.pointer (some ⟨hb, 0, none⟩), .int .i64 (p : Int), .pointer (some ⟨x, 0, none⟩)] w fun e w' => e = .returned (.tuple #[]) ∧ ∃ f' M, LayS w w' hb ob gp n cap mb pu f f' B it ke va lv nx mod tur lies N M p x := by
  have hcap : n ≤ 1099511627776 := h.lim
  have HB : Hid (B x ∧ ¬ Img n f p x) := ⟨hB, hx⟩
  have h1 := h.c1
  by_cases c : 1 < n
  · obtain ⟨o1, o2, o3, o4, o5⟩ := acr_is hp c
    have AC : Hid (Calls Try.prog 68 #[.pointer (some ⟨hb, 0, none⟩), .int .i64 (p : Int)] w fun e w' => e = .returned (.int .i64 (acr n p : Int)) ∧ w' = w) := acrossS_any p w h hp c
    have OV : Hid (Calls Try.prog 69 #[.pointer (some ⟨hb, 0, none⟩), .pointer (some ⟨x, 0, none⟩), .pointer (some ⟨f (acr n p), 0, none⟩), .int .i64 (acr n p : Int)] w (Asks w ob lv nx mod tur lies N (OvP (leB mod tur it ke) x (f (acr n p)) (acr n p)))) := overS_any x (f (acr n p)) (acr n p) w h ho (by omega) hB (h.fB _ o1 o2) (by omega)
    have a0 := h.at o1
    have HM : Hid (MeS w hb ob gp n cap mb pu f B it ke va p ∧ Ordr w ob lv nx mod tur lies N) := ⟨h, ho⟩
    have HA : Hid (acr n p ≠ p ∧ acr n p / 2 ≤ p / 2) := ⟨o2, o5⟩
    have FI : Hid (Ord (leB mod tur it ke) n f p → (if acr n p % 2 = 0 then leB mod tur it ke x (f (acr n p)) else leB mod tur it ke (f (acr n p)) x) → Ord (leB mod tur it ke) n (setF f p (f (acr n p))) (acr n p) ∧ Fits (leB mod tur it ke) n (setF f p (f (acr n p))) (acr n p) x) := fun a b => a.first (leB_total _ _ _ _) hp c hl b
    have FS : Hid (Ord (leB mod tur it ke) n f p → (if acr n p % 2 = 0 then leB mod tur it ke (f (acr n p)) x else leB mod tur it ke x (f (acr n p))) → Fits (leB mod tur it ke) n f p x) := fun a b => a.stays (leB_total _ _ _ _) hp c hl b
    clear h ho hB hx o2 o3 o4 o5
    generalize acr n p = o at *
    go_enter Try.func52, Try.ntmps52
    go_wp2_with (first | (go_at_call 68; refine Calls.mono AC.out ?_; rintro e w8 ⟨rfl, rfl⟩))
    refine Calls.mono OV.out ?_
    rintro e w5 ⟨t, rfl, hp5, h5, hT⟩
    have H5 : Hid ((lies = 0 → OvP (leB mod tur it ke) x (f o) o t) ∧ Ordr w5 ob lv nx mod tur lies (N + 1) ∧ Tn (fun k => k = ob) w8 w5) := ⟨hp5, h5, hT⟩
    have HM5 : Hid (MeS w5 hb ob gp n cap mb pu f B it ke va p) := HM.out.1.keep (keep_ask HM.out.2 hT)
    clear hp5 h5 hT OV AC a0 h1
    have b1 := HM5.out.c1
    cases t
    · have ST : Hid (RisS w8 w5 hb ob gp n cap mb pu f f B it ke va lv nx mod tur lies N (N + 1) p p x) := by
        refine ⟨HM5.out, H5.out.2.1, hp, by omega, by rw [show N + 1 - N = 1 by omega]; omega, fun e0 h0 => ⟨h0, FS.out h0 ?_⟩, fun _ => Iff.rfl, H5.out.2.2.mono (fun k _ e => .inl e)⟩
        have h2 := H5.out.1 e0
        unfold OvP at h2
        split <;> rename_i c8
        · rw [if_pos c8] at h2
          exact h2.2 rfl
        · rw [if_neg c8] at h2
          exact h2.2 rfl
      clear HM5 H5 HM FI FS b1
      go_wp2_with fail
      go_loopw [1] (fun t wr => ∃ (p' : Nat) (f' : Nat → Nat) (M : Nat), t = .int .i64 (p' : Int) ∧ p' < n ∧ Hid (RisS w8 wr hb ob gp n cap mb pu f f' B it ke va lv nx mod tur lies N M p p' x)) (fun t _ => (intOf t).toNat)
      case atStart => exact ⟨p, f, N + 1, rfl, hp, ST⟩
      case round =>
        obtain ⟨p', f', M, rfl, hp', hS⟩ := hrel
        have hM : M - N ≤ 42 := by
          have h1 := hS.out.few
          rcases Nat.lt_or_ge 42 (M - N) with h2 | h2
          · have h3 : 2 ^ 43 ≤ 2 ^ (M - N) := Nat.pow_le_pow_right (by decide) h2
            have h4 : 2 ^ (M - N) * 1 ≤ 2 ^ (M - N) * (p' / 2 + 1) := Nat.mul_le_mul_left _ (by omega)
            have h5 : (2 : Nat) ^ 43 = 8796093022208 := by decide
            omega
          · exact h2
        by_cases c9 : p' ≤ 1
        · obtain ⟨b1, a1, z1, ⟨q, z2⟩, z3, z4⟩ := hS.out.me.sto hp' HB.out.1
          have hk : ¬ (1 : Int) < (p' : Int) := by omega
          have hk2 : decide ((1 : Int) < (p' : Int)) = false := decide_eq_false hk
          have hk3 : decide (1 < p') = false := decide_eq_false (by omega)
          go_wp2_with fail
          go_quiet (fail)
          obtain ⟨W9, hW9⟩ : ∃ W9, W9 = wr.drewN nq := ⟨_, rfl⟩
          have HF : Hid (LayS w8 ((W9.setCell ⟨gp, p', none⟩ (.pointer (some ⟨x, 0, none⟩))).setCell ⟨x, 3, none⟩ (.int .i64 (p' : Int))) hb ob gp n cap mb pu f (setF f' p' x) B it ke va lv nx mod tur lies N M p x) := by
            rw [hW9]
            exact hS.out.end (hS.out.me.keep fun _ _ _ _ _ => rfl) (hS.out.od.kept rfl) ((Tn.refl _ _).drewN _) (Nat.le_refl _) (by omega) HB.out.1 HB.out.2 (fun _ => .inl c9)
          have b1' : W9.cell? ⟨hb, 1, none⟩ = some (.slice (some ⟨gp, 0, none⟩) n cap) := by rw [hW9]; exact b1
          have a1' : W9.cell? ⟨gp, p', none⟩ = some (.pointer (some ⟨f' p', 0, none⟩)) := by rw [hW9]; exact a1
          have z1' : W9.frozen? ⟨gp, p', none⟩ = false := by rw [hW9]; exact z1
          have z2' : W9.cell? ⟨x, 3, none⟩ = some (.int .i64 q) := by rw [hW9]; exact z2
          have z3' : W9.frozen? ⟨x, 3, none⟩ = false := by rw [hW9]; exact z3
          rw [← hW9]
          clear hW9 b1 a1 z1 z2 z3 hS
          go_wp2_with fail
          refine bodyPost_end (results_none rfl _ _ _) rfl ?_
          exact ⟨rfl, _, _, HF.out⟩
        · have h1 : 1 < p' := by omega
          have hk : (1 : Int) < (p' : Int) := by omega
          have hk2 : decide ((1 : Int) < (p' : Int)) = true := decide_eq_true hk
          have hk3 : decide (1 < p') = true := decide_eq_true h1
          have hu := up_lt h1
          have hun : up p' < n := by omega
          have hui : ((up p' : Nat) : Int) < (n : Int) := by omega
          have huz : (0 : Int) ≤ ((up p' : Nat) : Int) := by omega
          have b1 := hS.out.me.c1
          have a1 := hS.out.me.at (i := up p') (by omega)
          have OV : Hid (Calls Try.prog 69 #[.pointer (some ⟨hb, 0, none⟩), .pointer (some ⟨x, 0, none⟩), .pointer (some ⟨f' (up p'), 0, none⟩), .int .i64 (p' : Int)] wr.drew (Asks wr.drew ob lv nx mod tur lies M (OvP (leB mod tur it ke) x (f' (up p')) p'))) := overS_any x (f' (up p')) p' wr.drew (hS.out.me.keep fun _ _ _ _ _ => rfl) (hS.out.od.kept rfl) (by omega) HB.out.1 (hS.out.me.fB _ (by omega) (by omega)) (by omega)
          have AB : Hid (∀ W, Calls Try.prog 61 #[.int .i64 (p' : Int)] W fun e w' => e = .returned (.int .i64 (up p' : Int)) ∧ w' = W) := fun W => above_any p' h1 (by omega) W
          go_wp2_with fail
          rename_i hz
          go_region_held3 (fun w8 => w8.cell? ⟨hb, 1, none⟩ = some (.slice (some ⟨gp, 0, none⟩) n cap) ∧ w8.cell? ⟨gp, up p', none⟩ = some (.pointer (some ⟨f' (up p'), 0, none⟩))) (first | (simp [go_sem, *]; done) | (trace_state; fail))
            (first
              | (go_at_call 61; refine Calls.mono (AB.out _) ?_; rintro e w8 ⟨rfl, rfl⟩)
              | (go_at_call 69; refine Calls.mono OV.out ?_; rintro e w5 ⟨t, rfl, hp5, h5, hT⟩; have H5 : Hid ((lies = 0 → OvP (leB mod tur it ke) x (f' (up p')) p' t) ∧ Ordr w5 ob lv nx mod tur lies (M + 1) ∧ Tn (fun k => k = ob) wr w5) := ⟨hp5, h5, ⟨hT.os, hT.tape, hT.output, hT.size, hT.block⟩⟩; have HM5 := hS.out.me.keep (keep_ask hS.out.od H5.out.2.2); have m0 := HM5.c1; have m1 := HM5.at (i := up p') (by omega); clear hp5 h5 hT HM5))
          refine hz _ _ ?_
          clear m0 m1 b1 a1 OV
          have HM5 : Hid (MeS w5 hb ob gp n cap mb pu f' B it ke va p') := hS.out.me.keep (keep_ask hS.out.od H5.out.2.2)
          cases t
          · have HF : Hid (LayS w8 ((w5.setCell ⟨gp, p', none⟩ (.pointer (some ⟨x, 0, none⟩))).setCell ⟨x, 3, none⟩ (.int .i64 (p' : Int))) hb ob gp n cap mb pu f (setF f' p' x) B it ke va lv nx mod tur lies N (M + 1) p x) := by
              refine hS.out.end HM5.out H5.out.2.1 H5.out.2.2 (by omega) (Nat.le_refl _) HB.out.1 HB.out.2 (fun e0 => .inr ?_)
              have h2 := H5.out.1 e0
              unfold OvP at h2
              split <;> rename_i c8
              · rw [if_pos c8] at h2
                exact h2.2 rfl
              · rw [if_neg c8] at h2
                exact h2.2 rfl
            obtain ⟨b1, a1, z1, ⟨q, z2⟩, z3, z4⟩ := HM5.out.sto hp' HB.out.1
            go_wp2_with fail
            refine bodyPost_end (results_none rfl _ _ _) rfl ?_
            exact ⟨rfl, _, _, HF.out⟩
          · have PU : Hid (Calls Try.prog 70 #[.pointer (some ⟨hb, 0, none⟩), .int .i64 (up p' : Int), .int .i64 (p' : Int)] w5 fun e w' => e = .returned (.tuple #[]) ∧ MeS w' hb ob gp n cap mb pu (setF f' p' (f' (up p'))) B it ke va (up p') ∧ Ordr w' ob lv nx mod tur lies (M + 1) ∧ Tn (fun k => k = gp ∨ B k) w5 w') := putS_any (up p') w5 HM5.out H5.out.2.1 (by omega) hp' (by omega)
            go_wp2_with (first | (go_at_call 61; refine Calls.mono (AB.out _) ?_; rintro e w8 ⟨rfl, rfl⟩) | (go_at_call 70; refine Calls.mono PU.out ?_; rintro e w6 ⟨rfl, hm6, ho6, hT6⟩))
            go_roundw
            case rel =>
              refine ⟨up p', _, M + 1, rfl, by omega, hS.out.up h1 hm6 ho6 ((H5.out.2.2.mono (fun k _ e => .inl e)).trans hT6 (fun k _ e => .inr e)) fun e0 => ?_⟩
              have h2 := H5.out.1 e0
              unfold OvP at h2
              split <;> rename_i c8
              · rw [if_pos c8] at h2
                exact h2.1 rfl
              · rw [if_neg c8] at h2
                exact h2.1 rfl
            case measure =>
              simp [intOf]
              omega
    · have PU : Hid (Calls Try.prog 70 #[.pointer (some ⟨hb, 0, none⟩), .int .i64 (o : Int), .int .i64 (p : Int)] w5 fun e w' => e = .returned (.tuple #[]) ∧ MeS w' hb ob gp n cap mb pu (setF f p (f o)) B it ke va o ∧ Ordr w' ob lv nx mod tur lies (N + 1) ∧ Tn (fun k => k = gp ∨ B k) w5 w') := putS_any o w5 HM5.out H5.out.2.1 o1 hp HA.out.1
      have MK : Hid (∀ w6, MeS w6 hb ob gp n cap mb pu (setF f p (f o)) B it ke va o → Ordr w6 ob lv nx mod tur lies (N + 1) → Tn (fun k => k = gp ∨ B k) w5 w6 → RisS w8 w6 hb ob gp n cap mb pu f (setF f p (f o)) B it ke va lv nx mod tur lies N (N + 1) p o x) := fun w6 hm6 ho6 hT6 => by
        refine ⟨hm6, ho6, o1, by omega, by rw [show N + 1 - N = 1 by omega]; have := HA.out; omega, fun e0 h0 => FI.out h0 ?_, fun b => img_put o1 hp HA.out.1 b, (H5.out.2.2.mono (fun k _ e => .inl e)).trans hT6 (fun k _ e => .inr e)⟩
        have h2 := H5.out.1 e0
        unfold OvP at h2
        split <;> rename_i c8
        · rw [if_pos c8] at h2
          exact h2.1 rfl
        · rw [if_neg c8] at h2
          exact h2.1 rfl
      go_wp2_with (first | (go_at_call 70; refine Calls.mono PU.out ?_; rintro e w6 ⟨rfl, hm6, ho6, hT6⟩; have ST := MK.out w6 hm6 ho6 hT6; replace ST : Hid _ := ST; clear hm6 ho6 hT6))
      clear HM5 H5 HM FI FS b1 PU MK
      go_loopw [1] (fun t wr => ∃ (p' : Nat) (f' : Nat → Nat) (M : Nat), t = .int .i64 (p' : Int) ∧ p' < n ∧ Hid (RisS w8 wr hb ob gp n cap mb pu f f' B it ke va lv nx mod tur lies N M p p' x)) (fun t _ => (intOf t).toNat)
      case atStart => exact ⟨o, _, N + 1, rfl, o1, ST⟩
      case round =>
        obtain ⟨p', f', M, rfl, hp', hS⟩ := hrel
        have hM : M - N ≤ 42 := by
          have h1 := hS.out.few
          rcases Nat.lt_or_ge 42 (M - N) with h2 | h2
          · have h3 : 2 ^ 43 ≤ 2 ^ (M - N) := Nat.pow_le_pow_right (by decide) h2
            have h4 : 2 ^ (M - N) * 1 ≤ 2 ^ (M - N) * (p' / 2 + 1) := Nat.mul_le_mul_left _ (by omega)
            have h5 : (2 : Nat) ^ 43 = 8796093022208 := by decide
            omega
          · exact h2
        by_cases c9 : p' ≤ 1
        · obtain ⟨b1, a1, z1, ⟨q, z2⟩, z3, z4⟩ := hS.out.me.sto hp' HB.out.1
          have hk : ¬ (1 : Int) < (p' : Int) := by omega
          have hk2 : decide ((1 : Int) < (p' : Int)) = false := decide_eq_false hk
          have hk3 : decide (1 < p') = false := decide_eq_false (by omega)
          go_wp2_with fail
          go_quiet (fail)
          obtain ⟨W9, hW9⟩ : ∃ W9, W9 = wr.drewN nq := ⟨_, rfl⟩
          have HF : Hid (LayS w8 ((W9.setCell ⟨gp, p', none⟩ (.pointer (some ⟨x, 0, none⟩))).setCell ⟨x, 3, none⟩ (.int .i64 (p' : Int))) hb ob gp n cap mb pu f (setF f' p' x) B it ke va lv nx mod tur lies N M p x) := by
            rw [hW9]
            exact hS.out.end (hS.out.me.keep fun _ _ _ _ _ => rfl) (hS.out.od.kept rfl) ((Tn.refl _ _).drewN _) (Nat.le_refl _) (by omega) HB.out.1 HB.out.2 (fun _ => .inl c9)
          have b1' : W9.cell? ⟨hb, 1, none⟩ = some (.slice (some ⟨gp, 0, none⟩) n cap) := by rw [hW9]; exact b1
          have a1' : W9.cell? ⟨gp, p', none⟩ = some (.pointer (some ⟨f' p', 0, none⟩)) := by rw [hW9]; exact a1
          have z1' : W9.frozen? ⟨gp, p', none⟩ = false := by rw [hW9]; exact z1
          have z2' : W9.cell? ⟨x, 3, none⟩ = some (.int .i64 q) := by rw [hW9]; exact z2
          have z3' : W9.frozen? ⟨x, 3, none⟩ = false := by rw [hW9]; exact z3
          rw [← hW9]
          clear hW9 b1 a1 z1 z2 z3 hS
          go_wp2_with fail
          refine bodyPost_end (results_none rfl _ _ _) rfl ?_
          exact ⟨rfl, _, _, HF.out⟩
        · have h1 : 1 < p' := by omega
          have hk : (1 : Int) < (p' : Int) := by omega
          have hk2 : decide ((1 : Int) < (p' : Int)) = true := decide_eq_true hk
          have hk3 : decide (1 < p') = true := decide_eq_true h1
          have hu := up_lt h1
          have hun : up p' < n := by omega
          have hui : ((up p' : Nat) : Int) < (n : Int) := by omega
          have huz : (0 : Int) ≤ ((up p' : Nat) : Int) := by omega
          have b1 := hS.out.me.c1
          have a1 := hS.out.me.at (i := up p') (by omega)
          have OV : Hid (Calls Try.prog 69 #[.pointer (some ⟨hb, 0, none⟩), .pointer (some ⟨x, 0, none⟩), .pointer (some ⟨f' (up p'), 0, none⟩), .int .i64 (p' : Int)] wr.drew (Asks wr.drew ob lv nx mod tur lies M (OvP (leB mod tur it ke) x (f' (up p')) p'))) := overS_any x (f' (up p')) p' wr.drew (hS.out.me.keep fun _ _ _ _ _ => rfl) (hS.out.od.kept rfl) (by omega) HB.out.1 (hS.out.me.fB _ (by omega) (by omega)) (by omega)
          have AB : Hid (∀ W, Calls Try.prog 61 #[.int .i64 (p' : Int)] W fun e w' => e = .returned (.int .i64 (up p' : Int)) ∧ w' = W) := fun W => above_any p' h1 (by omega) W
          go_wp2_with fail
          rename_i hz
          go_region_held3 (fun w8 => w8.cell? ⟨hb, 1, none⟩ = some (.slice (some ⟨gp, 0, none⟩) n cap) ∧ w8.cell? ⟨gp, up p', none⟩ = some (.pointer (some ⟨f' (up p'), 0, none⟩))) (first | (simp [go_sem, *]; done) | (trace_state; fail))
            (first
              | (go_at_call 61; refine Calls.mono (AB.out _) ?_; rintro e w8 ⟨rfl, rfl⟩)
              | (go_at_call 69; refine Calls.mono OV.out ?_; rintro e w5 ⟨t, rfl, hp5, h5, hT⟩; have H5 : Hid ((lies = 0 → OvP (leB mod tur it ke) x (f' (up p')) p' t) ∧ Ordr w5 ob lv nx mod tur lies (M + 1) ∧ Tn (fun k => k = ob) wr w5) := ⟨hp5, h5, ⟨hT.os, hT.tape, hT.output, hT.size, hT.block⟩⟩; have HM5 := hS.out.me.keep (keep_ask hS.out.od H5.out.2.2); have m0 := HM5.c1; have m1 := HM5.at (i := up p') (by omega); clear hp5 h5 hT HM5))
          refine hz _ _ ?_
          clear m0 m1 b1 a1 OV
          have HM5 : Hid (MeS w5 hb ob gp n cap mb pu f' B it ke va p') := hS.out.me.keep (keep_ask hS.out.od H5.out.2.2)
          cases t
          · have HF : Hid (LayS w8 ((w5.setCell ⟨gp, p', none⟩ (.pointer (some ⟨x, 0, none⟩))).setCell ⟨x, 3, none⟩ (.int .i64 (p' : Int))) hb ob gp n cap mb pu f (setF f' p' x) B it ke va lv nx mod tur lies N (M + 1) p x) := by
              refine hS.out.end HM5.out H5.out.2.1 H5.out.2.2 (by omega) (Nat.le_refl _) HB.out.1 HB.out.2 (fun e0 => .inr ?_)
              have h2 := H5.out.1 e0
              unfold OvP at h2
              split <;> rename_i c8
              · rw [if_pos c8] at h2
                exact h2.2 rfl
              · rw [if_neg c8] at h2
                exact h2.2 rfl
            obtain ⟨b1, a1, z1, ⟨q, z2⟩, z3, z4⟩ := HM5.out.sto hp' HB.out.1
            go_wp2_with fail
            refine bodyPost_end (results_none rfl _ _ _) rfl ?_
            exact ⟨rfl, _, _, HF.out⟩
          · have PU : Hid (Calls Try.prog 70 #[.pointer (some ⟨hb, 0, none⟩), .int .i64 (up p' : Int), .int .i64 (p' : Int)] w5 fun e w' => e = .returned (.tuple #[]) ∧ MeS w' hb ob gp n cap mb pu (setF f' p' (f' (up p'))) B it ke va (up p') ∧ Ordr w' ob lv nx mod tur lies (M + 1) ∧ Tn (fun k => k = gp ∨ B k) w5 w') := putS_any (up p') w5 HM5.out H5.out.2.1 (by omega) hp' (by omega)
            go_wp2_with (first | (go_at_call 61; refine Calls.mono (AB.out _) ?_; rintro e w8 ⟨rfl, rfl⟩) | (go_at_call 70; refine Calls.mono PU.out ?_; rintro e w6 ⟨rfl, hm6, ho6, hT6⟩))
            go_roundw
            case rel =>
              refine ⟨up p', _, M + 1, rfl, by omega, hS.out.up h1 hm6 ho6 ((H5.out.2.2.mono (fun k _ e => .inl e)).trans hT6 (fun k _ e => .inr e)) fun e0 => ?_⟩
              have h2 := H5.out.1 e0
              unfold OvP at h2
              split <;> rename_i c8
              · rw [if_pos c8] at h2
                exact h2.1 rfl
              · rw [if_neg c8] at h2
                exact h2.1 rfl
            case measure =>
              simp [intOf]
              omega
  · have e1 : n = 1 := by omega
    have e2 : p = 0 := by omega
    have ST : Hid (RisS w w hb ob gp n cap mb pu f f B it ke va lv nx mod tur lies N N p p x) := by
      refine ⟨h, ho, hp, Nat.le_refl _, by rw [Nat.sub_self]; omega, fun e0 h0 => ⟨h0, ?_⟩, fun _ => Iff.rfl, Tn.refl _ _⟩
      unfold Fits
      split
      · intro b hb hne
        omega
      · intro b hb hne
        omega
    clear h ho hB hx e2
    go_enter Try.func52, Try.ntmps52
    go_wp2_with fail
    go_loopw [1] (fun t wr => ∃ (p' : Nat) (f' : Nat → Nat) (M : Nat), t = .int .i64 (p' : Int) ∧ p' < n ∧ Hid (RisS w wr hb ob gp n cap mb pu f f' B it ke va lv nx mod tur lies N M p p' x)) (fun t _ => (intOf t).toNat)
    case atStart => exact ⟨p, f, N, rfl, hp, ST⟩
    case round =>
      obtain ⟨p', f', M, rfl, hp', hS⟩ := hrel
      have hM : M - N ≤ 42 := by
        have h1 := hS.out.few
        rcases Nat.lt_or_ge 42 (M - N) with h2 | h2
        · have h3 : 2 ^ 43 ≤ 2 ^ (M - N) := Nat.pow_le_pow_right (by decide) h2
          have h4 : 2 ^ (M - N) * 1 ≤ 2 ^ (M - N) * (p' / 2 + 1) := Nat.mul_le_mul_left _ (by omega)
          have h5 : (2 : Nat) ^ 43 = 8796093022208 := by decide
          omega
        · exact h2
      by_cases c9 : p' ≤ 1
      · obtain ⟨b1, a1, z1, ⟨q, z2⟩, z3, z4⟩ := hS.out.me.sto hp' HB.out.1
        have hk : ¬ (1 : Int) < (p' : Int) := by omega
        have hk2 : decide ((1 : Int) < (p' : Int)) = false := decide_eq_false hk
        have hk3 : decide (1 < p') = false := decide_eq_false (by omega)
        go_wp2_with fail
        go_quiet (fail)
        obtain ⟨W9, hW9⟩ : ∃ W9, W9 = wr.drewN nq := ⟨_, rfl⟩
        have HF : Hid (LayS w ((W9.setCell ⟨gp, p', none⟩ (.pointer (some ⟨x, 0, none⟩))).setCell ⟨x, 3, none⟩ (.int .i64 (p' : Int))) hb ob gp n cap mb pu f (setF f' p' x) B it ke va lv nx mod tur lies N M p x) := by
          rw [hW9]
          exact hS.out.end (hS.out.me.keep fun _ _ _ _ _ => rfl) (hS.out.od.kept rfl) ((Tn.refl _ _).drewN _) (Nat.le_refl _) (by omega) HB.out.1 HB.out.2 (fun _ => .inl c9)
        have b1' : W9.cell? ⟨hb, 1, none⟩ = some (.slice (some ⟨gp, 0, none⟩) n cap) := by rw [hW9]; exact b1
        have a1' : W9.cell? ⟨gp, p', none⟩ = some (.pointer (some ⟨f' p', 0, none⟩)) := by rw [hW9]; exact a1
        have z1' : W9.frozen? ⟨gp, p', none⟩ = false := by rw [hW9]; exact z1
        have z2' : W9.cell? ⟨x, 3, none⟩ = some (.int .i64 q) := by rw [hW9]; exact z2
        have z3' : W9.frozen? ⟨x, 3, none⟩ = false := by rw [hW9]; exact z3
        rw [← hW9]
        clear hW9 b1 a1 z1 z2 z3 hS
        go_wp2_with fail
        refine bodyPost_end (results_none rfl _ _ _) rfl ?_
        exact ⟨rfl, _, _, HF.out⟩
      · omega
end Go.Proofs.Ytklhenblcgmfhaa
namespace Go.Proofs.Ytklhenblcgmfhaa
open Go.RowKit
set_option maxRecDepth 100000
set_option linter.unusedVariables false
/-- A heap: n things, at the places f. -/
structure HsS (W : World) (base hb ob : Nat) (a : Option Addr) (n cap mb nn : Nat) (pu : Int) (f : Nat → Nat) (it ke : Nat → Int) (va : Nat → ByteArray) : Prop where
  hd : W.heap[hb]? = some (.cells #[.func (.func 28) #[.pointer (some ⟨ob, 0, none⟩)] #[], .slice a n cap, .map (some mb), .int .i64 pu] 95)
  row : W.ownsRow base 96 1 (.slice a n cap) n ((List.range n).map fun i => .pointer (some ⟨f i, 0, none⟩))
  lim : n ≤ 1000000000
  pl : ∀ i, i < n → W.heap[f i]? = some (.cells #[.int .i64 (it (f i)), .int .i64 (ke (f i)), .string (va (f i)), .int .i64 (i : Int)] 98)
  wf : ∀ i, i < n → -9223372036854775808 ≤ ke (f i) ∧ ke (f i) ≤ 9223372036854775807
  itr : ∀ i, i < n → 1 ≤ it (f i) ∧ it (f i) ≤ pu
  iti : ∀ i j, i < n → j < n → it (f i) = it (f j) → i = j
  pu0 : 0 ≤ pu
  pu1 : pu ≤ 1000000000
  nn1 : (nn : Int) ≤ pu + 1000000000
  mp : ∃ g, Mp W mb nn g ∧ ∀ i b, g i = some b ↔ ∃ j, j < n ∧ f j = b ∧ it b = i
  ge : base ≤ hb ∧ base ≤ ob ∧ base ≤ mb ∧ ∀ i, i < n → base ≤ f i
theorem HsS.inj {W : World} {base hb ob : Nat} {a : Option Addr} {n cap mb nn : Nat} {pu : Int} {f : Nat → Nat} {it ke : Nat → Int} {va : Nat → ByteArray} (h : HsS W base hb ob a n cap mb nn pu f it ke va) {i j : Nat} (hi : i < n) (hj : j < n) (e : f i = f j) : i = j := h.iti i j hi hj (by rw [e])
theorem HsS.cells {W : World} {base hb ob : Nat} {a : Option Addr} {n cap mb nn : Nat} {pu : Int} {f : Nat → Nat} {it ke : Nat → Int} {va : Nat → ByteArray} (h : HsS W base hb ob a n cap mb nn pu f it ke va) : W.cell? ⟨hb, 1, none⟩ = some (.slice a n cap) ∧ W.cell? ⟨hb, 2, none⟩ = some (.map (some mb)) ∧ W.cell? ⟨hb, 3, none⟩ = some (.int .i64 pu) ∧ (∀ i, W.frozen? ⟨hb, i, none⟩ = false) := by
  simp [World.cell?, World.frozen?, h.hd]
/-- With something in it. -/
theorem HsS.some' {W : World} {base hb ob : Nat} {a : Option Addr} {n cap mb nn : Nat} {pu : Int} {f : Nat → Nat} {it ke : Nat → Int} {va : Nat → ByteArray} (h : HsS W base hb ob a n cap mb nn pu f it ke va) (hn : 0 < n) : ∃ gp, a = some ⟨gp, 0, none⟩ ∧ base ≤ gp ∧ n ≤ cap ∧ cap ≤ maxLen ∧ ∃ cs : Array Value, W.heap[gp]? = some (.cells cs 96) ∧ cs.size = cap ∧ ∀ i, i < n → cs[i]? = some (.pointer (some ⟨f i, 0, none⟩)) := by
  rcases h.row.2 with ⟨e, e0⟩ | ⟨g, cap', cur, e, hb', hg, h1, h2, h3, h4⟩
  · omega
  · injection e with e1 _ e3
    subst e1 e3
    refine ⟨g, rfl, hb', by omega, by omega, cur, hg, by omega, fun i hi => ?_⟩
    have q4 := congrArg (fun l => l[i]?) h4
    simp only [Nat.mul_one] at q4
    rw [List.getElem?_take_of_lt hi] at q4
    rw [← Array.getElem?_toList, q4]
    simp [hi]
/-- A hole at the place p, x beside. -/
theorem HsS.me {W : World} {base hb ob : Nat} {gp n cap mb nn : Nat} {pu : Int} {f : Nat → Nat} {it ke : Nat → Int} {va : Nat → ByteArray} (h : HsS W base hb ob (some ⟨gp, 0, none⟩) n cap mb nn pu f it ke va) (p : Nat) (hn : 0 < n) : MeS W hb ob gp n cap mb pu f (fun b => Img n f n b) it ke va p := by
  obtain ⟨gp', e, _, h1, h2, cs, h3, h4, h5⟩ := h.some' hn
  cases e
  have hl := h.lim
  refine ⟨h.hd, ⟨cs, h3, h4, h5⟩, h1, by omega, ?_, fun i hi _ => ⟨i, hi, by omega, rfl⟩, fun i hi _ => h.pl i hi, ?_⟩
  · rintro b ⟨i, hi, _, rfl⟩
    exact ⟨_, h.pl i hi⟩
  · rintro b ⟨i, hi, _, rfl⟩
    have h6 := h.itr i hi
    have h7 := h.wf i hi
    have h8 := h.pu1
    omega
def FilS (w0 : World) (hb ob gp n cap mb : Nat) (pu : Int) (f0 : Nat → Nat) (B : Nat → Prop) (it ke : Nat → Int) (va : Nat → ByteArray) (lv : Value) (nx mod : Int) (tur : Bool) (lies : Int) (N0 p0 x : Nat) (w : World) (f : Nat → Nat) (N : Nat) : Prop :=
  MeS w hb ob gp n cap mb pu f B it ke va n ∧ Ordr w ob lv nx mod tur lies N ∧ N0 ≤ N ∧ 2 ^ (N - N0) ≤ 4 * (n + 1) * (n + 1) ∧ (lies = 0 → Ord (leB mod tur it ke) n f0 p0 → Ord (leB mod tur it ke) n f n) ∧ (∀ b, Img n f n b ↔ Img n f0 p0 b ∨ b = x) ∧ Tn (fun k => k = ob ∨ k = gp ∨ B k) w0 w
theorem fillS_any {hb ob gp n cap mb : Nat} {pu : Int} {f : Nat → Nat} {B : Nat → Prop} {it ke : Nat → Int} {va : Nat → ByteArray} {lv : Value} {nx mod : Int} {tur : Bool} {lies : Int} {N : Nat} (p x : Nat) (w : World) (h : MeS w hb ob gp n cap mb pu f B it ke va p) (ho : Ordr w ob lv nx mod tur lies N) (hN : N < 999999999800) (hp : p < n) (hB : B x) (hx : ¬ Img n f p x) :
    Calls Try.prog 57 #[.pointer (some ⟨hb, 0, none⟩), .int .i64 (p : Int), .pointer (some ⟨x, 0, none⟩)] w fun e w' => e = .returned (.tuple #[]) ∧ ∃ f' M, FilS w hb ob gp n cap mb pu f B it ke va lv nx mod tur lies N p x w' f' M := by
  have SI : Hid (Calls Try.prog 72 #[.pointer (some ⟨hb, 0, none⟩), .int .i64 (p : Int)] w (SinksS w hb ob gp n cap mb pu f B it ke va lv nx mod tur lies N p)) := sinkS_any p w h ho (by omega) hp
  have hlim := h.lim
  clear h ho
  go_enter Try.func57, Try.ntmps57
  go_wp2_with (first | (go_at_call 72; refine Calls.mono SI.out ?_; rintro e w1 ⟨p1, f1, N1, rfl, hS, hlast⟩))
  have hs : N1 - N ≤ 40 := pow_lt_many hS.many (by have := hS.lt; omega)
  refine Calls.mono (riseS_any p1 x w1 hS.me hS.od (by have := hS.ge; omega) hS.lt hlast hB (fun hi => hx ((hS.img x).1 hi))) ?_
  rintro e w2 ⟨rfl, f2, N2, hL⟩
  have HF : Hid (FilS w hb ob gp n cap mb pu f B it ke va lv nx mod tur lies N p x w2 f2 N2) := by
    refine ⟨hL.me, hL.od, Nat.le_trans hS.ge hL.ge, ?_, fun e0 h0 => hL.ord e0 (hS.ord e0 h0), fun b => (hL.img b).trans (or_congr (hS.img b) Iff.rfl), hS.tn.trans hL.tn (fun k _ e => e)⟩
    have h1 := hS.many
    have h2 := hL.few
    have h3 := hS.ge
    have h4 := hL.ge
    have h5 := hS.lt
    have e1 : N2 - N = (N1 - N) + (N2 - N1) := by omega
    rw [e1, Nat.pow_add]
    have h6 : 2 ^ (N1 - N) * 1 ≤ 2 ^ (N1 - N) * (p / 2 + 1) := Nat.mul_le_mul_left _ (by omega)
    calc 2 ^ (N1 - N) * 2 ^ (N2 - N1) ≤ (n + 1) * (4 * (n + 1)) := Nat.mul_le_mul (by omega) (by omega)
      _ = 4 * (n + 1) * (n + 1) := by rw [Nat.mul_comm]
  clear hS hL
  go_wp2_with fail
  refine bodyPost_end (results_none rfl _ _ _) rfl ?_
  exact ⟨rfl, _, _, HF.out⟩
end Go.Proofs.Ytklhenblcgmfhaa
namespace Go.Proofs.Ytklhenblcgmfhaa
open Go.RowKit
set_option maxRecDepth 100000
set_option linter.unusedVariables false
theorem lenS_any {base hb ob : Nat} {a : Option Addr} {n cap mb nn : Nat} {pu : Int} {f : Nat → Nat} {it ke : Nat → Int} {va : Nat → ByteArray} (w : World) (h : HsS w base hb ob a n cap mb nn pu f it ke va) :
    Calls Try.prog 34 #[.pointer (some ⟨hb, 0, none⟩)] w fun e w' => e = .returned (.int .i64 (n : Int)) ∧ w' = w := by
  obtain ⟨c1, c2, c3, c4⟩ := h.cells
  clear h
  go_enter Try.func34, Try.ntmps34
  go_wp2_with fail
  go_ret
  exact ⟨rfl, rfl⟩
theorem firstS_any {base hb ob : Nat} {a : Option Addr} {n cap mb nn : Nat} {pu : Int} {f : Nat → Nat} {it ke : Nat → Int} {va : Nat → ByteArray} (w : World) (h : HsS w base hb ob a n cap mb nn pu f it ke va) :
    Calls Try.prog 56 #[.pointer (some ⟨hb, 0, none⟩)] w fun e w' => e = .returned (pV (fst? n f)) ∧ w' = w := by
  obtain ⟨c1, c2, c3, c4⟩ := h.cells
  by_cases c : n = 0
  · subst c
    clear h
    go_enter Try.func56, Try.ntmps56
    go_wp2_with fail
    go_ret
    exact ⟨rfl, rfl⟩
  · obtain ⟨gp, rfl, _, hle, _, cs, e1, e2, e3⟩ := h.some' (by omega)
    have c0 : w.cell? ⟨gp, 0, none⟩ = some (.pointer (some ⟨f 0, 0, none⟩)) := by simp [World.cell?, e1, e3 0 (by omega)]
    have hn : 0 < n := by omega
    have hl := h.lim
    rw [show fst? n f = some (f 0) by unfold fst?; rw [if_neg c]]
    clear h e1 e2 e3
    go_enter Try.func56, Try.ntmps56
    go_wp2_with fail
    go_ret
    exact ⟨rfl, rfl⟩
theorem lastS_any {base hb ob : Nat} {a : Option Addr} {n cap mb nn : Nat} {pu : Int} {f : Nat → Nat} {it ke : Nat → Int} {va : Nat → ByteArray} (w : World) (h : HsS w base hb ob a n cap mb nn pu f it ke va) :
    Calls Try.prog 54 #[.pointer (some ⟨hb, 0, none⟩)] w fun e w' => e = .returned (pV (lst? n f)) ∧ w' = w := by
  obtain ⟨c1, c2, c3, c4⟩ := h.cells
  have hl := h.lim
  by_cases c : n < 2
  · have F : Hid (Calls Try.prog 56 #[.pointer (some ⟨hb, 0, none⟩)] w fun e w' => e = .returned (pV (fst? n f)) ∧ w' = w) := firstS_any w h
    rw [show lst? n f = fst? n f by unfold lst? fst?; split; rfl; rw [if_pos (by omega)]]
    clear h
    go_enter Try.func54, Try.ntmps54
    go_wp2_with (first | (go_at_call 56; refine Calls.mono F.out ?_; rintro e w8 ⟨rfl, rfl⟩))
    go_ret
    exact ⟨rfl, rfl⟩
  · obtain ⟨gp, rfl, _, hle, _, cs, e1, e2, e3⟩ := h.some' (by omega)
    have c0 : w.cell? ⟨gp, 1, none⟩ = some (.pointer (some ⟨f 1, 0, none⟩)) := by simp [World.cell?, e1, e3 1 (by omega)]
    have hn : 1 < n := by omega
    rw [show lst? n f = some (f 1) by unfold lst?; rw [if_neg (by omega), if_neg (by omega)]]
    clear h e1 e2 e3
    go_enter Try.func54, Try.ntmps54
    go_wp2_with fail
    go_ret
    exact ⟨rfl, rfl⟩
theorem results_tmp4S {fn : Func} {t u v x : Tmp} (h : fn.results = #[.tmp t, .tmp u, .tmp v, .tmp x]) (tmps : Array Value) (P : Program) (w : World) :
    (results fn tmps).run P w = .ok (.tuple #[tmps.getD t undef, tmps.getD u undef, tmps.getD v undef, tmps.getD x undef]) w := by
  simp [results, h]
/-- What is told of a thing, or of none. -/
def telS (it ke : Nat → Int) (va : Nat → ByteArray) : Option Nat → Value
  | none => .tuple #[.int .i64 0, .int .i64 0, .string (⟨#[]⟩ : ByteArray), .bool false]
  | some b => .tuple #[.int .i64 (it b), .int .i64 (ke b), .string (va b), .bool true]
theorem tellS_any {it ke : Nat → Int} {va : Nat → ByteArray} (o : Option Nat) (w : World) (h : ∀ b, o = some b → ∃ q : Int, w.heap[b]? = some (.cells #[.int .i64 (it b), .int .i64 (ke b), .string (va b), .int .i64 q] 98)) :
    Calls Try.prog 55 #[pV o] w fun e w' => e = .returned (telS it ke va o) ∧ ∃ m, w' = w.drewN m := by
  cases o with
  | none =>
    clear h
    simp only [pV]
    go_enter Try.func55, Try.ntmps55
    go_wp2_with fail
    (try simp only [Exit.inBlock, Exit.then]); refine bodyPost_ret (results_tmp4S rfl _ _ _) rfl ?_
    exact ⟨rfl, 0, rfl⟩
  | some b =>
    obtain ⟨q, e⟩ := h b rfl
    have x0 : w.cell? ⟨b, 0, none⟩ = some (.int .i64 (it b)) := by simp [World.cell?, e]
    have x1 : w.cell? ⟨b, 1, none⟩ = some (.int .i64 (ke b)) := by simp [World.cell?, e]
    have x2 : w.cell? ⟨b, 2, none⟩ = some (.string (va b)) := by simp [World.cell?, e]
    clear h e
    simp only [pV]
    go_enter Try.func55, Try.ntmps55
    go_wp2_with fail
    go_quiet (fail)
    go_wp2_with fail
    (try simp only [Exit.inBlock, Exit.then]); refine bodyPost_ret (results_tmp4S rfl _ _ _) rfl ?_
    exact ⟨rfl, _, rfl⟩
theorem HsS.thing {W : World} {base hb ob : Nat} {a : Option Addr} {n cap mb nn : Nat} {pu : Int} {f : Nat → Nat} {it ke : Nat → Int} {va : Nat → ByteArray} (h : HsS W base hb ob a n cap mb nn pu f it ke va) (o : Option Nat) (ho : ∀ b, o = some b → Img n f n b) : ∀ b, o = some b → ∃ q : Int, W.heap[b]? = some (.cells #[.int .i64 (it b), .int .i64 (ke b), .string (va b), .int .i64 q] 98) := fun b e => by
  obtain ⟨i, hi, _, rfl⟩ := ho b e
  exact ⟨_, h.pl i hi⟩
theorem minS_any {base hb ob : Nat} {a : Option Addr} {n cap mb nn : Nat} {pu : Int} {f : Nat → Nat} {it ke : Nat → Int} {va : Nat → ByteArray} (w : World) (h : HsS w base hb ob a n cap mb nn pu f it ke va) :
    Calls Try.prog 33 #[.pointer (some ⟨hb, 0, none⟩)] w fun e w' => e = .returned (telS it ke va (fst? n f)) ∧ ∃ m, w' = w.drewN m := by
  have F : Hid (Calls Try.prog 56 #[.pointer (some ⟨hb, 0, none⟩)] w fun e w' => e = .returned (pV (fst? n f)) ∧ w' = w) := firstS_any w h
  have T : Hid (Calls Try.prog 55 #[pV (fst? n f)] w fun e w' => e = .returned (telS it ke va (fst? n f)) ∧ ∃ m, w' = w.drewN m) := tellS_any _ w (h.thing _ fst_in)
  clear h
  generalize fst? n f = o at *
  cases o <;> simp only [telS] at T ⊢ <;>
  · go_enter Try.func33, Try.ntmps33
    go_wp2_with (first | (go_at_call 56; refine Calls.mono F.out ?_; rintro e w8 ⟨rfl, rfl⟩) | (go_at_call 55; refine Calls.mono T.out ?_; rintro e w9 ⟨rfl, m, rfl⟩))
    (try simp only [Exit.inBlock, Exit.then]); refine bodyPost_ret (results_tmp4S rfl _ _ _) rfl ?_
    exact ⟨rfl, _, rfl⟩
end Go.Proofs.Ytklhenblcgmfhaa
namespace Go.Proofs.Ytklhenblcgmfhaa
open Go.RowKit
set_option maxRecDepth 100000
set_option linter.unusedVariables false
theorem Try.infoPS : (Try.prog.info? 96).map (fun i => (i.zero, i.size, i.bytes)) = some (some (.pointer none), 1, 8) := by kernel_rfl
theorem wp_appPS {w : World} {ops : Array Oper} {rest : List Oper} {o : Oper} {a : Act} {Q : Exit → Act → World → Prop} (hgd : o.guard = none) (s x : Operand)
    (ho : o.op = .call { callee := .builtin .append, args := #[s, x], argTypes := #[93, 93] }) (base : Nat) (v : Value) (n : Nat) (Vs : List Value) (hs : a.eval s = v) (hown : w.ownsRow base 96 1 v n Vs)
    (ad : Addr) (m c : Nat) (us : List Value) (hx : a.eval x = .slice (some ad) m c) (hl : us.length = m) (hc : ∀ j u, us[j]? = some u → w.cell? (ad.add j) = some u) (hu : ∀ u ∈ us, ∃ p, u = .pointer p) (hlim : n + m ≤ 4000000000) (hb : base ≤ w.heap.size)
    (h : ∀ v' w', Hid (w'.ownsRow base 96 1 v' (n + m) (Vs ++ us) ∧ w.grownBy w' v.ownBlock ∧ (v'.ownBlock = v.ownBlock ∨ v'.ownBlock = some w.heap.size)) → wpList Try.prog ops Q rest (a.put o.dst v') w') : wpList Try.prog ops Q (o :: rest) a w := by
  obtain ⟨i, hi, hz, hsz, hby⟩ := info_parts Try.infoPS
  refine wpList_append_own_at w hgd s x 93 ho base 96 i _ 1 8 Try.underlying93 hi hz hsz hby rfl (by omega) v _ _ hs hown ad m c us hx (by omega) hc (fun u' hu' => ?_) (by simp only [maxLen]; omega) (by omega) hb ?_
  · obtain ⟨p, rfl⟩ := hu u' hu'
    rfl
  · intro v' w' h1 h2 _ h4
    exact h v' w' ⟨h1, h2, h4⟩
/-- A heap without a hole is a heap. -/
theorem MeS.hs {W : World} {base hb ob gp n cap mb nn : Nat} {pu : Int} {f : Nat → Nat} {B : Nat → Prop} {it ke : Nat → Int} {va : Nat → ByteArray} (h : MeS W hb ob gp n cap mb pu f B it ke va n) (hg : base ≤ gp) (hc : cap ≤ maxLen) (hn : n ≤ 1000000000)
    (hI : ∀ b, Img n f n b → 1 ≤ it b ∧ it b ≤ pu ∧ base ≤ b) (hJ : ∀ b c, Img n f n b → Img n f n c → it b = it c → b = c) (p0 : 0 ≤ pu) (p1 : pu ≤ 1000000000) (p2 : (nn : Int) ≤ pu + 1000000000) (hm : ∃ g, Mp W mb nn g ∧ ∀ i b, g i = some b ↔ Img n f n b ∧ it b = i) (h1 : base ≤ hb) (h2 : base ≤ ob) (h3 : base ≤ mb) :
    HsS W base hb ob (some ⟨gp, 0, none⟩) n cap mb nn pu f it ke va := by
  obtain ⟨cs, e1, e2, e3⟩ := h.row
  have im : ∀ i, i < n → Img n f n (f i) := fun i hi => ⟨i, hi, by omega, rfl⟩
  refine { hd := h.hd, row := own_row hg e1 e2 e3 h.le hc, lim := hn, pl := fun i hi => h.pl i hi (by omega), wf := fun i hi => (h.wf _ (h.fB i hi (by omega))).2, itr := fun i hi => ⟨(hI _ (im i hi)).1, (hI _ (im i hi)).2.1⟩, iti := fun i j hi hj e => h.inj hi hj (by omega) (by omega) (hJ _ _ (im i hi) (im j hj) e), pu0 := p0, pu1 := p1, nn1 := p2, mp := ?_, ge := ⟨h1, h2, h3, fun i hi => (hI _ (im i hi)).2.2⟩ }
  obtain ⟨g, hm1, hm2⟩ := hm
  refine ⟨g, hm1, fun i b => (hm2 i b).trans ⟨?_, ?_⟩⟩
  · rintro ⟨⟨j, hj, _, rfl⟩, e⟩
    exact ⟨j, hj, rfl, e⟩
  · rintro ⟨j, hj, rfl, e⟩
    exact ⟨im j hj, e⟩
theorem HsS.map {W : World} {base hb ob : Nat} {a : Option Addr} {n cap mb nn : Nat} {pu : Int} {f : Nat → Nat} {it ke : Nat → Int} {va : Nat → ByteArray} (h : HsS W base hb ob a n cap mb nn pu f it ke va) : ∃ g, Mp W mb nn g ∧ ∀ i b, g i = some b ↔ Img n f n b ∧ it b = i := by
  obtain ⟨g, hm1, hm2⟩ := h.mp
  refine ⟨g, hm1, fun i b => (hm2 i b).trans ⟨?_, ?_⟩⟩
  · rintro ⟨j, hj, rfl, e⟩
    exact ⟨⟨j, hj, by omega, rfl⟩, e⟩
  · rintro ⟨⟨j, hj, _, rfl⟩, e⟩
    exact ⟨j, hj, rfl, e⟩
theorem HsS.own {W : World} {base hb ob : Nat} {a : Option Addr} {n cap mb nn : Nat} {pu : Int} {f : Nat → Nat} {it ke : Nat → Int} {va : Nat → ByteArray} (h : HsS W base hb ob a n cap mb nn pu f it ke va) {k : Nat} (hk : (Value.slice a n cap).ownBlock = some k) : base ≤ k ∧ ∃ cs, W.heap[k]? = some (.cells cs 96) := by
  rcases h.row.2 with ⟨e, _⟩ | ⟨g, cap', cur, e, hb', hg, _⟩
  · rw [e] at hk; cases hk
  · rw [e] at hk
    cases hk
    exact ⟨hb', _, hg⟩
/-- The thing is made, in the map, in the row: its place is to be found. -/
theorem HsS.pushed {w W3 W5 : World} {base hb ob : Nat} {a : Option Addr} {n cap mb nn : Nat} {pu : Int} {f : Nat → Nat} {it ke : Nat → Int} {va : Nat → ByteArray} {lv : Value} {nx mod : Int} {tur : Bool} {lies : Int} {N : Nat} {g : Int → Option Nat} {v' : Value} {k : Int} {v : ByteArray} (h : HsS w base hb ob a n cap mb nn pu f it ke va) (ho : Ordr w ob lv nx mod tur lies N) (hk : -9223372036854775808 ≤ k) (hk2 : k ≤ 9223372036854775807) (hpu : pu < 1000000000)
    (g3 : ((w.setCell ⟨hb, 3, none⟩ (.int .i64 (pu + 1))).alloc (.cells #[.int .i64 (pu + 1), .int .i64 k, .string v, .int .i64 0] 98)).grownBy W3 (some mb)) (m3 : Mp W3 mb (nn + 1) g)
    (g5 : (W3.alloc (.cells #[.pointer (some ⟨w.heap.size, 0, none⟩)] 96)).grownBy W5 (Value.slice a n cap).ownBlock) (r5 : W5.ownsRow base 96 1 v' (n + 1) (((List.range n).map fun i => .pointer (some ⟨f i, 0, none⟩)) ++ [.pointer (some ⟨w.heap.size, 0, none⟩)])) :
    ∃ gp cap', v' = .slice (some ⟨gp, 0, none⟩) (n + 1) cap' ∧ base ≤ gp ∧ cap' ≤ maxLen ∧ MeS (W5.setCell ⟨hb, 1, none⟩ v') hb ob gp (n + 1) cap' mb (pu + 1) (setF f n w.heap.size) (fun b => Img n f n b ∨ b = w.heap.size) (upN it w.heap.size (pu + 1)) (upN ke w.heap.size k) (upN va w.heap.size v) n ∧ Ordr (W5.setCell ⟨hb, 1, none⟩ v') ob lv nx mod tur lies N ∧ Mp (W5.setCell ⟨hb, 1, none⟩ v') mb (nn + 1) g ∧ Tn (fun k => k = hb ∨ k = mb ∨ (Value.slice a n cap).ownBlock = some k) w (W5.setCell ⟨hb, 1, none⟩ v') ∧ W5.heap[hb]? = some (.cells #[.func (.func 28) #[.pointer (some ⟨ob, 0, none⟩)] #[], .slice a n cap, .map (some mb), .int .i64 (pu + 1)] 95) := by
  obtain ⟨x, ex⟩ : ∃ x, x = w.heap.size := ⟨_, rfl⟩
  rw [← ex] at g5 r5 ⊢
  have lt : ∀ {k : Nat} {o : Obj}, w.heap[k]? = some o → k < w.heap.size := fun e => (Array.getElem?_eq_some_iff.1 e).1
  have hlt := lt h.hd
  obtain ⟨es, ck, hmb⟩ := (h.mp.choose_spec.1).block
  have s2 : ((w.setCell ⟨hb, 3, none⟩ (.int .i64 (pu + 1))).alloc (.cells #[.int .i64 (pu + 1), .int .i64 k, .string v, .int .i64 0] 98)).heap.size = w.heap.size + 1 := by simp
  have z3 := g3.size
  rw [s2] at z3
  have s4 : (W3.alloc (.cells #[.pointer (some ⟨x, 0, none⟩)] 96)).heap.size = W3.heap.size + 1 := by simp
  have z5 := g5.size
  rw [s4] at z5
  -- blocks of W3 and W5
  have k3 : ∀ k, k < w.heap.size → k ≠ hb → k ≠ mb → W3.heap[k]? = w.heap[k]? := fun k h1 h2 h3 => (g3.block k (by omega) (fun e => h3 (by injection e))).trans ((Below.heap_alloc _ _ k (by simpa using h1)).trans (Below.heap_setCell _ _ _ k h2))
  have k5 : ∀ k, k < W3.heap.size → (Value.slice a n cap).ownBlock ≠ some k → W5.heap[k]? = W3.heap[k]? := fun k h1 h2 => (g5.block k (by omega) (fun e => h2 e.symm)).trans (Below.heap_alloc _ _ k h1)
  have kept : ∀ k, k < w.heap.size → k ≠ hb → k ≠ mb → (Value.slice a n cap).ownBlock ≠ some k → (W5.setCell ⟨hb, 1, none⟩ v').heap[k]? = w.heap[k]? := fun k h1 h2 h3 h4 => (Below.heap_setCell _ _ _ k h2).trans ((k5 k (by omega) h4).trans (k3 k h1 h2 h3))
  have nown : ∀ {k : Nat} {cs : Array Value} {t : TypeId}, w.heap[k]? = some (.cells cs t) → t ≠ 96 → (Value.slice a n cap).ownBlock ≠ some k := fun {k cs t} e1 e2 e => by
    obtain ⟨_, cs2, e3⟩ := h.own e
    exact ne_of_type e1 e3 e2 rfl
  have nhm : hb ≠ mb := fun e => map_ne hmb h.hd e.symm
  have x3 : W3.heap[x]? = some (.cells #[.int .i64 (pu + 1), .int .i64 k, .string v, .int .i64 0] 98) := by
    rw [ex]
    refine (g3.block _ (by omega) (fun e => by injection e with e; have := lt hmb; omega)).trans ?_
    have := (MapKept.heap_alloc (w.setCell ⟨hb, 3, none⟩ (.int .i64 (pu + 1))) (.cells #[.int .i64 (pu + 1), .int .i64 k, .string v, .int .i64 0] 98)).1
    simpa using this
  have xo : (Value.slice a n cap).ownBlock ≠ some x := fun e => by
    obtain ⟨_, cs2, e3⟩ := h.own e
    have := lt e3
    omega
  have x6 : (W5.setCell ⟨hb, 1, none⟩ v').heap[x]? = some (.cells #[.int .i64 (pu + 1), .int .i64 k, .string v, .int .i64 0] 98) := (Below.heap_setCell _ _ _ x (by show x ≠ hb; omega)).trans ((k5 x (Array.getElem?_eq_some_iff.1 x3).1 xo).trans x3)
  have h5 : W5.heap[hb]? = some (.cells #[.func (.func 28) #[.pointer (some ⟨ob, 0, none⟩)] #[], .slice a n cap, .map (some mb), .int .i64 (pu + 1)] 95) := by
    refine (k5 hb (by omega) (nown h.hd (by decide))).trans ((g3.block hb (by omega) (fun e => nhm (by injection e))).trans ((Below.heap_alloc _ _ hb (by simpa using hlt)).trans ?_))
    exact heap_setCell_same w hb 3 _ _ _ h.hd
  have h6 : (W5.setCell ⟨hb, 1, none⟩ v').heap[hb]? = some (.cells #[.func (.func 28) #[.pointer (some ⟨ob, 0, none⟩)] #[], v', .map (some mb), .int .i64 (pu + 1)] 95) := heap_setCell_same W5 hb 1 _ _ _ h5
  rcases r5.2 with ⟨_, e0⟩ | ⟨gp, cap', cur, e, hbg, hg, q1, q2, q3, q4⟩
  · omega
  · have ngh : gp ≠ hb := ne_of_type hg h5 (by decide)
    have old : ∀ i, i < n → f i ≠ x := fun i hi => by have := lt (h.pl i hi); omega
    have hpl : ∀ i, i < n → (W5.setCell ⟨hb, 1, none⟩ v').heap[f i]? = some (.cells #[.int .i64 (it (f i)), .int .i64 (ke (f i)), .string (va (f i)), .int .i64 (i : Int)] 98) := fun i hi => (kept (f i) (lt (h.pl i hi)) (ne_of_type (h.pl i hi) h.hd (by decide)) (fun e => map_ne hmb (h.pl i hi) e.symm) (nown (h.pl i hi) (by decide))).trans (h.pl i hi)
    have hl := h.lim
    refine ⟨gp, cap', e, hbg, q2, ?_, ho.kept (kept ob ho.lt (ne_of_type ho.at' h.hd (by decide)) (fun e => map_ne hmb ho.at' e.symm) (nown ho.at' (by decide))), m3.kept ?_, ?_, h5⟩
    · refine { hd := by rw [h6, e], row := ⟨cur, ?_, by omega, fun i hi => ?_⟩, le := by omega, lim := by omega, th := ?_, fB := fun i hi hne => ?_, pl := fun i hi hne => ?_, wf := ?_ }
      · exact (Below.heap_setCell _ _ _ gp ngh).trans hg
      · have q5 := congrArg (fun l => l[i]?) q4
        simp only [Nat.mul_one] at q5
        rw [List.getElem?_take_of_lt hi] at q5
        rw [← Array.getElem?_toList, q5]
        by_cases c : i = n
        · subst c
          rw [setF_eq, List.getElem?_append_right (by simp)]
          simp
        · rw [setF_ne c, List.getElem?_append_left (by simp; omega)]
          have : i < n := by omega
          simp [this]
      · rintro b (⟨i, hi, _, rfl⟩ | rfl)
        · rw [upN_ne (old i hi), upN_ne (old i hi), upN_ne (old i hi)]
          exact ⟨_, hpl i hi⟩
        · rw [upN_eq, upN_eq, upN_eq]
          exact ⟨_, x6⟩
      · rw [setF_ne hne]
        exact .inl ⟨i, by omega, by omega, rfl⟩
      · rw [setF_ne hne, upN_ne (old i (by omega)), upN_ne (old i (by omega)), upN_ne (old i (by omega))]
        exact hpl i (by omega)
      · have hp0 := h.pu0
        rintro b (⟨i, hi, _, rfl⟩ | rfl)
        · rw [upN_ne (old i hi), upN_ne (old i hi)]
          have h7 := h.itr i hi
          have h8 := h.wf i hi
          omega
        · rw [upN_eq, upN_eq]
          omega
    · refine (Below.heap_setCell _ _ _ mb (Ne.symm nhm)).trans (k5 mb (by have := lt hmb; omega) fun e => ?_)
      obtain ⟨_, cs2, e3⟩ := h.own e
      exact map_ne hmb e3 rfl
    · refine ⟨g5.os.trans g3.os, g5.tape.trans g3.tape, g5.output.trans g3.output, by have : (W5.setCell ⟨hb, 1, none⟩ v').heap.size = W5.heap.size := by simp
                                                                                      omega, fun k hk1 hk2 => kept k hk1 (fun e => hk2 (.inl e)) (fun e => hk2 (.inr (.inl e))) (fun e => hk2 (.inr (.inr e)))⟩
end Go.Proofs.Ytklhenblcgmfhaa
namespace Go.Proofs.Ytklhenblcgmfhaa
open Go.RowKit
set_option maxRecDepth 100000
set_option linter.unusedVariables false
/-- Behind Push: one thing more. -/
def PshS (w : World) (base hb ob : Nat) (a : Option Addr) (n cap mb nn : Nat) (pu : Int) (f : Nat → Nat) (it ke : Nat → Int) (va : Nat → ByteArray) (lv : Value) (nx mod : Int) (tur : Bool) (lies : Int) (N : Nat) (k : Int) (v : ByteArray) (e : Ending) (w' : World) : Prop :=
  e = .returned (.int .i64 (pu + 1)) ∧ ∃ a' cap' f' M, HsS w' base hb ob a' (n + 1) cap' mb (nn + 1) (pu + 1) f' (upN it w.heap.size (pu + 1)) (upN ke w.heap.size k) (upN va w.heap.size v) ∧ Ordr w' ob lv nx mod tur lies M ∧ N ≤ M ∧ 2 ^ (M - N) ≤ 4 * (n + 1) ∧
    (lies = 0 → Ord (leB mod tur it ke) n f n → Ord (leB mod tur (upN it w.heap.size (pu + 1)) (upN ke w.heap.size k)) (n + 1) f' (n + 1)) ∧ (∀ b, Img (n + 1) f' (n + 1) b ↔ Img n f n b ∨ b = w.heap.size) ∧ TnN (fun k => k = hb ∨ k = mb ∨ k = ob ∨ (Value.slice a n cap).ownBlock = some k ∨ Img n f n k) w w' (∀ k, (Value.slice a' (n + 1) cap').ownBlock = some k → w.heap.size ≤ k ∨ (Value.slice a n cap).ownBlock = some k)
theorem HsS.laid {w W6 w7 : World} {base hb ob gp : Nat} {a : Option Addr} {n cap cap' mb nn : Nat} {pu : Int} {f f2 : Nat → Nat} {it ke : Nat → Int} {va : Nat → ByteArray} {lv : Value} {nx mod : Int} {tur : Bool} {lies : Int} {N M : Nat} {g : Int → Option Nat} {k : Int} {v : ByteArray} (h : HsS w base hb ob a n cap mb nn pu f it ke va) (hn : n < 1000000000) (hpu : pu < 1000000000) (hb0 : base ≤ w.heap.size) (hbg : base ≤ gp) (hcap : cap' ≤ maxLen) (h6 : MeS W6 hb ob gp (n + 1) cap' mb (pu + 1) (setF f n w.heap.size) (fun b => Img n f n b ∨ b = w.heap.size) (upN it w.heap.size (pu + 1)) (upN ke w.heap.size k) (upN va w.heap.size v) n) (hgp : w.heap.size ≤ gp ∨ (Value.slice a n cap).ownBlock = some gp) (ho6 : Ordr W6 ob lv nx mod tur lies N) (hm : Mp W6 mb (nn + 1) (updI g (pu + 1) (some w.heap.size))) (hg : ∀ i b, g i = some b ↔ Img n f n b ∧ it b = i) (hT : Tn (fun k => k = hb ∨ k = mb ∨ (Value.slice a n cap).ownBlock = some k) w W6)
    (hL : LayS W6 w7 hb ob gp (n + 1) cap' mb (pu + 1) (setF f n w.heap.size) f2 (fun b => Img n f n b ∨ b = w.heap.size) (upN it w.heap.size (pu + 1)) (upN ke w.heap.size k) (upN va w.heap.size v) lv nx mod tur lies N M n w.heap.size) :
    PshS w base hb ob a n cap mb nn pu f it ke va lv nx mod tur lies N k v (.returned (.int .i64 (pu + 1))) w7 := by
  obtain ⟨x, ex⟩ : ∃ x, x = w.heap.size := ⟨_, rfl⟩
  unfold PshS
  rw [← ex] at h6 hgp hm hL hb0 ⊢
  have lt : ∀ {k : Nat} {o : Obj}, w.heap[k]? = some o → k < w.heap.size := fun e => (Array.getElem?_eq_some_iff.1 e).1
  have old : ∀ b, Img n f n b → b ≠ x ∧ b < w.heap.size := fun b hb' => by
    obtain ⟨i, hi, _, rfl⟩ := hb'
    have := lt (h.pl i hi)
    omega
  have im1 : ∀ b, Img (n + 1) (setF f n x) n b ↔ Img n f n b := fun b => by
    constructor
    · rintro ⟨i, hi, hne, e⟩
      rw [setF_ne hne] at e
      exact ⟨i, by omega, by omega, e⟩
    · rintro ⟨i, hi, hne, e⟩
      exact ⟨i, by omega, by omega, by rw [setF_ne (by omega)]; exact e⟩
  have im : ∀ b, Img (n + 1) f2 (n + 1) b ↔ Img n f n b ∨ b = x := fun b => (hL.img b).trans (or_congr (im1 b) Iff.rfl)
  obtain ⟨es, ck, hmb⟩ := hm.block
  obtain ⟨cs6, e6, _⟩ := h6.row
  refine ⟨rfl, some ⟨gp, 0, none⟩, cap', f2, M, ?_, hL.od, hL.ge, ?_, fun e0 h0 => hL.ord e0 fun p q hp hq hpq hpn hqn hR => ?_, im, ?_⟩
  · refine hL.me.hs hbg hcap (by omega) (fun b hb' => ?_) (fun b c hb' hc' e => ?_) (by have := h.pu0; omega) (by omega) (by have := h.nn1; omega) ⟨_, hm.kept (hL.tn.block mb (Array.getElem?_eq_some_iff.1 hmb).1 ?_), fun i b => ?_⟩ h.ge.1 h.ge.2.1 h.ge.2.2.1
    · rcases (im b).1 hb' with h1 | rfl
      · obtain ⟨i, hi, _, rfl⟩ := h1
        rw [upN_ne (old _ ⟨i, hi, by omega, rfl⟩).1]
        have h2 := h.itr i hi
        have h3 := h.ge.2.2.2 i hi
        omega
      · rw [upN_eq]
        have := h.pu0
        omega
    · have big : ∀ b, Img n f n b → it b ≤ pu := fun b hb => by
        obtain ⟨i, hi, _, rfl⟩ := hb
        exact (h.itr i hi).2
      rcases (im b).1 hb' with h1 | rfl
      · rw [upN_ne (old b h1).1] at e
        rcases (im c).1 hc' with h2 | rfl
        · rw [upN_ne (old c h2).1] at e
          obtain ⟨i, hi, _, rfl⟩ := h1
          obtain ⟨j, hj, _, rfl⟩ := h2
          rw [h.iti i j hi hj e]
        · rw [upN_eq] at e
          have := big b h1
          omega
      · rw [upN_eq] at e
        rcases (im c).1 hc' with h2 | rfl
        · rw [upN_ne (old c h2).1] at e
          have := big c h2
          omega
        · rfl
    · rintro (e | e | e)
      · exact map_ne hmb ho6.at' e
      · exact map_ne hmb e6 e
      · obtain ⟨q, e2⟩ := h6.th _ e
        exact map_ne hmb e2 rfl
    · rw [im b]
      unfold updI
      split <;> rename_i c
      · subst c
        constructor
        · intro e
          injection e with e
          subst e
          exact ⟨.inr rfl, upN_eq⟩
        · rintro ⟨h1 | rfl, e⟩
          · rw [upN_ne (old b h1).1] at e
            obtain ⟨j, hj, _, rfl⟩ := h1
            have := (h.itr j hj).2
            omega
          · rfl
      · rw [hg i b]
        constructor
        · rintro ⟨h1, e⟩
          exact ⟨.inl h1, by rw [upN_ne (old b h1).1]; exact e⟩
        · rintro ⟨h1 | rfl, e⟩
          · rw [upN_ne (old b h1).1] at e
            exact ⟨h1, e⟩
          · rw [upN_eq] at e
            exact absurd e.symm c
  · have := hL.few
    omega
  · rw [setF_ne hpn, setF_ne hqn]
    have h1 : Img n f n (f p) := ⟨p, by omega, by omega, rfl⟩
    have h2 : Img n f n (f q) := ⟨q, by omega, by omega, rfl⟩
    exact (leB_up (old _ h1).1 (old _ h2).1).2 (h0 p q (by omega) (by omega) hpq (by omega) (by omega) hR)
  · refine { (hT.mono (S' := fun k => k = hb ∨ k = mb ∨ k = ob ∨ (Value.slice a n cap).ownBlock = some k ∨ Img n f n k) (fun k _ e => ?_)).trans hL.tn (fun k hk e => ?_) with new := fun k hk => ?_ }
    · rcases e with e | e | e
      · exact .inl e
      · exact .inr (.inl e)
      · exact .inr (.inr (.inr (.inl e)))
    · rcases e with e | e | e | e
      · exact .inr (.inr (.inl e))
      · rcases hgp with h1 | h1
        · omega
        · exact .inr (.inr (.inr (.inl (by rw [e]; exact h1))))
      · exact .inr (.inr (.inr (.inr e)))
      · omega
    · have e : k = gp := by injection hk with hk; exact hk.symm
      subst e
      exact hgp
set_option maxHeartbeats 2000000 in
theorem pushS_any {base hb ob : Nat} {a : Option Addr} {n cap mb nn : Nat} {pu : Int} {f : Nat → Nat} {it ke : Nat → Int} {va : Nat → ByteArray} {lv : Value} {nx mod : Int} {tur : Bool} {lies : Int} {N : Nat} (k : Int) (v : ByteArray) (w : World) (h : HsS w base hb ob a n cap mb nn pu f it ke va) (ho : Ordr w ob lv nx mod tur lies N) (hN : N < 999999999800) (hn : n < 1000000000) (hpu : pu < 1000000000) (hk : -9223372036854775808 ≤ k) (hk2 : k ≤ 9223372036854775807) (hb0 : base ≤ w.heap.size) :
    Calls Try.prog 31 #[.pointer (some ⟨hb, 0, none⟩), .int .i64 k, .string v] w (PshS w base hb ob a n cap mb nn pu f it ke va lv nx mod tur lies N k v) := by
  obtain ⟨c1, c2, c3, c4⟩ := h.cells
  have z3 := c4 3
  have hp0 := h.pu0
  have hw : IntKind.i64.wrap (pu + 1) = pu + 1 := by rw [IntKind.wrap_i64]; omega
  obtain ⟨g, hm, hg⟩ := h.map
  obtain ⟨es, ck, hmb⟩ := hm.block
  have nhm : hb ≠ mb := fun e => map_ne hmb h.hd e.symm
  have hlt : hb < w.heap.size := (Array.getElem?_eq_some_iff.1 h.hd).1
  obtain ⟨W2, hW2⟩ : ∃ W2, W2 = (w.setCell ⟨hb, 3, none⟩ (.int .i64 (pu + 1))).alloc (.cells #[.int .i64 (pu + 1), .int .i64 k, .string v, .int .i64 0] 98) := ⟨_, rfl⟩
  obtain ⟨x, ex⟩ : ∃ x, x = w.heap.size := ⟨_, rfl⟩
  have m2 : Mp W2.drew mb nn g := hm.kept (by rw [hW2]; exact (Below.heap_alloc _ _ mb (by simpa using (Array.getElem?_eq_some_iff.1 hmb).1)).trans (Below.heap_setCell _ _ _ mb (Ne.symm nhm)))
  obtain ⟨W3, hrun, m3, g3⟩ := m2.store (by have := h.nn1; have := h.pu1; omega) Try.underlying92 (i := pu + 1) (by omega) (by omega) x
  have hh2 : W2.heap[hb]? = some (.cells #[.func (.func 28) #[.pointer (some ⟨ob, 0, none⟩)] #[], .slice a n cap, .map (some mb), .int .i64 (pu + 1)] 95) := by
    rw [hW2]
    exact (Below.heap_alloc _ _ hb (by simpa using hlt)).trans (heap_setCell_same w hb 3 _ _ _ h.hd)
  have hx2 : W2.heap[x]? = some (.cells #[.int .i64 (pu + 1), .int .i64 k, .string v, .int .i64 0] 98) := by
    rw [hW2, ex]
    have := (MapKept.heap_alloc (w.setCell ⟨hb, 3, none⟩ (.int .i64 (pu + 1))) (.cells #[.int .i64 (pu + 1), .int .i64 k, .string v, .int .i64 0] 98)).1
    simpa using this
  have xm : x ≠ mb := fun e => by have := (Array.getElem?_eq_some_iff.1 hmb).1; omega
  have hh3 : W3.heap[hb]? = some (.cells #[.func (.func 28) #[.pointer (some ⟨ob, 0, none⟩)] #[], .slice a n cap, .map (some mb), .int .i64 (pu + 1)] 95) := (g3.block hb (Array.getElem?_eq_some_iff.1 hh2).1 (fun e => nhm (by injection e))).trans hh2
  have hx3 : W3.heap[x]? = some (.cells #[.int .i64 (pu + 1), .int .i64 k, .string v, .int .i64 0] 98) := (g3.block x (Array.getElem?_eq_some_iff.1 hx2).1 (fun e => xm (by injection e))).trans hx2
  have d2 : W2.cell? ⟨hb, 2, none⟩ = some (.map (some mb)) := by simp [World.cell?, hh2]
  have d0 : W2.cell? ⟨x, 0, none⟩ = some (.int .i64 (pu + 1)) := by simp [World.cell?, hx2]
  have q2 : W3.cell? ⟨hb, 2, none⟩ = some (.map (some mb)) := by simp [World.cell?, hh3]
  have q1 : W3.cell? ⟨hb, 1, none⟩ = some (.slice a n cap) := by simp [World.cell?, hh3]
  have q0 : W3.cell? ⟨x, 0, none⟩ = some (.int .i64 (pu + 1)) := by simp [World.cell?, hx3]
  have HW : Hid ((w.setCell ⟨hb, 3, none⟩ (.int .i64 (pu + 1))).alloc (.cells #[.int .i64 (pu + 1), .int .i64 k, .string v, .int .i64 0] 98) = W2 ∧ w.heap.size = x) := ⟨hW2.symm, ex.symm⟩
  have HH : Hid (HsS w base hb ob a n cap mb nn pu f it ke va ∧ Ordr w ob lv nx mod tur lies N ∧ (∀ i b, g i = some b ↔ Img n f n b ∧ it b = i) ∧ Mp W3 mb (nn + 1) (updI g (pu + 1) (some x)) ∧ W2.grownBy W3 (some mb)) := ⟨h, ho, hg, m3, ⟨g3.os, g3.tape, g3.output, g3.size, g3.block⟩⟩
  clear c4 h ho hg m3 g3 hm hmb m2 hh2 hx2 hh3 hx3 hW2 ex
  go_enter Try.func31, Try.ntmps31
  go_wp2_with fail
  rename_i hz
  rw [HW.out.1, HW.out.2]
  go_region_held3 (fun w9 => w9.cell? ⟨hb, 2, none⟩ = some (.map (some mb)) ∧ w9.cell? ⟨x, 0, none⟩ = some (.int .i64 (pu + 1))) (first | (simp [go_sem, *]; done) | (trace_state; fail)) (fail)
  refine hz _ _ ?_
  have r4 : Hid ((W3.alloc (.cells #[.pointer (some ⟨x, 0, none⟩)] 96)).ownsRow base 96 1 (.slice a n cap) n ((List.range n).map fun i => .pointer (some ⟨f i, 0, none⟩)) ∧ base ≤ (W3.alloc (.cells #[.pointer (some ⟨x, 0, none⟩)] 96)).heap.size) := by
    have h := HH.out.1
    have g3 := HH.out.2.2.2.2
    have z := g3.size
    have e2 : W2.heap.size = w.heap.size + 1 := by rw [← HW.out.1]; simp
    refine ⟨own_kept h.row fun k hk => ?_, by simp; omega⟩
    obtain ⟨_, cs, e⟩ := h.own hk
    have hl : k < w.heap.size := (Array.getElem?_eq_some_iff.1 e).1
    obtain ⟨g9, hm9, _⟩ := h.map
    obtain ⟨es, ck, hmb⟩ := hm9.block
    refine (Below.heap_alloc _ _ k (by omega)).trans ((g3.block k (by omega) (fun e9 => map_ne hmb e (by injection e9 with e9; exact e9.symm))).trans ?_)
    rw [← HW.out.1]
    exact (Below.heap_alloc _ _ k (by simpa using hl)).trans (Below.heap_setCell _ _ _ k (ne_of_type e h.hd (by decide)))
  clear d2 d0 q2 q0 hrun
  go_wp2_with (refine (id ?_ : wpList Try.prog _ _ (⟨some 41, _, _, _, _, _⟩ :: _) _ _); refine hold ?_)
  intro _
  refine wp_appPS rfl (.tmp 38) (.tmp 40) rfl base (.slice a n cap) n _ rfl r4.out.1 ⟨W3.heap.size, 0, none⟩ 1 1 [.pointer (some ⟨x, 0, none⟩)] rfl rfl (fun j u hj => ?cells) (fun u hu => ?ptr) (by omega) r4.out.2 ?_
  case cells =>
    rcases j with _ | j
    · simp at hj
      subst hj
      rw [addr_add]
      simp [go_sem]
    · simp at hj
  case ptr =>
    simp at hu
    exact ⟨_, hu⟩
  intro v' W5 H5
  have HP := HH.out.1.pushed (k := k) (v := v) HH.out.2.1 hk hk2 hpu (by rw [HW.out.1]; exact HH.out.2.2.2.2) HH.out.2.2.2.1 (by rw [HW.out.2]; exact H5.out.2.1) (by rw [HW.out.2]; exact H5.out.1)
  rw [HW.out.2] at HP
  obtain ⟨gp, cap', rfl, hbg, hcap', hMe, hOd, hMp, hTn, t5⟩ := HP
  have hgp : w.heap.size ≤ gp ∨ (Value.slice a n cap).ownBlock = some gp := by
    rcases H5.out.2.2 with e | e
    · exact .inr e.symm
    · left
      have e2 : gp = (W3.alloc (.cells #[.pointer (some ⟨x, 0, none⟩)] 96)).heap.size := by injection e
      have z := HH.out.2.2.2.2.size
      have e3 : W2.heap.size = w.heap.size + 1 := by rw [← HW.out.1]; simp
      simp at e2
      omega
  obtain ⟨W6, hW6⟩ : ∃ W6, W6 = W5.setCell ⟨hb, 1, none⟩ (.slice (some ⟨gp, 0, none⟩) (n + 1) cap') := ⟨_, rfl⟩
  rw [← hW6] at hMe hOd hMp hTn
  have HW6 : Hid (W5.setCell ⟨hb, 1, none⟩ (.slice (some ⟨gp, 0, none⟩) (n + 1) cap') = W6) := hW6.symm
  have t1 : W5.cell? ⟨hb, 1, none⟩ = some (.slice a n cap) := by simp [World.cell?, t5]
  have t2 : W5.frozen? ⟨hb, 1, none⟩ = false := by simp [World.frozen?, t5]
  have u1 := hMe.c1
  have hw2 : IntKind.i64.wrap ((n : Int) + 1 - 1) = (n : Int) := by rw [IntKind.wrap_i64]; omega
  have hw3 : IntKind.i64.wrap (n : Int) = (n : Int) := by rw [IntKind.wrap_i64]; omega
  have RI : Hid (Calls Try.prog 52 #[.pointer (some ⟨hb, 0, none⟩), .int .i64 (n : Int), .pointer (some ⟨x, 0, none⟩)] W6 fun e w' => e = .returned (.tuple #[]) ∧ ∃ f' M, LayS W6 w' hb ob gp (n + 1) cap' mb (pu + 1) (setF f n x) f' (fun b => Img n f n b ∨ b = x) (upN it x (pu + 1)) (upN ke x k) (upN va x v) lv nx mod tur lies N M n x) := by
    refine riseS_any n x W6 hMe hOd (by omega) (by omega) (by omega) (.inr rfl) ?_
    rintro ⟨i, hi, hne, e⟩
    rw [setF_ne hne] at e
    have h9 := (Array.getElem?_eq_some_iff.1 (HH.out.1.pl i (by omega))).1
    have := HW.out.2
    omega
  have HL : Hid (∀ w7 f2 M, LayS W6 w7 hb ob gp (n + 1) cap' mb (pu + 1) (setF f n x) f2 (fun b => Img n f n b ∨ b = x) (upN it x (pu + 1)) (upN ke x k) (upN va x v) lv nx mod tur lies N M n x → PshS w base hb ob a n cap mb nn pu f it ke va lv nx mod tur lies N k v (.returned (.int .i64 (pu + 1))) w7) := fun w7 f2 M hL => by
    refine HH.out.1.laid hn hpu hb0 hbg hcap' (by rw [HW.out.2]; exact hMe) hgp hOd (by rw [HW.out.2]; exact hMp) HH.out.2.2.1 hTn (by rw [HW.out.2]; exact hL)
  clear hMe hOd hMp hTn hW6 H5 r4 q1 t5
  go_wp2_with fail
  rw [HW6.out]
  refine Calls.mono RI.out ?_
  rintro e w7 ⟨rfl, f2, M, hL⟩
  have x7 : w7.cell? ⟨x, 0, none⟩ = some (.int .i64 (pu + 1)) := by
    obtain ⟨q, e⟩ := hL.me.th x (.inr rfl)
    rw [upN_eq, upN_eq, upN_eq] at e
    simp [World.cell?, e]
  have HL7 : Hid (PshS w base hb ob a n cap mb nn pu f it ke va lv nx mod tur lies N k v (.returned (.int .i64 (pu + 1))) w7) := HL.out w7 f2 M hL
  clear hL RI HL u1 t1 t2
  go_wp2_with fail
  go_ret
  exact HL7.out
end Go.Proofs.Ytklhenblcgmfhaa
namespace Go.Proofs.Ytklhenblcgmfhaa
open Go.RowKit
set_option maxRecDepth 100000
set_option linter.unusedVariables false
/-- Behind narrow: the same heap, maybe elsewhere. -/
def NarS (w : World) (base hb ob n : Nat) (pu : Int) (f : Nat → Nat) (it ke : Nat → Int) (va : Nat → ByteArray) (e : Ending) (w' : World) : Prop :=
  e = .returned (.tuple #[]) ∧ ∃ a' cap' mb' nn', HsS w' base hb ob a' n cap' mb' nn' pu f it ke va ∧ TnN (fun k => k = hb) w w' (NewB w hb (.slice a' n cap') mb')
/-- While the map is made anew. -/
structure NlpS (w : World) (base hb ob n cap2 m9 g2 : Nat) (pu : Int) (f : Nat → Nat) (it : Nat → Int) (W : World) (j : Nat) : Prop where
  hd : W.heap[hb]? = some (.cells #[.func (.func 28) #[.pointer (some ⟨ob, 0, none⟩)] #[], .slice (some ⟨g2, 0, none⟩) n cap2, .map (some m9), .int .i64 pu] 95)
  old : ∀ k, k < w.heap.size → k ≠ hb → W.heap[k]? = w.heap[k]?
  row : W.ownsRow base 96 1 (.slice (some ⟨g2, 0, none⟩) n cap2) n ((List.range n).map fun i => .pointer (some ⟨f i, 0, none⟩))
  mp : ∃ g, Mp W m9 j g ∧ ∀ i b, g i = some b ↔ ∃ k, k < j ∧ f k = b ∧ it b = i
  os : W.os = w.os
  tape : W.tape = w.tape
  output : W.output = w.output
  size : w.heap.size ≤ W.heap.size
  m9 : w.heap.size ≤ m9
set_option maxHeartbeats 2000000 in
theorem narrowS_any {base hb ob : Nat} {a : Option Addr} {n cap mb nn : Nat} {pu : Int} {f : Nat → Nat} {it ke : Nat → Int} {va : Nat → ByteArray} (w : World) (h : HsS w base hb ob a n cap mb nn pu f it ke va) (hb0 : base ≤ w.heap.size) :
    Calls Try.prog 71 #[.pointer (some ⟨hb, 0, none⟩)] w (NarS w base hb ob n pu f it ke va) := by
  obtain ⟨c1, c2, c3, c4⟩ := h.cells
  have z1 := c4 1
  have z2 := c4 2
  have hl := h.lim
  obtain ⟨m, em⟩ : ∃ m : Nat, m = max 16 n := ⟨_, rfl⟩
  have hmx : (if (16 : Int) < (n : Int) then (n : Int) else 16) = (m : Int) := by split <;> omega
  have hmn : 16 ≤ m ∧ n ≤ m ∧ m ≤ 1000000000 := by omega
  have hw1 : IntKind.i64.wrap (2 * (m : Int)) = ((2 * m : Nat) : Int) := by rw [IntKind.wrap_i64]; omega
  have hw2 : IntKind.i64.wrap (2 * ((2 * m : Nat) : Int)) = ((4 * m : Nat) : Int) := by rw [IntKind.wrap_i64]; omega
  have HH : Hid (HsS w base hb ob a n cap mb nn pu f it ke va) := h
  by_cases c : cap < 4 * m
  · clear h em c4
    generalize 2 * m = R at *
    generalize 4 * m = R2 at *
    go_enter Try.func71, Try.ntmps71
    go_wp2_with fail
    refine bodyPost_ret (results_none rfl _ _ _) rfl ?_
    exact ⟨rfl, _, _, _, _, HH.out, { Tn.refl _ _ with new := ⟨fun k hk => .inr ⟨_, HH.out.cells.1, hk⟩, .inr HH.out.cells.2.1⟩ }⟩
  · have hn0 : ¬ a = none := by
      rintro rfl
      rcases h.row.2 with ⟨e, _⟩ | ⟨g, cap', cur, e, _⟩
      · injection e with _ _ e
        omega
      · cases e
    obtain ⟨gp, rfl, hgb, hle, hcl, cs, ec, esz, hcs⟩ : ∃ gp, a = some ⟨gp, 0, none⟩ ∧ base ≤ gp ∧ n ≤ cap ∧ cap ≤ maxLen ∧ ∃ cs : Array Value, w.heap[gp]? = some (.cells cs 96) ∧ cs.size = cap ∧ ∀ i, i < n → cs[i]? = some (.pointer (some ⟨f i, 0, none⟩)) := by
      rcases h.row.2 with ⟨e, _⟩ | ⟨g, cap', cur, e, hb', hg, h1, h2, h3, h4⟩
      · injection e with e
        exact absurd e hn0
      · injection e with e1 _ e3
        subst e1 e3
        refine ⟨g, rfl, hb', by omega, by omega, cur, hg, by omega, fun i hi => ?_⟩
        have q4 := congrArg (fun l => l[i]?) h4
        simp only [Nat.mul_one] at q4
        rw [List.getElem?_take_of_lt hi] at q4
        rw [← Array.getElem?_toList, q4]
        simp [hi]
    obtain ⟨i0, hi0, hz0, hsz0, hby0⟩ := info_parts Try.infoPS
    obtain ⟨Wm, hr1, rm, gm⟩ := run_make_own (P := Try.prog) w.drew base 93 96 i0 _ 1 Try.underlying93 hi0 hz0 hsz0 .i64 .i64 (2 * m) (by rw [hby0]; omega) (by simp only [maxLen]; omega) hb0
    have lt : ∀ {k : Nat} {o : Obj}, w.heap[k]? = some o → k < w.heap.size := fun e => (Array.getElem?_eq_some_iff.1 e).1
    have km : ∀ k, k < w.heap.size → Wm.heap[k]? = w.heap[k]? := fun k hk => gm.block k hk (by simp)
    obtain ⟨v', Wa, hr2, ra, ga, _, hat⟩ := run_append_own_at (P := Try.prog) Wm base 93 93 96 i0 _ 1 8 Try.underlying93 hi0 hz0 hsz0 hby0 rfl (by omega) _ 0 [] rm ⟨gp, 0, none⟩ n cap ((List.range n).map fun i => .pointer (some ⟨f i, 0, none⟩)) (by simp) (fun j u hj => by
      have hjn : j < n := by
        rcases Nat.lt_or_ge j n with h' | h'
        · exact h'
        · rw [List.getElem?_eq_none (by simpa using h')] at hj
          cases hj
      rw [addr_add, World.cell?_of_block (km gp (lt ec))]
      simp [hjn] at hj
      subst hj
      simp [World.cell?, ec, hcs j hjn]) (fun u hu => by
      simp at hu
      obtain ⟨j, _, rfl⟩ := hu
      rfl) (by simp only [maxLen]; omega) (by omega) (by have := gm.size; exact Nat.le_trans hb0 this)
    have zm : w.heap.size ≤ Wm.heap.size := gm.size
    obtain ⟨g2, cap2, rfl, hg2⟩ : ∃ g2 cap2, v' = .slice (some ⟨g2, 0, none⟩) n cap2 ∧ w.heap.size ≤ g2 := by
      rcases ra.2 with ⟨e, _⟩ | ⟨g, cap', cur, e, _⟩
      · rw [e] at hat
        rcases hat with e2 | e2 <;> cases e2
      · rw [Nat.zero_add] at e
        refine ⟨g, cap', e, ?_⟩
        rw [e] at hat
        rcases hat with e2 | e2
        · have : g = w.heap.size := by injection e2
          omega
        · have : g = Wm.heap.size := by injection e2
          omega
    have HG2 : Hid (w.heap.size ≤ g2) := hg2
    have za := ga.size
    have ka : ∀ k, k < w.heap.size → Wa.heap[k]? = w.heap[k]? := fun k hk => (ga.block k (by omega) (fun e => by
      have e2 : k = w.heap.size := by injection e
      omega)).trans (km k hk)
    have hh : Wa.heap[hb]? = _ := (ka hb (lt h.hd)).trans h.hd
    have ea1 : Wa.cell? ⟨hb, 1, none⟩ = some (.slice (some ⟨gp, 0, none⟩) n cap) := by simp [World.cell?, hh]
    have ea2 : Wa.frozen? ⟨hb, 1, none⟩ = false := by simp [World.frozen?, hh]
    have em1 : Wm.cell? ⟨hb, 1, none⟩ = some (.slice (some ⟨gp, 0, none⟩) n cap) := by simp [World.cell?, (km hb (lt h.hd)).trans h.hd]
    clear h em c4
    generalize 2 * m = R at *
    generalize 4 * m = R2 at *
    go_enter Try.func71, Try.ntmps71
    go_wp2_with fail
    rename_i hz
    go_region_law (refine step_append_run rfl (.tmp 22) (.tmp 26) 93 rfl _ _ rfl rfl _ Wa hr2 ?_)
    all_goals (
      refine hz _ _ ?_
      obtain ⟨W5, hW5⟩ : ∃ W5, W5 = Wa.setCell ⟨hb, 1, none⟩ (.slice (some ⟨g2, 0, none⟩) n cap2) := ⟨_, rfl⟩
      rw [← hW5]
      have h5 : W5.heap[hb]? = some (.cells #[.func (.func 28) #[.pointer (some ⟨ob, 0, none⟩)] #[], .slice (some ⟨g2, 0, none⟩) n cap2, .map (some mb), .int .i64 pu] 95) := by
        rw [hW5]
        exact heap_setCell_same Wa hb 1 _ _ _ hh
      have k5 : Hid (∀ k, k < w.heap.size → k ≠ hb → W5.heap[k]? = w.heap[k]?) := fun k h1 h2 => by
        rw [hW5]
        exact (Below.heap_setCell _ _ _ k h2).trans (ka k h1)
      have hz5 : w.heap.size ≤ W5.heap.size := by rw [hW5]; simp; omega
      have r5 : Hid (W5.ownsRow base 96 1 (.slice (some ⟨g2, 0, none⟩) n cap2) n ((List.range n).map fun i => .pointer (some ⟨f i, 0, none⟩)) ∧ W5.os = w.os ∧ W5.tape = w.tape ∧ W5.output = w.output) := by
        have hlt := lt HH.out.hd
        rw [hW5]
        refine ⟨own_kept (by simpa using ra) fun k hk => Below.heap_setCell _ _ _ k ?_, ?_⟩
        · have : k = g2 := by injection hk with e; exact e.symm
          show k ≠ hb
          omega
        · exact ⟨ga.os.trans gm.os, ga.tape.trans gm.tape, ga.output.trans gm.output⟩
      have p1 : W5.cell? ⟨hb, 1, none⟩ = some (.slice (some ⟨g2, 0, none⟩) n cap2) := by simp [World.cell?, h5]
      have p2 : W5.cell? ⟨hb, 2, none⟩ = some (.map (some mb)) := by simp [World.cell?, h5]
      have p3 : W5.frozen? ⟨hb, 2, none⟩ = false := by simp [World.frozen?, h5]
      have hmm : ∀ W : World, (Instr.makeMap 92 (some (.int .i64 (n : Int)))).run Try.prog W = .ok (.map (some W.heap.size)) (W.alloc (.map #[] 0)) := by
        intro W
        have : ¬ ((n : Int) < 0) := by omega
        simp [Instr.makeMap, go_sem, run_underlying Try.underlying92]
      clear hW5 ra ga hat hr1 hr2 rm gm ka km hh ea1 ea2 em1 c1 z1 z2 c2 c3
      obtain ⟨m9, em9⟩ : ∃ m9, m9 = W5.heap.size := ⟨_, rfl⟩
      obtain ⟨W6, hW6⟩ : ∃ W6, W6 = (W5.setCell ⟨hb, 2, none⟩ (.map (some m9))).alloc (.map #[] 0) := ⟨_, rfl⟩
      have hlt5 := (Array.getElem?_eq_some_iff.1 h5).1
      have lt : ∀ {k : Nat} {o : Obj}, w.heap[k]? = some o → k < w.heap.size := fun e => (Array.getElem?_eq_some_iff.1 e).1
      have hlb := lt HH.out.hd
      have S6 : Hid (NlpS w base hb ob n cap2 m9 g2 pu f it W6 0) := by
        have z6 : (W5.setCell ⟨hb, 2, none⟩ (.map (some m9))).heap.size = W5.heap.size := by simp
        rw [hW6]
        refine ⟨(Below.heap_alloc _ _ hb (by omega)).trans (heap_setCell_same _ hb 2 _ _ _ h5), fun k h1 h2 => (Below.heap_alloc _ _ k (by omega)).trans ((Below.heap_setCell _ _ _ k h2).trans (k5.out k h1 h2)), own_kept r5.out.1 fun k hk => ?_, ⟨fun _ => none, ?_, fun i b => ⟨fun e => (by cases e), fun e => (by obtain ⟨k, hk, _⟩ := e; omega)⟩⟩, r5.out.2.1, r5.out.2.2.1, r5.out.2.2.2, by simp; omega, by rw [em9]; omega⟩
        · have e9 : k = g2 := by injection hk with e; exact e.symm
          subst e9
          have hk5 : k < W5.heap.size := by
            rcases r5.out.1.2 with ⟨e, _⟩ | ⟨g, cap', cur, e, _, hg, _⟩
            · cases e
            · cases e
              exact (Array.getElem?_eq_some_iff.1 hg).1
          exact (Below.heap_alloc _ _ k (by omega)).trans (Below.heap_setCell _ _ _ k (by show k ≠ hb; omega))
        · have hm := Mp.made (W5.setCell ⟨hb, 2, none⟩ (.map (some m9)))
          rw [z6, ← em9] at hm
          exact hm
      have s1 : W6.cell? ⟨hb, 1, none⟩ = some (.slice (some ⟨g2, 0, none⟩) n cap2) := by simp [World.cell?, S6.out.hd]
      have HW6 : Hid ((W5.setCell ⟨hb, 2, none⟩ (.map (some m9))).alloc (.map #[] 0) = W6 ∧ W5.heap.size = m9) := ⟨hW6.symm, em9.symm⟩
      have hnc : n ≤ cap2 := by
        rcases S6.out.row.2 with ⟨e, _⟩ | ⟨g, cap', cur, e, _, _, q1, q2, q3, _⟩
        · cases e
        · cases e
          omega
      clear hW6 em9 h5 k5 r5
      go_wp2_with fail
      rw [HW6.out.2, HW6.out.1]
      go_loopw [44] (fun t wr => ∃ (j : Nat), j ≤ n ∧ t = .int .i64 (j : Int) ∧ Hid (NlpS w base hb ob n cap2 m9 g2 pu f it wr j)) (fun t _ => n - (intOf t).toNat)
      case atStart => exact ⟨0, by omega, rfl, S6⟩
      case round =>
        clear S6 s1
        obtain ⟨j, hj, rfl, hS⟩ := hrel
        by_cases hjn : j < n
        · have q1 : wr.cell? ⟨g2, j, none⟩ = some (.pointer (some ⟨f j, 0, none⟩)) := by
            rcases hS.out.row.2 with ⟨e, _⟩ | ⟨g, cap', cur, e, _, hg, _, _, _, h4⟩
            · cases e
            · cases e
              have q4 := congrArg (fun l => l[j]?) h4
              simp only [Nat.mul_one] at q4
              rw [List.getElem?_take_of_lt hjn] at q4
              have q5 : cur[j]? = some (.pointer (some ⟨f j, 0, none⟩)) := by
                rw [← Array.getElem?_toList, q4]
                simp [hjn]
              simp [World.cell?, hg, q5]
          have nfh : f j ≠ hb := ne_of_type (HH.out.pl j hjn) HH.out.hd (by decide)
          have pj : wr.heap[f j]? = _ := (hS.out.old (f j) (lt (HH.out.pl j hjn)) nfh).trans (HH.out.pl j hjn)
          have q2 : wr.cell? ⟨f j, 0, none⟩ = some (.int .i64 (it (f j))) := by simp [World.cell?, pj]
          have q3 : wr.cell? ⟨hb, 2, none⟩ = some (.map (some m9)) := by simp [World.cell?, hS.out.hd]
          obtain ⟨g, hm, hg⟩ := hS.out.mp
          have hir := HH.out.itr j hjn
          have hpu1 := HH.out.pu1
          have m2 : Mp wr.drew m9 j g := hm.kept rfl
          obtain ⟨W7, hrun, m7, g7⟩ := m2.store (by omega) Try.underlying92 (i := it (f j)) (by omega) (by omega) (f j)
          have nm1 : hb ≠ m9 := by have := hS.out.m9; omega
          have nm2 : f j ≠ m9 := by have := hS.out.m9; have := lt (HH.out.pl j hjn); omega
          have k7 : ∀ k, k < wr.heap.size → k ≠ m9 → W7.heap[k]? = wr.heap[k]? := fun k h1 h2 => g7.block k h1 (fun e => h2 (by injection e))
          have hlr := (Array.getElem?_eq_some_iff.1 hS.out.hd).1
          have h7 : W7.heap[hb]? = _ := (k7 hb hlr nm1).trans hS.out.hd
          have t2 : W7.cell? ⟨f j, 0, none⟩ = some (.int .i64 (it (f j))) := (World.cell?_of_block (k7 (f j) (Array.getElem?_eq_some_iff.1 pj).1 nm2)).trans q2
          have t3 : W7.cell? ⟨hb, 2, none⟩ = some (.map (some m9)) := by simp [World.cell?, h7]
          have S7 : Hid (NlpS w base hb ob n cap2 m9 g2 pu f it W7 (j + 1)) := by
            have z7 : wr.heap.size ≤ W7.heap.size := g7.size
            have hsz := hS.out.size
            refine ⟨h7, fun k h1 h2 => (k7 k (by omega) (by have := hS.out.m9; omega)).trans (hS.out.old k h1 h2), own_kept hS.out.row fun k hk => ?_, ⟨_, m7, fun i b => ?_⟩, g7.os.trans hS.out.os, g7.tape.trans hS.out.tape, g7.output.trans hS.out.output, by omega, hS.out.m9⟩
            · have e9 : k = g2 := by injection hk with e; exact e.symm
              subst e9
              rcases hS.out.row.2 with ⟨e, _⟩ | ⟨g9, cap', cur, e, _, hg9, _⟩
              · cases e
              · cases e
                obtain ⟨es, ck, hmb⟩ := hm.block
                exact k7 k (Array.getElem?_eq_some_iff.1 hg9).1 (fun e => map_ne hmb hg9 e.symm)
            · unfold updI
              split <;> rename_i ci
              · subst ci
                constructor
                · intro e
                  injection e with e
                  exact ⟨j, by omega, e, by rw [← e]⟩
                · rintro ⟨k, hk, rfl, e⟩
                  rw [HH.out.iti k j (by omega) hjn e]
              · rw [hg i b]
                constructor
                · rintro ⟨k, hk, e1, e2⟩
                  exact ⟨k, by omega, e1, e2⟩
                · rintro ⟨k, hk, rfl, e2⟩
                  by_cases ek : k = j
                  · subst ek
                    exact absurd e2.symm ci
                  · exact ⟨k, by omega, rfl, e2⟩
          clear hS hm m2 m7 g7 pj h7 k7 hg
          generalize f j = y at *
          generalize it y = iy at *
          go_wp2_with fail
          rename_i hz9
          go_region_held3 (fun w9 => w9.cell? ⟨hb, 2, none⟩ = some (.map (some m9)) ∧ w9.cell? ⟨y, 0, none⟩ = some (.int .i64 iy)) (first | (simp [go_sem, *]; done) | (trace_state; fail)) (fail)
          refine hz9 _ _ ?_
          go_wp2_with fail
          go_roundw
          case rel => exact ⟨j + 1, by omega, by go_num, S7⟩
          case measure => simp [intOf]; omega
        · obtain rfl : j = n := by omega
          have HN : Hid (HsS wr base hb ob (some ⟨g2, 0, none⟩) j cap2 m9 j pu f it ke va ∧ Tn (fun k => k = hb) w wr) := by
            refine ⟨{ HH.out with hd := hS.out.hd, row := hS.out.row, pl := fun i hi => (hS.out.old (f i) (lt (HH.out.pl i hi)) (ne_of_type (HH.out.pl i hi) HH.out.hd (by decide))).trans (HH.out.pl i hi), nn1 := by have := HH.out.pu0; omega, mp := hS.out.mp, ge := ⟨HH.out.ge.1, HH.out.ge.2.1, by have := hS.out.m9; omega, HH.out.ge.2.2.2⟩ }, hS.out.os, hS.out.tape, hS.out.output, hS.out.size, fun k h1 h2 => hS.out.old k h1 h2⟩
          have HM9 : Hid (w.heap.size ≤ m9) := hS.out.m9
          clear hS
          go_wp2_with fail
          refine bodyPost_end (results_none rfl _ _ _) rfl ?_
          exact ⟨rfl, _, _, _, _, HN.out.1, { HN.out.2 with new := ⟨fun k hk => .inl (by injection hk with hk; have := hk.symm; subst this; exact HG2.out), .inl HM9.out⟩ }⟩)
end Go.Proofs.Ytklhenblcgmfhaa
namespace Go.Proofs.Ytklhenblcgmfhaa
open Go.RowKit
set_option maxRecDepth 100000
set_option linter.unusedVariables false
theorem step_delete_runS {P : Program} {ops : Array Oper} {o : Oper} {a : Act} {w : World} {K : Act → World → Prop} {Q : Exit → Act → World → Prop} {E : Prop} (hg : o.guard = none) (m x : Operand) (t k : TypeId) (hop : o.op = Op.call { callee := Callee.builtin Builtin.delete, args := #[m, x], argTypes := #[t, k] }) (mv xv : Value) (hm : a.eval m = mv) (hx : a.eval x = xv) (w' : World)
    (hrun : (Builtin.delete_ #[t, k] o.type #[mv, xv]).run P w = .ok (.tuple #[]) w') (hK : K (a.put o.dst (.tuple #[])) w') : if Region.wanted o (yielded ops a.tmps) = true then Oper.wp P o a w K Q else E := by
  have hw : Region.wanted o (yielded ops a.tmps) = true := by simp [Region.wanted, hg]
  rw [if_pos hw]
  unfold Oper.wp
  simp [execOp, hop, resolve, invoke, builtin, hm, hx, hrun, Result.andThen]
  exact hK
/-- Behind take: the thing x is out. -/
def TakS (w : World) (base hb ob : Nat) (a : Option Addr) (n cap mb : Nat) (pu : Int) (f : Nat → Nat) (it ke : Nat → Int) (va : Nat → ByteArray) (lv : Value) (nx mod : Int) (tur : Bool) (lies : Int) (N x : Nat) (w' : World) : Prop :=
  ∃ a' cap' mb' nn' f' M, HsS w' base hb ob a' n cap' mb' nn' pu f' it ke va ∧ Ordr w' ob lv nx mod tur lies M ∧ N ≤ M ∧ 2 ^ (M - N) ≤ 4 * (n + 1) * (n + 1) ∧
    (lies = 0 → Ord (leB mod tur it ke) (n + 1) f (n + 1) → Ord (leB mod tur it ke) n f' n) ∧ (∀ b, Img n f' n b ↔ Img (n + 1) f (n + 1) b ∧ b ≠ x) ∧ TnN (fun k => k = hb ∨ k = mb ∨ k = ob ∨ (Value.slice a (n + 1) cap).ownBlock = some k ∨ Img (n + 1) f (n + 1) k) w w' ((∀ k, (Value.slice a' n cap').ownBlock = some k → w.heap.size ≤ k ∨ (Value.slice a (n + 1) cap).ownBlock = some k) ∧ (w.heap.size ≤ mb' ∨ mb' = mb)) ∧ (∃ q : Int, w'.heap[x]? = some (.cells #[.int .i64 (it x), .int .i64 (ke x), .string (va x), .int .i64 q] 98))
/-- The last place is cut off; x's place i0 is empty. -/
theorem HsS.cut {w W1 : World} {base hb ob gp : Nat} {n cap mb nn : Nat} {pu : Int} {f : Nat → Nat} {it ke : Nat → Int} {va : Nat → ByteArray} {lv : Value} {nx mod : Int} {tur : Bool} {lies : Int} {N i0 : Nat} (h : HsS w base hb ob (some ⟨gp, 0, none⟩) (n + 1) cap mb nn pu f it ke va) (ho : Ordr w ob lv nx mod tur lies N) (hi : i0 < n + 1) (g1 : w.grownBy W1 (some mb)) (W3 : World) (hW3 : W3 = (W1.setCell ⟨gp, n, none⟩ (.pointer none)).setCell ⟨hb, 1, none⟩ (.slice (some ⟨gp, 0, none⟩) n cap)) :
    MeS W3 hb ob gp n cap mb pu f (fun b => Img (n + 1) f (n + 1) b) it ke va i0 ∧ Ordr W3 ob lv nx mod tur lies N ∧ W3.heap[mb]? = W1.heap[mb]? ∧ Tn (fun k => k = hb ∨ k = mb ∨ k = gp) w W3 := by
  have lt : ∀ {k : Nat} {o : Obj}, w.heap[k]? = some o → k < w.heap.size := fun e => (Array.getElem?_eq_some_iff.1 e).1
  obtain ⟨gp', e, _, h1, h2, cs, h3, h4, h5⟩ := h.some' (by omega)
  cases e
  obtain ⟨es, ck, hmb⟩ := (h.mp.choose_spec.1).block
  have k1 : ∀ k, k < w.heap.size → k ≠ mb → W1.heap[k]? = w.heap[k]? := fun k h1 h2 => g1.block k h1 (fun e => h2 (by injection e))
  have nhg : hb ≠ gp := ne_of_type h.hd h3 (by decide)
  have nhm : hb ≠ mb := fun e => map_ne hmb h.hd e.symm
  have ngm : gp ≠ mb := fun e => map_ne hmb h3 e.symm
  have kept : ∀ k, k < w.heap.size → k ≠ hb → k ≠ mb → k ≠ gp → W3.heap[k]? = w.heap[k]? := fun k q1 q2 q3 q4 => by
    rw [hW3]
    exact (Below.heap_setCell _ _ _ k q2).trans ((Below.heap_setCell _ _ _ k q4).trans (k1 k q1 q3))
  have hh : W3.heap[hb]? = some (.cells #[.func (.func 28) #[.pointer (some ⟨ob, 0, none⟩)] #[], .slice (some ⟨gp, 0, none⟩) n cap, .map (some mb), .int .i64 pu] 95) := by
    rw [hW3]
    exact heap_setCell_same _ hb 1 _ _ _ ((Below.heap_setCell _ _ _ hb nhg).trans ((k1 hb (lt h.hd) nhm).trans h.hd))
  have hr : W3.heap[gp]? = some (.cells (cs.setIfInBounds n (.pointer none)) 96) := by
    rw [hW3]
    exact (Below.heap_setCell _ _ _ gp (Ne.symm nhg)).trans (heap_setCell_same W1 gp n cs _ _ ((k1 gp (lt h3) ngm).trans h3))
  have hpl : ∀ i, i < n + 1 → W3.heap[f i]? = some (.cells #[.int .i64 (it (f i)), .int .i64 (ke (f i)), .string (va (f i)), .int .i64 (i : Int)] 98) := fun i hi => (kept (f i) (lt (h.pl i hi)) (ne_of_type (h.pl i hi) h.hd (by decide)) (fun e => map_ne hmb (h.pl i hi) e.symm) (ne_of_type (h.pl i hi) h3 (by decide))).trans (h.pl i hi)
  have hl := h.lim
  refine ⟨{ hd := hh, row := ⟨_, hr, by simpa using h4, fun i hi => ?_⟩, le := by omega, lim := by omega, th := ?_, fB := fun i hi _ => ⟨i, by omega, by omega, rfl⟩, pl := fun i hi _ => hpl i (by omega), wf := ?_ }, ho.kept (kept ob ho.lt (ne_of_type ho.at' h.hd (by decide)) (fun e => map_ne hmb ho.at' e.symm) (ne_of_type ho.at' h3 (by decide))), ?_, ?_⟩
  · rw [Array.getElem?_setIfInBounds_ne (by omega)]
    exact h5 i (by omega)
  · rintro b ⟨i, hi, _, rfl⟩
    exact ⟨_, hpl i hi⟩
  · rintro b ⟨i, hi, _, rfl⟩
    have h6 := h.itr i hi
    have h7 := h.wf i hi
    have h8 := h.pu1
    omega
  · rw [hW3]
    exact (Below.heap_setCell _ _ _ mb (Ne.symm nhm)).trans (Below.heap_setCell _ _ _ mb (Ne.symm ngm))
  · have z := g1.size
    refine ⟨by rw [hW3]; exact g1.os, by rw [hW3]; exact g1.tape, by rw [hW3]; exact g1.output, by rw [hW3]; simpa using z, fun k q1 q2 => kept k q1 (fun e => q2 (.inl e)) (fun e => q2 (.inr (.inl e))) (fun e => q2 (.inr (.inr e)))⟩
/-- What was filled, and maybe made narrower. -/
theorem HsS.taken {w W3 W4 W5 : World} {base hb ob gp : Nat} {n cap mb nn : Nat} {pu : Int} {f f2 : Nat → Nat} {it ke : Nat → Int} {va : Nat → ByteArray} {lv : Value} {nx mod : Int} {tur : Bool} {lies : Int} {N M i0 : Nat} {g : Int → Option Nat} (h : HsS w base hb ob (some ⟨gp, 0, none⟩) (n + 1) cap mb nn pu f it ke va) (hi : i0 < n + 1) (hme3 : MeS W3 hb ob gp n cap mb pu f (fun b => Img (n + 1) f (n + 1) b) it ke va i0) (ho3 : Ordr W3 ob lv nx mod tur lies N) (hm : Mp W3 mb nn (updI g (it (f i0)) none)) (hg : ∀ i b, g i = some b ↔ Img (n + 1) f (n + 1) b ∧ it b = i) (hT3 : Tn (fun k => k = hb ∨ k = mb ∨ k = gp) w W3)
    (hme : MeS W4 hb ob gp n cap mb pu f2 (fun b => Img (n + 1) f (n + 1) b) it ke va n) (ho : Ordr W4 ob lv nx mod tur lies M) (hM : N ≤ M) (hfew : 2 ^ (M - N) ≤ 4 * (n + 1) * (n + 1)) (hord : lies = 0 → Ord (leB mod tur it ke) (n + 1) f (n + 1) → Ord (leB mod tur it ke) n f2 n) (him : ∀ b, Img n f2 n b ↔ Img (n + 1) f (n + 1) b ∧ b ≠ f i0) (hT4 : Tn (fun k => k = ob ∨ k = gp ∨ Img (n + 1) f (n + 1) k) W3 W4) :
    HsS W4 base hb ob (some ⟨gp, 0, none⟩) n cap mb nn pu f2 it ke va ∧ (∀ w', NarS W4 base hb ob n pu f2 it ke va (.returned (.tuple #[])) w' → TakS w base hb ob (some ⟨gp, 0, none⟩) n cap mb pu f it ke va lv nx mod tur lies N (f i0) w') := by
  obtain ⟨es, ck, hmb⟩ := hm.block
  obtain ⟨gp', e, hbg, h1, hcap, cs, h3, h4, h5⟩ := h.some' (by omega)
  cases e
  obtain ⟨cs3, r3, _⟩ := hme3.row
  have hl := h.lim
  have HS : HsS W4 base hb ob (some ⟨gp, 0, none⟩) n cap mb nn pu f2 it ke va := by
    refine hme.hs hbg hcap (by omega) (fun b hb' => ?_) (fun b c hb' hc' e => ?_) h.pu0 h.pu1 h.nn1 ⟨_, hm.kept (hT4.block mb (Array.getElem?_eq_some_iff.1 hmb).1 ?_), fun i b => ?_⟩ h.ge.1 h.ge.2.1 h.ge.2.2.1
    · obtain ⟨⟨i, hi', _, rfl⟩, _⟩ := (him b).1 hb'
      have h6 := h.itr i hi'
      have h7 := h.ge.2.2.2 i hi'
      omega
    · obtain ⟨⟨i, hi', _, rfl⟩, _⟩ := (him b).1 hb'
      obtain ⟨⟨j, hj', _, rfl⟩, _⟩ := (him c).1 hc'
      rw [h.iti i j hi' hj' e]
    · rintro (e | e | e)
      · exact map_ne hmb ho3.at' e
      · exact map_ne hmb r3 e
      · obtain ⟨q, e2⟩ := hme3.th _ e
        exact map_ne hmb e2 rfl
    · rw [him b]
      unfold updI
      split <;> rename_i c
      · subst c
        constructor
        · intro e
          cases e
        · rintro ⟨⟨⟨j, hj, _, rfl⟩, hne⟩, e⟩
          exact absurd (by rw [h.iti j i0 hj hi e]) hne
      · rw [hg i b]
        constructor
        · rintro ⟨h6, e⟩
          exact ⟨⟨h6, fun e2 => c (by rw [← e, e2])⟩, e⟩
        · rintro ⟨⟨h6, _⟩, e⟩
          exact ⟨h6, e⟩
  refine ⟨HS, fun w' hN => ?_⟩
  obtain ⟨_, a', cap', mb', nn', hH, hT5⟩ := hN
  have nho : ob ≠ hb := ne_of_type ho.at' hme.hd (by decide)
  refine ⟨a', cap', mb', nn', f2, M, hH, ho.kept (hT5.block ob ho.lt (fun e => nho e)), hM, hfew, hord, him, ?_, ?_⟩
  · refine { ((hT3.mono (S' := fun k => k = hb ∨ k = mb ∨ k = ob ∨ (Value.slice (some ⟨gp, 0, none⟩) (n + 1) cap).ownBlock = some k ∨ Img (n + 1) f (n + 1) k) (fun k _ e => ?_)).trans hT4 (fun k _ e => ?_)).trans hT5.toTn (fun k _ e => .inl e) with new := ⟨fun k hk => ?_, ?_⟩ }
    · rcases e with e | e | e
      · exact .inl e
      · exact .inr (.inl e)
      · exact .inr (.inr (.inr (.inl (by rw [e]; rfl))))
    · rcases e with e | e | e
      · exact .inr (.inr (.inl e))
      · exact .inr (.inr (.inr (.inl (by rw [e]; rfl))))
      · exact .inr (.inr (.inr (.inr e)))
    · have z3 := hT3.size
      have z4 := hT4.size
      rcases hT5.new.1 k hk with h8 | ⟨v0, h8, h9⟩
      · exact .inl (by omega)
      · rw [HS.cells.1] at h8
        cases h8
        exact .inr h9
    · have z3 := hT3.size
      have z4 := hT4.size
      rcases hT5.new.2 with h8 | h8
      · exact .inl (by omega)
      · rw [HS.cells.2.1] at h8
        cases h8
        exact .inr rfl
  · obtain ⟨q, eq⟩ := hme.th (f i0) ⟨i0, hi, by omega, rfl⟩
    exact ⟨q, (hT5.block _ (Array.getElem?_eq_some_iff.1 eq).1 (ne_of_type eq hme.hd (by decide))).trans eq⟩
end Go.Proofs.Ytklhenblcgmfhaa
