/- Contracts of the program's functions, part 15: own work, joined in build order. -/
import Derived.Test.YtkhdapmipcghoaaDoorJ14
namespace Go.Proofs.YtkhdapmipcghoaaDoor
open Go.RowKit
set_option maxRecDepth 100000
set_option linter.unusedVariables false
/-- Four cells of a box are written over: what stays. -/
structure Kept4 (w w' : World) (r : Nat) : Prop where
  rt : ∀ {V p q}, Rt w V p q → Rt w' V p q
  nt : ∀ {V x}, IsNat w V x → IsNat w' V x
  cl : ∀ {g i v}, g ≠ r → w.cell? ⟨g, i, none⟩ = some v → w'.cell? ⟨g, i, none⟩ = some v
  fz : ∀ p, w'.frozen? p = w.frozen? p
theorem four_keep {w : World} {r : Nat} (h4 : Four w r) (s0 s1 s2 s3 : Value) : Kept4 w ((((w.setCell ⟨r, 0, none⟩ s0).setCell ⟨r, 1, none⟩ s1).setCell ⟨r, 2, none⟩ s2).setCell ⟨r, 3, none⟩ s3) r := by
  obtain ⟨⟨a0, n0, c0, k0⟩, _⟩ := h4 0 (by omega)
  obtain ⟨⟨a1, n1, c1, k1⟩, _⟩ := h4 1 (by omega)
  obtain ⟨⟨a2, n2, c2, k2⟩, _⟩ := h4 2 (by omega)
  obtain ⟨⟨a3, n3, c3, k3⟩, _⟩ := h4 3 (by omega)
  have j1 : (w.setCell ⟨r, 0, none⟩ s0).cell? ⟨r, 1, none⟩ = some (.slice a1 n1 c1) := (World.cell?_setCell_other (h := by simp) ..).trans k1
  have j2 : ((w.setCell ⟨r, 0, none⟩ s0).setCell ⟨r, 1, none⟩ s1).cell? ⟨r, 2, none⟩ = some (.slice a2 n2 c2) := (World.cell?_setCell_other (h := by simp) ..).trans ((World.cell?_setCell_other (h := by simp) ..).trans k2)
  have j3 : (((w.setCell ⟨r, 0, none⟩ s0).setCell ⟨r, 1, none⟩ s1).setCell ⟨r, 2, none⟩ s2).cell? ⟨r, 3, none⟩ = some (.slice a3 n3 c3) := (World.cell?_setCell_other (h := by simp) ..).trans ((World.cell?_setCell_other (h := by simp) ..).trans ((World.cell?_setCell_other (h := by simp) ..).trans k3))
  exact ⟨fun h => (((h.setCell (no_int_slice k0) _).setCell (no_int_slice j1) _).setCell (no_int_slice j2) _).setCell (no_int_slice j3) _, fun h => (((h.setCell (no_int_slice k0) _).setCell (no_int_slice j1) _).setCell (no_int_slice j2) _).setCell (no_int_slice j3) _, fun hg h => far_at (far_at (far_at (far_at h hg) hg) hg) hg, fun p => by simp [World.frozen?_setCell]⟩
theorem RAt.keep {w w' : World} {r g p q : Nat} (h : RAt w g p q) (k : Kept4 w w' r) (hg : g ≠ r) : RAt w' g p q := by
  obtain ⟨a, n, c, a', n', c', c0, c1, f0, f1, hr⟩ := h
  exact ⟨a, n, c, a', n', c', k.cl hg c0, k.cl hg c1, by rw [k.fz]; exact f0, by rw [k.fz]; exact f1, k.rt hr⟩
theorem NAt.keep {w w' : World} {r g x : Nat} (h : NAt w g x) (k : Kept4 w w' r) (hg : g ≠ r) : NAt w' g x := by
  obtain ⟨a, n, c, c0, f0, hr⟩ := h
  exact ⟨a, n, c, k.cl hg c0, by rw [k.fz]; exact f0, k.nt hr⟩
theorem two_cells {w : World} {r : Nat} {v0 v1 s t : Value} (x0 : w.cell? ⟨r, 0, none⟩ = some v0) (x1 : w.cell? ⟨r, 1, none⟩ = some v1) :
    ((w.setCell ⟨r, 0, none⟩ s).setCell ⟨r, 1, none⟩ t).cell? ⟨r, 0, none⟩ = some s ∧ ((w.setCell ⟨r, 0, none⟩ s).setCell ⟨r, 1, none⟩ t).cell? ⟨r, 1, none⟩ = some t := by
  have hd : (w.setCell ⟨r, 0, none⟩ s).cell? ⟨r, 1, none⟩ = some v1 := by rw [World.cell?_setCell_other (h := by simp), x1]
  constructor
  · rw [World.cell?_setCell_other (h := by simp)]
    simp [go_sem, x0]
  · simp [go_sem, hd]
/-- Two fractions are laid into two boxes. -/
structure Laid2 (w w' : World) (b P1 Q1 P2 Q2 : Nat) : Prop where
  r : RAt w' b P1 Q1
  s : RAt w' (b + 1) P2 Q2
  o : ∀ {g p q}, g ≠ b → g ≠ b + 1 → RAt w g p q → RAt w' g p q
  t : ∀ {g g1 g2 g3 g4}, g ≠ b → g ≠ b + 1 → TAt w g g1 g2 g3 g4 → TAt w' g g1 g2 g3 g4
  n : ∀ {g x}, g ≠ b → g ≠ b + 1 → NAt w g x → NAt w' g x
  rt : ∀ {V p q}, Rt w V p q → Rt w' V p q
  bel : ∀ {w0 : World}, w0.heap.size ≤ b → Below w0.heap.size w0 w → Below w0.heap.size w0 w'
theorem two_put {w : World} {b p q x y P1 Q1 P2 Q2 : Nat} (hr : RAt w b p q) (hs : RAt w (b + 1) x y) {a : Option Addr} {n c : Nat} {a' : Option Addr} {n' c' : Nat} {d : Option Addr} {m e : Nat} {d' : Option Addr} {m' e' : Nat} (hv : Rt w (.agg #[.slice a n c, .slice a' n' c']) P1 Q1) (hu : Rt w (.agg #[.slice d m e, .slice d' m' e']) P2 Q2) : Laid2 w ((((w.setCell ⟨b, 0, none⟩ (.slice a n c)).setCell ⟨b, 1, none⟩ (.slice a' n' c')).setCell ⟨b + 1, 0, none⟩ (.slice d m e)).setCell ⟨b + 1, 1, none⟩ (.slice d' m' e')) b P1 Q1 P2 Q2 := by
  obtain ⟨r1, r2, r3, r4, r5, r6, c0, c1, f0, f1, h1⟩ := id hr
  obtain ⟨s1, s2, s3, s4, s5, s6, k0, k1, g0, g1, h2⟩ := id hs
  have n0 := no_int_slice c0
  have j1 : (w.setCell ⟨b, 0, none⟩ (.slice a n c)).cell? ⟨b, 1, none⟩ = some (.slice r4 r5 r6) := by rw [World.cell?_setCell_other (h := by simp), c1]
  have j2 : ((w.setCell ⟨b, 0, none⟩ (.slice a n c)).setCell ⟨b, 1, none⟩ (.slice a' n' c')).cell? ⟨b + 1, 0, none⟩ = some (.slice s1 s2 s3) := far_at (far_at k0 (by omega)) (by omega)
  have j2' : ((w.setCell ⟨b, 0, none⟩ (.slice a n c)).setCell ⟨b, 1, none⟩ (.slice a' n' c')).cell? ⟨b + 1, 1, none⟩ = some (.slice s4 s5 s6) := far_at (far_at k1 (by omega)) (by omega)
  have j3 : (((w.setCell ⟨b, 0, none⟩ (.slice a n c)).setCell ⟨b, 1, none⟩ (.slice a' n' c')).setCell ⟨b + 1, 0, none⟩ (.slice d m e)).cell? ⟨b + 1, 1, none⟩ = some (.slice s4 s5 s6) := by rw [World.cell?_setCell_other (h := by simp), j2']
  refine ⟨?_, ?_, fun q1 q2 h => (((h.far q1 c0 _).far q1 j1 _).far q2 j2 _).far q2 j3 _, fun q1 q2 h => (((h.far q1 c0 _).far q1 j1 _).far q2 j2 _).far q2 j3 _, fun q1 q2 h => (((h.far q1 c0 _).far q1 j1 _).far q2 j2 _).far q2 j3 _, fun h => (((h.setCell n0 _).setCell (no_int_slice j1) _).setCell (no_int_slice j2) _).setCell (no_int_slice j3) _, fun hl h => (((h.setCell (p := ⟨b, 0, none⟩) hl _).setCell (p := ⟨b, 1, none⟩) hl _).setCell (p := ⟨b + 1, 0, none⟩) (by show _ ≤ b + 1; omega) _).setCell (p := ⟨b + 1, 1, none⟩) (by show _ ≤ b + 1; omega) _⟩
  · exact ((hr.put hv).far (by omega) j2 _).far (by omega) j3 _
  · exact ((hs.far (by omega) c0 _).far (by omega) j1 _).put ((hu.setCell n0 _).setCell (no_int_slice j1) _)
theorem sx_of {w w' : World} (h : Below w.heap.size w w') : SX w w' [] [] [] [] [] := ⟨(fun _ h => by cases h), (fun _ h => by cases h), (fun _ h => by cases h), (fun _ h => by cases h), (fun _ h => by cases h), h⟩
set_option maxHeartbeats 16000000 in
theorem between_any : ∀ (N : Nat) (v u : Value) (p q x y A B : Nat) (w : World), q ≤ N → Rt w v p q → Rt w u x y → (p < P 15 ∧ q < P 15 ∧ x < P 15 ∧ y < P 15) → Best p q x y A B → 0 < B → Calls Tryd.prog 39 #[v, u] w (MakesR w A B) := by
  intro N
  induction N with
  | zero =>
    intro v u p q x y A B w hN h
    have := h.pos
    omega
  | succ N ih =>
    intro v u p q x y A B w hN h k hz hB hB0
    have IH : Hid _ := ih
    clear ih
    obtain ⟨p1, m1, d1, p2, m2, d2, e0, _, _⟩ := h.raw
    subst e0
    obtain ⟨p3, m3, d3, p4, m4, d4, e1, _, _⟩ := k.raw
    subst e1
    obtain ⟨w0, hw0⟩ : ∃ w0, w0 = ((w.alloc (.cells #[.slice p1 m1 d1, .slice p2 m2 d2] 29)).alloc (.cells #[.slice p3 m3 d3, .slice p4 m4 d4] 29)).alloc (.cells #[.slice none 0 0, .slice none 0 0] 29) := ⟨_, rfl⟩
    have ba : Below w.heap.size w w0 := by rw [hw0]; exact bel_al (bel_al (bel_al (bel_refl w)))
    have HR : Hid ((w0.cell? ⟨w.heap.size, 0, none⟩ = some (.slice p1 m1 d1) ∧ w0.cell? ⟨w.heap.size, 1, none⟩ = some (.slice p2 m2 d2)) ∧ RAt w0 w.heap.size p q ∧ RAt w0 (w.heap.size + 1) x y ∧ RAt w0 (w.heap.size + 1 + 1) 0 1) := by
      refine ⟨⟨by rw [hw0]; simp [go_sem], by rw [hw0]; simp [go_sem]⟩, ⟨p1, m1, d1, p2, m2, d2, ?_, ?_, ?_, ?_, h.mono ba⟩, ⟨p3, m3, d3, p4, m4, d4, ?_, ?_, ?_, ?_, k.mono ba⟩, ⟨none, 0, 0, none, 0, 0, ?_, ?_, ?_, ?_, rt_zero _⟩⟩ <;> rw [hw0] <;> simp [go_sem]
    have HQ : Hid (Rt w0 (.agg #[.slice p1 m1 d1, .slice p2 m2 d2]) p q ∧ Rt w0 (.agg #[.slice p3 m3 d3, .slice p4 m4 d4]) x y ∧ Below w.heap.size w w0) := ⟨h.mono ba, k.mono ba, ba⟩
    have HP : Hid (0 < q ∧ 0 < y ∧ Nat.gcd p q = 1 ∧ Nat.gcd x y = 1 ∧ q ≤ N + 1) := ⟨h.pos, k.pos, h.low, k.low, hN⟩
    have HZ : Hid (p < P 15 ∧ q < P 15 ∧ x < P 15 ∧ y < P 15) := hz
    have HB : Hid (Best p q x y A B ∧ 0 < B) := ⟨hB, hB0⟩
    clear h k hz hB hB0 hN ba
    go_enter Tryd.func39, Tryd.ntmps39
    go_wp2_with fail
    rw [← hw0]
    obtain ⟨b, hb⟩ : ∃ b, b = w.heap.size := ⟨_, rfl⟩
    have HL : Hid (w.heap.size ≤ b) := by show _ ≤ _; omega
    rw [← hb] at HR
    rw [← hb]
    clear hw0 hb
    refine (ratCmp_any _ _ p q x y _ HQ.out.1 HQ.out.2.1 (rs15 HZ.out.1) (rs15 HZ.out.2.1) (rs15 HZ.out.2.2.1) (rs15 HZ.out.2.2.2)).mono ?_
    rintro e w1 ⟨rfl, hb1⟩
    have HR1 : Hid ((w1.cell? ⟨b, 0, none⟩ = some (.slice p1 m1 d1) ∧ w1.cell? ⟨b, 1, none⟩ = some (.slice p2 m2 d2)) ∧ RAt w1 b p q ∧ RAt w1 (b + 1) x y ∧ RAt w1 (b + 1 + 1) 0 1 ∧ Below w.heap.size w w1 ∧ Rt w1 (.agg #[.slice p1 m1 d1, .slice p2 m2 d2]) p q) := ⟨⟨cell_later hb1 HR.out.1.1, cell_later hb1 HR.out.1.2⟩, HR.out.2.1.go hb1, HR.out.2.2.1.go hb1, HR.out.2.2.2.go hb1, bel_go HQ.out.2.2 hb1, HQ.out.1.mono hb1⟩
    clear hb1 HR HQ
    obtain ⟨z1, z2⟩ := HR1.out.1
    by_cases he : p * y = x * q
    · rw [cmpI_same he]
      obtain ⟨o1, o2, o3, o4, o5, o6, c0, c1, f0, f1, _⟩ := HR1.out.2.2.2.1
      obtain ⟨eA, eB⟩ := best_one HB.out.1 (best_same HP.out.1 HP.out.2.2.1 he HP.out.2.1) HB.out.2 HP.out.1
      have EE : Hid (A = p ∧ B = q) := ⟨eA, eB⟩
      have Z : Hid _ := rat_put (w0 := w) (v := .slice p1 m1 d1) (u := .slice p2 m2 d2) c0 c1 HR1.out.2.2.2.2.2 HR1.out.2.2.2.2.1 (r := b + 1 + 1) (by have := HL.out; omega)
      clear HR1 eA eB he
      go_wp2_with fail
      rw [EE.out.1, EE.out.2]
      exact bodyPost_ret (v := .agg #[.slice p1 m1 d1, .slice p2 m2 d2]) (by simp [results, Tryd.results39, go_sem, c0, c1]) rfl ⟨_, rfl, Z.out.1, Z.out.2⟩
    · obtain ⟨kk, hkk⟩ : ∃ kk, kk = cmpI (p * y) (x * q) := ⟨_, rfl⟩
      have hd0 : kk ≠ 0 := by
        rw [hkk]
        unfold cmpI
        rw [if_neg he]
        split <;> omega
      have hd : (kk == 0) = false := by simpa using hd0
      have hd1 : decide (kk = 0) = false := decide_eq_false hd0
      rw [← hkk]
      clear hkk he
      go_wp2_with fail
      clear hd hd0 hd1
      refine (noTerms_any _).mono ?_
      rintro e v5w ⟨v5, rfl, hv5, hb5⟩
      obtain ⟨t0, e0, k0, t1, e1, k1, t2, e2, k2, t3, e3, k3, ev, h0, h1, h2, h3⟩ := hv5
      subst ev
      have ba := bel_al (o := .cells #[.slice t0 e0 k0, .slice t1 e1 k1, .slice t2 e2 k2, .slice t3 e3 k3] 98) (bel_refl v5w)
      have bb := bel_go hb5 ba
      obtain ⟨w5, hw5⟩ : ∃ w5, w5 = v5w.alloc (.cells #[.slice t0 e0 k0, .slice t1 e1 k1, .slice t2 e2 k2, .slice t3 e3 k3] 98) := ⟨_, rfl⟩
      have lb : b + 1 + 1 < v5w.heap.size := by
        obtain ⟨o1, o2, o3, o4, o5, o6, c0, _⟩ := HR1.out.2.2.2.1
        exact World.block_lt_of_cell? _ _ (cell_later hb5 c0)
      have ts : v5w.heap.size < w5.heap.size := by rw [hw5]; simp
      rw [← hw5] at ba bb
      have HT : Hid (TAt w5 v5w.heap.size 1 0 0 1 ∧ RAt w5 b p q ∧ RAt w5 (b + 1) x y ∧ RAt w5 (b + 1 + 1) 0 1 ∧ Below w.heap.size w w5 ∧ Rt w5 (.agg #[.slice p1 m1 d1, .slice p2 m2 d2]) p q ∧ b + 1 + 1 < v5w.heap.size) := by
        refine ⟨⟨t0, e0, k0, t1, e1, k1, t2, e2, k2, t3, e3, k3, ⟨?_, ?_, ?_, ?_⟩, ⟨?_, ?_, ?_, ?_⟩, ⟨_, _, _, _, _, _, _, _, _, _, _, _, rfl, h0.mono ba, h1.mono ba, h2.mono ba, h3.mono ba⟩⟩, HR1.out.2.1.go bb, HR1.out.2.2.1.go bb, HR1.out.2.2.2.1.go bb, bel_go HR1.out.2.2.2.2.1 bb, HR1.out.2.2.2.2.2.mono bb, lb⟩ <;> rw [hw5] <;> simp [go_sem]
      have y1 := cell_later bb z1
      have y2 := cell_later bb z2
      rw [hw5] at y1 y2
      clear h0 h1 h2 h3 hb5 ba bb lb z1 z2 HR1
      go_wp2_with fail
      rw [← hw5] at y1 y2
      rw [← hw5]
      obtain ⟨b5, hb5⟩ : ∃ b5, b5 = v5w.heap.size := ⟨_, rfl⟩
      rw [← hb5] at HT ts
      rw [← hb5]
      clear hw5 hb5
      refine (parts_any _ p q _ HT.out.2.2.2.2.2.1 (rs15 HZ.out.2.1).fits).mono ?_
      rintro e v7w ⟨v6, v7, rfl, hv, hu, hb⟩
      obtain ⟨a6, n6, c6, rfl⟩ := hv.isAgg
      obtain ⟨a7, n7, c7, rfl⟩ := hu.isAgg
      obtain ⟨w7, hw7⟩ : ∃ w7, w7 = (v7w.alloc (.cells #[.slice a6 n6 c6] 27)).alloc (.cells #[.slice a7 n7 c7] 27) := ⟨_, rfl⟩
      have bb : Below v7w.heap.size v7w w7 := by rw [hw7]; exact bel_al (bel_al (bel_refl _))
      have b57 := bel_go hb bb
      have D0 : Hid (BSt w w7 b b5 (v7w.heap.size + 1) p q x y p q x y 1 0 0 1 ∧ IsNat w7 (.agg #[.slice a7 n7 c7]) q) := by
        have lt := hb.size
        refine ⟨⟨HT.out.2.1.go b57, HT.out.2.2.1.go b57, HT.out.2.2.2.1.go b57, HT.out.1.go b57, ⟨a7, n7, c7, ?_, ?_, hu.mono bb⟩, Ahead.start HP.out.1 HP.out.2.1, HZ.out, bel_go HT.out.2.2.2.2.1 b57, HL.out, HT.out.2.2.2.2.2.2, by omega⟩, hu.mono bb⟩ <;> rw [hw7] <;> simp [go_sem]
      clear hv hu hb bb b57 HT y1 y2 ts
      go_wp2_with fail
      rw [← hw7]
      obtain ⟨b7, hb7⟩ : ∃ b7, b7 = v7w.heap.size + 1 := ⟨_, rfl⟩
      rw [← hb7] at D0
      rw [← hb7]
      clear hb7 hw7
      refine (len_any _ q _ D0.out.2 (rs15 HZ.out.2.1).fits).mono ?_
      rintro e w8 ⟨rfl, hb⟩
      have D1 : Hid _ := D0.out.1.go hb
      clear hb D0
      have hl : bitLen q ≤ 960 := bitLen_P HZ.out.2.1
      go_wp2_with fail
      obtain ⟨hf, ehf⟩ : ∃ hf : Int, hf = (bitLen q : Int) / 2 := ⟨_, rfl⟩
      have HF : Hid (hf * 2 ≤ bitLen q) := by show _ ≤ _; omega
      rw [← ehf]
      clear ehf hl
      go_loopg [9] q (fun gk t wr => ∃ p' x' y' g1 g2 g3 g4, Hid (BSt w wr b b5 b7 p q x y p' gk x' y' g1 g2 g3 g4))
      case atStart => exact ⟨_, _, _, _, _, _, _, D1.out⟩
      case round =>
        clear D1
        obtain ⟨p', x', y', g1, g2, g3, g4, hD⟩ := hrel
        have RS4 : Hid _ := hD.out.small HZ.out.1 HZ.out.2.1
        have SZ : Hid (RS p' ∧ RS gk ∧ RS x' ∧ RS y') := ⟨rs15 hD.out.sz.1, rs15 hD.out.sz.2.1, rs15 hD.out.sz.2.2.1, rs15 hD.out.sz.2.2.2⟩
        obtain ⟨a9, n9, c9, cq, _, hq9⟩ := hD.out.n
        go_wp2_with fail
        refine (len_any _ gk _ hq9 SZ.out.2.1.fits).mono ?_
        rintro e w9 ⟨rfl, hb⟩
        have D2 : Hid _ := hD.out.go hb
        clear hb hD cq hq9
        by_cases hlen : hf < (bitLen gk : Int)
        · have hdl : decide (hf < (bitLen gk : Int)) = true := decide_eq_true hlen
          obtain ⟨r1, r2, r3, r4, r5, r6, cr0, cr1, _, _, hr⟩ := D2.out.r
          go_wp2_with fail
          clear hdl hlen
          refine (turned_any _ p' gk _ hr SZ.out.1 SZ.out.2.1).mono ?_
          rintro e vAw ⟨vA, uA, rfl, hv, hu, hb⟩
          obtain ⟨aA, nA, cA, rfl⟩ := hv.isAgg
          obtain ⟨s1, s2, s3, s4, s5, s6, ev, i1, _⟩ := hu.raw
          subst ev
          have ba := bel_al (o := .cells #[.slice s1 s2 s3, .slice s4 s5 s6] 29) (bel_al (o := .cells #[.slice aA nA cA] 27) (bel_refl vAw))
          have NA : Hid (b7 < vAw.heap.size) := by
            obtain ⟨_, _, _, cn, _⟩ := D2.out.n
            exact World.block_lt_of_cell? _ _ (cell_later hb cn)
          have S3 : Hid _ := (((((sx_of (bel_go D2.out.bel hb)).addN hv).addN i1).addF hu).box1 (.slice aA nA cA) 27 _ rfl).box (.slice s1 s2 s3) (.slice s4 s5 s6) 29 _ rfl
          simp only [World.size_alloc] at S3
          have D3 : Hid _ := D2.out.go (bel_go hb ba)
          clear hv hu hb ba i1 D2 cr0 cr1 hr
          obtain ⟨q1, q2, q3, q4, q5, q6, cs0, cs1, _, _, hs⟩ := D3.out.s
          go_wp2_with fail
          obtain ⟨wA, hw⟩ : ∃ wA, wA = (vAw.alloc (.cells #[.slice aA nA cA] 27)).alloc (.cells #[.slice s1 s2 s3, .slice s4 s5 s6] 29) := ⟨_, rfl⟩
          obtain ⟨bA, hb⟩ : ∃ bA, bA = vAw.heap.size := ⟨_, rfl⟩
          rw [← hw, ← hb] at S3
          rw [← hw] at D3 hs cs0 cs1
          rw [← hb] at NA
          rw [← hw, ← hb]
          clear hw hb cs0 cs1
          refine (turned_any _ x' y' _ hs SZ.out.2.2.1 SZ.out.2.2.2).mono ?_
          rintro e vBw ⟨vB, uB, rfl, hv, hu, hb⟩
          obtain ⟨aB, nB, cB, rfl⟩ := hv.isAgg
          obtain ⟨z1, z2, z3, z4, z5, z6, ev, i1, _⟩ := hu.raw
          subst ev
          have ba := bel_al (o := .cells #[.slice z1 z2 z3, .slice z4 z5 z6] 29) (bel_al (o := .cells #[.slice aB nB cB] 27) (bel_refl vBw))
          have NB : Hid (bA + 1 < vBw.heap.size) := World.block_lt_of_cell? _ _ (cell_later hb (S3.out.cel (bA + 1) 0 (.slice s1 s2 s3)))
          have S4 : Hid _ := (((((S3.out.go hb).addN hv).addN i1).addF hu).box1 (.slice aB nB cB) 27 _ rfl).box (.slice z1 z2 z3) (.slice z4 z5 z6) 29 _ rfl
          simp only [World.size_alloc] at S4
          have D4 : Hid _ := D3.out.go (bel_go hb ba)
          clear hv hu hb ba i1 D3 S3 hs
          have ya := S4.out.cell bA (.slice aA nA cA)
          go_wp2_with fail
          obtain ⟨wB, hw⟩ : ∃ wB, wB = (vBw.alloc (.cells #[.slice aB nB cB] 27)).alloc (.cells #[.slice z1 z2 z3, .slice z4 z5 z6] 29) := ⟨_, rfl⟩
          obtain ⟨bB, hb⟩ : ∃ bB, bB = vBw.heap.size := ⟨_, rfl⟩
          rw [← hw, ← hb] at S4
          rw [← hw] at D4
          rw [← hb] at NB
          rw [← hw, ← hb]
          clear hw hb ya
          have FL : Hid (RS (p' / gk) ∧ RS (x' / y') ∧ RS (tP p' gk) ∧ RS (tP x' y')) := ⟨SZ.out.1.le (Nat.div_le_self _ _), SZ.out.2.2.1.le (Nat.div_le_self _ _), SZ.out.2.1.le (by unfold tP; split <;> omega), SZ.out.2.2.2.le (by unfold tP; split <;> omega)⟩
          refine (cmp_any _ _ (p' / gk) (x' / y') _ (S4.out.at (.agg #[.slice aA nA cA]) (p' / gk)) (S4.out.at (.agg #[.slice aB nB cB]) (x' / y')) FL.out.1.fits FL.out.2.1.fits).mono ?_
          rintro e wC ⟨rfl, hb⟩
          have S5 : Hid _ := S4.out.go hb
          have D5 : Hid _ := D4.out.go hb
          clear hb S4 D4
          by_cases h1 : p' / gk = x' / y'
          · rw [cmpI_same h1]
            have yl := S5.out.cel (bA + 1) 0 (.slice s1 s2 s3)
            go_wp2_with fail
            clear yl
            refine (isZero_any _ (tP p' gk) _ (S5.out.at (.agg #[.slice s1 s2 s3]) (tP p' gk)) FL.out.2.2.1.fits).mono ?_
            rintro e wD ⟨rfl, hb⟩
            have S6 : Hid _ := S5.out.go hb
            have D6 : Hid _ := D5.out.go hb
            clear hb S5 D5
            by_cases h2 : p' % gk = 0
            · have hd2 : decide (tP p' gk = 0) = true := decide_eq_true ((tP_zero D6.out.ah.q1).2 h2)
              have LF : Hid (p' / gk ≠ x' / y' ∨ p' % gk = 0 ∨ x' % y' = 0) := .inr (.inl h2)
              clear h1 h2 S6
              obtain ⟨y0, j0, l0, y1, j1, l1, y2, j2, l2, y3, j3, l3, ⟨c0, c1, c2, c3⟩, _, htm⟩ := D6.out.t
              obtain ⟨rr1, rr2, rr3, rr4, rr5, rr6, cr0, cr1, _, _, hr⟩ := D6.out.r
              obtain ⟨qq1, qq2, qq3, qq4, qq5, qq6, cs0, cs1, _, _, hs⟩ := D6.out.s
              obtain ⟨o1, o2, o3, o4, o5, o6, e6, e7, f6, f7, _⟩ := D6.out.o
              have TM : Hid (IsTm wD (.agg #[.slice y0 j0 l0, .slice y1 j1 l1, .slice y2 j2 l2, .slice y3 j3 l3]) g1 g2 g3 g4) := htm
              have SL : Hid _ := ((((((((((sx_of D6.out.bel).addF hr).addF hs).addC cr0).addC cr1).addC cs0).addC cs1).addC c0).addC c1).addC c2).addC c3
              obtain ⟨M, hM⟩ : ∃ M, M = Min.min (ceilN p' gk) (ceilN x' y') := ⟨_, rfl⟩
              have bk := D6.out.ah.back M 1 (by omega) (Nat.gcd_one_right _) (by rw [hM]; exact best_leaf D6.out.ah.q1 D6.out.ah.y1 LF.out)
              have HK : Hid (Nat.gcd (g1 * M + g2 * 1) (g3 * M + g4 * 1) = 1 ∧ 0 < g3 * M + g4 * 1) := bk.2
              have EE : Hid (g1 * M + g2 * 1 = A ∧ g3 * M + g4 * 1 = B) := best_one bk.1 HB.out.1 bk.2.2 HB.out.2
              have HM : Hid (RS M ∧ RS 1) := ⟨⟨by
                have k1 : M ≤ ceilN p' gk := by rw [hM]; exact Nat.min_le_left _ _
                have k2 : ceilN p' gk ≤ p' / gk + 1 := by unfold ceilN; split <;> omega
                have k3 : p' / gk ≤ p' := Nat.div_le_self _ _
                have k4 := D6.out.sz.1
                have k5 : P 15 < P 90 := P_lt (by omega)
                omega⟩, rs_word (by omega)⟩
              have CL : Hid (∀ v u w, Rt w v p' gk → Rt w u x' y' → Calls Tryd.prog 67 #[v, u] w (MakesR w M 1)) := fun v u w i j => by
                rw [hM]
                exact leastWhole_any v u p' gk x' y' w i j SZ.out.1 SZ.out.2.1 SZ.out.2.2.1 SZ.out.2.2.2
              clear bk hM D6 c0 c1 c2 c3 htm cr0 cr1 cs0 cs1 hr hs
              go_wp2_with fail
              refine wp_region_inv (JD wD [sTm g1 g2 g3 g4, sRt (p') (gk), sRt (x') (y'), sRt (M) (1), sRt (g1 * M + g2 * 1) (g3 * M + g4 * 1), sAny] [[], [], [], [1, 2], [0, 3], [4]] 5 4 [0, 1, 2, 3, 4] (Sto2 (b + 1 + 1))) 75 (by kernel_rfl) rfl (by kernel_rfl) (JD.start _ _ _ _ _ _ _) (fun HG HN => ⟨?_, ?_, ?_, ?_, ?_, ?_, trivial⟩) ?_
              · intro L vs a w' hJ hF hP hL
                have hK := hJ
                have hJ := hK.open hL (by decide)
                have q5 : (a.tmps[5]?).getD undef = .pointer (some ⟨b5, 0, none⟩) := hF.old 5 rfl
                have cb0 := cell_later hJ.bel (SL.out.cel b5 0 (.slice y0 j0 l0))
                have cb1 := cell_later hJ.bel (SL.out.cel b5 1 (.slice y1 j1 l1))
                have cb2 := cell_later hJ.bel (SL.out.cel b5 2 (.slice y2 j2 l2))
                have cb3 := cell_later hJ.bel (SL.out.cel b5 3 (.slice y3 j3 l3))
                exact run_val (v := .agg #[.slice y0 j0 l0, .slice y1 j1 l1, .slice y2 j2 l2, .slice y3 j3 l3]) rfl (by simp [execOp, go_sem, q5, cb0, cb1, cb2, cb3]) ⟨_, rfl, hK.step hL (by decide) (by decide) rfl (nd_nil) <| hJ.step hL rfl (Below.refl _ _) (by exact (TM.out.mono hJ.bel))⟩
              · intro L vs a w' hJ hF hP hL
                have hK := hJ
                have hJ := hK.open hL (by decide)
                have q2 : (a.tmps[2]?).getD undef = .pointer (some ⟨b, 0, none⟩) := hF.old 2 rfl
                have cb := cell_later hJ.bel (SL.out.cel (b) 0 (.slice rr1 rr2 rr3))
                have cc := cell_later hJ.bel (SL.out.cel (b) 1 (.slice rr4 rr5 rr6))
                exact run_val (v := .agg #[.slice rr1 rr2 rr3, .slice rr4 rr5 rr6]) rfl (by simp [execOp, go_sem, q2, cb, cc]) ⟨_, rfl, hK.step hL (by decide) (by decide) rfl (nd_nil) <| hJ.step hL rfl (Below.refl _ _) (by exact ((SL.out.fr (.agg #[.slice rr1 rr2 rr3, .slice rr4 rr5 rr6]) (p') (gk)).mono hJ.bel))⟩
              · intro L vs a w' hJ hF hP hL
                have hK := hJ
                have hJ := hK.open hL (by decide)
                have q3 : (a.tmps[3]?).getD undef = .pointer (some ⟨b + 1, 0, none⟩) := hF.old 3 rfl
                have cb := cell_later hJ.bel (SL.out.cel (b + 1) 0 (.slice qq1 qq2 qq3))
                have cc := cell_later hJ.bel (SL.out.cel (b + 1) 1 (.slice qq4 qq5 qq6))
                exact run_val (v := .agg #[.slice qq1 qq2 qq3, .slice qq4 qq5 qq6]) rfl (by simp [execOp, go_sem, q3, cb, cc]) ⟨_, rfl, hK.step hL (by decide) (by decide) rfl (nd_nil) <| hJ.step hL rfl (Below.refl _ _) (by exact ((SL.out.fr (.agg #[.slice qq1 qq2 qq3, .slice qq4 qq5 qq6]) (x') (y')).mono hJ.bel))⟩
              · intro L vs a w' hJ hF hP hL
                have hK := hJ
                have hJ := hK.open hL (by decide)
                have p1 : L 1 = true := hP ⟨1, .data⟩ (by simp) rfl
                have s1 : Rt w' (vs 1) (p') (gk) := hJ.sp 1 p1
                have q61 := hF.slot 1 61 rfl p1
                have p2 : L 2 = true := hP ⟨2, .data⟩ (by simp) rfl
                have s2 : Rt w' (vs 2) (x') (y') := hJ.sp 2 p2
                have q62 := hF.slot 2 62 rfl p2
                refine run_call (f := 67) (args := #[vs 1, vs 2]) rfl (by simp [go_sem, q61, q62]) (CL.out _ _ _ s1 s2) ?_
                rintro e w2 ⟨v, rfl, hv, hb⟩
                exact ⟨_, rfl, _, rfl, hK.step hL (by decide) (by decide) rfl (nd_cons p1 (nd_cons p2 (nd_nil))) <| hJ.step hL rfl hb (by exact hv)⟩
              · intro L vs a w' hJ hF hP hL
                have hK := hJ
                have hJ := hK.open hL (by decide)
                have p0 : L 0 = true := hP ⟨0, .data⟩ (by simp) rfl
                have s0 : IsTm w' (vs 0) g1 g2 g3 g4 := hJ.sp 0 p0
                have q60 := hF.slot 0 60 rfl p0
                have p3 : L 3 = true := hP ⟨3, .data⟩ (by simp) rfl
                have s3 : Rt w' (vs 3) (M) (1) := hJ.sp 3 p3
                have q63 := hF.slot 3 63 rfl p3
                refine run_call (f := 66) (args := #[vs 0, vs 3]) rfl (by simp [go_sem, q60, q63]) (before_any _ _ g1 g2 g3 g4 (M) (1) _ s0 s3 RS4.out.1 RS4.out.2.1 RS4.out.2.2.1 RS4.out.2.2.2 HM.out.1 HM.out.2 HK.out.1 HK.out.2) ?_
                rintro e w2 ⟨v, rfl, hv, hb⟩
                exact ⟨_, rfl, _, rfl, hK.step hL (by decide) (by decide) rfl (nd_cons p0 (nd_cons p3 (nd_nil))) <| hJ.step hL rfl hb (by exact hv)⟩
              · intro L vs a w' hJ hF hP hL
                have hK := hJ
                have hJ := hK.core hL
                have q4 : (a.tmps[4]?).getD undef = .pointer (some ⟨b + 1 + 1, 0, none⟩) := hF.old 4 rfl
                have p4 : L 4 = true := hP ⟨4, .data⟩ (by simp) rfl
                have s4 : Rt w' (vs 4) (g1 * M + g2 * 1) (g3 * M + g4 * 1) := hJ.sp 4 p4
                have q64 := hF.slot 4 64 rfl p4
                have p0 : L 0 = true := hK.cl 4 p4 0 (by simp)
                have p3 : L 3 = true := hK.cl 4 p4 3 (by simp)
                have p1 : L 1 = true := hK.cl 3 p3 1 (by simp)
                have p2 : L 2 = true := hK.cl 3 p3 2 (by simp)
                have x0 := cell_later hJ.bel e6
                have y0 := (hJ.bel.frozen (World.block_lt_of_cell? _ _ e6)).trans f6
                have x1 := cell_later hJ.bel e7
                have y1 := (hJ.bel.frozen (World.block_lt_of_cell? _ _ e7)).trans f7
                obtain ⟨aa, nn, cc, a2, n2, c2, e8, _, _⟩ := s4.raw
                exact run_unit (w' := ((w'.setCell ⟨b + 1 + 1, 0, none⟩ (.slice aa nn cc)).setCell ⟨b + 1 + 1, 1, none⟩ (.slice a2 n2 c2))) rfl (by simp [execOp, go_sem, q4, q64, e8, x0, y0, x1, y1]) ⟨undef, rfl, hK.put hL (by decide) rfl (nd_cons p4 nd_nil) (nd_cons p0 (nd_cons p1 (nd_cons p2 (nd_cons p3 (nd_cons p4 (nd_nil)))))) p4 ⟨_, _, e8, rfl⟩⟩
              intro L vs w' hA hK
              obtain ⟨_, w1, hb1, sv, u1, u2, ev, ew⟩ := hK.fin (hA 5 (by simp))
              replace sv : Rt w1 (vs 4) (g1 * M + g2 * 1) (g3 * M + g4 * 1) := sv
              obtain ⟨a8, n8, k8, a9', n9', k9, e8, _, _⟩ := sv.raw
              rw [e8] at ev sv
              obtain ⟨rfl, rfl⟩ : u1 = .slice a8 n8 k8 ∧ u2 = .slice a9' n9' k9 := by simpa [eq_comm] using ev
              have x0 := cell_later hb1 e6
              have x1 := cell_later hb1 e7
              have Z : Hid _ := rat_put (w0 := w) (v := .slice a8 n8 k8) (u := .slice a9' n9' k9) x0 x1 sv (bel_go SL.out.bel hb1) (r := b + 1 + 1) (by have := HL.out; omega)
              obtain ⟨l6, l7⟩ := two_cells (s := .slice a8 n8 k8) (t := .slice a9' n9' k9) x0 x1
              rw [← ew] at Z l6 l7
              clear ew x0 x1 sv ev hb1 e8 hK hA e6 e7 f6 f7 SL
              simp only [putL, Act.put, List.setIfInBounds_toArray, List.set_cons_zero, List.set_cons_succ, Nat.reduceAdd]
              go_wp2_with fail
              rw [EE.out.1, EE.out.2] at Z
              exact bodyPost_ret (v := .agg #[.slice a8 n8 k8, .slice a9' n9' k9]) (by simp [results, Tryd.results39, go_sem, l6, l7]) rfl ⟨_, rfl, Z.out.1, Z.out.2⟩

            · have hd2 : decide (tP p' gk = 0) = false := decide_eq_false (fun e => h2 ((tP_zero D6.out.ah.q1).1 e))
              have yl := S6.out.cel (bB + 1) 0 (.slice z1 z2 z3)
              go_wp2_with fail
              clear yl hd2
              refine (isZero_any _ (tP x' y') _ (S6.out.at (.agg #[.slice z1 z2 z3]) (tP x' y')) FL.out.2.2.2.fits).mono ?_
              rintro e wE ⟨rfl, hb⟩
              have S7 : Hid _ := S6.out.go hb
              have D7 : Hid _ := D6.out.go hb
              clear hb S6 D6
              by_cases h3 : x' % y' = 0
              · have hd2 : decide (tP x' y' = 0) = true := decide_eq_true ((tP_zero D7.out.ah.y1).2 h3)
                have LF : Hid (p' / gk ≠ x' / y' ∨ p' % gk = 0 ∨ x' % y' = 0) := .inr (.inr h3)
                clear h1 h2 h3 S7
                obtain ⟨y0, j0, l0, y1, j1, l1, y2, j2, l2, y3, j3, l3, ⟨c0, c1, c2, c3⟩, _, htm⟩ := D7.out.t
                obtain ⟨rr1, rr2, rr3, rr4, rr5, rr6, cr0, cr1, _, _, hr⟩ := D7.out.r
                obtain ⟨qq1, qq2, qq3, qq4, qq5, qq6, cs0, cs1, _, _, hs⟩ := D7.out.s
                obtain ⟨o1, o2, o3, o4, o5, o6, e6, e7, f6, f7, _⟩ := D7.out.o
                have TM : Hid (IsTm wE (.agg #[.slice y0 j0 l0, .slice y1 j1 l1, .slice y2 j2 l2, .slice y3 j3 l3]) g1 g2 g3 g4) := htm
                have SL : Hid _ := ((((((((((sx_of D7.out.bel).addF hr).addF hs).addC cr0).addC cr1).addC cs0).addC cs1).addC c0).addC c1).addC c2).addC c3
                obtain ⟨M, hM⟩ : ∃ M, M = Min.min (ceilN p' gk) (ceilN x' y') := ⟨_, rfl⟩
                have bk := D7.out.ah.back M 1 (by omega) (Nat.gcd_one_right _) (by rw [hM]; exact best_leaf D7.out.ah.q1 D7.out.ah.y1 LF.out)
                have HK : Hid (Nat.gcd (g1 * M + g2 * 1) (g3 * M + g4 * 1) = 1 ∧ 0 < g3 * M + g4 * 1) := bk.2
                have EE : Hid (g1 * M + g2 * 1 = A ∧ g3 * M + g4 * 1 = B) := best_one bk.1 HB.out.1 bk.2.2 HB.out.2
                have HM : Hid (RS M ∧ RS 1) := ⟨⟨by
                  have k1 : M ≤ ceilN p' gk := by rw [hM]; exact Nat.min_le_left _ _
                  have k2 : ceilN p' gk ≤ p' / gk + 1 := by unfold ceilN; split <;> omega
                  have k3 : p' / gk ≤ p' := Nat.div_le_self _ _
                  have k4 := D7.out.sz.1
                  have k5 : P 15 < P 90 := P_lt (by omega)
                  omega⟩, rs_word (by omega)⟩
                have CL : Hid (∀ v u w, Rt w v p' gk → Rt w u x' y' → Calls Tryd.prog 67 #[v, u] w (MakesR w M 1)) := fun v u w i j => by
                  rw [hM]
                  exact leastWhole_any v u p' gk x' y' w i j SZ.out.1 SZ.out.2.1 SZ.out.2.2.1 SZ.out.2.2.2
                clear bk hM D7 c0 c1 c2 c3 htm cr0 cr1 cs0 cs1 hr hs
                go_wp2_with fail
                refine wp_region_inv (JD wE [sTm g1 g2 g3 g4, sRt (p') (gk), sRt (x') (y'), sRt (M) (1), sRt (g1 * M + g2 * 1) (g3 * M + g4 * 1), sAny] [[], [], [], [1, 2], [0, 3], [4]] 5 4 [0, 1, 2, 3, 4] (Sto2 (b + 1 + 1))) 75 (by kernel_rfl) rfl (by kernel_rfl) (JD.start _ _ _ _ _ _ _) (fun HG HN => ⟨?_, ?_, ?_, ?_, ?_, ?_, trivial⟩) ?_
                · intro L vs a w' hJ hF hP hL
                  have hK := hJ
                  have hJ := hK.open hL (by decide)
                  have q5 : (a.tmps[5]?).getD undef = .pointer (some ⟨b5, 0, none⟩) := hF.old 5 rfl
                  have cb0 := cell_later hJ.bel (SL.out.cel b5 0 (.slice y0 j0 l0))
                  have cb1 := cell_later hJ.bel (SL.out.cel b5 1 (.slice y1 j1 l1))
                  have cb2 := cell_later hJ.bel (SL.out.cel b5 2 (.slice y2 j2 l2))
                  have cb3 := cell_later hJ.bel (SL.out.cel b5 3 (.slice y3 j3 l3))
                  exact run_val (v := .agg #[.slice y0 j0 l0, .slice y1 j1 l1, .slice y2 j2 l2, .slice y3 j3 l3]) rfl (by simp [execOp, go_sem, q5, cb0, cb1, cb2, cb3]) ⟨_, rfl, hK.step hL (by decide) (by decide) rfl (nd_nil) <| hJ.step hL rfl (Below.refl _ _) (by exact (TM.out.mono hJ.bel))⟩
                · intro L vs a w' hJ hF hP hL
                  have hK := hJ
                  have hJ := hK.open hL (by decide)
                  have q2 : (a.tmps[2]?).getD undef = .pointer (some ⟨b, 0, none⟩) := hF.old 2 rfl
                  have cb := cell_later hJ.bel (SL.out.cel (b) 0 (.slice rr1 rr2 rr3))
                  have cc := cell_later hJ.bel (SL.out.cel (b) 1 (.slice rr4 rr5 rr6))
                  exact run_val (v := .agg #[.slice rr1 rr2 rr3, .slice rr4 rr5 rr6]) rfl (by simp [execOp, go_sem, q2, cb, cc]) ⟨_, rfl, hK.step hL (by decide) (by decide) rfl (nd_nil) <| hJ.step hL rfl (Below.refl _ _) (by exact ((SL.out.fr (.agg #[.slice rr1 rr2 rr3, .slice rr4 rr5 rr6]) (p') (gk)).mono hJ.bel))⟩
                · intro L vs a w' hJ hF hP hL
                  have hK := hJ
                  have hJ := hK.open hL (by decide)
                  have q3 : (a.tmps[3]?).getD undef = .pointer (some ⟨b + 1, 0, none⟩) := hF.old 3 rfl
                  have cb := cell_later hJ.bel (SL.out.cel (b + 1) 0 (.slice qq1 qq2 qq3))
                  have cc := cell_later hJ.bel (SL.out.cel (b + 1) 1 (.slice qq4 qq5 qq6))
                  exact run_val (v := .agg #[.slice qq1 qq2 qq3, .slice qq4 qq5 qq6]) rfl (by simp [execOp, go_sem, q3, cb, cc]) ⟨_, rfl, hK.step hL (by decide) (by decide) rfl (nd_nil) <| hJ.step hL rfl (Below.refl _ _) (by exact ((SL.out.fr (.agg #[.slice qq1 qq2 qq3, .slice qq4 qq5 qq6]) (x') (y')).mono hJ.bel))⟩
                · intro L vs a w' hJ hF hP hL
                  have hK := hJ
                  have hJ := hK.open hL (by decide)
                  have p1 : L 1 = true := hP ⟨1, .data⟩ (by simp) rfl
                  have s1 : Rt w' (vs 1) (p') (gk) := hJ.sp 1 p1
                  have q61 := hF.slot 1 61 rfl p1
                  have p2 : L 2 = true := hP ⟨2, .data⟩ (by simp) rfl
                  have s2 : Rt w' (vs 2) (x') (y') := hJ.sp 2 p2
                  have q62 := hF.slot 2 62 rfl p2
                  refine run_call (f := 67) (args := #[vs 1, vs 2]) rfl (by simp [go_sem, q61, q62]) (CL.out _ _ _ s1 s2) ?_
                  rintro e w2 ⟨v, rfl, hv, hb⟩
                  exact ⟨_, rfl, _, rfl, hK.step hL (by decide) (by decide) rfl (nd_cons p1 (nd_cons p2 (nd_nil))) <| hJ.step hL rfl hb (by exact hv)⟩
                · intro L vs a w' hJ hF hP hL
                  have hK := hJ
                  have hJ := hK.open hL (by decide)
                  have p0 : L 0 = true := hP ⟨0, .data⟩ (by simp) rfl
                  have s0 : IsTm w' (vs 0) g1 g2 g3 g4 := hJ.sp 0 p0
                  have q60 := hF.slot 0 60 rfl p0
                  have p3 : L 3 = true := hP ⟨3, .data⟩ (by simp) rfl
                  have s3 : Rt w' (vs 3) (M) (1) := hJ.sp 3 p3
                  have q63 := hF.slot 3 63 rfl p3
                  refine run_call (f := 66) (args := #[vs 0, vs 3]) rfl (by simp [go_sem, q60, q63]) (before_any _ _ g1 g2 g3 g4 (M) (1) _ s0 s3 RS4.out.1 RS4.out.2.1 RS4.out.2.2.1 RS4.out.2.2.2 HM.out.1 HM.out.2 HK.out.1 HK.out.2) ?_
                  rintro e w2 ⟨v, rfl, hv, hb⟩
                  exact ⟨_, rfl, _, rfl, hK.step hL (by decide) (by decide) rfl (nd_cons p0 (nd_cons p3 (nd_nil))) <| hJ.step hL rfl hb (by exact hv)⟩
                · intro L vs a w' hJ hF hP hL
                  have hK := hJ
                  have hJ := hK.core hL
                  have q4 : (a.tmps[4]?).getD undef = .pointer (some ⟨b + 1 + 1, 0, none⟩) := hF.old 4 rfl
                  have p4 : L 4 = true := hP ⟨4, .data⟩ (by simp) rfl
                  have s4 : Rt w' (vs 4) (g1 * M + g2 * 1) (g3 * M + g4 * 1) := hJ.sp 4 p4
                  have q64 := hF.slot 4 64 rfl p4
                  have p0 : L 0 = true := hK.cl 4 p4 0 (by simp)
                  have p3 : L 3 = true := hK.cl 4 p4 3 (by simp)
                  have p1 : L 1 = true := hK.cl 3 p3 1 (by simp)
                  have p2 : L 2 = true := hK.cl 3 p3 2 (by simp)
                  have x0 := cell_later hJ.bel e6
                  have y0 := (hJ.bel.frozen (World.block_lt_of_cell? _ _ e6)).trans f6
                  have x1 := cell_later hJ.bel e7
                  have y1 := (hJ.bel.frozen (World.block_lt_of_cell? _ _ e7)).trans f7
                  obtain ⟨aa, nn, cc, a2, n2, c2, e8, _, _⟩ := s4.raw
                  exact run_unit (w' := ((w'.setCell ⟨b + 1 + 1, 0, none⟩ (.slice aa nn cc)).setCell ⟨b + 1 + 1, 1, none⟩ (.slice a2 n2 c2))) rfl (by simp [execOp, go_sem, q4, q64, e8, x0, y0, x1, y1]) ⟨undef, rfl, hK.put hL (by decide) rfl (nd_cons p4 nd_nil) (nd_cons p0 (nd_cons p1 (nd_cons p2 (nd_cons p3 (nd_cons p4 (nd_nil)))))) p4 ⟨_, _, e8, rfl⟩⟩
                intro L vs w' hA hK
                obtain ⟨_, w1, hb1, sv, u1, u2, ev, ew⟩ := hK.fin (hA 5 (by simp))
                replace sv : Rt w1 (vs 4) (g1 * M + g2 * 1) (g3 * M + g4 * 1) := sv
                obtain ⟨a8, n8, k8, a9', n9', k9, e8, _, _⟩ := sv.raw
                rw [e8] at ev sv
                obtain ⟨rfl, rfl⟩ : u1 = .slice a8 n8 k8 ∧ u2 = .slice a9' n9' k9 := by simpa [eq_comm] using ev
                have x0 := cell_later hb1 e6
                have x1 := cell_later hb1 e7
                have Z : Hid _ := rat_put (w0 := w) (v := .slice a8 n8 k8) (u := .slice a9' n9' k9) x0 x1 sv (bel_go SL.out.bel hb1) (r := b + 1 + 1) (by have := HL.out; omega)
                obtain ⟨l6, l7⟩ := two_cells (s := .slice a8 n8 k8) (t := .slice a9' n9' k9) x0 x1
                rw [← ew] at Z l6 l7
                clear ew x0 x1 sv ev hb1 e8 hK hA e6 e7 f6 f7 SL
                simp only [putL, Act.put, List.setIfInBounds_toArray, List.set_cons_zero, List.set_cons_succ, Nat.reduceAdd]
                go_wp2_with fail
                rw [EE.out.1, EE.out.2] at Z
                exact bodyPost_ret (v := .agg #[.slice a8 n8 k8, .slice a9' n9' k9]) (by simp [results, Tryd.results39, go_sem, l6, l7]) rfl ⟨_, rfl, Z.out.1, Z.out.2⟩

              · have hd2 : decide (tP x' y' = 0) = false := decide_eq_false (fun e => h3 ((tP_zero D7.out.ah.y1).1 e))
                have ST : Hid (p' / gk = x' / y' ∧ p' % gk ≠ 0 ∧ x' % y' ≠ 0) := ⟨h1, h2, h3⟩
                clear h1 h2 h3
                obtain ⟨y0, j0, l0, y1, j1, l1, y2, j2, l2, y3, j3, l3, ⟨c0, c1, c2, c3⟩, _, htm⟩ := D7.out.t
                have ya := S7.out.cell bA (.slice aA nA cA)
                go_wp2_with fail
                refine (with_any _ _ g1 g2 g3 g4 (p' / gk) _ htm (S7.out.at (.agg #[.slice aA nA cA]) (p' / gk)) RS4.out.1 RS4.out.2.1 RS4.out.2.2.1 RS4.out.2.2.2 FL.out.1).mono ?_
                rintro e wF ⟨vF, rfl, hvF, hb⟩
                have hvF' := hvF
                obtain ⟨i0, o0, m0, i1, o1, m1', i2, o2, m2', i3, o3, m3', ev, _, _, _, _⟩ := hvF'
                subst ev
                have D8 : Hid _ := D7.out.go hb
                have S8 : Hid _ := S7.out.go hb
                have K4 : Hid _ := four_keep D8.out.t.four (.slice i0 o0 m0) (.slice i1 o1 m1') (.slice i2 o2 m2') (.slice i3 o3 m3')
                have T8 : Hid _ := D8.out.t.put (w0 := w) hvF D8.out.bel (by have := D8.out.ne; omega)
                have B8 : Hid _ := (tm_put (w0 := w) (s0 := .slice i0 o0 m0) (s1 := .slice i1 o1 m1') (s2 := .slice i2 o2 m2') (s3 := .slice i3 o3 m3') D8.out.t.four hvF D8.out.bel (by have := D8.out.ne; omega)).1.2
                clear c0 c1 c2 c3 htm ya hd2 hb hvF D7 S7
                obtain ⟨y0, j0, l0, y1, j1, l1, y2, j2, l2, y3, j3, l3, ⟨c0, c1, c2, c3⟩, ⟨f0, f1, f2, f3⟩, _⟩ := D8.out.t
                go_wp2_with fail
                clear c0 c1 c2 c3 f0 f1 f2 f3
                obtain ⟨wG, hw⟩ : ∃ wG, wG = (((wF.setCell ⟨b5, 0, none⟩ (.slice i0 o0 m0)).setCell ⟨b5, 1, none⟩ (.slice i1 o1 m1')).setCell ⟨b5, 2, none⟩ (.slice i2 o2 m2')).setCell ⟨b5, 3, none⟩ (.slice i3 o3 m3') := ⟨_, rfl⟩
                rw [← hw] at K4 T8 B8
                rw [← hw]
                clear hw
                have NE : Hid (w.heap.size ≤ b ∧ b + 1 + 1 < b5 ∧ b5 < b7 ∧ b7 < bA ∧ bA + 1 < bB) := ⟨D8.out.ne.1, D8.out.ne.2.1, D8.out.ne.2.2, NA.out, NB.out⟩
                have hne := NE.out
                have TT : Hid (tP p' gk = gk ∧ tQ p' gk = p' % gk ∧ tP x' y' = y' ∧ tQ x' y' = x' % y') := by
                  unfold tP tQ
                  rw [if_neg ST.out.2.1, if_neg ST.out.2.1, if_neg ST.out.2.2, if_neg ST.out.2.2]
                  exact ⟨rfl, rfl, rfl, rfl⟩
                have LL : Hid (Rt wG (.agg #[.slice s1 s2 s3, .slice s4 s5 s6]) gk (p' % gk) ∧ Rt wG (.agg #[.slice z1 z2 z3, .slice z4 z5 z6]) y' (x' % y')) := by
                  have q1 := K4.out.rt (S8.out.fr (.agg #[.slice s1 s2 s3, .slice s4 s5 s6]) (tP p' gk) (tQ p' gk))
                  have q2 := K4.out.rt (S8.out.fr (.agg #[.slice z1 z2 z3, .slice z4 z5 z6]) (tP x' y') (tQ x' y'))
                  rw [TT.out.1, TT.out.2.1] at q1
                  rw [TT.out.2.2.1, TT.out.2.2.2] at q2
                  exact ⟨q1, q2⟩
                have ka0 := K4.out.cl (by omega) (S8.out.cel (bA + 1) 0 (.slice s1 s2 s3))
                have ka1 := K4.out.cl (by omega) (S8.out.cel (bA + 1) 1 (.slice s4 s5 s6))
                have kb0 := K4.out.cl (by omega) (S8.out.cel (bB + 1) 0 (.slice z1 z2 z3))
                have kb1 := K4.out.cl (by omega) (S8.out.cel (bB + 1) 1 (.slice z4 z5 z6))
                have RG : Hid (RAt wG b p' gk ∧ RAt wG (b + 1) x' y' ∧ RAt wG (b + 1 + 1) 0 1 ∧ NAt wG b7 gk) := ⟨D8.out.r.keep K4.out (by omega), D8.out.s.keep K4.out (by omega), D8.out.o.keep K4.out (by omega), D8.out.n.keep K4.out (by omega)⟩
                have L2 : Hid _ := two_put RG.out.1 RG.out.2.1 LL.out.1 LL.out.2
                obtain ⟨_, _, _, _, _, _, cr0, cr1, fr0, fr1, _⟩ := RG.out.1
                obtain ⟨_, _, _, _, _, _, cs0, cs1, fs0, fs1, _⟩ := RG.out.2.1
                have nb1 : ¬ b = bA + 1 := by omega
                have nb2 : ¬ b = bB + 1 := by omega
                have nb3 : ¬ b + 1 = bA + 1 := by omega
                have nb4 : ¬ b + 1 = bB + 1 := by omega
                have nb5 : ¬ bA + 1 = b := by omega
                have nb6 : ¬ bB + 1 = b := by omega
                have nb7 : ¬ bA + 1 = b + 1 := by omega
                have nb8 : ¬ bB + 1 = b + 1 := by omega
                have nb9 : ¬ bA = b := by omega
                have nb10 : ¬ bB = b := by omega
                have nb11 : ¬ b = bA := by omega
                have nb12 : ¬ b = bB := by omega
                have D9 : Hid (TAt wG b5 (g1 * (p' / gk) + g2) g1 (g3 * (p' / gk) + g4) g3 ∧ Ahead p q x y gk (p' % gk) y' (x' % y') (g1 * (p' / gk) + g2) g1 (g3 * (p' / gk) + g4) g3 ∧ (gk < P 15 ∧ p' % gk < P 15 ∧ y' < P 15 ∧ x' % y' < P 15) ∧ Below w.heap.size w wG ∧ p' % gk < gk) := ⟨T8.out, D8.out.ah.step ST.out.1 ST.out.2.1 ST.out.2.2, ⟨D8.out.sz.2.1, Nat.lt_trans (Nat.mod_lt _ D8.out.ah.q1) D8.out.sz.2.1, D8.out.sz.2.2.2, Nat.lt_trans (Nat.mod_lt _ D8.out.ah.y1) D8.out.sz.2.2.2⟩, B8.out, Nat.mod_lt _ D8.out.ah.q1⟩
                clear K4 T8 B8 S8 D8 hne LL TT
                go_region
                obtain ⟨wH, hw⟩ : ∃ wH, wH = ((((wG.setCell ⟨b, 0, none⟩ (.slice s1 s2 s3)).setCell ⟨b, 1, none⟩ (.slice s4 s5 s6)).setCell ⟨b + 1, 0, none⟩ (.slice z1 z2 z3)).setCell ⟨b + 1, 1, none⟩ (.slice z4 z5 z6)).drew := ⟨_, rfl⟩
                have DH : Hid (RAt wH b gk (p' % gk) ∧ RAt wH (b + 1) y' (x' % y') ∧ RAt wH (b + 1 + 1) 0 1 ∧ TAt wH b5 (g1 * (p' / gk) + g2) g1 (g3 * (p' / gk) + g4) g3 ∧ NAt wH b7 gk ∧ Below w.heap.size w wH) := by
                  have hne := NE.out
                  rw [hw]
                  exact ⟨L2.out.r.go (bel_dr (bel_refl _)), L2.out.s.go (bel_dr (bel_refl _)), (L2.out.o (by omega) (by omega) RG.out.2.2.1).go (bel_dr (bel_refl _)), (L2.out.t (by omega) (by omega) D9.out.1).go (bel_dr (bel_refl _)), (L2.out.n (by omega) (by omega) RG.out.2.2.2).go (bel_dr (bel_refl _)), bel_dr (L2.out.bel hne.1 D9.out.2.2.2.1)⟩
                rw [← hw]
                clear hw L2 RG ka0 ka1 kb0 kb1 cr0 cr1 fr0 fr1 cs0 cs1 fs0 fs1 nb1 nb2 nb3 nb4 nb5 nb6 nb7 nb8 nb9 nb10 nb11 nb12
                obtain ⟨h1, h2, h3, h4, h5, h6, cr0, cr1, _, _, hr⟩ := DH.out.1
                go_wp2_with fail
                refine (parts_any _ gk (p' % gk) _ hr (rs15 D9.out.2.2.1.2.1).fits).mono ?_
                rintro e wI ⟨vI, uI, rfl, hv, hu, hb⟩
                obtain ⟨aI, nI, cI, rfl⟩ := hv.isAgg
                obtain ⟨aJ, nJ, cJ, rfl⟩ := hu.isAgg
                obtain ⟨m1, m2, m3, cn, fn, _⟩ := DH.out.2.2.2.2.1.go hb
                have DI : Hid (BSt w (wI.setCell ⟨b7, 0, none⟩ (.slice aJ nJ cJ)) b b5 b7 p q x y gk (p' % gk) y' (x' % y') (g1 * (p' / gk) + g2) g1 (g3 * (p' / gk) + g4) g3) := by
                  have hne := NE.out
                  exact ⟨(DH.out.1.go hb).far (by omega) cn _, (DH.out.2.1.go hb).far (by omega) cn _, (DH.out.2.2.1.go hb).far (by omega) cn _, (DH.out.2.2.2.1.go hb).far (by omega) cn _, (DH.out.2.2.2.2.1.go hb).put hu, D9.out.2.1, D9.out.2.2.1, (bel_go DH.out.2.2.2.2.2 hb).setCell (p := ⟨b7, 0, none⟩) (by show _ ≤ b7; omega) _, hne.1, hne.2.1, hne.2.2.1⟩
                have hlt := D9.out.2.2.2.2
                clear hv hu hb DH D9 hr cr0 cr1
                go_wp2_with fail
                go_roundg (p' % gk)
                case measure => exact hlt
                case rel => exact ⟨_, _, _, _, _, _, _, DI.out⟩
          · obtain ⟨kk2, hkk⟩ : ∃ kk2, kk2 = cmpI (p' / gk) (x' / y') := ⟨_, rfl⟩
            have hd0 : kk2 ≠ 0 := by
              rw [hkk]
              unfold cmpI
              rw [if_neg h1]
              split <;> omega
            have hd2 : (kk2 != 0) = true := by simpa using hd0
            have LF : Hid (p' / gk ≠ x' / y' ∨ p' % gk = 0 ∨ x' % y' = 0) := .inl h1
            rw [← hkk]
            clear h1 hkk S5
            obtain ⟨y0, j0, l0, y1, j1, l1, y2, j2, l2, y3, j3, l3, ⟨c0, c1, c2, c3⟩, _, htm⟩ := D5.out.t
            obtain ⟨rr1, rr2, rr3, rr4, rr5, rr6, cr0, cr1, _, _, hr⟩ := D5.out.r
            obtain ⟨qq1, qq2, qq3, qq4, qq5, qq6, cs0, cs1, _, _, hs⟩ := D5.out.s
            obtain ⟨o1, o2, o3, o4, o5, o6, e6, e7, f6, f7, _⟩ := D5.out.o
            have TM : Hid (IsTm wC (.agg #[.slice y0 j0 l0, .slice y1 j1 l1, .slice y2 j2 l2, .slice y3 j3 l3]) g1 g2 g3 g4) := htm
            have SL : Hid _ := ((((((((((sx_of D5.out.bel).addF hr).addF hs).addC cr0).addC cr1).addC cs0).addC cs1).addC c0).addC c1).addC c2).addC c3
            obtain ⟨M, hM⟩ : ∃ M, M = Min.min (ceilN p' gk) (ceilN x' y') := ⟨_, rfl⟩
            have bk := D5.out.ah.back M 1 (by omega) (Nat.gcd_one_right _) (by rw [hM]; exact best_leaf D5.out.ah.q1 D5.out.ah.y1 LF.out)
            have HK : Hid (Nat.gcd (g1 * M + g2 * 1) (g3 * M + g4 * 1) = 1 ∧ 0 < g3 * M + g4 * 1) := bk.2
            have EE : Hid (g1 * M + g2 * 1 = A ∧ g3 * M + g4 * 1 = B) := best_one bk.1 HB.out.1 bk.2.2 HB.out.2
            have HM : Hid (RS M ∧ RS 1) := ⟨⟨by
              have k1 : M ≤ ceilN p' gk := by rw [hM]; exact Nat.min_le_left _ _
              have k2 : ceilN p' gk ≤ p' / gk + 1 := by unfold ceilN; split <;> omega
              have k3 : p' / gk ≤ p' := Nat.div_le_self _ _
              have k4 := D5.out.sz.1
              have k5 : P 15 < P 90 := P_lt (by omega)
              omega⟩, rs_word (by omega)⟩
            have CL : Hid (∀ v u w, Rt w v p' gk → Rt w u x' y' → Calls Tryd.prog 67 #[v, u] w (MakesR w M 1)) := fun v u w i j => by
              rw [hM]
              exact leastWhole_any v u p' gk x' y' w i j SZ.out.1 SZ.out.2.1 SZ.out.2.2.1 SZ.out.2.2.2
            clear bk hM D5 c0 c1 c2 c3 htm cr0 cr1 cs0 cs1 hr hs
            go_wp2_with fail
            refine wp_region_inv (JD wC [sTm g1 g2 g3 g4, sRt (p') (gk), sRt (x') (y'), sRt (M) (1), sRt (g1 * M + g2 * 1) (g3 * M + g4 * 1), sAny] [[], [], [], [1, 2], [0, 3], [4]] 5 4 [0, 1, 2, 3, 4] (Sto2 (b + 1 + 1))) 75 (by kernel_rfl) rfl (by kernel_rfl) (JD.start _ _ _ _ _ _ _) (fun HG HN => ⟨?_, ?_, ?_, ?_, ?_, ?_, trivial⟩) ?_
            · intro L vs a w' hJ hF hP hL
              have hK := hJ
              have hJ := hK.open hL (by decide)
              have q5 : (a.tmps[5]?).getD undef = .pointer (some ⟨b5, 0, none⟩) := hF.old 5 rfl
              have cb0 := cell_later hJ.bel (SL.out.cel b5 0 (.slice y0 j0 l0))
              have cb1 := cell_later hJ.bel (SL.out.cel b5 1 (.slice y1 j1 l1))
              have cb2 := cell_later hJ.bel (SL.out.cel b5 2 (.slice y2 j2 l2))
              have cb3 := cell_later hJ.bel (SL.out.cel b5 3 (.slice y3 j3 l3))
              exact run_val (v := .agg #[.slice y0 j0 l0, .slice y1 j1 l1, .slice y2 j2 l2, .slice y3 j3 l3]) rfl (by simp [execOp, go_sem, q5, cb0, cb1, cb2, cb3]) ⟨_, rfl, hK.step hL (by decide) (by decide) rfl (nd_nil) <| hJ.step hL rfl (Below.refl _ _) (by exact (TM.out.mono hJ.bel))⟩
            · intro L vs a w' hJ hF hP hL
              have hK := hJ
              have hJ := hK.open hL (by decide)
              have q2 : (a.tmps[2]?).getD undef = .pointer (some ⟨b, 0, none⟩) := hF.old 2 rfl
              have cb := cell_later hJ.bel (SL.out.cel (b) 0 (.slice rr1 rr2 rr3))
              have cc := cell_later hJ.bel (SL.out.cel (b) 1 (.slice rr4 rr5 rr6))
              exact run_val (v := .agg #[.slice rr1 rr2 rr3, .slice rr4 rr5 rr6]) rfl (by simp [execOp, go_sem, q2, cb, cc]) ⟨_, rfl, hK.step hL (by decide) (by decide) rfl (nd_nil) <| hJ.step hL rfl (Below.refl _ _) (by exact ((SL.out.fr (.agg #[.slice rr1 rr2 rr3, .slice rr4 rr5 rr6]) (p') (gk)).mono hJ.bel))⟩
            · intro L vs a w' hJ hF hP hL
              have hK := hJ
              have hJ := hK.open hL (by decide)
              have q3 : (a.tmps[3]?).getD undef = .pointer (some ⟨b + 1, 0, none⟩) := hF.old 3 rfl
              have cb := cell_later hJ.bel (SL.out.cel (b + 1) 0 (.slice qq1 qq2 qq3))
              have cc := cell_later hJ.bel (SL.out.cel (b + 1) 1 (.slice qq4 qq5 qq6))
              exact run_val (v := .agg #[.slice qq1 qq2 qq3, .slice qq4 qq5 qq6]) rfl (by simp [execOp, go_sem, q3, cb, cc]) ⟨_, rfl, hK.step hL (by decide) (by decide) rfl (nd_nil) <| hJ.step hL rfl (Below.refl _ _) (by exact ((SL.out.fr (.agg #[.slice qq1 qq2 qq3, .slice qq4 qq5 qq6]) (x') (y')).mono hJ.bel))⟩
            · intro L vs a w' hJ hF hP hL
              have hK := hJ
              have hJ := hK.open hL (by decide)
              have p1 : L 1 = true := hP ⟨1, .data⟩ (by simp) rfl
              have s1 : Rt w' (vs 1) (p') (gk) := hJ.sp 1 p1
              have q61 := hF.slot 1 61 rfl p1
              have p2 : L 2 = true := hP ⟨2, .data⟩ (by simp) rfl
              have s2 : Rt w' (vs 2) (x') (y') := hJ.sp 2 p2
              have q62 := hF.slot 2 62 rfl p2
              refine run_call (f := 67) (args := #[vs 1, vs 2]) rfl (by simp [go_sem, q61, q62]) (CL.out _ _ _ s1 s2) ?_
              rintro e w2 ⟨v, rfl, hv, hb⟩
              exact ⟨_, rfl, _, rfl, hK.step hL (by decide) (by decide) rfl (nd_cons p1 (nd_cons p2 (nd_nil))) <| hJ.step hL rfl hb (by exact hv)⟩
            · intro L vs a w' hJ hF hP hL
              have hK := hJ
              have hJ := hK.open hL (by decide)
              have p0 : L 0 = true := hP ⟨0, .data⟩ (by simp) rfl
              have s0 : IsTm w' (vs 0) g1 g2 g3 g4 := hJ.sp 0 p0
              have q60 := hF.slot 0 60 rfl p0
              have p3 : L 3 = true := hP ⟨3, .data⟩ (by simp) rfl
              have s3 : Rt w' (vs 3) (M) (1) := hJ.sp 3 p3
              have q63 := hF.slot 3 63 rfl p3
              refine run_call (f := 66) (args := #[vs 0, vs 3]) rfl (by simp [go_sem, q60, q63]) (before_any _ _ g1 g2 g3 g4 (M) (1) _ s0 s3 RS4.out.1 RS4.out.2.1 RS4.out.2.2.1 RS4.out.2.2.2 HM.out.1 HM.out.2 HK.out.1 HK.out.2) ?_
              rintro e w2 ⟨v, rfl, hv, hb⟩
              exact ⟨_, rfl, _, rfl, hK.step hL (by decide) (by decide) rfl (nd_cons p0 (nd_cons p3 (nd_nil))) <| hJ.step hL rfl hb (by exact hv)⟩
            · intro L vs a w' hJ hF hP hL
              have hK := hJ
              have hJ := hK.core hL
              have q4 : (a.tmps[4]?).getD undef = .pointer (some ⟨b + 1 + 1, 0, none⟩) := hF.old 4 rfl
              have p4 : L 4 = true := hP ⟨4, .data⟩ (by simp) rfl
              have s4 : Rt w' (vs 4) (g1 * M + g2 * 1) (g3 * M + g4 * 1) := hJ.sp 4 p4
              have q64 := hF.slot 4 64 rfl p4
              have p0 : L 0 = true := hK.cl 4 p4 0 (by simp)
              have p3 : L 3 = true := hK.cl 4 p4 3 (by simp)
              have p1 : L 1 = true := hK.cl 3 p3 1 (by simp)
              have p2 : L 2 = true := hK.cl 3 p3 2 (by simp)
              have x0 := cell_later hJ.bel e6
              have y0 := (hJ.bel.frozen (World.block_lt_of_cell? _ _ e6)).trans f6
              have x1 := cell_later hJ.bel e7
              have y1 := (hJ.bel.frozen (World.block_lt_of_cell? _ _ e7)).trans f7
              obtain ⟨aa, nn, cc, a2, n2, c2, e8, _, _⟩ := s4.raw
              exact run_unit (w' := ((w'.setCell ⟨b + 1 + 1, 0, none⟩ (.slice aa nn cc)).setCell ⟨b + 1 + 1, 1, none⟩ (.slice a2 n2 c2))) rfl (by simp [execOp, go_sem, q4, q64, e8, x0, y0, x1, y1]) ⟨undef, rfl, hK.put hL (by decide) rfl (nd_cons p4 nd_nil) (nd_cons p0 (nd_cons p1 (nd_cons p2 (nd_cons p3 (nd_cons p4 (nd_nil)))))) p4 ⟨_, _, e8, rfl⟩⟩
            intro L vs w' hA hK
            obtain ⟨_, w1, hb1, sv, u1, u2, ev, ew⟩ := hK.fin (hA 5 (by simp))
            replace sv : Rt w1 (vs 4) (g1 * M + g2 * 1) (g3 * M + g4 * 1) := sv
            obtain ⟨a8, n8, k8, a9', n9', k9, e8, _, _⟩ := sv.raw
            rw [e8] at ev sv
            obtain ⟨rfl, rfl⟩ : u1 = .slice a8 n8 k8 ∧ u2 = .slice a9' n9' k9 := by simpa [eq_comm] using ev
            have x0 := cell_later hb1 e6
            have x1 := cell_later hb1 e7
            have Z : Hid _ := rat_put (w0 := w) (v := .slice a8 n8 k8) (u := .slice a9' n9' k9) x0 x1 sv (bel_go SL.out.bel hb1) (r := b + 1 + 1) (by have := HL.out; omega)
            obtain ⟨l6, l7⟩ := two_cells (s := .slice a8 n8 k8) (t := .slice a9' n9' k9) x0 x1
            rw [← ew] at Z l6 l7
            clear ew x0 x1 sv ev hb1 e8 hK hA e6 e7 f6 f7 SL
            simp only [putL, Act.put, List.setIfInBounds_toArray, List.set_cons_zero, List.set_cons_succ, Nat.reduceAdd]
            go_wp2_with fail
            rw [EE.out.1, EE.out.2] at Z
            exact bodyPost_ret (v := .agg #[.slice a8 n8 k8, .slice a9' n9' k9]) (by simp [results, Tryd.results39, go_sem, l6, l7]) rfl ⟨_, rfl, Z.out.1, Z.out.2⟩

        · have hdl : decide (hf < (bitLen gk : Int)) = false := decide_eq_false hlen
          obtain ⟨y0, j0, l0, y1, j1, l1, y2, j2, l2, y3, j3, l3, ⟨c0, c1, c2, c3⟩, _, htm⟩ := D2.out.t
          obtain ⟨rr1, rr2, rr3, rr4, rr5, rr6, cr0, cr1, _, _, hr⟩ := D2.out.r
          obtain ⟨qq1, qq2, qq3, qq4, qq5, qq6, cs0, cs1, _, _, hs⟩ := D2.out.s
          obtain ⟨o1, o2, o3, o4, o5, o6, e6, e7, f6, f7, _⟩ := D2.out.o
          have TM : Hid (IsTm w9 (.agg #[.slice y0 j0 l0, .slice y1 j1 l1, .slice y2 j2 l2, .slice y3 j3 l3]) g1 g2 g3 g4) := htm
          have SL : Hid _ := ((((((((((sx_of D2.out.bel).addF hr).addF hs).addC cr0).addC cr1).addC cs0).addC cs1).addC c0).addC c1).addC c2).addC c3
          obtain ⟨A', B', hB', hg', hBest⟩ := best_ex gk p' gk x' y' (Nat.le_refl _) D2.out.ah.q1 D2.out.ah.y1 hr.low hs.low
          have bk := D2.out.ah.back A' B' hB' hg' hBest
          have HK : Hid (Nat.gcd (g1 * A' + g2 * B') (g3 * A' + g4 * B') = 1 ∧ 0 < g3 * A' + g4 * B') := bk.2
          have EE : Hid (g1 * A' + g2 * B' = A ∧ g3 * A' + g4 * B' = B) := best_one bk.1 HB.out.1 bk.2.2 HB.out.2
          have bs := best_sz hBest D2.out.ah.q1 (Nat.le_total _ _)
          have HM : Hid (RS A' ∧ RS B') := ⟨SZ.out.1.le bs.1, SZ.out.2.1.le bs.2⟩
          have hN : gk ≤ N := by
            have q0 := HP.out.1
            have q1 := HP.out.2.2.2.2
            have q2 := HF.out
            have q4 := bitLen_pos q0
            refine Decidable.byContradiction fun e => ?_
            have q5 : bitLen q ≤ bitLen gk := bitLen_le_of (Nat.lt_of_le_of_lt (show q ≤ gk by omega) (bitLen_lt gk))
            omega
          have CL : Hid (∀ v u w, Rt w v p' gk → Rt w u x' y' → Calls Tryd.prog 39 #[v, u] w (MakesR w A' B')) := fun v u w i j => IH.out v u p' gk x' y' A' B' w hN i j D2.out.sz hBest hB'
          clear bk bs hBest hB' hg' hN hlen D2 c0 c1 c2 c3 htm cr0 cr1 cs0 cs1 hr hs
          go_wp2_with fail
          clear hdl
          refine wp_region_inv (JD w9 [sTm g1 g2 g3 g4, sRt (p') (gk), sRt (x') (y'), sRt (A') (B'), sRt (g1 * A' + g2 * B') (g3 * A' + g4 * B'), sAny] [[], [], [], [1, 2], [0, 3], [4]] 5 4 [0, 1, 2, 3, 4] (Sto2 (b + 1 + 1))) 75 (by kernel_rfl) rfl (by kernel_rfl) (JD.start _ _ _ _ _ _ _) (fun HG HN => ⟨?_, ?_, ?_, ?_, ?_, ?_, trivial⟩) ?_
          · intro L vs a w' hJ hF hP hL
            have hK := hJ
            have hJ := hK.open hL (by decide)
            have q5 : (a.tmps[5]?).getD undef = .pointer (some ⟨b5, 0, none⟩) := hF.old 5 rfl
            have cb0 := cell_later hJ.bel (SL.out.cel b5 0 (.slice y0 j0 l0))
            have cb1 := cell_later hJ.bel (SL.out.cel b5 1 (.slice y1 j1 l1))
            have cb2 := cell_later hJ.bel (SL.out.cel b5 2 (.slice y2 j2 l2))
            have cb3 := cell_later hJ.bel (SL.out.cel b5 3 (.slice y3 j3 l3))
            exact run_val (v := .agg #[.slice y0 j0 l0, .slice y1 j1 l1, .slice y2 j2 l2, .slice y3 j3 l3]) rfl (by simp [execOp, go_sem, q5, cb0, cb1, cb2, cb3]) ⟨_, rfl, hK.step hL (by decide) (by decide) rfl (nd_nil) <| hJ.step hL rfl (Below.refl _ _) (by exact (TM.out.mono hJ.bel))⟩
          · intro L vs a w' hJ hF hP hL
            have hK := hJ
            have hJ := hK.open hL (by decide)
            have q2 : (a.tmps[2]?).getD undef = .pointer (some ⟨b, 0, none⟩) := hF.old 2 rfl
            have cb := cell_later hJ.bel (SL.out.cel (b) 0 (.slice rr1 rr2 rr3))
            have cc := cell_later hJ.bel (SL.out.cel (b) 1 (.slice rr4 rr5 rr6))
            exact run_val (v := .agg #[.slice rr1 rr2 rr3, .slice rr4 rr5 rr6]) rfl (by simp [execOp, go_sem, q2, cb, cc]) ⟨_, rfl, hK.step hL (by decide) (by decide) rfl (nd_nil) <| hJ.step hL rfl (Below.refl _ _) (by exact ((SL.out.fr (.agg #[.slice rr1 rr2 rr3, .slice rr4 rr5 rr6]) (p') (gk)).mono hJ.bel))⟩
          · intro L vs a w' hJ hF hP hL
            have hK := hJ
            have hJ := hK.open hL (by decide)
            have q3 : (a.tmps[3]?).getD undef = .pointer (some ⟨b + 1, 0, none⟩) := hF.old 3 rfl
            have cb := cell_later hJ.bel (SL.out.cel (b + 1) 0 (.slice qq1 qq2 qq3))
            have cc := cell_later hJ.bel (SL.out.cel (b + 1) 1 (.slice qq4 qq5 qq6))
            exact run_val (v := .agg #[.slice qq1 qq2 qq3, .slice qq4 qq5 qq6]) rfl (by simp [execOp, go_sem, q3, cb, cc]) ⟨_, rfl, hK.step hL (by decide) (by decide) rfl (nd_nil) <| hJ.step hL rfl (Below.refl _ _) (by exact ((SL.out.fr (.agg #[.slice qq1 qq2 qq3, .slice qq4 qq5 qq6]) (x') (y')).mono hJ.bel))⟩
          · intro L vs a w' hJ hF hP hL
            have hK := hJ
            have hJ := hK.open hL (by decide)
            have p1 : L 1 = true := hP ⟨1, .data⟩ (by simp) rfl
            have s1 : Rt w' (vs 1) (p') (gk) := hJ.sp 1 p1
            have q71 := hF.slot 1 71 rfl p1
            have p2 : L 2 = true := hP ⟨2, .data⟩ (by simp) rfl
            have s2 : Rt w' (vs 2) (x') (y') := hJ.sp 2 p2
            have q72 := hF.slot 2 72 rfl p2
            refine run_call (f := 39) (args := #[vs 1, vs 2]) rfl (by simp [go_sem, q71, q72]) (CL.out _ _ _ s1 s2) ?_
            rintro e w2 ⟨v, rfl, hv, hb⟩
            exact ⟨_, rfl, _, rfl, hK.step hL (by decide) (by decide) rfl (nd_cons p1 (nd_cons p2 (nd_nil))) <| hJ.step hL rfl hb (by exact hv)⟩
          · intro L vs a w' hJ hF hP hL
            have hK := hJ
            have hJ := hK.open hL (by decide)
            have p0 : L 0 = true := hP ⟨0, .data⟩ (by simp) rfl
            have s0 : IsTm w' (vs 0) g1 g2 g3 g4 := hJ.sp 0 p0
            have q70 := hF.slot 0 70 rfl p0
            have p3 : L 3 = true := hP ⟨3, .data⟩ (by simp) rfl
            have s3 : Rt w' (vs 3) (A') (B') := hJ.sp 3 p3
            have q73 := hF.slot 3 73 rfl p3
            refine run_call (f := 66) (args := #[vs 0, vs 3]) rfl (by simp [go_sem, q70, q73]) (before_any _ _ g1 g2 g3 g4 (A') (B') _ s0 s3 RS4.out.1 RS4.out.2.1 RS4.out.2.2.1 RS4.out.2.2.2 HM.out.1 HM.out.2 HK.out.1 HK.out.2) ?_
            rintro e w2 ⟨v, rfl, hv, hb⟩
            exact ⟨_, rfl, _, rfl, hK.step hL (by decide) (by decide) rfl (nd_cons p0 (nd_cons p3 (nd_nil))) <| hJ.step hL rfl hb (by exact hv)⟩
          · intro L vs a w' hJ hF hP hL
            have hK := hJ
            have hJ := hK.core hL
            have q4 : (a.tmps[4]?).getD undef = .pointer (some ⟨b + 1 + 1, 0, none⟩) := hF.old 4 rfl
            have p4 : L 4 = true := hP ⟨4, .data⟩ (by simp) rfl
            have s4 : Rt w' (vs 4) (g1 * A' + g2 * B') (g3 * A' + g4 * B') := hJ.sp 4 p4
            have q74 := hF.slot 4 74 rfl p4
            have p0 : L 0 = true := hK.cl 4 p4 0 (by simp)
            have p3 : L 3 = true := hK.cl 4 p4 3 (by simp)
            have p1 : L 1 = true := hK.cl 3 p3 1 (by simp)
            have p2 : L 2 = true := hK.cl 3 p3 2 (by simp)
            have x0 := cell_later hJ.bel e6
            have y0 := (hJ.bel.frozen (World.block_lt_of_cell? _ _ e6)).trans f6
            have x1 := cell_later hJ.bel e7
            have y1 := (hJ.bel.frozen (World.block_lt_of_cell? _ _ e7)).trans f7
            obtain ⟨aa, nn, cc, a2, n2, c2, e8, _, _⟩ := s4.raw
            exact run_unit (w' := ((w'.setCell ⟨b + 1 + 1, 0, none⟩ (.slice aa nn cc)).setCell ⟨b + 1 + 1, 1, none⟩ (.slice a2 n2 c2))) rfl (by simp [execOp, go_sem, q4, q74, e8, x0, y0, x1, y1]) ⟨undef, rfl, hK.put hL (by decide) rfl (nd_cons p4 nd_nil) (nd_cons p0 (nd_cons p1 (nd_cons p2 (nd_cons p3 (nd_cons p4 (nd_nil)))))) p4 ⟨_, _, e8, rfl⟩⟩
          intro L vs w' hA hK
          obtain ⟨_, w1, hb1, sv, u1, u2, ev, ew⟩ := hK.fin (hA 5 (by simp))
          replace sv : Rt w1 (vs 4) (g1 * A' + g2 * B') (g3 * A' + g4 * B') := sv
          obtain ⟨a8, n8, k8, a9', n9', k9, e8, _, _⟩ := sv.raw
          rw [e8] at ev sv
          obtain ⟨rfl, rfl⟩ : u1 = .slice a8 n8 k8 ∧ u2 = .slice a9' n9' k9 := by simpa [eq_comm] using ev
          have x0 := cell_later hb1 e6
          have x1 := cell_later hb1 e7
          have Z : Hid _ := rat_put (w0 := w) (v := .slice a8 n8 k8) (u := .slice a9' n9' k9) x0 x1 sv (bel_go SL.out.bel hb1) (r := b + 1 + 1) (by have := HL.out; omega)
          obtain ⟨l6, l7⟩ := two_cells (s := .slice a8 n8 k8) (t := .slice a9' n9' k9) x0 x1
          rw [← ew] at Z l6 l7
          clear ew x0 x1 sv ev hb1 e8 hK hA e6 e7 f6 f7 SL
          simp only [putL, Act.put, List.setIfInBounds_toArray, List.set_cons_zero, List.set_cons_succ, Nat.reduceAdd]
          go_wp2_with fail
          rw [EE.out.1, EE.out.2] at Z
          exact bodyPost_ret (v := .agg #[.slice a8 n8 k8, .slice a9' n9' k9]) (by simp [results, Tryd.results39, go_sem, l6, l7]) rfl ⟨_, rfl, Z.out.1, Z.out.2⟩
end Go.Proofs.YtkhdapmipcghoaaDoor
