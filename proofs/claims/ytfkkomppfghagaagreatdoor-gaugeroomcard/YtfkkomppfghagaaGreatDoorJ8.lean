/- Contracts of the program's functions, part 8: own work, joined in build order. -/
import Derived.Test.YtfkkomppfghagaaGreatDoorJ7
import Derived.Deep.LoopGhost
import Derived.Shelf.Spec.TrailingZeros
import Derived.Deep.Cut
import Derived.Laws.BytesArg
namespace Go.Proofs.YtfkkomppfghagaaGreatDoor
open Go.RowKit
set_option maxRecDepth 100000
set_option linter.unusedVariables false
structure Dv (w wr : World) (x y k : Nat) (X Y : Value) (x' : Nat) : Prop where
  bx : wr.rowIs w.heap.size 45 1 (fun _ => X)
  hy : wr.rowIs (w.heap.size + 1) 45 1 (fun _ => Y)
  br : wr.rowIs (w.heap.size + 1 + 1) 45 1 (fun _ => .slice none 0 0)
  nx : IsNat wr (.agg #[X]) x'
  ny : IsNat wr (.agg #[Y]) k
  le : k ≤ x'
  hx : x' ≤ x
  gcd : Nat.gcd x' k = Nat.gcd x y
  bel : Below w.heap.size w wr
theorem Dv.go {w wr wr' : World} {x y k : Nat} {X Y : Value} {x' : Nat} (h : Dv w wr x y k X Y x') (hb : Below wr.heap.size wr wr') : Dv w wr' x y k X Y x' :=
  ⟨h.bx.of_block (hb.block _ h.bx.lt), h.hy.of_block (hb.block _ h.hy.lt), h.br.of_block (hb.block _ h.br.lt), h.nx.mono hb, h.ny.mono hb, h.le, h.hx, h.gcd, bel_go h.bel hb⟩
theorem Dv.drew {w wr : World} {x y k : Nat} {X Y : Value} {x' : Nat} (h : Dv w wr x y k X Y x') : Dv w wr.drew x y k X Y x' := h.go (bel_dr (Below.refl _ _))
theorem Dv.put {w wr : World} {x y k : Nat} {X Y : Value} {x' : Nat} (h : Dv w wr x y k X Y x') {a : Option Addr} {n c : Nat} {a' : Option Addr} {n' c' : Nat} {p q : Nat} (hp : IsNat wr (.agg #[.slice a n c]) p) (hq : IsNat wr (.agg #[.slice a' n' c']) q) (h1 : q ≤ p) (h2 : p ≤ x) (h3 : Nat.gcd p q = Nat.gcd x y) :
    Dv w ((wr.setCell ⟨w.heap.size, 0, none⟩ (.slice a n c)).setCell ⟨w.heap.size + 1, 0, none⟩ (.slice a' n' c')) x y q (.slice a n c) (.slice a' n' c') p := by
  obtain ⟨ax, nx, cx, ex⟩ := h.nx.cellOf
  obtain ⟨ay, ny, cy, ey⟩ := h.ny.cellOf
  have cx := h.bx.cell (i := 0) (by omega)
  have cy := h.hy.cell (i := 0) (by omega)
  have n0 : ∀ kk q, wr.cell? ⟨w.heap.size, 0, none⟩ ≠ some (.int kk q) := by rw [cx, ex]; exact fun kk q e => by cases e
  have n1 : ∀ kk q, (wr.setCell ⟨w.heap.size, 0, none⟩ (.slice a n c)).cell? ⟨w.heap.size + 1, 0, none⟩ ≠ some (.int kk q) := by
    rw [World.cell?_setCell_far _ _ _ _ (by simp), cy, ey]
    exact fun kk q e => by cases e
  refine ⟨?_, ?_, ?_, (hp.setCell n0 _).setCell n1 _, (hq.setCell n0 _).setCell n1 _, h1, h2, h3, (h.bel.setCell (by simp) _).setCell (by simp) _⟩
  · exact ((h.bx.set 0 (.slice a n c)).setOther (a := ⟨w.heap.size + 1, 0, none⟩) (by simp) _).congr (fun i hi => by rw [show i = 0 by omega, if_pos rfl])
  · exact (((h.hy.setOther (a := ⟨w.heap.size, 0, none⟩) (by simp) _)).set 0 (.slice a' n' c')).congr (fun i hi => by rw [show i = 0 by omega, if_pos rfl])
  exact (h.br.setOther (a := ⟨w.heap.size, 0, none⟩) (by simp <;> omega) _).setOther (a := ⟨w.heap.size + 1, 0, none⟩) (by simp <;> omega) _
theorem Dv.start (w : World) (x y : Nat) (ax : Option Addr) (nx cx : Nat) (ay : Option Addr) (ny cy : Nat) (h : IsNat w (.agg #[.slice ax nx cx]) x) (k : IsNat w (.agg #[.slice ay ny cy]) y) (hyx : y ≤ x) :
    Dv w (((w.alloc (.cells #[.slice ax nx cx] 45)).alloc (.cells #[.slice ay ny cy] 45)).alloc (.cells #[.slice none 0 0] 45)) x y y (.slice ax nx cx) (.slice ay ny cy) x := by
  have hb : Below w.heap.size w (((w.alloc (.cells #[.slice ax nx cx] 45)).alloc (.cells #[.slice ay ny cy] 45)).alloc (.cells #[.slice none 0 0] 45)) := (bel_alloc2 _ _ _).alloc (by simp <;> omega) _
  have r1 := World.rowIs_alloc w #[.slice ax nx cx] 45 (fun _ => .slice ax nx cx) (fun i hi => by rw [show i = 0 by simpa using hi]; rfl)
  have r2 := World.rowIs_alloc (w.alloc (.cells #[.slice ax nx cx] 45)) #[.slice ay ny cy] 45 (fun _ => .slice ay ny cy) (fun i hi => by rw [show i = 0 by simpa using hi]; rfl)
  have r3 := World.rowIs_alloc ((w.alloc (.cells #[.slice ax nx cx] 45)).alloc (.cells #[.slice ay ny cy] 45)) #[.slice none 0 0] 45 (fun _ => .slice none 0 0) (fun i hi => by rw [show i = 0 by simpa using hi]; rfl)
  exact ⟨(r1.alloc _).alloc _, by have := r2.alloc (.cells #[.slice none 0 0] 45); simpa using this, by simpa using r3, h.mono hb, k.mono hb, hyx, Nat.le_refl _, rfl, hb⟩
theorem dv_word (g n y : Nat) (F : Nat → Nat) (wr : World) (p1 b o p3 B : Nat) (x1 x2 x3 : Value) (hF : Row wr g n F) (hn : n ≤ 1099511627776) (hy0 : 0 < y) (hy : y < 18446744073709551616) (n1 : p1 ≠ g) (n2 : b ≠ g) (n3 : p3 ≠ g) (hB : B ≤ g)
    (xv : Nat) (hxv : V F n = xv) (c1 : wr.cell? ⟨p1, 0, none⟩ = some x1) (c2 : wr.cell? ⟨b, o, none⟩ = some x2) (c3 : wr.cell? ⟨p3, 0, none⟩ = some x3) (f3 : wr.frozen? ⟨p3, 0, none⟩ = false) :
    Calls Tryz.prog 125 #[.slice (some ⟨g, 0, none⟩) n n, .int .u64 (y : Int)] wr fun e w2 => ∃ c : Nat, e = .returned (.int .u64 (c : Int)) ∧ Hid (c = xv % y ∧ Below B wr w2) ∧ w2.cell? ⟨p1, 0, none⟩ = some x1 ∧ w2.cell? ⟨b, o, none⟩ = some x2 ∧ Hid (w2.cell? ⟨p3, 0, none⟩ = some x3 ∧ w2.frozen? ⟨p3, 0, none⟩ = false) := by
  refine (divideByWord_any g n 0 n n y F wr hF (by omega) hn hy0 hy).mono ?_
  rintro e w2 ⟨c, rfl, H, hD⟩
  have hc := hD.fin.2
  rw [fro_zero, hxv] at hc
  have hg := hD.2.2.2.2
  exact ⟨c, rfl, ⟨hc, (Below.refl _ _).grown hg (by have := hF.1.lt; omega) (fun k hk => by cases hk; exact hB)⟩, hg.cell c1 (by simpa using n1), hg.cell c2 (by simpa using n2), hg.cell c3 (by simpa using n3), (World.frozen?_of_block (hg.block _ (World.block_lt_of_cell? _ _ c3) (by simpa using n3))).trans f3⟩
theorem dv_gcd (a c x : Nat) (w2 : World) (p1 b o : Nat) (x1 x2 : Value) (ha : a < 18446744073709551616) (hc : c = x % a) (hx : x % a < 18446744073709551616) (c1 : w2.cell? ⟨p1, 0, none⟩ = some x1) (c2 : w2.cell? ⟨b, o, none⟩ = some x2) :
    Calls Tryz.prog 124 #[.int .u64 (a : Int), .int .u64 (c : Int)] w2 fun e w3 => e = .returned (.int .u64 ((Nat.gcd a c : Nat) : Int)) ∧ w3.cell? ⟨p1, 0, none⟩ = some x1 ∧ w3.cell? ⟨b, o, none⟩ = some x2 ∧ Hid (Below w2.heap.size w2 w3) := by
  refine (wordDivisor_any a c _ ha (by rw [hc]; exact hx)).mono ?_
  rintro e w3 ⟨rfl, n, rfl⟩
  exact ⟨rfl, c1, c2, bel_drewN (Below.refl _ _) _⟩
theorem tk_eq1 {A x y u v : Nat} (h : (A : Int) = -(1 * ((u : Int) * x - v * y))) : y * v - x * u = A ∧ x * u ≤ y * v := by
  have e1 : ((y * v : Nat) : Int) = v * y := by push_cast; exact Int.mul_comm _ _
  have e2 : ((x * u : Nat) : Int) = u * x := by push_cast; exact Int.mul_comm _ _
  omega
theorem tk_eq2 {A x y u v : Nat} (h : (A : Int) = 1 * ((u : Int) * x - v * y)) : x * u - y * v = A ∧ y * v ≤ x * u := by
  have e1 : ((y * v : Nat) : Int) = v * y := by push_cast; exact Int.mul_comm _ _
  have e2 : ((x * u : Nat) : Int) = u * x := by push_cast; exact Int.mul_comm _ _
  omega
theorem tk_eq3 {A x y u v : Nat} (h : (A : Int) = -(-1 * ((u : Int) * x - v * y))) : x * u - y * v = A ∧ y * v ≤ x * u := tk_eq2 (by rw [h]; grind)
theorem tk_eq4 {A x y u v : Nat} (h : (A : Int) = -1 * ((u : Int) * x - v * y)) : y * v - x * u = A ∧ x * u ≤ y * v := tk_eq1 (by rw [h]; grind)
set_option maxHeartbeats 4000000 in
theorem divisor_any (v u : Value) (x y : Nat) (w : World) (h : IsNat w v x) (k : IsNat w u y) (hx : x < P 198) (hyx : y ≤ x) :
    Calls Tryz.prog 96 #[v, u] w (Makes w (Nat.gcd x y)) := by
  have sx : Small x := ⟨Nat.lt_of_lt_of_le hx (P_le (show 198 ≤ lim2 by decide))⟩
  obtain ⟨ax, nx, cx, rfl⟩ := h.isAgg
  obtain ⟨ay, ny, cy, rfl⟩ := k.isAgg
  have D0 : Hid _ := Dv.start w x y ax nx cx ay ny cy h k hyx
  have HX : Hid (x < P 198 ∧ Small x) := ⟨hx, sx⟩
  clear h k hx hyx sx
  go_enter Tryz.func96, Tryz.ntmps96
  go_wp2_with fail
  go_loopg [13] y (fun gk t wr => ∃ X Y x', Hid (Dv w wr x y gk X Y x'))
  case atStart => exact ⟨_, _, x, D0.out⟩
  case round =>
    clear D0
    obtain ⟨X, Y, x', hD⟩ := hrel
    obtain ⟨ax', nx', cx', rfl⟩ := hD.out.nx.cellOf
    obtain ⟨ay', ny', cy', rfl⟩ := hD.out.ny.cellOf
    have c0 := hD.out.bx.cell (i := 0) (by omega)
    have c1 := hD.out.hy.cell (i := 0) (by omega)
    have FX : Hid (Small x' ∧ x' < P 198 ∧ Small gk) := ⟨HX.out.2.le hD.out.hx, Nat.lt_of_le_of_lt hD.out.hx HX.out.1, (HX.out.2.le hD.out.hx).le hD.out.le⟩
    have hl1 : (ny' : Int) ≤ 4294967296 := by
      obtain ⟨G, ks, k0, k1, kv⟩ := hD.out.ny.fits
      have := fits_len (kv.symm ▸ FX.out.2.2.fits) k1
      omega
    by_cases h1 : 1 < ny'
    · have h1' : (1 : Int) < (ny' : Int) := by omega
      have hbig : 18446744073709551616 ≤ gk := by
        obtain ⟨G, ks, k0, k1, kv⟩ := hD.out.ny.fits
        rcases Nat.lt_or_ge gk 18446744073709551616 with hh | hh
        · have := (isNat_fits1 ks k1).1 (kv.symm ▸ hh)
          omega
        exact hh
      have BG : Hid (18446744073709551616 ≤ gk) := hbig
      clear hbig
      go_wp2_with fail
      refine (highest_any _ _ x' gk _ hD.out.nx hD.out.ny FX.out.1.fits hD.out.le BG.out).mono ?_
      rintro e w1 ⟨k0, rfl, hk0, hb1⟩
      have D1 : Hid _ := hD.out.go hb1
      have K0 : Hid (x' / 2 ^ k0 < 18446744073709551616) := hk0
      clear hb1 hk0 c0 c1
      go_wp2_with fail
      refine (foresee_any x' gk (x' / 2 ^ k0) (gk / 2 ^ k0) (2 ^ k0) (x' % 2 ^ k0) (gk % 2 ^ k0) _ K0.out (Nat.div_le_div_right D1.out.le) (by rw [Nat.mul_comm]; exact (Nat.div_add_mod _ _).symm) (by rw [Nat.mul_comm]; exact (Nat.div_add_mod _ _).symm) (Nat.mod_lt _ (Nat.two_pow_pos _)) (Nat.mod_lt _ (Nat.two_pow_pos _))).mono ?_
      rintro e w2 ⟨u0, v0, u1, v1, s, rfl, hFs, hbd, hb2⟩
      have D2 : Hid _ := D1.out.go hb2
      have FS : Hid ((∃ p q u2 v2, Fs x' gk (x' / 2 ^ k0) (gk / 2 ^ k0) p q u0 u1 u2 v0 v1 v2 s) ∧ (u0 < 18446744073709551616 ∧ v0 < 18446744073709551616 ∧ u1 < 18446744073709551616 ∧ v1 < 18446744073709551616)) := ⟨hFs, hbd⟩
      clear hb2 hFs hbd D1 K0
      have c0 := D2.out.bx.cell (i := 0) (by omega)
      have c1 := D2.out.hy.cell (i := 0) (by omega)
      have hl0 := D2.out.bx.lt
      have hl1 := D2.out.hy.lt
      have hl2 := D2.out.br.lt
      have BA : Hid (Below w2.heap.size w2 (w2.alloc (.cells #[.int .u64 (u0 : Int), .int .u64 (v0 : Int), .int .u64 (u1 : Int), .int .u64 (v1 : Int), .bool s] 179))) := (Below.refl _ _).alloc (Nat.le_refl _) _
      by_cases hv : v0 = 0
      · subst hv
        go_wp2_with fail
        have D3 : Hid _ := D2.out.go BA.out
        refine (divMod_198 _ _ x' gk _ D3.out.nx D3.out.ny FX.out.2.2 (by have := BG.out; omega) FX.out.2.1 FX.out.1).mono ?_
        rintro e w3 ⟨vq, vr, rfl, hvq, hvr, hb3⟩
        obtain ⟨aq, nq, cq, rfl⟩ := hvq.isAgg
        obtain ⟨ar, nr, cr, rfl⟩ := hvr.isAgg
        have D4 := D3.out.go hb3
        have b4 : Below w3.heap.size w3 ((w3.alloc (.cells #[.slice aq nq cq] 45)).alloc (.cells #[.slice ar nr cr] 45)) := bel_alloc2 _ _ _
        have hs3 := D4.br.lt
        have D5 : Hid _ := D4.go b4
        have R5 : Hid _ := hvr.mono b4
        clear D4 b4 hvq hvr hb3 c0 c1 hl0 hl1 hl2 D2 D3 BA
        go_wp2_with fail
        have c7 : ((w3.alloc (.cells #[.slice aq nq cq] 45)).alloc (.cells #[.slice ar nr cr] 45)).cell? ⟨w3.heap.size + 1, 0, none⟩ = some (.slice ar nr cr) := by simp [go_sem]
        obtain ⟨w4, hw4⟩ : ∃ w4, w4 = (w3.alloc (.cells #[.slice aq nq cq] 45)).alloc (.cells #[.slice ar nr cr] 45) := ⟨_, rfl⟩
        obtain ⟨br, hbr⟩ : ∃ br, br = w3.heap.size + 1 := ⟨_, rfl⟩
        rw [← hw4] at D5 R5 c7 ⊢
        rw [← hbr] at c7 ⊢
        have hn1 : br ≠ w.heap.size := by omega
        have hn2 : br ≠ w.heap.size + 1 := by omega
        have hn3 : w.heap.size ≠ br := by omega
        have hn4 : w.heap.size + 1 ≠ br := by omega
        clear hw4 hbr hs3
        have c0 := D5.out.bx.cell (i := 0) (by omega)
        have c1 := D5.out.hy.cell (i := 0) (by omega)
        have f0 := D5.out.bx.frozen 0
        have f1 := D5.out.hy.frozen 0
        have PT : Hid _ := D5.out.put D5.out.ny R5.out (Nat.le_of_lt (Nat.mod_lt _ (by have := BG.out; omega))) (Nat.le_trans D5.out.le D5.out.hx) (by rw [← D5.out.gcd, Nat.gcd_comm x' gk, Nat.gcd_rec gk x', Nat.gcd_comm])
        have hlt : x' % gk < gk := Nat.mod_lt _ (by have := BG.out; omega)
        clear D5 R5
        go_region
        all_goals go_wp2_with fail
        all_goals go_roundg (x' % gk)
        all_goals first
          | exact hlt
          | exact ⟨_, _, gk, PT.out⟩
          | exact ⟨_, _, gk, PT.out.drew⟩
      have hv' : ((v0 : Int) == 0) = false := by simp; omega
      have HV : Hid (v0 ≠ 0) := hv
      clear hv
      go_wp2_with fail
      have D3 : Hid _ := D2.out.go BA.out
      obtain ⟨⟨p, q, u2, v2, hFs⟩, hbd⟩ := FS.out
      obtain ⟨A, C, hA, hC, hCA, hAY, hgcd⟩ := hFs.taken HV.out
      have TK : Calls Tryz.prog 123 #[.agg #[.int .u64 (u0 : Int), .int .u64 (v0 : Int), .int .u64 (u1 : Int), .int .u64 (v1 : Int), .bool s], .agg #[.slice ax' nx' cx'], .agg #[.slice ay' ny' cy']] (w2.alloc (.cells #[.int .u64 (u0 : Int), .int .u64 (v0 : Int), .int .u64 (u1 : Int), .int .u64 (v1 : Int), .bool s] 179)) (MakesQR (w2.alloc (.cells #[.int .u64 (u0 : Int), .int .u64 (v0 : Int), .int .u64 (u1 : Int), .int .u64 (v1 : Int), .bool s] 179)) A C) := by
        cases s
        · rw [sg_f] at hA hC
          have e1 : gk * v0 - x' * u0 = A ∧ x' * u0 ≤ gk * v0 := tk_eq1 hA
          have e2 : x' * u1 - gk * v1 = C ∧ gk * v1 ≤ x' * u1 := tk_eq2 hC
          have := taken_no u0 v0 u1 v1 _ _ x' gk _ D3.out.nx D3.out.ny FX.out.1.fits FX.out.2.2.fits hbd.1 hbd.2.1 hbd.2.2.1 hbd.2.2.2 e1.2 e2.2
          rw [e1.1, e2.1] at this
          exact this
        rw [sg_t] at hA hC
        have e1 : x' * u0 - gk * v0 = A ∧ gk * v0 ≤ x' * u0 := tk_eq3 hA
        have e2 : gk * v1 - x' * u1 = C ∧ x' * u1 ≤ gk * v1 := tk_eq4 hC
        have := taken_yes u0 v0 u1 v1 _ _ x' gk _ D3.out.nx D3.out.ny FX.out.1.fits FX.out.2.2.fits hbd.1 hbd.2.1 hbd.2.2.1 hbd.2.2.2 e1.2 e2.2
        rw [e1.1, e2.1] at this
        exact this
      refine TK.mono ?_
      rintro e w3 ⟨va, vc, rfl, hva, hvc, hb3⟩
      obtain ⟨aq, nq, cq, rfl⟩ := hva.isAgg
      obtain ⟨ar, nr, cr, rfl⟩ := hvc.isAgg
      have D4 : Hid _ := D3.out.go hb3
      have PT : Hid _ := D4.out.put hva hvc (Nat.le_of_lt hCA) (Nat.le_trans hAY (Nat.le_trans D4.out.le D4.out.hx)) (by rw [hgcd]; exact D4.out.gcd)
      have hlt : C < gk := by omega
      clear TK hFs hbd hA hC hCA hAY hgcd hva hvc hb3 c0 c1 hl0 hl1 hl2 D2 D3 BA FS
      have c0 := D4.out.bx.cell (i := 0) (by omega)
      have c1 := D4.out.hy.cell (i := 0) (by omega)
      have f0 := D4.out.bx.frozen 0
      have f1 := D4.out.hy.frozen 0
      clear D4
      go_wp2_with fail
      go_roundg C
      case measure => exact hlt
      case rel => exact ⟨_, _, A, PT.out⟩
    have h1' : decide ((1 : Int) < (ny' : Int)) = false := decide_eq_false (by omega)
    have h1'' : decide (1 < ny') = false := decide_eq_false (by omega)
    have c2 := hD.out.br.cell (i := 0) (by omega)
    have f2 := hD.out.br.frozen 0
    by_cases h0 : ny' = 0
    · subst h0
      have hz : gk = 0 := natLen_zero hD.out.ny rfl
      have HG : Hid (Nat.gcd x y = x') := by
        show _ = _
        rw [← hD.out.gcd, hz, Nat.gcd_zero_right]
      clear hz
      go_wp2_with fail
      refine bodyPost_ret (v := .agg #[.slice ax' nx' cx']) (by simp [results, Tryz.results96, go_sem, c2]) rfl ⟨_, rfl, ?_, hD.out.bel.setCell (by simp <;> omega) _⟩
      rw [HG.out]
      exact hD.out.nx.setCell (no_int_slice c2) _
    obtain rfl : ny' = 1 := by omega
    clear h0 h1 h1' h1''
    obtain ⟨G, ks, k0, k1, kv⟩ := id hD.out.ny.fits
    obtain ⟨F, hs, h0, hh1, hvv⟩ := id hD.out.nx.fits
    have hn : nx' ≤ 4294967296 := fits_len (hvv.symm ▸ FX.out.1.fits) hh1
    obtain ⟨b, o, rfl, hw⟩ := ks.at 0 (by omega)
    have hG0 : G 0 < 18446744073709551616 := ks.2.2.1 0 (by omega)
    have hgk : G 0 = gk := by rw [← kv, V_succ, V_zero, P_zero]; omega
    have hc := hw 0 (by omega)
    rw [Nat.add_zero, hgk] at hc
    rw [hgk] at hG0
    have hg0 : gk ≠ 0 := by
      have := k1 (by omega)
      simpa [hgk] using this
    have mk := make_at (nx' : Int) (nx' : Int) nx' nx' rfl rfl (Nat.le_refl _) (by omega)
    have HF : Hid (Sl wr ax' nx' cx' F ∧ V F nx' = x') := ⟨hs, hvv⟩
    clear ks k0 k1 kv hs h0 hh1 hvv hw hgk
    have hl0 := hD.out.bx.lt
    have hl1 := hD.out.hy.lt
    have hl2 := hD.out.br.lt
    have hlb := World.block_lt_of_cell? _ _ hc
    have HB : Hid (Below wr.heap.size wr (wr.alloc (.cells (zeros nx') 82))) := (Below.refl _ _).alloc (Nat.le_refl _) _
    go_wp2_with (refine (id ?_ : wpList Tryz.prog _ _ (⟨some 51, _, _, _, _, _⟩ :: _) _ _); refine wpList_copy_words rfl (.tmp 48) (.tmp 50) rfl _ _ _ _ _ _ _ rfl rfl nx' (fun _ => 0) F (row_zeros_at _ nx' _ rfl) (HF.out.1.mono HB.out) (by omega) (by omega) ?_)
    intro w1 hR1 hg1
    have A1 : Hid (Below wr.heap.size wr w1) := HB.out.grown hg1 (by simp) (fun k hk => by cases hk; omega)
    have R1 : Hid (Row w1 wr.heap.size nx' (over (fun _ => 0) 0 F nx')) := hR1
    have D1 : Hid _ := hD.out.go A1.out
    have d1 := cell_later A1.out c1
    have d2 := cell_later A1.out c2
    have g2 := (A1.out.frozen (World.block_lt_of_cell? _ _ c2)).trans f2
    have dc := cell_later A1.out hc
    have C0 : Hid (w1.cell? ⟨w.heap.size + 1 + 1, 0, none⟩ = some (.slice none 0 0) ∧ w1.frozen? ⟨w.heap.size + 1 + 1, 0, none⟩ = false) := ⟨d2, g2⟩
    have NE : Hid ((⟨w.heap.size + 1 + 1, 0, none⟩ : Addr) ≠ ⟨b, o, none⟩) := fun e => by
      have := dc
      rw [← e, d2] at this
      cases this
    have hne1 : w.heap.size + 1 ≠ wr.heap.size := by omega
    have hne2 : w.heap.size + 1 + 1 ≠ wr.heap.size := by omega
    have hne3 : b ≠ wr.heap.size := by omega
    obtain ⟨g, hg⟩ : ∃ g, g = wr.heap.size := ⟨_, rfl⟩
    have hgw : w.heap.size ≤ g := by rw [hg]; exact hD.out.bel.size
    rw [← hg] at R1 hne1 hne2 hne3
    clear hR1 hg1 c0 c1 c2 f2 hc mk d2 g2 HB hl0 hl1 hl2 hlb
    go_wp2_with fail
    rw [← hg]
    clear hg A1
    have GX : Hid (x' % gk < 18446744073709551616 ∧ 0 < gk) := ⟨Nat.lt_trans (Nat.mod_lt _ (by omega)) hG0, by omega⟩
    have VX : Hid (V (over (fun _ => 0) 0 F nx') nx' = x') := by
      show _ = _
      rw [V_over0, HF.out.2]
    go_region_held3 (fun w' => w'.cell? ⟨w.heap.size + 1, 0, none⟩ = some (.slice (some ⟨b, o, none⟩) 1 cy') ∧ w'.cell? ⟨b, o, none⟩ = some (.int .u64 (gk : Int))) (first | (simp [go_sem, *]; done) | (refine ⟨?_, (World.cell?_setCell_other (h := NE.out) ..).trans i2⟩; simp [go_sem, *]; done))
      (first
        | (go_at_call 125; refine (dv_word g nx' gk _ w1.drew (w.heap.size + 1) b o (w.heap.size + 1 + 1) w.heap.size _ _ _ R1.out (by omega) GX.out.2 hG0 hne1 hne3 hne2 hgw x' VX.out d1 dc C0.out.1 C0.out.2).mono ?_; rintro e w2 ⟨c, rfl, HC, e1, e2, E3⟩; clear d1 dc)
        | (go_at_call 124; refine (dv_gcd gk c x' _ (w.heap.size + 1) b o _ _ hG0 HC.out.1 GX.out.1 e1 e2).mono ?_; rintro e w3 ⟨rfl, a1, a2, B3⟩; clear e1 e2)
        | (go_at_call 27; refine (of_any (Nat.gcd gk c) _ (Nat.lt_of_le_of_lt (Nat.gcd_le_left _ GX.out.2) hG0)).mono ?_; rintro e w4 ⟨v4, rfl, hv4, hb4⟩; obtain ⟨a4, n4, c4, rfl⟩ := hv4.isAgg; have i1 := cell_later hb4 a1; have i2 := cell_later hb4 a2; have i3 := cell_later hb4 (cell_later B3.out E3.out.1); have j3 := (hb4.frozen (World.block_lt_of_cell? _ _ (cell_later B3.out E3.out.1))).trans ((B3.out.frozen (World.block_lt_of_cell? _ _ E3.out.1)).trans E3.out.2); have V4 : Hid _ := hv4; have B4 : Hid (Below w2.heap.size w2 w4) := bel_go B3.out hb4; clear hv4 hb4 a1 a2))
    go_wp2_with fail
    have B8 : Below w.heap.size w w2 := D1.out.bel.trans (bel_undrew HC.out.2)
    have B9 : Hid (Below w.heap.size w w4) := B8.trans (B4.out.mono B8.size)
    have V5 : IsNat w4 (.agg #[.slice a4 n4 c4]) (Nat.gcd gk c) := V4.out
    have HG : Hid (Nat.gcd x y = Nat.gcd gk c) := by
      show _ = _
      rw [HC.out.1, ← D1.out.gcd, Nat.gcd_comm x' gk, Nat.gcd_rec gk x', Nat.gcd_comm]
    refine bodyPost_ret (v := .agg #[.slice a4 n4 c4]) (by simp [results, Tryz.results96, go_sem, i3]) rfl ⟨_, rfl, ?_, B9.out.setCell (by simp <;> omega) _⟩
    rw [HG.out]
    exact V5.setCell (no_int_slice i3) _
def Tab (w : World) : Prop := TabAt 1 Lib.deBruijn64tab w
theorem Tab.go {w w' : World} (h : Tab w) (hb : Below w.heap.size w w') : Tab w' := fun j hj => cell_later hb (h j hj)
set_option maxHeartbeats 1000000 in
theorem tz64_core (x k idx : Nat) (w : World) (hx0 : ((x : Int) == 0) = false)
    (key : IntKind.u64.wrap (bits BinOp.and IntKind.u64 (x : Int) (IntKind.u64.wrap (-(x : Int))) * 285870213051353865) / 288230376151711744 = (idx : Int))
    (hi : idx < 64) (hk : k < 64) (hcell : w.cell? ⟨1, idx, none⟩ = some (.int .u8 k)) :
    Calls Tryz.prog 120 #[.int .u64 x] w fun e w' => e = .returned (.int .i64 k) ∧ w' = w := by
  go_enter Tryz.func120, Tryz.ntmps120
  go_wp2_with (simp only [key])
  go_ret
  exact ⟨rfl, rfl⟩
theorem tz64_any (x : Nat) (hx : x < 18446744073709551616) (w : World) (hT : Tab w) (hx0 : x ≠ 0) :
    Calls Tryz.prog 120 #[.int .u64 x] w fun e w' => (∃ k : Nat, e = .returned (.int .i64 (k : Int)) ∧ k < 64 ∧ x % 2 ^ k = 0) ∧ w' = w := by
  obtain ⟨hlow, hk⟩ := Lib.lowest_bit 64 x hx0 hx
  obtain ⟨hi, htab⟩ := Lib.deBruijn64_at _ hk
  have hcell := hT _ hi
  rw [htab] at hcell
  refine (tz64_core x _ _ w (by simp; omega) (tz64_key x _ hx hx0 hlow) hi hk hcell).mono ?_
  rintro e w' ⟨rfl, rfl⟩
  refine ⟨⟨_, rfl, hk, ?_⟩, rfl⟩
  obtain ⟨m, hm, _⟩ := Lib.ctzFrom_spec 64 x (by omega) hx
  have e : Lib.ctz 64 x = Lib.ctzFrom 64 x := by simp [Lib.ctz, hx0]
  rw [e]
  exact Nat.mod_eq_zero_of_dvd ⟨_, hm⟩
def lng (n m : Nat) : Nat → Nat
  | 0 => 0
  | 1 => n
  | _ => max n m
def sn (f g : Nat) : Nat → Nat
  | 0 => 0
  | 1 => f
  | _ => f ||| g
set_option maxHeartbeats 2000000 in
theorem sharedTwos_any (g : Nat) (a : Option Addr) (n cap : Nat) (F : Nat → Nat) (a' : Option Addr) (m cap' : Nat) (G : Nat → Nat) (w : World) (hF : Sl w a n cap F) (hG : Sl w a' m cap' G) (hn : n ≤ 4294967296) (hm : m ≤ 4294967296) (hT : Tab w)
    (d0 : w.cell? ⟨g, 0, none⟩ = some (.slice a n cap)) (d1 : w.cell? ⟨g, 1, none⟩ = some (.slice a' m cap')) :
    Calls Tryz.prog 95 #[.slice (some ⟨g, 0, none⟩) 2 2] w fun e w' => (∃ t : Nat, e = .returned (.int .i64 (t : Int)) ∧ t ≤ 281474976710656 ∧ 2 ^ t ∣ V F n ∧ 2 ^ t ∣ V G m) ∧ w' = w := by
  have HH : Hid (Sl w a n cap F ∧ Sl w a' m cap' G ∧ Tab w) := ⟨hF, hG, hT⟩
  clear hF hG hT
  obtain ⟨mx, hmx⟩ : ∃ mx : Nat, mx = max n m := ⟨_, rfl⟩
  have hm3 : mx ≤ 4294967296 := by omega
  have E1 : Hid ((if n < m then (m : Int) else (n : Int)) = (mx : Int)) := by show _ = _; split <;> omega
  have MX : Hid (lng n m 2 = mx) := hmx.symm
  clear hmx
  go_enter Tryz.func95, Tryz.ntmps95
  go_wp2_with fail
  go_loop [3, 12] (fun l t => ∃ k : Nat, k ≤ 2 ∧ t = .int .i64 (k : Int) ∧ l = .int .i64 ((lng n m k : Nat) : Int)) (fun _ t => 2 - (intOf t).toNat)
  case atStart => exact ⟨0, by omega, rfl, rfl⟩
  case round =>
    obtain ⟨k, hk, rfl, rfl⟩ := hrel
    by_cases h0 : k = 0
    · subst h0
      have hz : Hid (lng n m 1 = n) := rfl
      have e0 : lng n m 0 = 0 := rfl
      rw [e0]
      have e1 : (if 0 < n then (n : Int) else 0) = (n : Int) := by split <;> omega
      go_wp2_with fail
      go_round
      case rel => exact ⟨1, by omega, rfl, by first | rfl | rw [e1]; rfl⟩
      case measure => simp [intOf]
    by_cases h1 : k = 1
    · subst h1
      have e1 := E1.out
      have e0 : lng n m 1 = n := rfl
      rw [e0]
      go_wp2_with fail
      go_round
      case rel => exact ⟨2, by omega, rfl, by rw [MX.out]⟩
      case measure => simp [intOf]
    obtain rfl : k = 2 := by omega
    rw [MX.out]
    clear h0 h1 hk
    go_wp2_with fail
    go_loop [22] (fun t => ∃ i : Nat, i ≤ mx ∧ t = .int .i64 (i : Int) ∧ Hid (∀ j, j < i → cutU F n 0 j = 0 ∧ cutU G m 0 j = 0)) (fun t => mx - (intOf t).toNat)
    case atStart => exact ⟨0, by omega, rfl, fun j hj => absurd hj (by omega)⟩
    case round =>
      obtain ⟨i, hi, rfl, hz⟩ := hrel
      by_cases him : i < mx
      · have him' : (i : Int) < (mx : Int) := by omega
        go_wp2_with fail
        go_loop [7, 27] (fun q t => ∃ k : Nat, k ≤ 2 ∧ t = .int .i64 (k : Int) ∧ q = .int .u64 ((sn (cutU F n 0 i) (cutU G m 0 i) k : Nat) : Int)) (fun _ t => 2 - (intOf t).toNat)
        case atStart => exact ⟨0, by omega, rfl, rfl⟩
        case round =>
          obtain ⟨k, hk, rfl, rfl⟩ := hrel
          by_cases h0 : k = 0
          · subst h0
            by_cases hin : i < n
            · obtain ⟨b, o, rfl, hw⟩ := HH.out.1.at i hin
              have hc := hw i hin
              have hFi : F i < 18446744073709551616 := HH.out.1.2.2.1 i hin
              have e0 : cutU F n 0 i = F i := by rw [cutU_in (by omega), Nat.zero_add]
              have hb : bits .or .u64 0 ((F i : Nat) : Int) = ((F i : Nat) : Int) := by
                have := bits_or_u64_nat 0 (F i) (by omega) hFi
                rw [Nat.zero_or] at this
                exact this
              have SN : Hid (sn (cutU F n 0 i) (cutU G m 0 i) 1 = F i) := e0
              rw [show sn (cutU F n 0 i) (cutU G m 0 i) 0 = 0 from rfl]
              clear hw e0 hFi
              go_wp2_with fail
              go_round
              case rel => exact ⟨1, by omega, rfl, by rw [SN.out]⟩
              case measure => simp [intOf]
            have SN : Hid (sn (cutU F n 0 i) (cutU G m 0 i) 1 = 0) := cutU_out (by omega)
            have hd : decide (i < n) = false := decide_eq_false hin
            rw [show sn (cutU F n 0 i) (cutU G m 0 i) 0 = 0 from rfl]
            go_wp2_with fail
            go_round
            case rel => exact ⟨1, by omega, rfl, by rw [SN.out]⟩
            case measure => simp [intOf]
          by_cases h1 : k = 1
          · subst h1
            by_cases hin : i < m
            · obtain ⟨b, o, rfl, hw⟩ := HH.out.2.1.at i hin
              have hc := hw i hin
              have hGi : G i < 18446744073709551616 := HH.out.2.1.2.2.1 i hin
              have hFi : cutU F n 0 i < 18446744073709551616 := ok_cut (n := i + 1) HH.out.1.2.2.1 i (by omega)
              have hb := bits_or_u64_nat (cutU F n 0 i) (G i) hFi hGi
              have SN : Hid (sn (cutU F n 0 i) (cutU G m 0 i) 2 = cutU F n 0 i ||| G i) := by
                show _ ||| _ = _
                rw [cutU_in (F := G) (by omega), Nat.zero_add]
              rw [show sn (cutU F n 0 i) (cutU G m 0 i) 1 = cutU F n 0 i from rfl]
              clear hw hFi hGi
              go_wp2_with fail
              go_round
              case rel => exact ⟨2, by omega, rfl, by rw [SN.out]⟩
              case measure => simp [intOf]
            have SN : Hid (sn (cutU F n 0 i) (cutU G m 0 i) 2 = cutU F n 0 i) := by
              show _ ||| _ = _
              rw [cutU_out (F := G) (by omega), Nat.or_zero]
            have hd : decide (i < m) = false := decide_eq_false hin
            rw [show sn (cutU F n 0 i) (cutU G m 0 i) 1 = cutU F n 0 i from rfl]
            go_wp2_with fail
            go_round
            case rel => exact ⟨2, by omega, rfl, by rw [SN.out]⟩
            case measure => simp [intOf]
          obtain rfl : k = 2 := by omega
          clear h0 h1 hk
          have hcF : cutU F n 0 i < 18446744073709551616 := ok_cut (n := i + 1) HH.out.1.2.2.1 i (by omega)
          have hcG : cutU G m 0 i < 18446744073709551616 := ok_cut (n := i + 1) HH.out.2.1.2.2.1 i (by omega)
          obtain ⟨q, hq⟩ : ∃ q, q = sn (cutU F n 0 i) (cutU G m 0 i) 2 := ⟨_, rfl⟩
          have hq64 : q < 18446744073709551616 := by rw [hq]; exact Nat.or_lt_two_pow (n := 64) hcF hcG
          rw [← hq]
          have HQ : Hid (q = cutU F n 0 i ||| cutU G m 0 i) := hq
          clear hq hcF hcG
          by_cases hq0 : q = 0
          · subst hq0
            have hn2 := Nat.or_eq_zero_iff.1 HQ.out.symm
            have HZ : Hid _ := hn2
            clear hn2
            go_wp2_with fail
            go_round
            case rel =>
              refine ⟨i + 1, by omega, by go_num, fun j hj => ?_⟩
              by_cases e : j = i
              · rw [e]; exact HZ.out
              exact hz.out j (by omega)
            case measure => simp [intOf]; omega
          have hqn : ((q : Int) != 0) = true := by simp; omega
          go_wp2_with fail
          refine (tz64_any q hq64 _ HH.out.2.2 hq0).mono ?_
          rintro e w' ⟨⟨kk, rfl, hk64, hmod⟩, hw'⟩
          rw [hw']
          clear hw' w'
          have DV : Hid (2 ^ (64 * i + kk) ∣ V F n ∧ 2 ^ (64 * i + kk) ∣ V G m) := by
            rw [HQ.out] at hmod
            have o1 := or_mod hmod
            exact ⟨V_dvd (fun j hj => (hz.out j hj).1) o1.1 (by omega), V_dvd (fun j hj => (hz.out j hj).2) o1.2 (by omega)⟩
          clear hmod
          go_wp2_with fail
          go_ret
          exact ⟨⟨64 * i + kk, ret_int (by omega), by omega, DV.out⟩, rfl⟩
      obtain rfl : i = mx := by omega
      go_wp2_with fail
      go_ret
      exact ⟨⟨0, rfl, by omega, by rw [Nat.pow_zero]; exact Nat.one_dvd _, by rw [Nat.pow_zero]; exact Nat.one_dvd _⟩, rfl⟩
structure Gd (w wr : World) (g : Nat) (X Y : Value) (p q : Nat) : Prop where
  bx : wr.rowIs w.heap.size 45 1 (fun _ => X)
  hy : wr.rowIs (w.heap.size + 1) 45 1 (fun _ => Y)
  br : wr.rowIs (w.heap.size + 1 + 1) 45 1 (fun _ => .slice none 0 0)
  nx : IsNat wr (.agg #[X]) p
  ny : IsNat wr (.agg #[Y]) q
  le : q ≤ p
  hx : p < P 198
  gcd : Nat.gcd p q = g
  tab : Tab wr
  bel : Below w.heap.size w wr
theorem Gd.go {w wr wr' : World} {g : Nat} {X Y : Value} {p q : Nat} (h : Gd w wr g X Y p q) (hb : Below wr.heap.size wr wr') : Gd w wr' g X Y p q :=
  ⟨h.bx.of_block (hb.block _ h.bx.lt), h.hy.of_block (hb.block _ h.hy.lt), h.br.of_block (hb.block _ h.br.lt), h.nx.mono hb, h.ny.mono hb, h.le, h.hx, h.gcd, h.tab.go hb, bel_go h.bel hb⟩
theorem gd_swap {w wr : World} {x y : Nat} {ax : Option Addr} {nx cx : Nat} {ay : Option Addr} {ny cy : Nat} (b0 : wr.rowIs w.heap.size 45 1 (fun _ => .slice ax nx cx)) (b1 : wr.rowIs (w.heap.size + 1) 45 1 (fun _ => .slice ay ny cy)) (b2 : wr.rowIs (w.heap.size + 1 + 1) 45 1 (fun _ => .slice none 0 0)) (hx : IsNat wr (.agg #[.slice ax nx cx]) x) (hy : IsNat wr (.agg #[.slice ay ny cy]) y) (le : x ≤ y) (hP : y < P 198) (tab : Tab wr) (bel : Below w.heap.size w wr) :
    Gd w ((wr.setCell ⟨w.heap.size, 0, none⟩ (.slice ay ny cy)).setCell ⟨w.heap.size + 1, 0, none⟩ (.slice ax nx cx)) (Nat.gcd x y) (.slice ay ny cy) (.slice ax nx cx) y x := by
  have cx' := b0.cell (i := 0) (by omega)
  have cy' := b1.cell (i := 0) (by omega)
  have n1 : ∀ kk q, (wr.setCell ⟨w.heap.size, 0, none⟩ (.slice ay ny cy)).cell? ⟨w.heap.size + 1, 0, none⟩ ≠ some (.int kk q) := by
    rw [World.cell?_setCell_far _ _ _ _ (by simp)]
    exact no_int_slice cy'
  refine ⟨?_, ?_, ?_, (hy.setCell (no_int_slice cx') _).setCell n1 _, (hx.setCell (no_int_slice cx') _).setCell n1 _, le, hP, Nat.gcd_comm _ _, ?_, (bel.setCell (by simp) _).setCell (by simp) _⟩
  · exact ((b0.set 0 (.slice ay ny cy)).setOther (a := ⟨w.heap.size + 1, 0, none⟩) (by simp) _).congr (fun i hi => by rw [show i = 0 by omega, if_pos rfl])
  · exact (((b1.setOther (a := ⟨w.heap.size, 0, none⟩) (by simp) _)).set 0 (.slice ax nx cx)).congr (fun i hi => by rw [show i = 0 by omega, if_pos rfl])
  · exact (b2.setOther (a := ⟨w.heap.size, 0, none⟩) (by simp <;> omega) _).setOther (a := ⟨w.heap.size + 1, 0, none⟩) (by simp <;> omega) _
  intro j hj
  have hc := tab j hj
  have e1 : (⟨w.heap.size, 0, none⟩ : Addr) ≠ ⟨1, j, none⟩ := fun e => by rw [← e, cx'] at hc; cases hc
  have e2 : (⟨w.heap.size + 1, 0, none⟩ : Addr) ≠ ⟨1, j, none⟩ := fun e => by rw [← e, cy'] at hc; cases hc
  exact (World.cell?_setCell_other (h := e2) ..).trans ((World.cell?_setCell_other (h := e1) ..).trans hc)
theorem two_small {t q n : Nat} (h : 2 ^ t ∣ q) (h0 : q ≠ 0) (hq : q < P n) : t < 64 * n := by
  have h1 := Nat.le_of_dvd (Nat.pos_of_ne_zero h0) h
  rw [P_two] at hq
  exact (Nat.pow_lt_pow_iff_right (show 1 < 2 by decide)).1 (Nat.lt_of_le_of_lt h1 hq)
theorem small_198 {x : Nat} (hx : x < P 198) : Small x := ⟨Nat.lt_of_lt_of_le hx (P_le (show 198 ≤ lim2 by decide))⟩
set_option maxHeartbeats 4000000 in
theorem gcd_any (v u : Value) (x y : Nat) (w : World) (h : IsNat w v x) (k : IsNat w u y) (hx : x < P 198) (hy : y < P 198) (hT : Tab w) :
    Calls Tryz.prog 69 #[v, u] w (Makes w (Nat.gcd x y)) := by
  obtain ⟨ax, nx, cx, rfl⟩ := h.isAgg
  obtain ⟨ay, ny, cy, rfl⟩ := k.isAgg
  have HH : Hid (IsNat w (.agg #[.slice ax nx cx]) x ∧ IsNat w (.agg #[.slice ay ny cy]) y ∧ x < P 198 ∧ y < P 198 ∧ Tab w) := ⟨h, k, hx, hy, hT⟩
  clear h k hx hy hT
  have HB : Hid (Below w.heap.size w (((w.alloc (.cells #[.slice ax nx cx] 45)).alloc (.cells #[.slice ay ny cy] 45)).alloc (.cells #[.slice none 0 0] 45))) := (bel_alloc2 _ _ _).alloc (by simp <;> omega) _
  have r1 := ((World.rowIs_alloc w #[.slice ax nx cx] 45 (fun _ => .slice ax nx cx) (fun i hi => by rw [show i = 0 by simpa using hi]; rfl)).alloc (.cells #[.slice ay ny cy] 45)).alloc (.cells #[.slice none 0 0] 45)
  have r2 := (World.rowIs_alloc (w.alloc (.cells #[.slice ax nx cx] 45)) #[.slice ay ny cy] 45 (fun _ => .slice ay ny cy) (fun i hi => by rw [show i = 0 by simpa using hi]; rfl)).alloc (.cells #[.slice none 0 0] 45)
  have r3 := World.rowIs_alloc ((w.alloc (.cells #[.slice ax nx cx] 45)).alloc (.cells #[.slice ay ny cy] 45)) #[.slice none 0 0] 45 (fun _ => .slice none 0 0) (fun i hi => by rw [show i = 0 by simpa using hi]; rfl)
  have RR : Hid ((((w.alloc (.cells #[.slice ax nx cx] 45)).alloc (.cells #[.slice ay ny cy] 45)).alloc (.cells #[.slice none 0 0] 45)).rowIs w.heap.size 45 1 (fun _ => .slice ax nx cx) ∧ (((w.alloc (.cells #[.slice ax nx cx] 45)).alloc (.cells #[.slice ay ny cy] 45)).alloc (.cells #[.slice none 0 0] 45)).rowIs (w.heap.size + 1) 45 1 (fun _ => .slice ay ny cy) ∧ (((w.alloc (.cells #[.slice ax nx cx] 45)).alloc (.cells #[.slice ay ny cy] 45)).alloc (.cells #[.slice none 0 0] 45)).rowIs (w.heap.size + 1 + 1) 45 1 (fun _ => .slice none 0 0)) := ⟨r1, by simpa using r2, by simpa using r3⟩
  clear r1 r2 r3
  go_enter Tryz.func69, Tryz.ntmps69
  go_wp2_with fail
  refine (cmp_any _ _ x y _ (HH.out.1.mono HB.out) (HH.out.2.1.mono HB.out) (small_198 HH.out.2.2.1).fits (small_198 HH.out.2.2.2.1).fits).mono ?_
  rintro e w1 ⟨rfl, hb1⟩
  have R1 : Hid (w1.rowIs w.heap.size 45 1 (fun _ => .slice ax nx cx) ∧ w1.rowIs (w.heap.size + 1) 45 1 (fun _ => .slice ay ny cy) ∧ w1.rowIs (w.heap.size + 1 + 1) 45 1 (fun _ => .slice none 0 0)) := ⟨RR.out.1.of_block (hb1.block _ RR.out.1.lt), RR.out.2.1.of_block (hb1.block _ RR.out.2.1.lt), RR.out.2.2.of_block (hb1.block _ RR.out.2.2.lt)⟩
  have B1 : Hid (Below w.heap.size w w1) := bel_go HB.out hb1
  have N1 : Hid (IsNat w1 (.agg #[.slice ax nx cx]) x ∧ IsNat w1 (.agg #[.slice ay ny cy]) y ∧ Tab w1) := ⟨HH.out.1.mono B1.out, HH.out.2.1.mono B1.out, HH.out.2.2.2.2.go B1.out⟩
  clear hb1 HB RR
  go_upto_if 9 with (fail)
  go_cut [9] from 6 (fun s9 wc => ∃ ap np cp aq nq cq p q, Hid (Gd w wc (Nat.gcd x y) (.slice ap np cp) (.slice aq nq cq) p q))
  case first =>
    have c0 := R1.out.1.cell (i := 0) (by omega)
    have c1 := R1.out.2.1.cell (i := 0) (by omega)
    have f0 := R1.out.1.frozen 0
    have f1 := R1.out.2.1.frozen 0
    clear f0 f1
    have f0 := R1.out.1.frozen 0
    have f1 := R1.out.2.1.frozen 0
    go_wp2_with fail
    all_goals first
      | (have hc : cmpI x y < 0 := by assumption
         go_meet
         have hlt : x < y := by
           rcases Nat.lt_or_ge x y with h | h
           · exact h
           exact absurd hc (by unfold cmpI; split <;> (try split) <;> omega)
         refine ⟨ay, ny, cy, ax, nx, cx, y, x, gd_swap R1.out.1 R1.out.2.1 R1.out.2.2 N1.out.1 N1.out.2.1 (Nat.le_of_lt hlt) HH.out.2.2.2.1 N1.out.2.2 B1.out⟩)
      | (have hc : 0 ≤ cmpI x y := by omega
         go_meet
         have hge : y ≤ x := by
           rcases Nat.lt_or_ge x y with h | h
           · rw [cmpI_lt h] at hc
             omega
           exact h
         refine ⟨ax, nx, cx, ay, ny, cy, x, y, ⟨R1.out.1, R1.out.2.1, R1.out.2.2, N1.out.1, N1.out.2.1, hge, HH.out.2.2.1, rfl, N1.out.2.2, B1.out⟩⟩)
  case rest =>
    clear R1 B1 N1 HH
    obtain ⟨ap, np, cp, aq, nq, cq, p, q, hG⟩ := hcut
    have c0 := hG.out.bx.cell (i := 0) (by omega)
    have c1 := hG.out.hy.cell (i := 0) (by omega)
    have c2 := hG.out.br.cell (i := 0) (by omega)
    have f2 := hG.out.br.frozen 0
    have SP : Hid (Small p ∧ Small q) := ⟨small_198 hG.out.hx, (small_198 hG.out.hx).le hG.out.le⟩
    obtain ⟨G, ks, k0, k1, kv⟩ := id hG.out.ny.fits
    obtain ⟨F, hs, h0, h1, hvv⟩ := id hG.out.nx.fits
    have hn : np ≤ 4294967296 := fits_len (hvv.symm ▸ SP.out.1.fits) h1
    have hm : nq ≤ 4294967296 := fits_len (kv.symm ▸ SP.out.2.fits) k1
    by_cases hq0 : nq = 0
    · subst hq0
      have hz : q = 0 := natLen_zero hG.out.ny rfl
      have HG : Hid (Nat.gcd x y = p) := by
        show _ = _
        rw [← hG.out.gcd, hz, Nat.gcd_zero_right]
      clear hz ks k0 k1 kv hs h0 h1 hvv
      go_wp2_with fail
      refine bodyPost_ret (v := .agg #[.slice ap np cp]) (by simp [results, Tryz.results69, go_sem, c2]) rfl ⟨_, rfl, ?_, hG.out.bel.setCell (by simp <;> omega) _⟩
      rw [HG.out]
      exact hG.out.nx.setCell (no_int_slice c2) _
    have hqi : ((nq : Int) == 0) = false := by simp; omega
    have HF : Hid (Sl wc ap np cp F ∧ V F np = p ∧ Sl wc aq nq cq G ∧ V G nq = q) := ⟨hs, hvv, ks, kv⟩
    have hl0 := hG.out.bx.lt
    have hl1 := hG.out.hy.lt
    have hl2 := hG.out.br.lt
    clear ks k0 k1 kv hs h0 h1 hvv
    go_wp2_with fail
    have BA : Hid (Below wc.heap.size wc (wc.alloc (.cells #[.slice ap np cp, .slice aq nq cq] 43))) := (Below.refl _ _).alloc (Nat.le_refl _) _
    have GA : Hid _ := hG.out.go BA.out
    refine (sharedTwos_any wc.heap.size ap np cp F aq nq cq G _ (HF.out.1.mono BA.out) (HF.out.2.2.1.mono BA.out) hn hm GA.out.tab (by simp [go_sem]) (by simp [go_sem])).mono ?_
    rintro e w' ⟨⟨t, rfl, ht, d1, d2⟩, hw'⟩
    rw [hw']
    clear hw' w'
    rw [HF.out.2.1] at d1
    rw [HF.out.2.2.2] at d2
    have DV : Hid (2 ^ t ∣ p ∧ 2 ^ t ∣ q) := ⟨d1, d2⟩
    obtain ⟨wd, hwd⟩ : ∃ wd, wd = wc.alloc (.cells #[.slice ap np cp, .slice aq nq cq] 43) := ⟨_, rfl⟩
    rw [← hwd] at GA ⊢
    clear hwd BA HF d1 d2 c0 c1 c2 f2 hl0 hl1 hl2 hG
    have c0 := GA.out.bx.cell (i := 0) (by omega)
    have c1 := GA.out.hy.cell (i := 0) (by omega)
    have ht2 : t ≤ 12672 := by
      have hq1 : q ≠ 0 := fun e => hq0 ((isNat_zero_iff GA.out.ny).2 e)
      have h2 := two_small DV.out.2 hq1 (Nat.lt_of_le_of_lt GA.out.le GA.out.hx)
      omega
    have BD : Hid (p / 2 ^ t < P 198 ∧ q / 2 ^ t ≤ p / 2 ^ t ∧ Fits (Nat.gcd (p / 2 ^ t) (q / 2 ^ t)) ∧ t ≤ 68719476736) := by
      have h1 : q / 2 ^ t ≤ p / 2 ^ t := Nat.div_le_div_right GA.out.le
      have h2 : p / 2 ^ t < P 198 := Nat.lt_of_le_of_lt (Nat.div_le_self _ _) GA.out.hx
      refine ⟨h2, h1, (small_198 (x := Nat.gcd (p / 2 ^ t) (q / 2 ^ t)) ?_).fits, by omega⟩
      rcases Nat.eq_zero_or_pos (q / 2 ^ t) with e | e
      · rw [e, Nat.gcd_zero_right]
        exact h2
      exact Nat.lt_of_le_of_lt (Nat.gcd_le_right _ e) (Nat.lt_of_le_of_lt h1 h2)
    clear ht ht2 hq0
    have ht3 : (t : Int) ≤ 68719476736 := by have := BD.out.2.2.2; omega
    go_wp2_with fail
    go_region_held3 (fun w' => w'.cell? ⟨w.heap.size, 0, none⟩ = some (.slice ap np cp) ∧ w'.cell? ⟨w.heap.size + 1, 0, none⟩ = some (.slice aq nq cq)) (simp [go_sem, *])
      (first
        | (go_at_call 97; have zz := c0; clear zz; refine Calls.mono (right_any _ p (t : Int) _ (GA.out.nx.mono (bel_dr (Below.refl _ _))) SP.out.1.fits (by omega) (by omega)) ?_; rintro e w1 ⟨v1, rfl, hv1, hb1⟩; rw [Int.toNat_natCast] at hv1; have G1 : Hid _ := GA.out.go (bel_undrew hb1); have X1 : Hid _ := hv1; clear hv1 c0 c1; have d0 := G1.out.bx.cell (i := 0) (by omega); have d1 := G1.out.hy.cell (i := 0) (by omega); clear hb1)
        | (go_at_call 97; have zz := d0; clear zz; refine Calls.mono (right_any _ q (t : Int) _ G1.out.ny SP.out.2.fits (by omega) (by omega)) ?_; rintro e w2 ⟨v2, rfl, hv2, hb2⟩; rw [Int.toNat_natCast] at hv2; have G2 : Hid _ := G1.out.go hb2; have X2 : Hid _ := hv2; have Y1 : Hid (IsNat w2 v1 (p / 2 ^ t)) := IsNat.mono X1.out hb2; clear hv2 d0 d1; have e0 := G2.out.bx.cell (i := 0) (by omega); have e1 := G2.out.hy.cell (i := 0) (by omega); clear hb2)
        | (go_at_call 96; have zz := e0; clear zz; refine Calls.mono (divisor_any _ _ (p / 2 ^ t) (q / 2 ^ t) _ Y1.out X2.out BD.out.1 BD.out.2.1) ?_; rintro e w3 ⟨v3, rfl, hv3, hb3⟩; have G3 : Hid _ := G2.out.go hb3; have X3 : Hid _ := hv3; clear hv3 e0 e1; have i0 := G3.out.bx.cell (i := 0) (by omega); have i1 := G3.out.hy.cell (i := 0) (by omega); clear hb3)
        | (go_at_call 98; have zz := i0; clear zz; refine Calls.mono (up_any _ (Nat.gcd (p / 2 ^ t) (q / 2 ^ t)) t _ X3.out BD.out.2.2.1 BD.out.2.2.2) ?_; rintro e w4 ⟨v4, rfl, hv4, hb4⟩; obtain ⟨a4, n4, c4, rfl⟩ := hv4.isAgg; have G4 : Hid _ := G3.out.go hb4; have X4 : Hid (IsNat w4 (.agg #[.slice a4 n4 c4]) (Nat.gcd (p / 2 ^ t) (q / 2 ^ t) * 2 ^ t)) := hv4; clear hv4 i0 i1; have j0 := G4.out.bx.cell (i := 0) (by omega); have j1 := G4.out.hy.cell (i := 0) (by omega); have j2 := G4.out.br.cell (i := 0) (by omega); have g2 := G4.out.br.frozen 0; clear hb4))
    go_wp2_with fail
    have HG : Hid (Nat.gcd x y = Nat.gcd (p / 2 ^ t) (q / 2 ^ t) * 2 ^ t) := by
      show _ = _
      rw [gcd_up DV.out.1 DV.out.2, GA.out.gcd]
    refine bodyPost_ret (v := .agg #[.slice a4 n4 c4]) (by simp [results, Tryz.results69, go_sem, j2]) rfl ⟨_, rfl, ?_, G4.out.bel.setCell (by simp <;> omega) _⟩
    rw [HG.out]
    exact X4.out.setCell (no_int_slice j2) _
def strOf (D : Nat → Nat) (n : Nat) : ByteArray := strOfNums ((List.range n).map fun i => ((D i : Nat) : Int))
theorem bitLen_P {x n : Nat} (h : x < P n) : bitLen x ≤ 64 * n := by
  rw [P_two] at h
  rcases Nat.lt_or_ge (64 * n) (bitLen x) with hh | hh
  · have h1 := (bitLen_spec x).2 (by intro e; subst e; simp [bitLen] at hh)
    have h2 : (2 : Nat) ^ (64 * n) ≤ 2 ^ (bitLen x - 1) := Nat.pow_le_pow_right (by omega) (by omega)
    omega
  exact hh
def sb (s : ByteArray) (i : Nat) : Nat := if h : i < s.size then (s[i]'h).toNat else 0
theorem OR.sl {w : World} {base n : Nat} {v : Value} {F : Nat → Nat} (h : OR w 82 base v n (wd F)) (hF : Ok F n) : ∃ a cap, v = .slice a n cap ∧ Sl w a n cap F := by
  rcases h with ⟨rfl, rfl⟩ | ⟨g, cap, f, rfl, h1, h2, h3, h4, h5⟩
  · exact ⟨none, 0, rfl, Nat.le_refl _, by omega, hF, .inl rfl⟩
  refine ⟨_, cap, rfl, h2, by simp only [maxLen] at h3; omega, hF, .inr ⟨g, 0, rfl, fun i hi => ?_⟩⟩
  rw [Nat.zero_add, h4.cell (show i < cap by omega), h5 i hi]
  rfl
def byteText (x : Nat) : ByteArray := strOf (fun i => byteAt x (byteLen x - 1 - i)) (byteLen x)
theorem tx_word {x : Nat} (h : x ≤ 18446744073709551616) : Tx x := ⟨Nat.lt_of_le_of_lt h (by decide +kernel)⟩
theorem bitLen_zero : bitLen 0 = 0 := by simp [bitLen]
theorem bitLen_pos {x : Nat} (h : 0 < x) : 0 < bitLen x := by
  rcases Nat.eq_zero_or_pos (bitLen x) with e | e
  · have := bitLen_lt x
    rw [e] at this
    omega
  exact e
end Go.Proofs.YtfkkomppfghagaaGreatDoor
