/- Contracts of the program's functions, part 33: own work, joined in build order. -/
import Derived.Test.YtacgpipccpmloaaJ32
namespace Go.Proofs.Ytacgpipccpmloaa
open Go.RowKit
set_option maxRecDepth 100000
set_option linter.unusedVariables false
/-- What stands as the calls are made: both rings hold the same words. -/
def TS (w wr : World) (r s L : Nat) (ws : List ByteArray) (i : Nat) : Prop := ∃ ks : List Nat, (∀ k ∈ ks, k < L) ∧ ks.length ≤ i ∧ Mix w.heap.size [] w wr r s (ks.map fun k : Nat => (k : Int)) (ks.map fun k : Nat => ws.getD k ⟨#[]⟩)
theorem Same.cell {bs : List Nat} {w w' : World} (h : Same bs w w') {p : Addr} {v : Value} (hp : p.block ∈ bs) (hc : w.cell? p = some v) : w'.cell? p = some v := (World.cell?_of_block (w := w) (h p.block hp)).trans hc
theorem snoc1 {ks : List Nat} {kx : Nat} : (ks ++ [kx]).map (fun k : Nat => (k : Int)) = ks.map (fun k : Nat => (k : Int)) ++ [(kx : Int)] := by simp
theorem snoc2 {ws : List ByteArray} (ks : List Nat) (kx : Nat) (X : ByteArray) (h : X = ws.getD kx ⟨#[]⟩) : (ks ++ [kx]).map (fun k : Nat => ws.getD k (⟨#[]⟩ : ByteArray)) = ks.map (fun k : Nat => ws.getD k (⟨#[]⟩ : ByteArray)) ++ [X] := by rw [h]; simp
theorem cons1 {ks : List Nat} {kx : Nat} : (kx :: ks).map (fun k : Nat => (k : Int)) = (kx : Int) :: ks.map (fun k : Nat => (k : Int)) := rfl
theorem cons2 {ws : List ByteArray} (ks : List Nat) (kx : Nat) (X : ByteArray) (h : X = ws.getD kx ⟨#[]⟩) : (kx :: ks).map (fun k : Nat => ws.getD k (⟨#[]⟩ : ByteArray)) = X :: ks.map (fun k : Nat => ws.getD k (⟨#[]⟩ : ByteArray)) := by rw [h]; rfl
theorem set1 {ks : List Nat} {N : Int} {kx : Nat} : setI N (kx : Int) (ks.map (fun k : Nat => (k : Int))) = (setI N kx ks).map (fun k : Nat => (k : Int)) := setI_map (fun k : Nat => (k : Int)) N kx ks
theorem set2 {ws : List ByteArray} (ks : List Nat) (N : Int) (kx : Nat) (X : ByteArray) (h : X = ws.getD kx ⟨#[]⟩) : setI N X (ks.map (fun k : Nat => ws.getD k (⟨#[]⟩ : ByteArray))) = (setI N kx ks).map (fun k : Nat => ws.getD k (⟨#[]⟩ : ByteArray)) := by
  rw [h]
  exact setI_map (fun k : Nat => ws.getD k (⟨#[]⟩ : ByteArray)) N kx ks
theorem kinds (K : Int) : K = 0 ∨ K = 1 ∨ K = 2 ∨ K = 3 ∨ K = 5 ∨ K = 6 ∨ K = 7 ∨ ((K == 0) = false ∧ (K == 1) = false ∧ (K == 2) = false ∧ (K == 3) = false ∧ (K == 5) = false ∧ (K == 6) = false ∧ (K == 7) = false ∧ (K != 0) = true ∧ (K != 1) = true ∧ (K != 5) = true ∧ (K != 7) = true) := by
  simp only [beq_eq_false_iff_ne, bne_iff_ne, ne_eq]
  omega
set_option maxHeartbeats 4000000 in
theorem ringTexts_true (a0 a1 : Option Addr) (n cap L cap1 : Nat) (F : Nat → Nat → Int) (ws : List ByteArray) (w : World) (h : StSl w a0 n cap F) (k : SSl w a1 L cap1 ws) :
    Calls Try.prog 4 #[.slice a0 n cap, .slice a1 L cap1] w fun e w' => e = .returned (.bool true) ∧ Below w.heap.size w w' := by
  have HS : Hid (StSl w a0 n cap F) := h
  have HW : Hid (SSl w a1 L cap1 ws) := k
  have hle := h.le
  have hlim := h.lim
  have hle1 := k.le
  have hlim1 := k.lim
  clear h k
  by_cases hL : L = 0
  · have hL0 : ((L : Int) == 0) = true := by simp <;> omega
    go_enter Try.func4, Try.ntmps4
    go_wp2_with fail
    refine (newI_any w).mono ?_
    rintro e w1 ⟨rfl, h1, b1⟩
    have H1 : Hid (Below w.heap.size w w1) := b1
    clear h1 b1
    go_wp2_with fail
    refine (newS_any w1).mono ?_
    rintro e w2 ⟨rfl, h2, b2⟩
    have H2 : Hid (Below w.heap.size w w2) := H1.out.trans (b2.mono H1.out.size)
    clear h2 b2
    go_wp2_with fail
    refine (told_any w2).mono ?_
    rintro e w3 ⟨rfl, h3⟩
    have H3 : Hid (Below w.heap.size w w3) := H2.out.trans (h3.mono H2.out.size)
    clear h3
    go_wp2_with fail
    refine (told_any w3).mono ?_
    rintro e w4 ⟨rfl, h4⟩
    have H4 : Hid (Below w.heap.size w w4) := H3.out.trans (h4.mono H3.out.size)
    clear h4
    go_wp2_with fail
    go_ret
    exact ⟨rfl, H4.out⟩
  · have hL0 : ((L : Int) == 0) = false := by simp <;> omega
    go_enter Try.func4, Try.ntmps4
    go_wp2_with fail
    refine (newI_any w).mono ?_
    rintro e w1 ⟨rfl, h1, b1⟩
    have H1 : Hid (RI w1 w.heap.size w.heap.size 0 0 0 [] ∧ Below w.heap.size w w1) := ⟨h1, b1⟩
    clear h1 b1
    go_wp2_with fail
    refine (newS_any w1).mono ?_
    rintro e w2 ⟨rfl, h2, b2⟩
    obtain ⟨s, es⟩ : ∃ s, s = w1.heap.size := ⟨_, rfl⟩
    rw [← es]
    have H2 : Hid (Mix w.heap.size [] w w2 w.heap.size s [] []) := by
      obtain ⟨p1, p2⟩ := H1.out
      have l1 := p1.rlt
      have l2 := p2.size
      refine ⟨w.heap.size, s, ⟨0, 0, p1.mono b2⟩, ⟨0, 0, by rw [es]; exact h2⟩, Nat.le_refl _, by omega, Nat.le_refl _, by omega, ⟨by omega, by omega, by omega, by omega⟩, p2.trans (b2.mono p2.size), Nat.le_refl _, fun j hj => by cases hj⟩
    clear h2 b2 es H1
    go_wp2_with fail
    refine (told_any w2).mono ?_
    rintro e w3 ⟨rfl, h3⟩
    have H3 : Hid (TS w w3 w.heap.size s L ws 0) := ⟨[], (fun k hk => by cases hk), Nat.le_refl _, H2.out.mono h3⟩
    clear h3 H2
    go_wp2_with fail
    go_loopw [7] (fun t wr => ∃ (i : Nat), i ≤ n ∧ i ≤ 200 ∧ t = .int .i64 (i : Int) ∧ Hid (TS w wr w.heap.size s L ws i)) (fun t _ => n - (intOf t).toNat)
    case atStart => exact ⟨0, by omega, by omega, rfl, H3⟩
    case round =>
      clear H3
      obtain ⟨i, hin, hi2, rfl, hT⟩ := hrel
      by_cases hc : i < n ∧ i < 200
      · obtain ⟨hc1, hc2⟩ := hc
        obtain ⟨ks, hks, hkl, hM⟩ := hT.out
        obtain ⟨b, o, rfl, hcell⟩ := (HS.out.mono hM.bel).at (by omega)
        have x0 := hcell i 0 hc1 (by omega)
        have x1 := hcell i 1 hc1 (by omega)
        have x2 := hcell i 2 hc1 (by omega)
        have x3 := hcell i 3 hc1 (by omega)
        rw [Nat.add_zero] at x0
        obtain ⟨K, eK⟩ : ∃ K, K = F i 0 := ⟨_, rfl⟩
        obtain ⟨O, eO⟩ : ∃ O, O = F i 1 := ⟨_, rfl⟩
        obtain ⟨N, eN⟩ : ∃ N, N = F i 2 := ⟨_, rfl⟩
        obtain ⟨V, eV⟩ : ∃ V, V = F i 3 := ⟨_, rfl⟩
        rw [← eK] at x0
        rw [← eO] at x1
        rw [← eN] at x2
        rw [← eV] at x3
        have HN : Hid (-9223372036854775808 ≤ N ∧ N ≤ 9223372036854775807) := by rw [eN]; exact HS.out.wf i 2 hc1 (by omega)
        have HM : Hid ((∀ k ∈ ks, k < L) ∧ ks.length ≤ i ∧ Mix w.heap.size [] w wr w.heap.size s (ks.map fun k : Nat => (k : Int)) (ks.map fun k : Nat => ws.getD k ⟨#[]⟩)) := ⟨hks, hkl, hM⟩
        clear hks hkl hM hT hcell eK eO eN eV
        obtain ⟨q, hq⟩ : ∃ q : Nat, bits .and .i64 V 1099511627775 = (q : Int) := by
          have h9 := i64_mask V 40 (by omega) 1099511627775 (by rfl)
          have h10 := Int.emod_nonneg V (show ((2 ^ 40 : Nat) : Int) ≠ 0 by decide)
          exact ⟨(V % ((2 ^ 40 : Nat) : Int)).toNat, by rw [h9]; omega⟩
        obtain ⟨kx, ekx⟩ : ∃ kx : Nat, kx = q % L := ⟨_, rfl⟩
        have hkx : kx < L := by rw [ekx]; exact Nat.mod_lt _ (by omega)
        have hqk : (q : Int) % (L : Int) = (kx : Int) := by rw [ekx]; simp
        obtain ⟨b1, o1, rfl, hw1⟩ := (HW.out.mono HM.out.2.2.bel).at (by omega)
        obtain ⟨X, eX⟩ : ∃ X, X = ws.getD kx ⟨#[]⟩ := ⟨_, rfl⟩
        obtain ⟨bx, ebx⟩ : ∃ bx, bx = wr.heap.size := ⟨_, rfl⟩
        obtain ⟨w4, hw4⟩ : ∃ w4, w4 = wr.alloc (.cells #[.int .i64 K, .int .i64 O, .int .i64 N, .int .i64 V] 34) := ⟨_, rfl⟩
        have B4 : Below wr.heap.size wr w4 := by rw [hw4]; exact (Below.refl _ _).alloc (Nat.le_refl _) _
        have cw : w4.cell? ⟨b1, o1 + kx, none⟩ = some (.string X) := by rw [eX]; exact cell_later B4 (hw1 kx hkx)
        have cw' : (wr.alloc (.cells #[.int .i64 K, .int .i64 O, .int .i64 N, .int .i64 V] 34)).cell? ⟨b1, o1 + kx, none⟩ = some (.string X) := by rw [← hw4]; exact cw
        have y0 : w4.cell? ⟨bx, 0, none⟩ = some (.int .i64 K) := by rw [hw4, ebx]; simp [go_sem]
        have y2 : w4.cell? ⟨bx, 2, none⟩ = some (.int .i64 N) := by rw [hw4, ebx]; simp [go_sem]
        obtain ⟨xs, exs⟩ : ∃ xs, xs = ks.map fun k : Nat => (k : Int) := ⟨_, rfl⟩
        obtain ⟨ys, eys⟩ : ∃ ys, ys = ks.map fun k : Nat => ws.getD k (⟨#[]⟩ : ByteArray) := ⟨_, rfl⟩
        have M4 : Hid (Mix w.heap.size [bx] w w4 w.heap.size s xs ys) := by
          rw [exs, eys]
          exact HM.out.2.2.watch B4 (by omega) (by rw [hw4, ebx]; simp)
        have HX : Hid (xs = (ks.map fun k : Nat => (k : Int)) ∧ ys = (ks.map fun k : Nat => ws.getD k (⟨#[]⟩ : ByteArray)) ∧ (∀ k ∈ ks, k < L) ∧ ks.length ≤ i) := ⟨exs, eys, HM.out.1, HM.out.2.1⟩
        have HXk : Hid (X = ws.getD kx ⟨#[]⟩) := eX
        have HW4 : Hid (w4 = wr.alloc (.cells #[.int .i64 K, .int .i64 O, .int .i64 N, .int .i64 V] 34)) := hw4
        have HBX : Hid (bx = wr.heap.size) := ebx
        clear hw1 eX ebx exs eys HM ekx B4 cw hw4
        rcases kinds K with rfl | rfl | rfl | rfl | rfl | rfl | rfl | ⟨k0, k1, k2, k3, k5, k6, k7, n0, n1, n5, n7⟩
        · as_aux_lemma =>
            go_wp2_with fail
            rw [← HW4.out, ← HBX.out]
            refine (M4.out.pushBackI (by obtain ⟨e1, e2, _, hkl⟩ := HX.out; rw [e1]; simp; omega) (kx : Int)).mono ?_
            rintro e w5 ⟨rfl, h5⟩
            have M5 : Hid (Mix w.heap.size [bx] w w5 w.heap.size s (xs ++ [(kx : Int)]) ys) := h5.out.1
            have S5 : Same [bx] w4 w5 := h5.out.2
            have z0 := S5.cell (p := ⟨bx, 0, none⟩) (by simp) y0
            have z2 := S5.cell (p := ⟨bx, 2, none⟩) (by simp) y2
            clear h5 S5
            go_wp2_with fail
            refine (M5.out.pushBackS (by obtain ⟨e1, e2, _, hkl⟩ := HX.out; rw [e2]; simp; omega) X).mono ?_
            rintro e w6 ⟨rfl, h6⟩
            have M6 : Hid (Mix w.heap.size [bx] w w6 w.heap.size s (xs ++ [(kx : Int)]) (ys ++ [X])) := h6.out.1
            have S6 : Same [bx] w5 w6 := h6.out.2
            have q0 := S6.cell (p := ⟨bx, 0, none⟩) (by simp) z0
            have q2 := S6.cell (p := ⟨bx, 2, none⟩) (by simp) z2
            clear h6 S6 M5
            have LEN : Hid ((((ys ++ [X])).length : Nat) = ((xs ++ [(kx : Int)])).length) := by
              obtain ⟨e1, e2, _⟩ := HX.out
              show ((ys ++ [X])).length = ((xs ++ [(kx : Int)])).length
              rw [e1, e2]
              rw [← snoc1, ← snoc2 ks kx X HXk.out]
              simp
            have T6 : Hid (TS w w6 w.heap.size s L ws (i + 1)) := by
              obtain ⟨e1, e2, hks, hkl⟩ := HX.out
              have m6 := M6.out.forget
              rw [e1, e2] at m6
              rw [← snoc1, ← snoc2 ks kx X HXk.out] at m6
              exact ⟨ks ++ [kx], (fun k hk => by rcases List.mem_append.1 hk with e | e; exact hks k e; (obtain rfl : k = kx := by simpa using e); exact hkx), (by simp; omega), m6⟩
            go_wp2_with fail
            refine (M6.out.lenI _ rfl).mono ?_
            rintro e w7 ⟨rfl, e7⟩
            rw [e7]
            clear e7
            go_wp2_with fail
            refine (M6.out.lenS _ rfl).mono ?_
            rintro e w8 ⟨rfl, e8⟩
            rw [e8, LEN.out]
            clear e8
            go_wp2_with fail
            go_roundw
            case rel => exact ⟨i + 1, by omega, by omega, by go_num, T6⟩
            case measure => simp [intOf]; omega
        · as_aux_lemma =>
            go_wp2_with fail
            rw [← HW4.out, ← HBX.out]
            refine (M4.out.pushFrontI (by obtain ⟨e1, e2, _, hkl⟩ := HX.out; rw [e1]; simp; omega) (kx : Int)).mono ?_
            rintro e w5 ⟨rfl, h5⟩
            have M5 : Hid (Mix w.heap.size [bx] w w5 w.heap.size s ((kx : Int) :: xs) ys) := h5.out.1
            have S5 : Same [bx] w4 w5 := h5.out.2
            have z0 := S5.cell (p := ⟨bx, 0, none⟩) (by simp) y0
            have z2 := S5.cell (p := ⟨bx, 2, none⟩) (by simp) y2
            clear h5 S5
            go_wp2_with fail
            refine (M5.out.pushFrontS (by obtain ⟨e1, e2, _, hkl⟩ := HX.out; rw [e2]; simp; omega) X).mono ?_
            rintro e w6 ⟨rfl, h6⟩
            have M6 : Hid (Mix w.heap.size [bx] w w6 w.heap.size s ((kx : Int) :: xs) (X :: ys)) := h6.out.1
            have S6 : Same [bx] w5 w6 := h6.out.2
            have q0 := S6.cell (p := ⟨bx, 0, none⟩) (by simp) z0
            have q2 := S6.cell (p := ⟨bx, 2, none⟩) (by simp) z2
            clear h6 S6 M5
            have LEN : Hid ((((X :: ys)).length : Nat) = (((kx : Int) :: xs)).length) := by
              obtain ⟨e1, e2, _⟩ := HX.out
              show ((X :: ys)).length = (((kx : Int) :: xs)).length
              rw [e1, e2]
              rw [← cons1, ← cons2 ks kx X HXk.out]
              simp
            have T6 : Hid (TS w w6 w.heap.size s L ws (i + 1)) := by
              obtain ⟨e1, e2, hks, hkl⟩ := HX.out
              have m6 := M6.out.forget
              rw [e1, e2] at m6
              rw [← cons1, ← cons2 ks kx X HXk.out] at m6
              exact ⟨kx :: ks, (fun k hk => by rcases List.mem_cons.1 hk with e | e; (subst e; exact hkx); exact hks k e), (by simp; omega), m6⟩
            go_wp2_with fail
            refine (M6.out.lenI _ rfl).mono ?_
            rintro e w7 ⟨rfl, e7⟩
            rw [e7]
            clear e7
            go_wp2_with fail
            refine (M6.out.lenS _ rfl).mono ?_
            rintro e w8 ⟨rfl, e8⟩
            rw [e8, LEN.out]
            clear e8
            go_wp2_with fail
            go_roundw
            case rel => exact ⟨i + 1, by omega, by omega, by go_num, T6⟩
            case measure => simp [intOf]; omega
        · rcases Bool.eq_false_or_eq_true (inR (0) ks.length) with hok | hok
          · as_aux_lemma =>
              obtain ⟨kv, hkv, v1, v2⟩ : ∃ kv : Nat, kv < L ∧ getI (0) xs (0 : Int) = (kv : Int) ∧ getI (0) ys (⟨#[]⟩ : ByteArray) = ws.getD kv ⟨#[]⟩ := by
                obtain ⟨e1, e2, hks, _⟩ := HX.out
                have hok' : inR (0) ks.length = true := hok
                refine ⟨getI (0) ks 0, hks _ (getI_mem _ _ _ hok'), ?_, ?_⟩
                · rw [e1]
                  have := getI_map (fun k : Nat => (k : Int)) (0) ks 0 0 hok'
                  simpa using this
                · rw [e2]
                  have := getI_map (fun k : Nat => ws.getD k ⟨#[]⟩) (0) ks 0 ⟨#[]⟩ hok'
                  simpa using this
              obtain ⟨Xv, eXv⟩ : ∃ Xv, Xv = ws.getD kv ⟨#[]⟩ := ⟨_, rfl⟩
              rw [← eXv] at v2
              have OKI : inR (0) xs.length = true := by obtain ⟨e1, _⟩ := HX.out; rw [e1]; simpa using hok
              have OKS : inR (0) ys.length = true := by obtain ⟨_, e2, _⟩ := HX.out; rw [e2]; simpa using hok
              have HV1 : Hid (getI (0) xs (0 : Int) = (kv : Int)) := v1
              have HV2 : Hid (getI (0) ys (⟨#[]⟩ : ByteArray) = Xv) := v2
              have HO1 : Hid (inR (0) xs.length = true) := OKI
              have HO2 : Hid (inR (0) ys.length = true) := OKS
              have HXv : Hid (Xv = ws.getD kv ⟨#[]⟩) := eXv
              clear v1 v2 OKI OKS eXv hok
              go_wp2_with fail
              rw [← HW4.out, ← HBX.out]
              refine (M4.out.popFrontI).mono ?_
              rintro e w5 ⟨rfl, h5⟩
              rw [HV1.out, HO1.out]
              have M5 : Hid (Mix w.heap.size [bx] w w5 w.heap.size s (delI (0) xs) ys) := h5.out.1
              have S5 : Same [bx] w4 w5 := h5.out.2
              have z0 := S5.cell (p := ⟨bx, 0, none⟩) (by simp) y0
              have z2 := S5.cell (p := ⟨bx, 2, none⟩) (by simp) y2
              clear h5 S5
              go_wp2_with fail
              refine (M5.out.popFrontS).mono ?_
              rintro e w6 ⟨rfl, h6⟩
              rw [HV2.out, HO2.out]
              have M6 : Hid (Mix w.heap.size [bx] w w6 w.heap.size s (delI (0) xs) (delI (0) ys)) := h6.out.1
              have S6 : Same [bx] w5 w6 := h6.out.2
              have q0 := S6.cell (p := ⟨bx, 0, none⟩) (by simp) z0
              have q2 := S6.cell (p := ⟨bx, 2, none⟩) (by simp) z2
              clear h6 S6 M5
              have LEN : Hid ((((delI (0) ys)).length : Nat) = ((delI (0) xs)).length) := by
                obtain ⟨e1, e2, _⟩ := HX.out
                show ((delI (0) ys)).length = ((delI (0) xs)).length
                rw [e1, e2]
                simp only [List.length_map, delI_map]
              have T6 : Hid (TS w w6 w.heap.size s L ws (i + 1)) := by
                obtain ⟨e1, e2, hks, hkl⟩ := HX.out
                have m6 := M6.out.forget
                rw [e1, e2] at m6
                simp only [delI_map] at m6
                exact ⟨delI (0) ks, (fun k hk => hks k (delI_sub _ ks k hk)), (by have := delI_len (0) ks; omega), m6⟩
              have cv : w6.cell? ⟨b1, o1 + kv, none⟩ = some (.string Xv) := by
                obtain ⟨b1', o1', e9, hw9⟩ := (HW.out.mono M6.out.bel).at (by omega)
                cases e9
                rw [HXv.out]
                exact hw9 kv hkv
              go_wp2_with fail
              refine (M6.out.lenI _ rfl).mono ?_
              rintro e w7 ⟨rfl, e7⟩
              rw [e7]
              clear e7
              go_wp2_with fail
              refine (M6.out.lenS _ rfl).mono ?_
              rintro e w8 ⟨rfl, e8⟩
              rw [e8, LEN.out]
              clear e8
              go_wp2_with fail
              go_roundw
              case rel => exact ⟨i + 1, by omega, by omega, by go_num, T6⟩
              case measure => simp [intOf]; omega
          · as_aux_lemma =>
              have HV1 : Hid (getI (0) xs (0 : Int) = 0) := getI_no _ _ _ (by obtain ⟨e1, _⟩ := HX.out; rw [e1]; simpa using hok)
              have HV2 : Hid (getI (0) ys (⟨#[]⟩ : ByteArray) = ⟨#[]⟩) := getI_no _ _ _ (by obtain ⟨_, e2, _⟩ := HX.out; rw [e2]; simpa using hok)
              have HO1 : Hid (inR (0) xs.length = false) := by show inR (0) xs.length = false; obtain ⟨e1, _⟩ := HX.out; rw [e1]; simpa using hok
              have HO2 : Hid (inR (0) ys.length = false) := by show inR (0) ys.length = false; obtain ⟨_, e2, _⟩ := HX.out; rw [e2]; simpa using hok
              clear hok
              go_wp2_with fail
              rw [← HW4.out, ← HBX.out]
              refine (M4.out.popFrontI).mono ?_
              rintro e w5 ⟨rfl, h5⟩
              rw [HV1.out, HO1.out]
              have M5 : Hid (Mix w.heap.size [bx] w w5 w.heap.size s (delI (0) xs) ys) := h5.out.1
              have S5 : Same [bx] w4 w5 := h5.out.2
              have z0 := S5.cell (p := ⟨bx, 0, none⟩) (by simp) y0
              have z2 := S5.cell (p := ⟨bx, 2, none⟩) (by simp) y2
              clear h5 S5
              go_wp2_with fail
              refine (M5.out.popFrontS).mono ?_
              rintro e w6 ⟨rfl, h6⟩
              rw [HV2.out, HO2.out]
              have M6 : Hid (Mix w.heap.size [bx] w w6 w.heap.size s (delI (0) xs) (delI (0) ys)) := h6.out.1
              have S6 : Same [bx] w5 w6 := h6.out.2
              have q0 := S6.cell (p := ⟨bx, 0, none⟩) (by simp) z0
              have q2 := S6.cell (p := ⟨bx, 2, none⟩) (by simp) z2
              clear h6 S6 M5
              have LEN : Hid ((((delI (0) ys)).length : Nat) = ((delI (0) xs)).length) := by
                obtain ⟨e1, e2, _⟩ := HX.out
                show ((delI (0) ys)).length = ((delI (0) xs)).length
                rw [e1, e2]
                simp only [List.length_map, delI_map]
              have T6 : Hid (TS w w6 w.heap.size s L ws (i + 1)) := by
                obtain ⟨e1, e2, hks, hkl⟩ := HX.out
                have m6 := M6.out.forget
                rw [e1, e2] at m6
                simp only [delI_map] at m6
                exact ⟨delI (0) ks, (fun k hk => hks k (delI_sub _ ks k hk)), (by have := delI_len (0) ks; omega), m6⟩
              go_wp2_with fail
              refine (M6.out.lenI _ rfl).mono ?_
              rintro e w7 ⟨rfl, e7⟩
              rw [e7]
              clear e7
              go_wp2_with fail
              refine (M6.out.lenS _ rfl).mono ?_
              rintro e w8 ⟨rfl, e8⟩
              rw [e8, LEN.out]
              clear e8
              go_wp2_with fail
              go_roundw
              case rel => exact ⟨i + 1, by omega, by omega, by go_num, T6⟩
              case measure => simp [intOf]; omega
        · rcases Bool.eq_false_or_eq_true (inR ((ks.length : Int) - 1) ks.length) with hok | hok
          · as_aux_lemma =>
              obtain ⟨kv, hkv, v1, v2⟩ : ∃ kv : Nat, kv < L ∧ getI ((xs.length : Int) - 1) xs (0 : Int) = (kv : Int) ∧ getI ((ys.length : Int) - 1) ys (⟨#[]⟩ : ByteArray) = ws.getD kv ⟨#[]⟩ := by
                obtain ⟨e1, e2, hks, _⟩ := HX.out
                have hok' : inR ((ks.length : Int) - 1) ks.length = true := hok
                refine ⟨getI ((ks.length : Int) - 1) ks 0, hks _ (getI_mem _ _ _ hok'), ?_, ?_⟩
                · rw [e1]
                  have := getI_map (fun k : Nat => (k : Int)) ((ks.length : Int) - 1) ks 0 0 hok'
                  simpa using this
                · rw [e2]
                  have := getI_map (fun k : Nat => ws.getD k ⟨#[]⟩) ((ks.length : Int) - 1) ks 0 ⟨#[]⟩ hok'
                  simpa using this
              obtain ⟨Xv, eXv⟩ : ∃ Xv, Xv = ws.getD kv ⟨#[]⟩ := ⟨_, rfl⟩
              rw [← eXv] at v2
              have OKI : inR ((xs.length : Int) - 1) xs.length = true := by obtain ⟨e1, _⟩ := HX.out; rw [e1]; simpa using hok
              have OKS : inR ((ys.length : Int) - 1) ys.length = true := by obtain ⟨_, e2, _⟩ := HX.out; rw [e2]; simpa using hok
              have HV1 : Hid (getI ((xs.length : Int) - 1) xs (0 : Int) = (kv : Int)) := v1
              have HV2 : Hid (getI ((ys.length : Int) - 1) ys (⟨#[]⟩ : ByteArray) = Xv) := v2
              have HO1 : Hid (inR ((xs.length : Int) - 1) xs.length = true) := OKI
              have HO2 : Hid (inR ((ys.length : Int) - 1) ys.length = true) := OKS
              have HXv : Hid (Xv = ws.getD kv ⟨#[]⟩) := eXv
              clear v1 v2 OKI OKS eXv hok
              go_wp2_with fail
              rw [← HW4.out, ← HBX.out]
              refine (M4.out.popBackI).mono ?_
              rintro e w5 ⟨rfl, h5⟩
              rw [HV1.out, HO1.out]
              have M5 : Hid (Mix w.heap.size [bx] w w5 w.heap.size s (delI ((xs.length : Int) - 1) xs) ys) := h5.out.1
              have S5 : Same [bx] w4 w5 := h5.out.2
              have z0 := S5.cell (p := ⟨bx, 0, none⟩) (by simp) y0
              have z2 := S5.cell (p := ⟨bx, 2, none⟩) (by simp) y2
              clear h5 S5
              go_wp2_with fail
              refine (M5.out.popBackS).mono ?_
              rintro e w6 ⟨rfl, h6⟩
              rw [HV2.out, HO2.out]
              have M6 : Hid (Mix w.heap.size [bx] w w6 w.heap.size s (delI ((xs.length : Int) - 1) xs) (delI ((ys.length : Int) - 1) ys)) := h6.out.1
              have S6 : Same [bx] w5 w6 := h6.out.2
              have q0 := S6.cell (p := ⟨bx, 0, none⟩) (by simp) z0
              have q2 := S6.cell (p := ⟨bx, 2, none⟩) (by simp) z2
              clear h6 S6 M5
              have LEN : Hid ((((delI ((ys.length : Int) - 1) ys)).length : Nat) = ((delI ((xs.length : Int) - 1) xs)).length) := by
                obtain ⟨e1, e2, _⟩ := HX.out
                show ((delI ((ys.length : Int) - 1) ys)).length = ((delI ((xs.length : Int) - 1) xs)).length
                rw [e1, e2]
                simp only [List.length_map, delI_map]
              have T6 : Hid (TS w w6 w.heap.size s L ws (i + 1)) := by
                obtain ⟨e1, e2, hks, hkl⟩ := HX.out
                have m6 := M6.out.forget
                rw [e1, e2] at m6
                simp only [List.length_map, delI_map] at m6
                exact ⟨delI ((ks.length : Int) - 1) ks, (fun k hk => hks k (delI_sub _ ks k hk)), (by have := delI_len ((ks.length : Int) - 1) ks; omega), m6⟩
              have cv : w6.cell? ⟨b1, o1 + kv, none⟩ = some (.string Xv) := by
                obtain ⟨b1', o1', e9, hw9⟩ := (HW.out.mono M6.out.bel).at (by omega)
                cases e9
                rw [HXv.out]
                exact hw9 kv hkv
              go_wp2_with fail
              refine (M6.out.lenI _ rfl).mono ?_
              rintro e w7 ⟨rfl, e7⟩
              rw [e7]
              clear e7
              go_wp2_with fail
              refine (M6.out.lenS _ rfl).mono ?_
              rintro e w8 ⟨rfl, e8⟩
              rw [e8, LEN.out]
              clear e8
              go_wp2_with fail
              go_roundw
              case rel => exact ⟨i + 1, by omega, by omega, by go_num, T6⟩
              case measure => simp [intOf]; omega
          · as_aux_lemma =>
              have HV1 : Hid (getI ((xs.length : Int) - 1) xs (0 : Int) = 0) := getI_no _ _ _ (by obtain ⟨e1, _⟩ := HX.out; rw [e1]; simpa using hok)
              have HV2 : Hid (getI ((ys.length : Int) - 1) ys (⟨#[]⟩ : ByteArray) = ⟨#[]⟩) := getI_no _ _ _ (by obtain ⟨_, e2, _⟩ := HX.out; rw [e2]; simpa using hok)
              have HO1 : Hid (inR ((xs.length : Int) - 1) xs.length = false) := by show inR ((xs.length : Int) - 1) xs.length = false; obtain ⟨e1, _⟩ := HX.out; rw [e1]; simpa using hok
              have HO2 : Hid (inR ((ys.length : Int) - 1) ys.length = false) := by show inR ((ys.length : Int) - 1) ys.length = false; obtain ⟨_, e2, _⟩ := HX.out; rw [e2]; simpa using hok
              clear hok
              go_wp2_with fail
              rw [← HW4.out, ← HBX.out]
              refine (M4.out.popBackI).mono ?_
              rintro e w5 ⟨rfl, h5⟩
              rw [HV1.out, HO1.out]
              have M5 : Hid (Mix w.heap.size [bx] w w5 w.heap.size s (delI ((xs.length : Int) - 1) xs) ys) := h5.out.1
              have S5 : Same [bx] w4 w5 := h5.out.2
              have z0 := S5.cell (p := ⟨bx, 0, none⟩) (by simp) y0
              have z2 := S5.cell (p := ⟨bx, 2, none⟩) (by simp) y2
              clear h5 S5
              go_wp2_with fail
              refine (M5.out.popBackS).mono ?_
              rintro e w6 ⟨rfl, h6⟩
              rw [HV2.out, HO2.out]
              have M6 : Hid (Mix w.heap.size [bx] w w6 w.heap.size s (delI ((xs.length : Int) - 1) xs) (delI ((ys.length : Int) - 1) ys)) := h6.out.1
              have S6 : Same [bx] w5 w6 := h6.out.2
              have q0 := S6.cell (p := ⟨bx, 0, none⟩) (by simp) z0
              have q2 := S6.cell (p := ⟨bx, 2, none⟩) (by simp) z2
              clear h6 S6 M5
              have LEN : Hid ((((delI ((ys.length : Int) - 1) ys)).length : Nat) = ((delI ((xs.length : Int) - 1) xs)).length) := by
                obtain ⟨e1, e2, _⟩ := HX.out
                show ((delI ((ys.length : Int) - 1) ys)).length = ((delI ((xs.length : Int) - 1) xs)).length
                rw [e1, e2]
                simp only [List.length_map, delI_map]
              have T6 : Hid (TS w w6 w.heap.size s L ws (i + 1)) := by
                obtain ⟨e1, e2, hks, hkl⟩ := HX.out
                have m6 := M6.out.forget
                rw [e1, e2] at m6
                simp only [List.length_map, delI_map] at m6
                exact ⟨delI ((ks.length : Int) - 1) ks, (fun k hk => hks k (delI_sub _ ks k hk)), (by have := delI_len ((ks.length : Int) - 1) ks; omega), m6⟩
              go_wp2_with fail
              refine (M6.out.lenI _ rfl).mono ?_
              rintro e w7 ⟨rfl, e7⟩
              rw [e7]
              clear e7
              go_wp2_with fail
              refine (M6.out.lenS _ rfl).mono ?_
              rintro e w8 ⟨rfl, e8⟩
              rw [e8, LEN.out]
              clear e8
              go_wp2_with fail
              go_roundw
              case rel => exact ⟨i + 1, by omega, by omega, by go_num, T6⟩
              case measure => simp [intOf]; omega
        · as_aux_lemma =>
            obtain ⟨ok, eok⟩ : ∃ ok, ok = inR N ks.length := ⟨_, rfl⟩
            have OKI : inR N xs.length = ok := by obtain ⟨e1, _⟩ := HX.out; rw [e1, eok]; simp
            have OKS : inR N ys.length = ok := by obtain ⟨_, e2, _⟩ := HX.out; rw [e2, eok]; simp
            clear eok
            go_wp2_with fail
            rw [← HW4.out, ← HBX.out]
            refine (M4.out.putI N (kx : Int)).mono ?_
            rintro e w5 ⟨rfl, h5⟩
            rw [OKI]
            have M5 : Hid (Mix w.heap.size [bx] w w5 w.heap.size s (setI N (kx : Int) xs) ys) := h5.out.1
            have S5 : Same [bx] w4 w5 := h5.out.2
            have z0 := S5.cell (p := ⟨bx, 0, none⟩) (by simp) y0
            have z2 := S5.cell (p := ⟨bx, 2, none⟩) (by simp) y2
            clear h5 S5
            go_wp2_with fail
            refine (M5.out.putS N X).mono ?_
            rintro e w6 ⟨rfl, h6⟩
            rw [OKS]
            have M6 : Hid (Mix w.heap.size [bx] w w6 w.heap.size s (setI N (kx : Int) xs) (setI N X ys)) := h6.out.1
            have S6 : Same [bx] w5 w6 := h6.out.2
            have q0 := S6.cell (p := ⟨bx, 0, none⟩) (by simp) z0
            have q2 := S6.cell (p := ⟨bx, 2, none⟩) (by simp) z2
            clear h6 S6 M5
            have LEN : Hid ((((setI N X ys)).length : Nat) = ((setI N (kx : Int) xs)).length) := by
              obtain ⟨e1, e2, _⟩ := HX.out
              show ((setI N X ys)).length = ((setI N (kx : Int) xs)).length
              rw [e1, e2]
              rw [set1, set2 ks N kx X HXk.out]
              simp
            have T6 : Hid (TS w w6 w.heap.size s L ws (i + 1)) := by
              obtain ⟨e1, e2, hks, hkl⟩ := HX.out
              have m6 := M6.out.forget
              rw [e1, e2] at m6
              rw [set1, set2 ks N kx X HXk.out] at m6
              exact ⟨setI N kx ks, (fun k hk => by rcases setI_sub N kx ks k hk with e | e; exact hks k e; (subst e; exact hkx)), (by rw [setI_len]; omega), m6⟩
            go_wp2_with fail
            refine (M6.out.lenI _ rfl).mono ?_
            rintro e w7 ⟨rfl, e7⟩
            rw [e7]
            clear e7
            go_wp2_with fail
            refine (M6.out.lenS _ rfl).mono ?_
            rintro e w8 ⟨rfl, e8⟩
            rw [e8, LEN.out]
            clear e8
            go_wp2_with fail
            go_roundw
            case rel => exact ⟨i + 1, by omega, by omega, by go_num, T6⟩
            case measure => simp [intOf]; omega
        · rcases Bool.eq_false_or_eq_true (inR (N) ks.length) with hok | hok
          · as_aux_lemma =>
              obtain ⟨kv, hkv, v1, v2⟩ : ∃ kv : Nat, kv < L ∧ getI (N) xs (0 : Int) = (kv : Int) ∧ getI (N) ys (⟨#[]⟩ : ByteArray) = ws.getD kv ⟨#[]⟩ := by
                obtain ⟨e1, e2, hks, _⟩ := HX.out
                have hok' : inR (N) ks.length = true := hok
                refine ⟨getI (N) ks 0, hks _ (getI_mem _ _ _ hok'), ?_, ?_⟩
                · rw [e1]
                  have := getI_map (fun k : Nat => (k : Int)) (N) ks 0 0 hok'
                  simpa using this
                · rw [e2]
                  have := getI_map (fun k : Nat => ws.getD k ⟨#[]⟩) (N) ks 0 ⟨#[]⟩ hok'
                  simpa using this
              obtain ⟨Xv, eXv⟩ : ∃ Xv, Xv = ws.getD kv ⟨#[]⟩ := ⟨_, rfl⟩
              rw [← eXv] at v2
              have OKI : inR (N) xs.length = true := by obtain ⟨e1, _⟩ := HX.out; rw [e1]; simpa using hok
              have OKS : inR (N) ys.length = true := by obtain ⟨_, e2, _⟩ := HX.out; rw [e2]; simpa using hok
              have HV1 : Hid (getI (N) xs (0 : Int) = (kv : Int)) := v1
              have HV2 : Hid (getI (N) ys (⟨#[]⟩ : ByteArray) = Xv) := v2
              have HO1 : Hid (inR (N) xs.length = true) := OKI
              have HO2 : Hid (inR (N) ys.length = true) := OKS
              have HXv : Hid (Xv = ws.getD kv ⟨#[]⟩) := eXv
              clear v1 v2 OKI OKS eXv hok
              go_wp2_with fail
              rw [← HW4.out, ← HBX.out]
              refine (M4.out.takeI N).mono ?_
              rintro e w5 ⟨rfl, h5⟩
              rw [HV1.out, HO1.out]
              have M5 : Hid (Mix w.heap.size [bx] w w5 w.heap.size s (delI (N) xs) ys) := h5.out.1
              have S5 : Same [bx] w4 w5 := h5.out.2
              have z0 := S5.cell (p := ⟨bx, 0, none⟩) (by simp) y0
              have z2 := S5.cell (p := ⟨bx, 2, none⟩) (by simp) y2
              clear h5 S5
              go_wp2_with fail
              refine (M5.out.takeS N).mono ?_
              rintro e w6 ⟨rfl, h6⟩
              rw [HV2.out, HO2.out]
              have M6 : Hid (Mix w.heap.size [bx] w w6 w.heap.size s (delI (N) xs) (delI (N) ys)) := h6.out.1
              have S6 : Same [bx] w5 w6 := h6.out.2
              have q0 := S6.cell (p := ⟨bx, 0, none⟩) (by simp) z0
              have q2 := S6.cell (p := ⟨bx, 2, none⟩) (by simp) z2
              clear h6 S6 M5
              have LEN : Hid ((((delI (N) ys)).length : Nat) = ((delI (N) xs)).length) := by
                obtain ⟨e1, e2, _⟩ := HX.out
                show ((delI (N) ys)).length = ((delI (N) xs)).length
                rw [e1, e2]
                simp only [List.length_map, delI_map]
              have T6 : Hid (TS w w6 w.heap.size s L ws (i + 1)) := by
                obtain ⟨e1, e2, hks, hkl⟩ := HX.out
                have m6 := M6.out.forget
                rw [e1, e2] at m6
                simp only [delI_map] at m6
                exact ⟨delI (N) ks, (fun k hk => hks k (delI_sub _ ks k hk)), (by have := delI_len (N) ks; omega), m6⟩
              have cv : w6.cell? ⟨b1, o1 + kv, none⟩ = some (.string Xv) := by
                obtain ⟨b1', o1', e9, hw9⟩ := (HW.out.mono M6.out.bel).at (by omega)
                cases e9
                rw [HXv.out]
                exact hw9 kv hkv
              go_wp2_with fail
              refine (M6.out.lenI _ rfl).mono ?_
              rintro e w7 ⟨rfl, e7⟩
              rw [e7]
              clear e7
              go_wp2_with fail
              refine (M6.out.lenS _ rfl).mono ?_
              rintro e w8 ⟨rfl, e8⟩
              rw [e8, LEN.out]
              clear e8
              go_wp2_with fail
              go_roundw
              case rel => exact ⟨i + 1, by omega, by omega, by go_num, T6⟩
              case measure => simp [intOf]; omega
          · as_aux_lemma =>
              have HV1 : Hid (getI (N) xs (0 : Int) = 0) := getI_no _ _ _ (by obtain ⟨e1, _⟩ := HX.out; rw [e1]; simpa using hok)
              have HV2 : Hid (getI (N) ys (⟨#[]⟩ : ByteArray) = ⟨#[]⟩) := getI_no _ _ _ (by obtain ⟨_, e2, _⟩ := HX.out; rw [e2]; simpa using hok)
              have HO1 : Hid (inR (N) xs.length = false) := by show inR (N) xs.length = false; obtain ⟨e1, _⟩ := HX.out; rw [e1]; simpa using hok
              have HO2 : Hid (inR (N) ys.length = false) := by show inR (N) ys.length = false; obtain ⟨_, e2, _⟩ := HX.out; rw [e2]; simpa using hok
              clear hok
              go_wp2_with fail
              rw [← HW4.out, ← HBX.out]
              refine (M4.out.takeI N).mono ?_
              rintro e w5 ⟨rfl, h5⟩
              rw [HV1.out, HO1.out]
              have M5 : Hid (Mix w.heap.size [bx] w w5 w.heap.size s (delI (N) xs) ys) := h5.out.1
              have S5 : Same [bx] w4 w5 := h5.out.2
              have z0 := S5.cell (p := ⟨bx, 0, none⟩) (by simp) y0
              have z2 := S5.cell (p := ⟨bx, 2, none⟩) (by simp) y2
              clear h5 S5
              go_wp2_with fail
              refine (M5.out.takeS N).mono ?_
              rintro e w6 ⟨rfl, h6⟩
              rw [HV2.out, HO2.out]
              have M6 : Hid (Mix w.heap.size [bx] w w6 w.heap.size s (delI (N) xs) (delI (N) ys)) := h6.out.1
              have S6 : Same [bx] w5 w6 := h6.out.2
              have q0 := S6.cell (p := ⟨bx, 0, none⟩) (by simp) z0
              have q2 := S6.cell (p := ⟨bx, 2, none⟩) (by simp) z2
              clear h6 S6 M5
              have LEN : Hid ((((delI (N) ys)).length : Nat) = ((delI (N) xs)).length) := by
                obtain ⟨e1, e2, _⟩ := HX.out
                show ((delI (N) ys)).length = ((delI (N) xs)).length
                rw [e1, e2]
                simp only [List.length_map, delI_map]
              have T6 : Hid (TS w w6 w.heap.size s L ws (i + 1)) := by
                obtain ⟨e1, e2, hks, hkl⟩ := HX.out
                have m6 := M6.out.forget
                rw [e1, e2] at m6
                simp only [delI_map] at m6
                exact ⟨delI (N) ks, (fun k hk => hks k (delI_sub _ ks k hk)), (by have := delI_len (N) ks; omega), m6⟩
              go_wp2_with fail
              refine (M6.out.lenI _ rfl).mono ?_
              rintro e w7 ⟨rfl, e7⟩
              rw [e7]
              clear e7
              go_wp2_with fail
              refine (M6.out.lenS _ rfl).mono ?_
              rintro e w8 ⟨rfl, e8⟩
              rw [e8, LEN.out]
              clear e8
              go_wp2_with fail
              go_roundw
              case rel => exact ⟨i + 1, by omega, by omega, by go_num, T6⟩
              case measure => simp [intOf]; omega
        · as_aux_lemma =>
            go_wp2_with fail
            rw [← HW4.out, ← HBX.out]
            refine (M4.out.turnI (by obtain ⟨e1, e2, _, hkl⟩ := HX.out; rw [e1]; simp; omega) N HN.out.1 HN.out.2).mono ?_
            rintro e w5 ⟨rfl, h5⟩
            have M5 : Hid (Mix w.heap.size [bx] w w5 w.heap.size s (rt N xs) ys) := h5.out.1
            have S5 : Same [bx] w4 w5 := h5.out.2
            have z0 := S5.cell (p := ⟨bx, 0, none⟩) (by simp) y0
            have z2 := S5.cell (p := ⟨bx, 2, none⟩) (by simp) y2
            clear h5 S5
            go_wp2_with fail
            refine (M5.out.turnS (by obtain ⟨e1, e2, _, hkl⟩ := HX.out; rw [e2]; simp; omega) N HN.out.1 HN.out.2).mono ?_
            rintro e w6 ⟨rfl, h6⟩
            have M6 : Hid (Mix w.heap.size [bx] w w6 w.heap.size s (rt N xs) (rt N ys)) := h6.out.1
            have S6 : Same [bx] w5 w6 := h6.out.2
            have q0 := S6.cell (p := ⟨bx, 0, none⟩) (by simp) z0
            have q2 := S6.cell (p := ⟨bx, 2, none⟩) (by simp) z2
            clear h6 S6 M5
            have LEN : Hid ((((rt N ys)).length : Nat) = ((rt N xs)).length) := by
              obtain ⟨e1, e2, _⟩ := HX.out
              show ((rt N ys)).length = ((rt N xs)).length
              rw [e1, e2]
              rw [rt_map, rt_map]
              simp
            have T6 : Hid (TS w w6 w.heap.size s L ws (i + 1)) := by
              obtain ⟨e1, e2, hks, hkl⟩ := HX.out
              have m6 := M6.out.forget
              rw [e1, e2] at m6
              rw [rt_map, rt_map] at m6
              exact ⟨rt N ks, (fun k hk => hks k (rt_mem N ks k hk)), (by rw [rt_length]; omega), m6⟩
            go_wp2_with fail
            refine (M6.out.lenI _ rfl).mono ?_
            rintro e w7 ⟨rfl, e7⟩
            rw [e7]
            clear e7
            go_wp2_with fail
            refine (M6.out.lenS _ rfl).mono ?_
            rintro e w8 ⟨rfl, e8⟩
            rw [e8, LEN.out]
            clear e8
            go_wp2_with fail
            go_roundw
            case rel => exact ⟨i + 1, by omega, by omega, by go_num, T6⟩
            case measure => simp [intOf]; omega
        · rcases Bool.eq_false_or_eq_true (inR (N) ks.length) with hok | hok
          · as_aux_lemma =>
              obtain ⟨kv, hkv, v1, v2⟩ : ∃ kv : Nat, kv < L ∧ getI (N) xs (0 : Int) = (kv : Int) ∧ getI (N) ys (⟨#[]⟩ : ByteArray) = ws.getD kv ⟨#[]⟩ := by
                obtain ⟨e1, e2, hks, _⟩ := HX.out
                have hok' : inR (N) ks.length = true := hok
                refine ⟨getI (N) ks 0, hks _ (getI_mem _ _ _ hok'), ?_, ?_⟩
                · rw [e1]
                  have := getI_map (fun k : Nat => (k : Int)) (N) ks 0 0 hok'
                  simpa using this
                · rw [e2]
                  have := getI_map (fun k : Nat => ws.getD k ⟨#[]⟩) (N) ks 0 ⟨#[]⟩ hok'
                  simpa using this
              obtain ⟨Xv, eXv⟩ : ∃ Xv, Xv = ws.getD kv ⟨#[]⟩ := ⟨_, rfl⟩
              rw [← eXv] at v2
              have OKI : inR (N) xs.length = true := by obtain ⟨e1, _⟩ := HX.out; rw [e1]; simpa using hok
              have OKS : inR (N) ys.length = true := by obtain ⟨_, e2, _⟩ := HX.out; rw [e2]; simpa using hok
              have HV1 : Hid (getI (N) xs (0 : Int) = (kv : Int)) := v1
              have HV2 : Hid (getI (N) ys (⟨#[]⟩ : ByteArray) = Xv) := v2
              have HO1 : Hid (inR (N) xs.length = true) := OKI
              have HO2 : Hid (inR (N) ys.length = true) := OKS
              have HXv : Hid (Xv = ws.getD kv ⟨#[]⟩) := eXv
              clear v1 v2 OKI OKS eXv hok
              go_wp2_with fail
              rw [← HW4.out, ← HBX.out]
              refine (M4.out.atI N).mono ?_
              rintro e w5 ⟨rfl, h5⟩
              rw [HV1.out, HO1.out]
              have M5 : Hid (Mix w.heap.size [bx] w w5 w.heap.size s xs ys) := h5.out.1
              have S5 : Same [bx] w4 w5 := h5.out.2
              have z0 := S5.cell (p := ⟨bx, 0, none⟩) (by simp) y0
              have z2 := S5.cell (p := ⟨bx, 2, none⟩) (by simp) y2
              clear h5 S5
              go_wp2_with fail
              refine (M5.out.atS N).mono ?_
              rintro e w6 ⟨rfl, h6⟩
              rw [HV2.out, HO2.out]
              have M6 : Hid (Mix w.heap.size [bx] w w6 w.heap.size s xs ys) := h6.out.1
              have S6 : Same [bx] w5 w6 := h6.out.2
              have q0 := S6.cell (p := ⟨bx, 0, none⟩) (by simp) z0
              have q2 := S6.cell (p := ⟨bx, 2, none⟩) (by simp) z2
              clear h6 S6 M5
              have LEN : Hid (((ys).length : Nat) = (xs).length) := by
                obtain ⟨e1, e2, _⟩ := HX.out
                show (ys).length = (xs).length
                rw [e1, e2]
                simp
              have T6 : Hid (TS w w6 w.heap.size s L ws (i + 1)) := by
                obtain ⟨e1, e2, hks, hkl⟩ := HX.out
                have m6 := M6.out.forget
                rw [e1, e2] at m6
                exact ⟨ks, hks, (by omega), m6⟩
              have cv : w6.cell? ⟨b1, o1 + kv, none⟩ = some (.string Xv) := by
                obtain ⟨b1', o1', e9, hw9⟩ := (HW.out.mono M6.out.bel).at (by omega)
                cases e9
                rw [HXv.out]
                exact hw9 kv hkv
              go_wp2_with fail
              refine (M6.out.lenI _ rfl).mono ?_
              rintro e w7 ⟨rfl, e7⟩
              rw [e7]
              clear e7
              go_wp2_with fail
              refine (M6.out.lenS _ rfl).mono ?_
              rintro e w8 ⟨rfl, e8⟩
              rw [e8, LEN.out]
              clear e8
              go_wp2_with fail
              go_roundw
              case rel => exact ⟨i + 1, by omega, by omega, by go_num, T6⟩
              case measure => simp [intOf]; omega
          · as_aux_lemma =>
              have HV1 : Hid (getI (N) xs (0 : Int) = 0) := getI_no _ _ _ (by obtain ⟨e1, _⟩ := HX.out; rw [e1]; simpa using hok)
              have HV2 : Hid (getI (N) ys (⟨#[]⟩ : ByteArray) = ⟨#[]⟩) := getI_no _ _ _ (by obtain ⟨_, e2, _⟩ := HX.out; rw [e2]; simpa using hok)
              have HO1 : Hid (inR (N) xs.length = false) := by show inR (N) xs.length = false; obtain ⟨e1, _⟩ := HX.out; rw [e1]; simpa using hok
              have HO2 : Hid (inR (N) ys.length = false) := by show inR (N) ys.length = false; obtain ⟨_, e2, _⟩ := HX.out; rw [e2]; simpa using hok
              clear hok
              go_wp2_with fail
              rw [← HW4.out, ← HBX.out]
              refine (M4.out.atI N).mono ?_
              rintro e w5 ⟨rfl, h5⟩
              rw [HV1.out, HO1.out]
              have M5 : Hid (Mix w.heap.size [bx] w w5 w.heap.size s xs ys) := h5.out.1
              have S5 : Same [bx] w4 w5 := h5.out.2
              have z0 := S5.cell (p := ⟨bx, 0, none⟩) (by simp) y0
              have z2 := S5.cell (p := ⟨bx, 2, none⟩) (by simp) y2
              clear h5 S5
              go_wp2_with fail
              refine (M5.out.atS N).mono ?_
              rintro e w6 ⟨rfl, h6⟩
              rw [HV2.out, HO2.out]
              have M6 : Hid (Mix w.heap.size [bx] w w6 w.heap.size s xs ys) := h6.out.1
              have S6 : Same [bx] w5 w6 := h6.out.2
              have q0 := S6.cell (p := ⟨bx, 0, none⟩) (by simp) z0
              have q2 := S6.cell (p := ⟨bx, 2, none⟩) (by simp) z2
              clear h6 S6 M5
              have LEN : Hid (((ys).length : Nat) = (xs).length) := by
                obtain ⟨e1, e2, _⟩ := HX.out
                show (ys).length = (xs).length
                rw [e1, e2]
                simp
              have T6 : Hid (TS w w6 w.heap.size s L ws (i + 1)) := by
                obtain ⟨e1, e2, hks, hkl⟩ := HX.out
                have m6 := M6.out.forget
                rw [e1, e2] at m6
                exact ⟨ks, hks, (by omega), m6⟩
              go_wp2_with fail
              refine (M6.out.lenI _ rfl).mono ?_
              rintro e w7 ⟨rfl, e7⟩
              rw [e7]
              clear e7
              go_wp2_with fail
              refine (M6.out.lenS _ rfl).mono ?_
              rintro e w8 ⟨rfl, e8⟩
              rw [e8, LEN.out]
              clear e8
              go_wp2_with fail
              go_roundw
              case rel => exact ⟨i + 1, by omega, by omega, by go_num, T6⟩
              case measure => simp [intOf]; omega
      · obtain ⟨ks, hks, hkl, hM⟩ := hT.out
        obtain ⟨xs, exs⟩ : ∃ xs, xs = ks.map fun k : Nat => (k : Int) := ⟨_, rfl⟩
        obtain ⟨ys, eys⟩ : ∃ ys, ys = ks.map fun k : Nat => ws.getD k (⟨#[]⟩ : ByteArray) := ⟨_, rfl⟩
        obtain ⟨c, ec⟩ : ∃ c, c = ks.length := ⟨_, rfl⟩
        rw [← exs, ← eys] at hM
        have M1 : Hid (Mix w.heap.size [] w wr w.heap.size s xs ys) := hM
        have HC : Hid (xs.length = c ∧ ys.length = c ∧ c ≤ 200) := ⟨by rw [exs, ec]; simp, by rw [eys, ec]; simp, by omega⟩
        have HE : Hid (∀ j, j < c → ∃ kj : Nat, kj < L ∧ xs.getD j 0 = (kj : Int) ∧ ys.getD j ⟨#[]⟩ = ws.getD kj ⟨#[]⟩) := fun j hj => by
          have hj2 : j < ks.length := by omega
          refine ⟨ks[j], hks _ (List.getElem_mem hj2), ?_, ?_⟩
          · rw [exs]; simp [List.getD_eq_getElem?_getD, hj2]
          · rw [eys]; simp [List.getD_eq_getElem?_getD, hj2]
        have hc200 : c ≤ 200 := by omega
        have two : decide ((i : Int) < (n : Int)) = false ∧ decide (i < n) = false ∨ (decide ((i : Int) < (n : Int)) = true ∧ decide (i < n) = true ∧ decide ((i : Int) < 200) = false ∧ decide (i < 200) = false) := by
          simp only [decide_eq_false_iff_not, decide_eq_true_eq]
          omega
        clear hks hkl hM hT exs eys ec
        rcases two with ⟨d1, d2⟩ | ⟨d1, d2, d3, d4⟩
        all_goals (
          go_wp2_with fail
          refine (M1.out.listI c HC.out.1).mono ?_
          rintro e w5 ⟨rfl, h5⟩
          obtain ⟨g1, eg1⟩ : ∃ g1, g1 = wr.heap.size := ⟨_, rfl⟩
          rw [← eg1]
          have H5 : Hid (w5.rowIs g1 3 c (fun j => .int .i64 (xs.getD j 0)) ∧ Mix w.heap.size [] w w5 w.heap.size s xs ys) := ⟨by rw [eg1]; exact h5.out.1, h5.out.2.1⟩
          clear h5 eg1 M1
          go_wp2_with fail
          refine (H5.out.2.listS c HC.out.2.1).mono ?_
          rintro e w6 ⟨rfl, h6⟩
          obtain ⟨g2, eg2⟩ : ∃ g2, g2 = w5.heap.size := ⟨_, rfl⟩
          rw [← eg2]
          have H6 : Hid (w6.rowIs g1 3 c (fun j => .int .i64 (xs.getD j 0)) ∧ w6.rowIs g2 9 c (fun j => .string (ys.getD j ⟨#[]⟩)) ∧ Mix w.heap.size [] w w6 w.heap.size s xs ys) := ⟨H5.out.1.of_block (h6.out.2.2.block _ H5.out.1.lt), by rw [eg2]; exact h6.out.1, h6.out.2.1⟩
          clear h6 eg2 H5
          go_wp2_with fail
          go_loopw [18] (fun t wr2 => ∃ (j nd : Nat), j ≤ c ∧ t = .int .i64 (j : Int) ∧ wr2 = w6.drewN nd) (fun t _ => c - (intOf t).toNat)
          case atStart => exact ⟨0, 0, by omega, rfl, rfl⟩
          case round =>
            obtain ⟨j, nd, hj, rfl, rfl⟩ := hrel
            by_cases hjc : j < c
            · obtain ⟨kj, hkj, e1, e2⟩ := HE.out j hjc
              obtain ⟨b1, o1, rfl, hw1⟩ := (HW.out.mono H6.out.2.2.bel).at (by omega)
              have c1 := H6.out.1.cell hjc
              have c2 := H6.out.2.1.cell hjc
              have c3 := hw1 kj hkj
              rw [e1] at c1
              rw [e2] at c2
              obtain ⟨X, eX⟩ : ∃ X, X = ws.getD kj (⟨#[]⟩ : ByteArray) := ⟨_, rfl⟩
              rw [← eX] at c2 c3
              clear e1 e2 hw1 eX
              go_wp2_with fail
              go_quiet (fail)
              go_wp2_with fail
              go_roundw
              case rel => exact ⟨j + 1, _, by omega, by go_num, rfl⟩
              case measure => simp [intOf]; omega
            · obtain rfl : j = c := by omega
              go_wp2_with fail
              go_ret
              exact ⟨rfl, bel_drewN H6.out.2.2.bel _⟩)
end Go.Proofs.Ytacgpipccpmloaa
