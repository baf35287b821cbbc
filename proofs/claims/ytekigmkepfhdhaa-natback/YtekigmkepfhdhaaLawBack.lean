/- NatBack: the walk. -/
import Derived.Test.YtekigmkepfhdhaaBackM
namespace Go.Proofs.Ytekigmkepfhdhaa
open Go.RowKit
set_option maxRecDepth 100000
set_option linter.unusedVariables false
theorem BRow.bsl0 {w : World} {b N : Nat} {F : Nat → Nat} (h : BRow w b N F) (hm : N ≤ 1099511627776) : BSl w (some ⟨b, 0, none⟩) N N F := by
  have := h.bsl (o := 0) (n := N) (cap := N) (by omega) (Nat.le_refl _) (by omega)
  rw [fro_zero] at this
  exact this
theorem wrap_neg (x y : Nat) : IntKind.i64.wrap (-cmpI y x) = cmpI x y := by
  rcases Nat.lt_trichotomy x y with e | e | e
  · rw [cmpI_lt e, cmpI_gt e]
    rfl
  · subst e
    rw [cmpI_eq]
    rfl
  · rw [cmpI_gt e, cmpI_lt e]
    rfl
theorem cmpI_sm {x y : Nat} {sm : Bool} (h : (cmpI x y == 0) = sm) : sm = decide (x = y) := by
  rw [← h]
  rcases Nat.lt_trichotomy x y with e | e | e
  · rw [cmpI_lt e, decide_eq_false (by omega)]
    rfl
  · subst e
    rw [cmpI_eq, decide_eq_true rfl]
    rfl
  · rw [cmpI_gt e, decide_eq_false (by omega)]
    rfl
theorem str_sm {s t : ByteArray} {x y : Nat} {sm : Bool} (hsm : (cmpI x y == 0) = sm) (h : s = t ↔ x = y) : (s.toList == t.toList) = sm := by
  rw [cmpI_sm hsm]
  by_cases e : x = y
  · rw [h.2 e, decide_eq_true e]
    exact beq_self_eq_true _
  · rw [decide_eq_false e]
    refine beq_eq_false_iff_ne.2 fun h2 => e (h.1 ?_)
    rw [ByteArray.toList_eq, ByteArray.toList_eq] at h2
    cases s
    cases t
    simp at h2
    rw [h2]
theorem dec_small {x k : Nat} (h : DecLen x k) (hx : Mid x) : k ≤ 5000 := by
  rcases h.2.2 with h1 | h1
  · omega
  · have h2 : 2 ^ (3 * (k - 1)) ≤ 10 ^ (k - 1) := by rw [Nat.pow_mul]; exact Nat.pow_le_pow_left (by decide) _
    have h3 : 2 ^ (3 * (k - 1)) < P 75 := Nat.lt_of_le_of_lt (Nat.le_trans h2 h1) hx.lt
    rw [P_two] at h3
    have h4 := (Nat.pow_lt_pow_iff_right (show 1 < 2 by decide)).1 h3
    omega
set_option maxHeartbeats 4000000 in
theorem natBack_true (a0 : Option Addr) (l0 k0 : Nat) (D0 : Nat → Nat) (a1 : Option Addr) (l1 k1 : Nat) (D1 : Nat → Nat) (w : World) (h0 : BSl w a0 l0 k0 D0) (h1 : BSl w a1 l1 k1 D1) :
    Calls Try.prog 6 #[.slice a0 l0 k0, .slice a1 l1 k1] w fun e w' => e = .returned (.bool true) ∧ Below w.heap.size w w' := by
  have HA : Hid (BSl w a0 l0 k0 D0 ∧ BSl w a1 l1 k1 D1) := ⟨h0, h1⟩
  clear h0 h1
  go_enter Try.func6, Try.ntmps6
  go_wp2_with fail
  refine (cut_any a0 l0 k0 D0 _ HA.out.1).mono ?_
  rintro e w' ⟨⟨n0, rfl, hb0, hn0⟩, hw'⟩
  rw [hw']
  clear hw' w'
  have X0 : Hid (BSl w a0 n0 k0 D0) := hb0
  clear hb0
  go_wp2_with fail
  refine (cut_any a1 l1 k1 D1 _ HA.out.2).mono ?_
  rintro e w' ⟨⟨n1, rfl, hb0, hn1⟩, hw'⟩
  rw [hw']
  clear hw' w'
  have X1 : Hid (BSl w a1 n1 k1 D1) := hb0
  clear hb0 HA
  go_wp2_with fail
  refine (fromBytes_any a0 n0 k0 D0 _ X0.out (by omega)).mono ?_
  rintro e w1 ⟨v1, rfl, hv1, hb1⟩
  have M1 : Hid (Mid (BV D0 n0) ∧ byteLen (BV D0 n0) ≤ n0) := ⟨⟨BV_P X0.out.2.2.1 hn0⟩, byteLen_le X0.out.2.2.1⟩
  generalize BV D0 n0 = x at hv1 M1
  have X2 : Hid (IsNat w1 v1 x ∧ BSl w1 a1 n1 k1 D1 ∧ Below w.heap.size w w1) := ⟨hv1, X1.out.mono hb1, hb1⟩
  obtain ⟨ax, nx, cx, rfl⟩ := hv1.isAgg
  clear hv1 hb1 X0 X1
  go_wp2_with fail
  refine (fromBytes_any a1 n1 k1 D1 _ X2.out.2.1 (by omega)).mono ?_
  rintro e w2 ⟨v2, rfl, hv2, hb2⟩
  have M2 : Hid (Mid (BV D1 n1)) := ⟨BV_P X2.out.2.1.2.2.1 hn1⟩
  generalize BV D1 n1 = y at hv2 M2
  obtain ⟨ay, ny, cy, rfl⟩ := hv2.isAgg
  have S4 : Hid (St w _ [(.agg #[.slice ax nx cx], x), (.agg #[.slice ay ny cy], y)] [(w2.heap.size + 1, .slice ay ny cy), (w2.heap.size, .slice ax nx cx)]) := ((St.mk (N := [(.agg #[.slice ax nx cx], x), (.agg #[.slice ay ny cy], y)]) (C := []) (by simp; exact ⟨X2.out.1.mono hb2, hv2⟩) (by simp) (bel_go X2.out.2.2 hb2)).box (.slice ax nx cx) 27 _ rfl).box (.slice ay ny cy) 27 (w2.heap.size + 1) (by simp)
  clear hv2 hb2 X2
  go_wp2_with fail
  obtain ⟨w4, hw4⟩ : ∃ w4, w4 = (w2.alloc (Obj.cells #[Value.slice ax nx cx] 27)).alloc (Obj.cells #[Value.slice ay ny cy] 27) := ⟨_, rfl⟩
  rw [← hw4] at S4 ⊢
  obtain ⟨b, hb⟩ : ∃ b, b = w2.heap.size := ⟨_, rfl⟩
  rw [← hb] at S4 ⊢
  clear hw4 hb
  have HL : Hid (byteLen x ≤ 600) := Nat.le_trans M1.out.2 hn0
  refine (bytes_any _ x _ (S4.out.at (.agg #[.slice ax nx cx]) x) M1.out.1.fits).mono ?_
  rintro e w5 ⟨g5, rfl, hg5, hR5, hb5⟩
  have S5 : Hid _ := S4.out.go hb5
  have R5 : Hid (BRow w5 g5 (byteLen x) (fun i => byteAt x (byteLen x - 1 - i))) := hR5
  clear hg5 hR5 hb5 S4
  go_wp2_with fail
  refine (fromBytes_any (some ⟨g5, 0, none⟩) (byteLen x) (byteLen x) _ _ (BRow.bsl0 R5.out (by have := HL.out; omega)) (by have := HL.out; omega)).mono ?_
  rintro e w6 ⟨v6, rfl, hv6, hb6⟩
  rw [BV_bytes] at hv6
  obtain ⟨az, nz, cz, rfl⟩ := hv6.isAgg
  have S6 : Hid _ := ((S5.out.go hb6).nat hv6).box (.slice az nz cz) 27 _ rfl
  clear hv6 hb6 S5 R5
  have c0 := S6.out.cell b (.slice ax nx cx)
  go_wp2_with fail
  obtain ⟨w7, hw7⟩ : ∃ w7, w7 = w6.alloc (Obj.cells #[Value.slice az nz cz] 27) := ⟨_, rfl⟩
  rw [← hw7] at S6 c0 ⊢
  obtain ⟨bz, hbz⟩ : ∃ bz, bz = w6.heap.size := ⟨_, rfl⟩
  rw [← hbz] at S6 ⊢
  clear hw7 hbz
  refine (eq_true _ _ x _ (S6.out.at (.agg #[.slice ax nx cx]) x) (S6.out.at (.agg #[.slice az nz cz]) x) M1.out.1.tx).mono ?_
  rintro e w8 ⟨rfl, hb8⟩
  have S8 : Hid _ := S6.out.go hb8
  clear hb8 S6 c0
  have c0 := S8.out.cell b (.slice ax nx cx)
  go_wp2_with fail
  refine (bytes_any _ x _ (S8.out.at (.agg #[.slice ax nx cx]) x) M1.out.1.fits).mono ?_
  rintro e w9 ⟨g9, rfl, hg9, hR9, hb9⟩
  have S9 : Hid _ := S8.out.go hb9
  clear hg9 hR9 hb9 S8 c0
  have c0 := S9.out.cell b (.slice ax nx cx)
  obtain ⟨L, hL⟩ : ∃ L, L = byteLen x := ⟨_, rfl⟩
  have HLx : Hid (L = byteLen x) := hL
  rw [← hL]
  clear hL
  have hLn : L ≤ n0 := by rw [HLx.out]; exact M1.out.2
  have hd1 : decide ((n0 : Int) < (L : Int)) = false := decide_eq_false (by omega)
  go_wp2_with fail
  refine (bytes_any _ x _ (S9.out.at (.agg #[.slice ax nx cx]) x) M1.out.1.fits).mono ?_
  rintro e w10 ⟨g10, rfl, hg10, hR10, hb10⟩
  have S10 : Hid _ := S9.out.go hb10
  clear hg10 hR10 hb10 S9 c0
  have c0 := S10.out.cell b (.slice ax nx cx)
  rw [← HLx.out]
  have key : ∀ (wk : World) (a : Act), False → True := fun _ _ h => h.elim
  clear key
  by_cases hL0 : L = 0
  · have hd2 : decide ((0 : Int) < (L : Int)) = false := decide_eq_false (by omega)
    subst hL0
    have HX0 : Hid (x = 0) := by
      have := lt_byteLen x
      rw [← HLx.out] at this
      exact (by simpa using this : x = 0)
    go_wp2_with fail
    refine (text_any _ x _ (S10.out.at (.agg #[.slice ax nx cx]) x) M1.out.1.tx).mono ?_
    rintro e wt ⟨k, rfl, hk, hbt⟩
    have ST : Hid _ := S10.out.go hbt
    have HS : Hid ((decText x k).size = k ∧ Digits (decText x k) k ∧ decVal (decText x k) k = x ∧ DecLen x k ∧ (1 < k → sb (decText x k) 0 ≠ 48) ∧ (∀ l, DecLen y l → (decText x k = decText y l ↔ x = y))) := ⟨text_size _ _, digits_text _ _, decVal_text hk, hk, text_head hk, fun l hl => ⟨fun e => text_inj hk hl e, fun e => by subst e; rw [hk.unique hl]⟩⟩
    generalize decText x k = s at HS ⊢
    have hsz : s.size = k := HS.out.1
    have hk0 : 0 < k := HS.out.2.2.2.1.1
    have hkb : k ≤ 5000 := dec_small HS.out.2.2.2.1 M1.out.1
    have hkz : ((k : Int) == 0) = false := beq_eq_false_iff_ne.2 (by omega)
    clear hbt hk S10 c0
    have c1 := ST.out.cell (b + 1) (.slice ay ny cy)
    go_wp2_with fail
    have hk1 : k = 1 := by
      have h1 := HS.out.2.2.2.1
      rcases h1.2.2 with h2 | h2
      · exact h2
      · have := Nat.pow_pos (n := k - 1) (show 0 < 10 by omega)
        have := HX0.out
        omega
    refine (parse_digits s x _ (by omega) (by omega) (by rw [hsz]; exact HS.out.2.1) (by rw [hsz]; exact HS.out.2.2.1)).mono ?_
    rintro e wp ⟨vp, rfl, hvp, hbp⟩
    obtain ⟨ap, np, cp, rfl⟩ := hvp.isAgg
    have SP : Hid _ := ((ST.out.go hbp).nat hvp).box (.slice ap np cp) 27 _ rfl
    clear hvp hbp ST c1
    have c0 := SP.out.cell b (.slice ax nx cx)
    have hk4 : decide ((k : Int) ≤ 400) = true := decide_eq_true (by omega)
    go_wp2_with fail
    obtain ⟨wq, hwq⟩ : ∃ wq, wq = wp.alloc (Obj.cells #[Value.slice ap np cp] 27) := ⟨_, rfl⟩
    rw [← hwq] at SP c0 ⊢
    clear hwq
    refine (eq_true _ _ x _ (SP.out.at (.agg #[.slice ap np cp]) x) (SP.out.at (.agg #[.slice ax nx cx]) x) M1.out.1.tx).mono ?_
    rintro e wr ⟨rfl, hbr⟩
    have SR : Hid _ := SP.out.go hbr
    clear hbr SP c0
    have c0 := SR.out.cell b (.slice ax nx cx)
    have c1 := SR.out.cell (b + 1) (.slice ay ny cy)
    have hk5 : decide ((1 : Int) < (k : Int)) = false := decide_eq_false (by omega)
    go_wp2_with fail
    refine (cmp_any _ _ x y _ (SR.out.at (.agg #[.slice ax nx cx]) x) (SR.out.at (.agg #[.slice ay ny cy]) y) M1.out.1.fits M2.out.fits).mono ?_
    rintro e wc0 ⟨rfl, hbc⟩
    have U0 : Hid _ := SR.out.go hbc
    clear hbc SR c0 c1
    have c0 := U0.out.cell b (.slice ax nx cx)
    have c1 := U0.out.cell (b + 1) (.slice ay ny cy)
    go_wp2_with fail
    generalize hsm : (cmpI x y == 0) = sm
    have HSM : Hid _ := hsm
    clear hsm
    refine wp_region_held_drew (S := fun w' => w'.cell? ⟨b, 0, none⟩ = some (.slice ax nx cx) ∧ w'.cell? ⟨b + 1, 0, none⟩ = some (.slice ay ny cy)) (by kernel_rfl) ⟨c0, c1⟩ (fun hS => ?_)
    refine wpAnyH_take (i := 0) (oi := { dst := some 88, op := Go.Op.move (Go.Operand.tmp 11), type := 4, pos := "outright.go:69", after := #[], guard := none }) (v := .bool sm) rfl (by kernel_rfl) (by kernel_rfl) (by kernel_rfl) (fun _ _ _ h => h) (Or.inl ⟨by rfl, ?_⟩) hS ?_
    · rintro w ⟨q0, q1⟩
      go_simp
    simp only [Act.put, List.setIfInBounds_toArray, List.set_cons_zero, List.set_cons_succ]
    refine wpAnyH_take (i := 1) (oi := { dst := some 89, op := Go.Op.load 27 (Go.Operand.tmp 5), type := 27, pos := "outright.go:69", after := #[], guard := none }) (v := .agg #[.slice ax nx cx]) rfl (by kernel_rfl) (by kernel_rfl) (by kernel_rfl) (fun _ _ _ h => h) (Or.inl ⟨by rfl, ?_⟩) hS ?_
    · rintro w ⟨q0, q1⟩
      go_simp
    simp only [Act.put, List.setIfInBounds_toArray, List.set_cons_zero, List.set_cons_succ]
    refine wpAnyH_take (i := 4) (oi := { dst := some 92, op := Go.Op.load 27 (Go.Operand.tmp 6), type := 27, pos := "outright.go:69", after := #[], guard := none }) (v := .agg #[.slice ay ny cy]) rfl (by kernel_rfl) (by kernel_rfl) (by kernel_rfl) (fun _ _ _ h => h) (Or.inl ⟨by rfl, ?_⟩) hS ?_
    · rintro w ⟨q0, q1⟩
      go_simp
    simp only [Act.put, List.setIfInBounds_toArray, List.set_cons_zero, List.set_cons_succ]
    refine wpAnyH_ready (rs := [2]) (by kernel_rfl) (by simp) ?_
    refine AllReadyH.cons (o := { dst := some 90, op := Go.Op.call { callee := Go.Callee.value (Go.Operand.func 27), args := #[Go.Operand.tmp 89], argTypes := #[27] }, type := 23, pos := "outright.go:69", after := #[{ on := 1, ground := Go.Ground.data }], guard := none }) rfl (fun K hK => ?_) AllReadyH.nil
    go_simp
    refine Calls.mono (bytes_any _ x _ (U0.out.at (.agg #[.slice ax nx cx]) x) M1.out.1.fits) ?_
    rintro e wd ⟨gd, rfl, hgd, hRd, hbd⟩
    have U1 : Hid _ := U0.out.god hbd
    have RX : Hid (BRow wd gd (byteLen x) (fun i => byteAt x (byteLen x - 1 - i))) := hRd
    have cvx := conv_b hRd
    clear hgd hRd hbd
    have hS := And.intro (U1.out.cell b (.slice ax nx cx)) (U1.out.cell (b + 1) (.slice ay ny cy))
    go_wp2_with fail
    refine hK.out _ _ hS (fun hHeld => ?_)
    clear hK K hHeld
    refine wpAnyH_ready (rs := [3, 5]) (by kernel_rfl) (by simp) ?_
    refine AllReadyH.cons (o := { dst := some 91, op := Go.Op.convert 23 9 (Go.Operand.tmp 90), type := 9, pos := "outright.go:69", after := #[{ on := 2, ground := Go.Ground.data }], guard := none }) rfl (fun K hK => ?_) (AllReadyH.cons (o := { dst := some 93, op := Go.Op.call { callee := Go.Callee.value (Go.Operand.func 27), args := #[Go.Operand.tmp 92], argTypes := #[27] }, type := 23, pos := "outright.go:69", after := #[{ on := 4, ground := Go.Ground.data }, { on := 2, ground := Go.Ground.chain }], guard := none }) rfl (fun K hK => ?_) AllReadyH.nil)
    · go_simp
      refine hK.out _ _ hS (fun hHeld => ?_)
      clear hK K hHeld
      refine wpAnyH_ready (rs := [5]) (by kernel_rfl) (by simp) ?_
      refine AllReadyH.cons (o := { dst := some 93, op := Go.Op.call { callee := Go.Callee.value (Go.Operand.func 27), args := #[Go.Operand.tmp 92], argTypes := #[27] }, type := 23, pos := "outright.go:69", after := #[{ on := 4, ground := Go.Ground.data }, { on := 2, ground := Go.Ground.chain }], guard := none }) rfl (fun K hK => ?_) AllReadyH.nil
      go_simp
      refine Calls.mono (bytes_any _ y _ (U1.out.at (.agg #[.slice ay ny cy]) y) M2.out.fits) ?_
      rintro e we ⟨ge, rfl, hge, hRe, hbe⟩
      have U2 : Hid _ := U1.out.go hbe
      have cvx2 := conv_b (BRow.below RX.out hbe)
      have cvy := conv_b hRe
      clear hge hRe hbe
      have hS := And.intro (U2.out.cell b (.slice ax nx cx)) (U2.out.cell (b + 1) (.slice ay ny cy))
      go_wp2_with fail
      refine hK.out _ _ hS (fun hHeld => ?_)
      clear hK K hHeld
      refine wpAnyH_ready (rs := [6]) (by kernel_rfl) (by simp) ?_
      refine AllReadyH.cons (o := { dst := some 94, op := Go.Op.convert 23 9 (Go.Operand.tmp 93), type := 9, pos := "outright.go:69", after := #[{ on := 5, ground := Go.Ground.data }], guard := none }) rfl (fun K hK => ?_) AllReadyH.nil
      skip
      go_simp
      refine hK.out _ _ hS (fun hHeld => ?_)
      clear hK K hHeld
      refine wpAnyH_take (i := 7) (oi := { dst := some 95, op := Go.Op.binOp Go.BinOp.eql 9 (Go.Operand.tmp 91) (Go.Operand.tmp 94) 9, type := 4, pos := "outright.go:69", after := #[{ on := 3, ground := Go.Ground.data }, { on := 6, ground := Go.Ground.data }], guard := none }) (v := .bool sm) rfl (by kernel_rfl) (by kernel_rfl) (by kernel_rfl) (fun _ _ _ h => h) (Or.inl ⟨by rfl, ?_⟩) hS ?_
      · rintro w ⟨q0, q1⟩
        go_simp
        exact str_sm HSM.out ⟨byteText_inj, fun e => by rw [e]⟩
      simp only [Act.put, List.setIfInBounds_toArray, List.set_cons_zero, List.set_cons_succ]
      refine wpAnyH_take (i := 8) (oi := { dst := some 96, op := Go.Op.binOp Go.BinOp.eql 4 (Go.Operand.tmp 88) (Go.Operand.tmp 95) 4, type := 4, pos := "outright.go:69", after := #[{ on := 0, ground := Go.Ground.data }, { on := 7, ground := Go.Ground.data }], guard := none }) (v := .bool true) rfl (by kernel_rfl) (by kernel_rfl) (by kernel_rfl) (fun _ _ _ h => h) (Or.inl ⟨by rfl, ?_⟩) hS ?_
      · rintro w ⟨q0, q1⟩
        go_simp
      simp only [Act.put, List.setIfInBounds_toArray, List.set_cons_zero, List.set_cons_succ]
      refine wpAnyH_take (i := 9) (oi := { dst := some 97, op := Go.Op.move (Go.Operand.tmp 96), type := 4, pos := "outright.go:69", after := #[{ on := 8, ground := Go.Ground.data }, { on := 5, ground := Go.Ground.chain }], guard := none }) (v := .bool true) rfl (by kernel_rfl) (by kernel_rfl) (by kernel_rfl) (fun _ _ _ h => h) (Or.inl ⟨by rfl, ?_⟩) hS ?_
      · rintro w ⟨q0, q1⟩
        go_simp
      simp only [Act.put, List.setIfInBounds_toArray, List.set_cons_zero, List.set_cons_succ]
      refine wpAnyH_take (i := 10) (oi := { dst := some 98, op := Go.Op.move (Go.Operand.tmp 11), type := 4, pos := "outright.go:69", after := #[{ on := 9, ground := Go.Ground.guard }], guard := some (9, true) }) (v := .bool sm) rfl (by kernel_rfl) (by kernel_rfl) (by kernel_rfl) (fun _ _ _ h => h) (Or.inl ⟨by rfl, ?_⟩) hS ?_
      · rintro w ⟨q0, q1⟩
        go_simp
      simp only [Act.put, List.setIfInBounds_toArray, List.set_cons_zero, List.set_cons_succ]
      refine wpAnyH_take (i := 11) (oi := { dst := some 99, op := Go.Op.move (Go.Operand.tmp 8), type := 9, pos := "outright.go:69", after := #[{ on := 9, ground := Go.Ground.guard }], guard := some (9, true) }) (v := .string s) rfl (by kernel_rfl) (by kernel_rfl) (by kernel_rfl) (fun _ _ _ h => h) (Or.inl ⟨by rfl, ?_⟩) hS ?_
      · rintro w ⟨q0, q1⟩
        go_simp
      simp only [Act.put, List.setIfInBounds_toArray, List.set_cons_zero, List.set_cons_succ]
      refine wpAnyH_take (i := 12) (oi := { dst := some 100, op := Go.Op.load 27 (Go.Operand.tmp 6), type := 27, pos := "outright.go:69", after := #[{ on := 9, ground := Go.Ground.guard }], guard := some (9, true) }) (v := .agg #[.slice ay ny cy]) rfl (by kernel_rfl) (by kernel_rfl) (by kernel_rfl) (fun _ _ _ h => h) (Or.inl ⟨by rfl, ?_⟩) hS ?_
      · rintro w ⟨q0, q1⟩
        go_simp
      simp only [Act.put, List.setIfInBounds_toArray, List.set_cons_zero, List.set_cons_succ]
      refine wpAnyH_ready (rs := [13]) (by kernel_rfl) (by simp) ?_
      refine AllReadyH.cons (o := { dst := some 101, op := Go.Op.call { callee := Go.Callee.value (Go.Operand.func 28), args := #[Go.Operand.tmp 100], argTypes := #[27] }, type := 9, pos := "outright.go:69", after := #[{ on := 12, ground := Go.Ground.data }, { on := 9, ground := Go.Ground.chain }, { on := 9, ground := Go.Ground.guard }], guard := some (9, true) }) rfl (fun K hK => ?_) AllReadyH.nil
      go_simp
      refine Calls.mono (text_any _ y _ (U2.out.at (.agg #[.slice ay ny cy]) y) M2.out.tx) ?_
      rintro e wf ⟨l, rfl, hl, hbf⟩
      have HT : Hid _ := HS.out.2.2.2.2.2 l hl
      generalize decText y l = s' at HT ⊢
      have U3 : Hid _ := U2.out.go hbf
      clear hbf hl
      have hS := And.intro (U3.out.cell b (.slice ax nx cx)) (U3.out.cell (b + 1) (.slice ay ny cy))
      go_wp2_with fail
      refine hK.out _ _ hS (fun hHeld => ?_)
      clear hK K hHeld
      refine wpAnyH_take (i := 14) (oi := { dst := some 102, op := Go.Op.binOp Go.BinOp.eql 9 (Go.Operand.tmp 99) (Go.Operand.tmp 101) 9, type := 4, pos := "outright.go:69", after := #[{ on := 11, ground := Go.Ground.data }, { on := 13, ground := Go.Ground.data }, { on := 9, ground := Go.Ground.guard }], guard := some (9, true) }) (v := .bool sm) rfl (by kernel_rfl) (by kernel_rfl) (by kernel_rfl) (fun _ _ _ h => h) (Or.inl ⟨by rfl, ?_⟩) hS ?_
      · rintro w ⟨q0, q1⟩
        go_simp
        exact str_sm HSM.out HT.out
      simp only [Act.put, List.setIfInBounds_toArray, List.set_cons_zero, List.set_cons_succ]
      refine wpAnyH_take (i := 15) (oi := { dst := some 103, op := Go.Op.binOp Go.BinOp.eql 4 (Go.Operand.tmp 98) (Go.Operand.tmp 102) 4, type := 4, pos := "outright.go:69", after := #[{ on := 10, ground := Go.Ground.data }, { on := 14, ground := Go.Ground.data }, { on := 9, ground := Go.Ground.guard }], guard := some (9, true) }) (v := .bool true) rfl (by kernel_rfl) (by kernel_rfl) (by kernel_rfl) (fun _ _ _ h => h) (Or.inl ⟨by rfl, ?_⟩) hS ?_
      · rintro w ⟨q0, q1⟩
        go_simp
      simp only [Act.put, List.setIfInBounds_toArray, List.set_cons_zero, List.set_cons_succ]
      refine wpAnyH_take (i := 16) (oi := { dst := some 104, op := Go.Op.pick (Go.Operand.tmp 97) (Go.Operand.tmp 103) (Go.Operand.const (Go.Value.bool false)), type := 4, pos := "outright.go:69", after := #[{ on := 9, ground := Go.Ground.data }, { on := 15, ground := Go.Ground.data }], guard := none }) (v := .bool true) rfl (by kernel_rfl) (by kernel_rfl) (by kernel_rfl) (fun _ _ _ h => h) (Or.inl ⟨by rfl, ?_⟩) hS ?_
      · rintro w ⟨q0, q1⟩
        go_simp
      simp only [Act.put, List.setIfInBounds_toArray, List.set_cons_zero, List.set_cons_succ]
      refine wpAnyH_take (i := 17) (oi := { dst := some 105, op := Go.Op.move (Go.Operand.tmp 104), type := 4, pos := "outright.go:69", after := #[{ on := 16, ground := Go.Ground.data }, { on := 13, ground := Go.Ground.chain }], guard := none }) (v := .bool true) rfl (by kernel_rfl) (by kernel_rfl) (by kernel_rfl) (fun _ _ _ h => h) (Or.inl ⟨by rfl, ?_⟩) hS ?_
      · rintro w ⟨q0, q1⟩
        go_simp
      simp only [Act.put, List.setIfInBounds_toArray, List.set_cons_zero, List.set_cons_succ]
      refine wpAnyH_take (i := 18) (oi := { dst := some 106, op := Go.Op.load 27 (Go.Operand.tmp 5), type := 27, pos := "outright.go:69", after := #[{ on := 17, ground := Go.Ground.guard }], guard := some (17, true) }) (v := .agg #[.slice ax nx cx]) rfl (by kernel_rfl) (by kernel_rfl) (by kernel_rfl) (fun _ _ _ h => h) (Or.inl ⟨by rfl, ?_⟩) hS ?_
      · rintro w ⟨q0, q1⟩
        go_simp
      simp only [Act.put, List.setIfInBounds_toArray, List.set_cons_zero, List.set_cons_succ]
      refine wpAnyH_take (i := 19) (oi := { dst := some 107, op := Go.Op.load 27 (Go.Operand.tmp 6), type := 27, pos := "outright.go:69", after := #[{ on := 17, ground := Go.Ground.guard }], guard := some (17, true) }) (v := .agg #[.slice ay ny cy]) rfl (by kernel_rfl) (by kernel_rfl) (by kernel_rfl) (fun _ _ _ h => h) (Or.inl ⟨by rfl, ?_⟩) hS ?_
      · rintro w ⟨q0, q1⟩
        go_simp
      simp only [Act.put, List.setIfInBounds_toArray, List.set_cons_zero, List.set_cons_succ]
      refine wpAnyH_take (i := 21) (oi := { dst := some 109, op := Go.Op.load 27 (Go.Operand.tmp 6), type := 27, pos := "outright.go:69", after := #[{ on := 17, ground := Go.Ground.guard }], guard := some (17, true) }) (v := .agg #[.slice ay ny cy]) rfl (by kernel_rfl) (by kernel_rfl) (by kernel_rfl) (fun _ _ _ h => h) (Or.inl ⟨by rfl, ?_⟩) hS ?_
      · rintro w ⟨q0, q1⟩
        go_simp
      simp only [Act.put, List.setIfInBounds_toArray, List.set_cons_zero, List.set_cons_succ]
      refine wpAnyH_take (i := 22) (oi := { dst := some 110, op := Go.Op.load 27 (Go.Operand.tmp 5), type := 27, pos := "outright.go:69", after := #[{ on := 17, ground := Go.Ground.guard }], guard := some (17, true) }) (v := .agg #[.slice ax nx cx]) rfl (by kernel_rfl) (by kernel_rfl) (by kernel_rfl) (fun _ _ _ h => h) (Or.inl ⟨by rfl, ?_⟩) hS ?_
      · rintro w ⟨q0, q1⟩
        go_simp
      simp only [Act.put, List.setIfInBounds_toArray, List.set_cons_zero, List.set_cons_succ]
      refine wpAnyH_ready (rs := [20]) (by kernel_rfl) (by simp) ?_
      refine AllReadyH.cons (o := { dst := some 108, op := Go.Op.call { callee := Go.Callee.value (Go.Operand.func 26), args := #[Go.Operand.tmp 106, Go.Operand.tmp 107], argTypes := #[27, 27] }, type := 3, pos := "outright.go:69", after := #[{ on := 18, ground := Go.Ground.data }, { on := 19, ground := Go.Ground.data }, { on := 17, ground := Go.Ground.chain }, { on := 17, ground := Go.Ground.guard }], guard := some (17, true) }) rfl (fun K hK => ?_) AllReadyH.nil
      go_simp
      refine Calls.mono (cmp_any _ _ x y _ (U3.out.at (.agg #[.slice ax nx cx]) x) (U3.out.at (.agg #[.slice ay ny cy]) y) M1.out.1.fits M2.out.fits) ?_
      rintro e wg ⟨rfl, hbg⟩
      have U4 : Hid _ := U3.out.go hbg
      clear hbg
      have hS := And.intro (U4.out.cell b (.slice ax nx cx)) (U4.out.cell (b + 1) (.slice ay ny cy))
      go_wp2_with fail
      refine hK.out _ _ hS (fun hHeld => ?_)
      clear hK K hHeld
      refine wpAnyH_ready (rs := [23]) (by kernel_rfl) (by simp) ?_
      refine AllReadyH.cons (o := { dst := some 111, op := Go.Op.call { callee := Go.Callee.value (Go.Operand.func 26), args := #[Go.Operand.tmp 109, Go.Operand.tmp 110], argTypes := #[27, 27] }, type := 3, pos := "outright.go:69", after := #[{ on := 21, ground := Go.Ground.data }, { on := 22, ground := Go.Ground.data }, { on := 20, ground := Go.Ground.chain }, { on := 17, ground := Go.Ground.guard }], guard := some (17, true) }) rfl (fun K hK => ?_) AllReadyH.nil
      go_simp
      refine Calls.mono (cmp_any _ _ y x _ (U4.out.at (.agg #[.slice ay ny cy]) y) (U4.out.at (.agg #[.slice ax nx cx]) x) M2.out.fits M1.out.1.fits) ?_
      rintro e wh ⟨rfl, hbh⟩
      have U5 : Hid _ := U4.out.go hbh
      clear hbh
      have hS := And.intro (U5.out.cell b (.slice ax nx cx)) (U5.out.cell (b + 1) (.slice ay ny cy))
      go_wp2_with fail
      refine hK.out _ _ hS (fun hHeld => ?_)
      clear hK K hHeld
      refine wpAnyH_take (i := 24) (oi := { dst := some 112, op := Go.Op.unOp Go.UnOp.neg 3 (Go.Operand.tmp 111), type := 3, pos := "outright.go:69", after := #[{ on := 23, ground := Go.Ground.data }, { on := 17, ground := Go.Ground.guard }], guard := some (17, true) }) (v := .int .i64 (cmpI x y)) rfl (by kernel_rfl) (by kernel_rfl) (by kernel_rfl) (fun _ _ _ h => h) (Or.inl ⟨by rfl, ?_⟩) hS ?_
      · rintro w ⟨q0, q1⟩
        go_simp
        exact wrap_neg x y
      simp only [Act.put, List.setIfInBounds_toArray, List.set_cons_zero, List.set_cons_succ]
      refine wpAnyH_take (i := 25) (oi := { dst := some 113, op := Go.Op.binOp Go.BinOp.eql 3 (Go.Operand.tmp 108) (Go.Operand.tmp 112) 3, type := 4, pos := "outright.go:69", after := #[{ on := 20, ground := Go.Ground.data }, { on := 24, ground := Go.Ground.data }, { on := 17, ground := Go.Ground.guard }], guard := some (17, true) }) (v := .bool true) rfl (by kernel_rfl) (by kernel_rfl) (by kernel_rfl) (fun _ _ _ h => h) (Or.inl ⟨by rfl, ?_⟩) hS ?_
      · rintro w ⟨q0, q1⟩
        go_simp
      simp only [Act.put, List.setIfInBounds_toArray, List.set_cons_zero, List.set_cons_succ]
      refine wpAnyH_take (i := 26) (oi := { dst := some 114, op := Go.Op.pick (Go.Operand.tmp 105) (Go.Operand.tmp 113) (Go.Operand.const (Go.Value.bool false)), type := 4, pos := "outright.go:69", after := #[{ on := 17, ground := Go.Ground.data }, { on := 25, ground := Go.Ground.data }], guard := none }) (v := .bool true) rfl (by kernel_rfl) (by kernel_rfl) (by kernel_rfl) (fun _ _ _ h => h) (Or.inl ⟨by rfl, ?_⟩) hS ?_
      · rintro w ⟨q0, q1⟩
        go_simp
      simp only [Act.put, List.setIfInBounds_toArray, List.set_cons_zero, List.set_cons_succ]
      refine wpAnyH_take (i := 27) (oi := { dst := some 115, op := Go.Op.move (Go.Operand.tmp 114), type := 4, pos := "outright.go:69", after := #[{ on := 26, ground := Go.Ground.data }, { on := 23, ground := Go.Ground.chain }], guard := none }) (v := .bool true) rfl (by kernel_rfl) (by kernel_rfl) (by kernel_rfl) (fun _ _ _ h => h) (Or.inl ⟨by rfl, ?_⟩) hS ?_
      · rintro w ⟨q0, q1⟩
        go_simp
      simp only [Act.put, List.setIfInBounds_toArray, List.set_cons_zero, List.set_cons_succ]
      refine wpAnyH_ready (rs := [28]) (by kernel_rfl) (by simp) ?_
      refine AllReadyH.cons (o := { dst := some 116, op := Go.Op.call { callee := Go.Callee.value (Go.Operand.func 19), args := #[], argTypes := #[] }, type := 4, pos := "outright.go:69", after := #[{ on := 27, ground := Go.Ground.chain }, { on := 27, ground := Go.Ground.guard }], guard := some (27, true) }) rfl (fun K hK => ?_) AllReadyH.nil
      go_simp
      refine Calls.mono (started_true _) ?_
      rintro e wi ⟨rfl, hbi⟩
      have U6 : Hid _ := U5.out.go hbi
      clear hbi
      have hS := And.intro (U6.out.cell b (.slice ax nx cx)) (U6.out.cell (b + 1) (.slice ay ny cy))
      go_wp2_with fail
      refine hK.out _ _ hS (fun hHeld => ?_)
      clear hK K hHeld
      refine wpAnyH_take (i := 29) (oi := { dst := some 117, op := Go.Op.pick (Go.Operand.tmp 115) (Go.Operand.tmp 116) (Go.Operand.const (Go.Value.bool false)), type := 4, pos := "outright.go:69", after := #[{ on := 27, ground := Go.Ground.data }, { on := 28, ground := Go.Ground.data }], guard := none }) (v := .bool true) rfl (by kernel_rfl) (by kernel_rfl) (by kernel_rfl) (fun _ _ _ h => h) (Or.inl ⟨by rfl, ?_⟩) hS ?_
      · rintro w ⟨q0, q1⟩
        go_simp
      simp only [Act.put, List.setIfInBounds_toArray, List.set_cons_zero, List.set_cons_succ]
      refine wpAnyH_take (i := 30) (oi := { dst := some 4, op := Go.Op.assign (Go.Operand.tmp 117), type := 4, pos := "outright.go:69", after := #[{ on := 29, ground := Go.Ground.data }, { on := 28, ground := Go.Ground.chain }, { on := 0, ground := Go.Ground.phase }, { on := 1, ground := Go.Ground.phase }, { on := 2, ground := Go.Ground.phase }, { on := 3, ground := Go.Ground.phase }, { on := 4, ground := Go.Ground.phase }, { on := 5, ground := Go.Ground.phase }, { on := 6, ground := Go.Ground.phase }, { on := 7, ground := Go.Ground.phase }, { on := 8, ground := Go.Ground.phase }, { on := 9, ground := Go.Ground.phase }, { on := 10, ground := Go.Ground.phase }, { on := 11, ground := Go.Ground.phase }, { on := 12, ground := Go.Ground.phase }, { on := 13, ground := Go.Ground.phase }, { on := 14, ground := Go.Ground.phase }, { on := 15, ground := Go.Ground.phase }, { on := 16, ground := Go.Ground.phase }, { on := 17, ground := Go.Ground.phase }, { on := 18, ground := Go.Ground.phase }, { on := 19, ground := Go.Ground.phase }, { on := 20, ground := Go.Ground.phase }, { on := 21, ground := Go.Ground.phase }, { on := 22, ground := Go.Ground.phase }, { on := 23, ground := Go.Ground.phase }, { on := 24, ground := Go.Ground.phase }, { on := 25, ground := Go.Ground.phase }, { on := 26, ground := Go.Ground.phase }, { on := 27, ground := Go.Ground.phase }, { on := 28, ground := Go.Ground.phase }, { on := 29, ground := Go.Ground.phase }], guard := none }) (v := .bool true) rfl (by kernel_rfl) (by kernel_rfl) (by kernel_rfl) (fun _ _ _ h => h) (Or.inl ⟨by rfl, ?_⟩) hS ?_
      · rintro w ⟨q0, q1⟩
        go_simp
      simp only [Act.put, List.setIfInBounds_toArray, List.set_cons_zero, List.set_cons_succ]
      refine wpAnyH_done (by kernel_rfl) ?_ _
      go_wp2_with fail
      go_ret
      exact ⟨rfl, U6.out.bel⟩
    · go_simp
      refine Calls.mono (bytes_any _ y _ (U1.out.at (.agg #[.slice ay ny cy]) y) M2.out.fits) ?_
      rintro e we ⟨ge, rfl, hge, hRe, hbe⟩
      have U2 : Hid _ := U1.out.go hbe
      have cvx2 := conv_b (BRow.below RX.out hbe)
      have cvy := conv_b hRe
      clear hge hRe hbe
      have hS := And.intro (U2.out.cell b (.slice ax nx cx)) (U2.out.cell (b + 1) (.slice ay ny cy))
      go_wp2_with fail
      refine hK.out _ _ hS (fun hHeld => ?_)
      clear hK K hHeld
      refine wpAnyH_ready (rs := [3, 6]) (by kernel_rfl) (by simp) ?_
      refine AllReadyH.cons (o := { dst := some 91, op := Go.Op.convert 23 9 (Go.Operand.tmp 90), type := 9, pos := "outright.go:69", after := #[{ on := 2, ground := Go.Ground.data }], guard := none }) rfl (fun K hK => ?_) (AllReadyH.cons (o := { dst := some 94, op := Go.Op.convert 23 9 (Go.Operand.tmp 93), type := 9, pos := "outright.go:69", after := #[{ on := 5, ground := Go.Ground.data }], guard := none }) rfl (fun K hK => ?_) AllReadyH.nil)
      · go_simp
        refine hK.out _ _ hS (fun hHeld => ?_)
        clear hK K hHeld
        refine wpAnyH_ready (rs := [6]) (by kernel_rfl) (by simp) ?_
        refine AllReadyH.cons (o := { dst := some 94, op := Go.Op.convert 23 9 (Go.Operand.tmp 93), type := 9, pos := "outright.go:69", after := #[{ on := 5, ground := Go.Ground.data }], guard := none }) rfl (fun K hK => ?_) AllReadyH.nil
        skip
        go_simp
        refine hK.out _ _ hS (fun hHeld => ?_)
        clear hK K hHeld
        refine wpAnyH_take (i := 7) (oi := { dst := some 95, op := Go.Op.binOp Go.BinOp.eql 9 (Go.Operand.tmp 91) (Go.Operand.tmp 94) 9, type := 4, pos := "outright.go:69", after := #[{ on := 3, ground := Go.Ground.data }, { on := 6, ground := Go.Ground.data }], guard := none }) (v := .bool sm) rfl (by kernel_rfl) (by kernel_rfl) (by kernel_rfl) (fun _ _ _ h => h) (Or.inl ⟨by rfl, ?_⟩) hS ?_
        · rintro w ⟨q0, q1⟩
          go_simp
          exact str_sm HSM.out ⟨byteText_inj, fun e => by rw [e]⟩
        simp only [Act.put, List.setIfInBounds_toArray, List.set_cons_zero, List.set_cons_succ]
        refine wpAnyH_take (i := 8) (oi := { dst := some 96, op := Go.Op.binOp Go.BinOp.eql 4 (Go.Operand.tmp 88) (Go.Operand.tmp 95) 4, type := 4, pos := "outright.go:69", after := #[{ on := 0, ground := Go.Ground.data }, { on := 7, ground := Go.Ground.data }], guard := none }) (v := .bool true) rfl (by kernel_rfl) (by kernel_rfl) (by kernel_rfl) (fun _ _ _ h => h) (Or.inl ⟨by rfl, ?_⟩) hS ?_
        · rintro w ⟨q0, q1⟩
          go_simp
        simp only [Act.put, List.setIfInBounds_toArray, List.set_cons_zero, List.set_cons_succ]
        refine wpAnyH_take (i := 9) (oi := { dst := some 97, op := Go.Op.move (Go.Operand.tmp 96), type := 4, pos := "outright.go:69", after := #[{ on := 8, ground := Go.Ground.data }, { on := 5, ground := Go.Ground.chain }], guard := none }) (v := .bool true) rfl (by kernel_rfl) (by kernel_rfl) (by kernel_rfl) (fun _ _ _ h => h) (Or.inl ⟨by rfl, ?_⟩) hS ?_
        · rintro w ⟨q0, q1⟩
          go_simp
        simp only [Act.put, List.setIfInBounds_toArray, List.set_cons_zero, List.set_cons_succ]
        refine wpAnyH_take (i := 10) (oi := { dst := some 98, op := Go.Op.move (Go.Operand.tmp 11), type := 4, pos := "outright.go:69", after := #[{ on := 9, ground := Go.Ground.guard }], guard := some (9, true) }) (v := .bool sm) rfl (by kernel_rfl) (by kernel_rfl) (by kernel_rfl) (fun _ _ _ h => h) (Or.inl ⟨by rfl, ?_⟩) hS ?_
        · rintro w ⟨q0, q1⟩
          go_simp
        simp only [Act.put, List.setIfInBounds_toArray, List.set_cons_zero, List.set_cons_succ]
        refine wpAnyH_take (i := 11) (oi := { dst := some 99, op := Go.Op.move (Go.Operand.tmp 8), type := 9, pos := "outright.go:69", after := #[{ on := 9, ground := Go.Ground.guard }], guard := some (9, true) }) (v := .string s) rfl (by kernel_rfl) (by kernel_rfl) (by kernel_rfl) (fun _ _ _ h => h) (Or.inl ⟨by rfl, ?_⟩) hS ?_
        · rintro w ⟨q0, q1⟩
          go_simp
        simp only [Act.put, List.setIfInBounds_toArray, List.set_cons_zero, List.set_cons_succ]
        refine wpAnyH_take (i := 12) (oi := { dst := some 100, op := Go.Op.load 27 (Go.Operand.tmp 6), type := 27, pos := "outright.go:69", after := #[{ on := 9, ground := Go.Ground.guard }], guard := some (9, true) }) (v := .agg #[.slice ay ny cy]) rfl (by kernel_rfl) (by kernel_rfl) (by kernel_rfl) (fun _ _ _ h => h) (Or.inl ⟨by rfl, ?_⟩) hS ?_
        · rintro w ⟨q0, q1⟩
          go_simp
        simp only [Act.put, List.setIfInBounds_toArray, List.set_cons_zero, List.set_cons_succ]
        refine wpAnyH_ready (rs := [13]) (by kernel_rfl) (by simp) ?_
        refine AllReadyH.cons (o := { dst := some 101, op := Go.Op.call { callee := Go.Callee.value (Go.Operand.func 28), args := #[Go.Operand.tmp 100], argTypes := #[27] }, type := 9, pos := "outright.go:69", after := #[{ on := 12, ground := Go.Ground.data }, { on := 9, ground := Go.Ground.chain }, { on := 9, ground := Go.Ground.guard }], guard := some (9, true) }) rfl (fun K hK => ?_) AllReadyH.nil
        go_simp
        refine Calls.mono (text_any _ y _ (U2.out.at (.agg #[.slice ay ny cy]) y) M2.out.tx) ?_
        rintro e wf ⟨l, rfl, hl, hbf⟩
        have HT : Hid _ := HS.out.2.2.2.2.2 l hl
        generalize decText y l = s' at HT ⊢
        have U3 : Hid _ := U2.out.go hbf
        clear hbf hl
        have hS := And.intro (U3.out.cell b (.slice ax nx cx)) (U3.out.cell (b + 1) (.slice ay ny cy))
        go_wp2_with fail
        refine hK.out _ _ hS (fun hHeld => ?_)
        clear hK K hHeld
        refine wpAnyH_take (i := 14) (oi := { dst := some 102, op := Go.Op.binOp Go.BinOp.eql 9 (Go.Operand.tmp 99) (Go.Operand.tmp 101) 9, type := 4, pos := "outright.go:69", after := #[{ on := 11, ground := Go.Ground.data }, { on := 13, ground := Go.Ground.data }, { on := 9, ground := Go.Ground.guard }], guard := some (9, true) }) (v := .bool sm) rfl (by kernel_rfl) (by kernel_rfl) (by kernel_rfl) (fun _ _ _ h => h) (Or.inl ⟨by rfl, ?_⟩) hS ?_
        · rintro w ⟨q0, q1⟩
          go_simp
          exact str_sm HSM.out HT.out
        simp only [Act.put, List.setIfInBounds_toArray, List.set_cons_zero, List.set_cons_succ]
        refine wpAnyH_take (i := 15) (oi := { dst := some 103, op := Go.Op.binOp Go.BinOp.eql 4 (Go.Operand.tmp 98) (Go.Operand.tmp 102) 4, type := 4, pos := "outright.go:69", after := #[{ on := 10, ground := Go.Ground.data }, { on := 14, ground := Go.Ground.data }, { on := 9, ground := Go.Ground.guard }], guard := some (9, true) }) (v := .bool true) rfl (by kernel_rfl) (by kernel_rfl) (by kernel_rfl) (fun _ _ _ h => h) (Or.inl ⟨by rfl, ?_⟩) hS ?_
        · rintro w ⟨q0, q1⟩
          go_simp
        simp only [Act.put, List.setIfInBounds_toArray, List.set_cons_zero, List.set_cons_succ]
        refine wpAnyH_take (i := 16) (oi := { dst := some 104, op := Go.Op.pick (Go.Operand.tmp 97) (Go.Operand.tmp 103) (Go.Operand.const (Go.Value.bool false)), type := 4, pos := "outright.go:69", after := #[{ on := 9, ground := Go.Ground.data }, { on := 15, ground := Go.Ground.data }], guard := none }) (v := .bool true) rfl (by kernel_rfl) (by kernel_rfl) (by kernel_rfl) (fun _ _ _ h => h) (Or.inl ⟨by rfl, ?_⟩) hS ?_
        · rintro w ⟨q0, q1⟩
          go_simp
        simp only [Act.put, List.setIfInBounds_toArray, List.set_cons_zero, List.set_cons_succ]
        refine wpAnyH_take (i := 17) (oi := { dst := some 105, op := Go.Op.move (Go.Operand.tmp 104), type := 4, pos := "outright.go:69", after := #[{ on := 16, ground := Go.Ground.data }, { on := 13, ground := Go.Ground.chain }], guard := none }) (v := .bool true) rfl (by kernel_rfl) (by kernel_rfl) (by kernel_rfl) (fun _ _ _ h => h) (Or.inl ⟨by rfl, ?_⟩) hS ?_
        · rintro w ⟨q0, q1⟩
          go_simp
        simp only [Act.put, List.setIfInBounds_toArray, List.set_cons_zero, List.set_cons_succ]
        refine wpAnyH_take (i := 18) (oi := { dst := some 106, op := Go.Op.load 27 (Go.Operand.tmp 5), type := 27, pos := "outright.go:69", after := #[{ on := 17, ground := Go.Ground.guard }], guard := some (17, true) }) (v := .agg #[.slice ax nx cx]) rfl (by kernel_rfl) (by kernel_rfl) (by kernel_rfl) (fun _ _ _ h => h) (Or.inl ⟨by rfl, ?_⟩) hS ?_
        · rintro w ⟨q0, q1⟩
          go_simp
        simp only [Act.put, List.setIfInBounds_toArray, List.set_cons_zero, List.set_cons_succ]
        refine wpAnyH_take (i := 19) (oi := { dst := some 107, op := Go.Op.load 27 (Go.Operand.tmp 6), type := 27, pos := "outright.go:69", after := #[{ on := 17, ground := Go.Ground.guard }], guard := some (17, true) }) (v := .agg #[.slice ay ny cy]) rfl (by kernel_rfl) (by kernel_rfl) (by kernel_rfl) (fun _ _ _ h => h) (Or.inl ⟨by rfl, ?_⟩) hS ?_
        · rintro w ⟨q0, q1⟩
          go_simp
        simp only [Act.put, List.setIfInBounds_toArray, List.set_cons_zero, List.set_cons_succ]
        refine wpAnyH_take (i := 21) (oi := { dst := some 109, op := Go.Op.load 27 (Go.Operand.tmp 6), type := 27, pos := "outright.go:69", after := #[{ on := 17, ground := Go.Ground.guard }], guard := some (17, true) }) (v := .agg #[.slice ay ny cy]) rfl (by kernel_rfl) (by kernel_rfl) (by kernel_rfl) (fun _ _ _ h => h) (Or.inl ⟨by rfl, ?_⟩) hS ?_
        · rintro w ⟨q0, q1⟩
          go_simp
        simp only [Act.put, List.setIfInBounds_toArray, List.set_cons_zero, List.set_cons_succ]
        refine wpAnyH_take (i := 22) (oi := { dst := some 110, op := Go.Op.load 27 (Go.Operand.tmp 5), type := 27, pos := "outright.go:69", after := #[{ on := 17, ground := Go.Ground.guard }], guard := some (17, true) }) (v := .agg #[.slice ax nx cx]) rfl (by kernel_rfl) (by kernel_rfl) (by kernel_rfl) (fun _ _ _ h => h) (Or.inl ⟨by rfl, ?_⟩) hS ?_
        · rintro w ⟨q0, q1⟩
          go_simp
        simp only [Act.put, List.setIfInBounds_toArray, List.set_cons_zero, List.set_cons_succ]
        refine wpAnyH_ready (rs := [20]) (by kernel_rfl) (by simp) ?_
        refine AllReadyH.cons (o := { dst := some 108, op := Go.Op.call { callee := Go.Callee.value (Go.Operand.func 26), args := #[Go.Operand.tmp 106, Go.Operand.tmp 107], argTypes := #[27, 27] }, type := 3, pos := "outright.go:69", after := #[{ on := 18, ground := Go.Ground.data }, { on := 19, ground := Go.Ground.data }, { on := 17, ground := Go.Ground.chain }, { on := 17, ground := Go.Ground.guard }], guard := some (17, true) }) rfl (fun K hK => ?_) AllReadyH.nil
        go_simp
        refine Calls.mono (cmp_any _ _ x y _ (U3.out.at (.agg #[.slice ax nx cx]) x) (U3.out.at (.agg #[.slice ay ny cy]) y) M1.out.1.fits M2.out.fits) ?_
        rintro e wg ⟨rfl, hbg⟩
        have U4 : Hid _ := U3.out.go hbg
        clear hbg
        have hS := And.intro (U4.out.cell b (.slice ax nx cx)) (U4.out.cell (b + 1) (.slice ay ny cy))
        go_wp2_with fail
        refine hK.out _ _ hS (fun hHeld => ?_)
        clear hK K hHeld
        refine wpAnyH_ready (rs := [23]) (by kernel_rfl) (by simp) ?_
        refine AllReadyH.cons (o := { dst := some 111, op := Go.Op.call { callee := Go.Callee.value (Go.Operand.func 26), args := #[Go.Operand.tmp 109, Go.Operand.tmp 110], argTypes := #[27, 27] }, type := 3, pos := "outright.go:69", after := #[{ on := 21, ground := Go.Ground.data }, { on := 22, ground := Go.Ground.data }, { on := 20, ground := Go.Ground.chain }, { on := 17, ground := Go.Ground.guard }], guard := some (17, true) }) rfl (fun K hK => ?_) AllReadyH.nil
        go_simp
        refine Calls.mono (cmp_any _ _ y x _ (U4.out.at (.agg #[.slice ay ny cy]) y) (U4.out.at (.agg #[.slice ax nx cx]) x) M2.out.fits M1.out.1.fits) ?_
        rintro e wh ⟨rfl, hbh⟩
        have U5 : Hid _ := U4.out.go hbh
        clear hbh
        have hS := And.intro (U5.out.cell b (.slice ax nx cx)) (U5.out.cell (b + 1) (.slice ay ny cy))
        go_wp2_with fail
        refine hK.out _ _ hS (fun hHeld => ?_)
        clear hK K hHeld
        refine wpAnyH_take (i := 24) (oi := { dst := some 112, op := Go.Op.unOp Go.UnOp.neg 3 (Go.Operand.tmp 111), type := 3, pos := "outright.go:69", after := #[{ on := 23, ground := Go.Ground.data }, { on := 17, ground := Go.Ground.guard }], guard := some (17, true) }) (v := .int .i64 (cmpI x y)) rfl (by kernel_rfl) (by kernel_rfl) (by kernel_rfl) (fun _ _ _ h => h) (Or.inl ⟨by rfl, ?_⟩) hS ?_
        · rintro w ⟨q0, q1⟩
          go_simp
          exact wrap_neg x y
        simp only [Act.put, List.setIfInBounds_toArray, List.set_cons_zero, List.set_cons_succ]
        refine wpAnyH_take (i := 25) (oi := { dst := some 113, op := Go.Op.binOp Go.BinOp.eql 3 (Go.Operand.tmp 108) (Go.Operand.tmp 112) 3, type := 4, pos := "outright.go:69", after := #[{ on := 20, ground := Go.Ground.data }, { on := 24, ground := Go.Ground.data }, { on := 17, ground := Go.Ground.guard }], guard := some (17, true) }) (v := .bool true) rfl (by kernel_rfl) (by kernel_rfl) (by kernel_rfl) (fun _ _ _ h => h) (Or.inl ⟨by rfl, ?_⟩) hS ?_
        · rintro w ⟨q0, q1⟩
          go_simp
        simp only [Act.put, List.setIfInBounds_toArray, List.set_cons_zero, List.set_cons_succ]
        refine wpAnyH_take (i := 26) (oi := { dst := some 114, op := Go.Op.pick (Go.Operand.tmp 105) (Go.Operand.tmp 113) (Go.Operand.const (Go.Value.bool false)), type := 4, pos := "outright.go:69", after := #[{ on := 17, ground := Go.Ground.data }, { on := 25, ground := Go.Ground.data }], guard := none }) (v := .bool true) rfl (by kernel_rfl) (by kernel_rfl) (by kernel_rfl) (fun _ _ _ h => h) (Or.inl ⟨by rfl, ?_⟩) hS ?_
        · rintro w ⟨q0, q1⟩
          go_simp
        simp only [Act.put, List.setIfInBounds_toArray, List.set_cons_zero, List.set_cons_succ]
        refine wpAnyH_take (i := 27) (oi := { dst := some 115, op := Go.Op.move (Go.Operand.tmp 114), type := 4, pos := "outright.go:69", after := #[{ on := 26, ground := Go.Ground.data }, { on := 23, ground := Go.Ground.chain }], guard := none }) (v := .bool true) rfl (by kernel_rfl) (by kernel_rfl) (by kernel_rfl) (fun _ _ _ h => h) (Or.inl ⟨by rfl, ?_⟩) hS ?_
        · rintro w ⟨q0, q1⟩
          go_simp
        simp only [Act.put, List.setIfInBounds_toArray, List.set_cons_zero, List.set_cons_succ]
        refine wpAnyH_ready (rs := [28]) (by kernel_rfl) (by simp) ?_
        refine AllReadyH.cons (o := { dst := some 116, op := Go.Op.call { callee := Go.Callee.value (Go.Operand.func 19), args := #[], argTypes := #[] }, type := 4, pos := "outright.go:69", after := #[{ on := 27, ground := Go.Ground.chain }, { on := 27, ground := Go.Ground.guard }], guard := some (27, true) }) rfl (fun K hK => ?_) AllReadyH.nil
        go_simp
        refine Calls.mono (started_true _) ?_
        rintro e wi ⟨rfl, hbi⟩
        have U6 : Hid _ := U5.out.go hbi
        clear hbi
        have hS := And.intro (U6.out.cell b (.slice ax nx cx)) (U6.out.cell (b + 1) (.slice ay ny cy))
        go_wp2_with fail
        refine hK.out _ _ hS (fun hHeld => ?_)
        clear hK K hHeld
        refine wpAnyH_take (i := 29) (oi := { dst := some 117, op := Go.Op.pick (Go.Operand.tmp 115) (Go.Operand.tmp 116) (Go.Operand.const (Go.Value.bool false)), type := 4, pos := "outright.go:69", after := #[{ on := 27, ground := Go.Ground.data }, { on := 28, ground := Go.Ground.data }], guard := none }) (v := .bool true) rfl (by kernel_rfl) (by kernel_rfl) (by kernel_rfl) (fun _ _ _ h => h) (Or.inl ⟨by rfl, ?_⟩) hS ?_
        · rintro w ⟨q0, q1⟩
          go_simp
        simp only [Act.put, List.setIfInBounds_toArray, List.set_cons_zero, List.set_cons_succ]
        refine wpAnyH_take (i := 30) (oi := { dst := some 4, op := Go.Op.assign (Go.Operand.tmp 117), type := 4, pos := "outright.go:69", after := #[{ on := 29, ground := Go.Ground.data }, { on := 28, ground := Go.Ground.chain }, { on := 0, ground := Go.Ground.phase }, { on := 1, ground := Go.Ground.phase }, { on := 2, ground := Go.Ground.phase }, { on := 3, ground := Go.Ground.phase }, { on := 4, ground := Go.Ground.phase }, { on := 5, ground := Go.Ground.phase }, { on := 6, ground := Go.Ground.phase }, { on := 7, ground := Go.Ground.phase }, { on := 8, ground := Go.Ground.phase }, { on := 9, ground := Go.Ground.phase }, { on := 10, ground := Go.Ground.phase }, { on := 11, ground := Go.Ground.phase }, { on := 12, ground := Go.Ground.phase }, { on := 13, ground := Go.Ground.phase }, { on := 14, ground := Go.Ground.phase }, { on := 15, ground := Go.Ground.phase }, { on := 16, ground := Go.Ground.phase }, { on := 17, ground := Go.Ground.phase }, { on := 18, ground := Go.Ground.phase }, { on := 19, ground := Go.Ground.phase }, { on := 20, ground := Go.Ground.phase }, { on := 21, ground := Go.Ground.phase }, { on := 22, ground := Go.Ground.phase }, { on := 23, ground := Go.Ground.phase }, { on := 24, ground := Go.Ground.phase }, { on := 25, ground := Go.Ground.phase }, { on := 26, ground := Go.Ground.phase }, { on := 27, ground := Go.Ground.phase }, { on := 28, ground := Go.Ground.phase }, { on := 29, ground := Go.Ground.phase }], guard := none }) (v := .bool true) rfl (by kernel_rfl) (by kernel_rfl) (by kernel_rfl) (fun _ _ _ h => h) (Or.inl ⟨by rfl, ?_⟩) hS ?_
        · rintro w ⟨q0, q1⟩
          go_simp
        simp only [Act.put, List.setIfInBounds_toArray, List.set_cons_zero, List.set_cons_succ]
        refine wpAnyH_done (by kernel_rfl) ?_ _
        go_wp2_with fail
        go_ret
        exact ⟨rfl, U6.out.bel⟩
      · go_simp
        refine hK.out _ _ hS (fun hHeld => ?_)
        clear hK K hHeld
        refine wpAnyH_ready (rs := [3]) (by kernel_rfl) (by simp) ?_
        refine AllReadyH.cons (o := { dst := some 91, op := Go.Op.convert 23 9 (Go.Operand.tmp 90), type := 9, pos := "outright.go:69", after := #[{ on := 2, ground := Go.Ground.data }], guard := none }) rfl (fun K hK => ?_) AllReadyH.nil
        skip
        go_simp
        refine hK.out _ _ hS (fun hHeld => ?_)
        clear hK K hHeld
        refine wpAnyH_take (i := 7) (oi := { dst := some 95, op := Go.Op.binOp Go.BinOp.eql 9 (Go.Operand.tmp 91) (Go.Operand.tmp 94) 9, type := 4, pos := "outright.go:69", after := #[{ on := 3, ground := Go.Ground.data }, { on := 6, ground := Go.Ground.data }], guard := none }) (v := .bool sm) rfl (by kernel_rfl) (by kernel_rfl) (by kernel_rfl) (fun _ _ _ h => h) (Or.inl ⟨by rfl, ?_⟩) hS ?_
        · rintro w ⟨q0, q1⟩
          go_simp
          exact str_sm HSM.out ⟨byteText_inj, fun e => by rw [e]⟩
        simp only [Act.put, List.setIfInBounds_toArray, List.set_cons_zero, List.set_cons_succ]
        refine wpAnyH_take (i := 8) (oi := { dst := some 96, op := Go.Op.binOp Go.BinOp.eql 4 (Go.Operand.tmp 88) (Go.Operand.tmp 95) 4, type := 4, pos := "outright.go:69", after := #[{ on := 0, ground := Go.Ground.data }, { on := 7, ground := Go.Ground.data }], guard := none }) (v := .bool true) rfl (by kernel_rfl) (by kernel_rfl) (by kernel_rfl) (fun _ _ _ h => h) (Or.inl ⟨by rfl, ?_⟩) hS ?_
        · rintro w ⟨q0, q1⟩
          go_simp
        simp only [Act.put, List.setIfInBounds_toArray, List.set_cons_zero, List.set_cons_succ]
        refine wpAnyH_take (i := 9) (oi := { dst := some 97, op := Go.Op.move (Go.Operand.tmp 96), type := 4, pos := "outright.go:69", after := #[{ on := 8, ground := Go.Ground.data }, { on := 5, ground := Go.Ground.chain }], guard := none }) (v := .bool true) rfl (by kernel_rfl) (by kernel_rfl) (by kernel_rfl) (fun _ _ _ h => h) (Or.inl ⟨by rfl, ?_⟩) hS ?_
        · rintro w ⟨q0, q1⟩
          go_simp
        simp only [Act.put, List.setIfInBounds_toArray, List.set_cons_zero, List.set_cons_succ]
        refine wpAnyH_take (i := 10) (oi := { dst := some 98, op := Go.Op.move (Go.Operand.tmp 11), type := 4, pos := "outright.go:69", after := #[{ on := 9, ground := Go.Ground.guard }], guard := some (9, true) }) (v := .bool sm) rfl (by kernel_rfl) (by kernel_rfl) (by kernel_rfl) (fun _ _ _ h => h) (Or.inl ⟨by rfl, ?_⟩) hS ?_
        · rintro w ⟨q0, q1⟩
          go_simp
        simp only [Act.put, List.setIfInBounds_toArray, List.set_cons_zero, List.set_cons_succ]
        refine wpAnyH_take (i := 11) (oi := { dst := some 99, op := Go.Op.move (Go.Operand.tmp 8), type := 9, pos := "outright.go:69", after := #[{ on := 9, ground := Go.Ground.guard }], guard := some (9, true) }) (v := .string s) rfl (by kernel_rfl) (by kernel_rfl) (by kernel_rfl) (fun _ _ _ h => h) (Or.inl ⟨by rfl, ?_⟩) hS ?_
        · rintro w ⟨q0, q1⟩
          go_simp
        simp only [Act.put, List.setIfInBounds_toArray, List.set_cons_zero, List.set_cons_succ]
        refine wpAnyH_take (i := 12) (oi := { dst := some 100, op := Go.Op.load 27 (Go.Operand.tmp 6), type := 27, pos := "outright.go:69", after := #[{ on := 9, ground := Go.Ground.guard }], guard := some (9, true) }) (v := .agg #[.slice ay ny cy]) rfl (by kernel_rfl) (by kernel_rfl) (by kernel_rfl) (fun _ _ _ h => h) (Or.inl ⟨by rfl, ?_⟩) hS ?_
        · rintro w ⟨q0, q1⟩
          go_simp
        simp only [Act.put, List.setIfInBounds_toArray, List.set_cons_zero, List.set_cons_succ]
        refine wpAnyH_ready (rs := [13]) (by kernel_rfl) (by simp) ?_
        refine AllReadyH.cons (o := { dst := some 101, op := Go.Op.call { callee := Go.Callee.value (Go.Operand.func 28), args := #[Go.Operand.tmp 100], argTypes := #[27] }, type := 9, pos := "outright.go:69", after := #[{ on := 12, ground := Go.Ground.data }, { on := 9, ground := Go.Ground.chain }, { on := 9, ground := Go.Ground.guard }], guard := some (9, true) }) rfl (fun K hK => ?_) AllReadyH.nil
        go_simp
        refine Calls.mono (text_any _ y _ (U2.out.at (.agg #[.slice ay ny cy]) y) M2.out.tx) ?_
        rintro e wf ⟨l, rfl, hl, hbf⟩
        have HT : Hid _ := HS.out.2.2.2.2.2 l hl
        generalize decText y l = s' at HT ⊢
        have U3 : Hid _ := U2.out.go hbf
        clear hbf hl
        have hS := And.intro (U3.out.cell b (.slice ax nx cx)) (U3.out.cell (b + 1) (.slice ay ny cy))
        go_wp2_with fail
        refine hK.out _ _ hS (fun hHeld => ?_)
        clear hK K hHeld
        refine wpAnyH_take (i := 14) (oi := { dst := some 102, op := Go.Op.binOp Go.BinOp.eql 9 (Go.Operand.tmp 99) (Go.Operand.tmp 101) 9, type := 4, pos := "outright.go:69", after := #[{ on := 11, ground := Go.Ground.data }, { on := 13, ground := Go.Ground.data }, { on := 9, ground := Go.Ground.guard }], guard := some (9, true) }) (v := .bool sm) rfl (by kernel_rfl) (by kernel_rfl) (by kernel_rfl) (fun _ _ _ h => h) (Or.inl ⟨by rfl, ?_⟩) hS ?_
        · rintro w ⟨q0, q1⟩
          go_simp
          exact str_sm HSM.out HT.out
        simp only [Act.put, List.setIfInBounds_toArray, List.set_cons_zero, List.set_cons_succ]
        refine wpAnyH_take (i := 15) (oi := { dst := some 103, op := Go.Op.binOp Go.BinOp.eql 4 (Go.Operand.tmp 98) (Go.Operand.tmp 102) 4, type := 4, pos := "outright.go:69", after := #[{ on := 10, ground := Go.Ground.data }, { on := 14, ground := Go.Ground.data }, { on := 9, ground := Go.Ground.guard }], guard := some (9, true) }) (v := .bool true) rfl (by kernel_rfl) (by kernel_rfl) (by kernel_rfl) (fun _ _ _ h => h) (Or.inl ⟨by rfl, ?_⟩) hS ?_
        · rintro w ⟨q0, q1⟩
          go_simp
        simp only [Act.put, List.setIfInBounds_toArray, List.set_cons_zero, List.set_cons_succ]
        refine wpAnyH_take (i := 16) (oi := { dst := some 104, op := Go.Op.pick (Go.Operand.tmp 97) (Go.Operand.tmp 103) (Go.Operand.const (Go.Value.bool false)), type := 4, pos := "outright.go:69", after := #[{ on := 9, ground := Go.Ground.data }, { on := 15, ground := Go.Ground.data }], guard := none }) (v := .bool true) rfl (by kernel_rfl) (by kernel_rfl) (by kernel_rfl) (fun _ _ _ h => h) (Or.inl ⟨by rfl, ?_⟩) hS ?_
        · rintro w ⟨q0, q1⟩
          go_simp
        simp only [Act.put, List.setIfInBounds_toArray, List.set_cons_zero, List.set_cons_succ]
        refine wpAnyH_take (i := 17) (oi := { dst := some 105, op := Go.Op.move (Go.Operand.tmp 104), type := 4, pos := "outright.go:69", after := #[{ on := 16, ground := Go.Ground.data }, { on := 13, ground := Go.Ground.chain }], guard := none }) (v := .bool true) rfl (by kernel_rfl) (by kernel_rfl) (by kernel_rfl) (fun _ _ _ h => h) (Or.inl ⟨by rfl, ?_⟩) hS ?_
        · rintro w ⟨q0, q1⟩
          go_simp
        simp only [Act.put, List.setIfInBounds_toArray, List.set_cons_zero, List.set_cons_succ]
        refine wpAnyH_take (i := 18) (oi := { dst := some 106, op := Go.Op.load 27 (Go.Operand.tmp 5), type := 27, pos := "outright.go:69", after := #[{ on := 17, ground := Go.Ground.guard }], guard := some (17, true) }) (v := .agg #[.slice ax nx cx]) rfl (by kernel_rfl) (by kernel_rfl) (by kernel_rfl) (fun _ _ _ h => h) (Or.inl ⟨by rfl, ?_⟩) hS ?_
        · rintro w ⟨q0, q1⟩
          go_simp
        simp only [Act.put, List.setIfInBounds_toArray, List.set_cons_zero, List.set_cons_succ]
        refine wpAnyH_take (i := 19) (oi := { dst := some 107, op := Go.Op.load 27 (Go.Operand.tmp 6), type := 27, pos := "outright.go:69", after := #[{ on := 17, ground := Go.Ground.guard }], guard := some (17, true) }) (v := .agg #[.slice ay ny cy]) rfl (by kernel_rfl) (by kernel_rfl) (by kernel_rfl) (fun _ _ _ h => h) (Or.inl ⟨by rfl, ?_⟩) hS ?_
        · rintro w ⟨q0, q1⟩
          go_simp
        simp only [Act.put, List.setIfInBounds_toArray, List.set_cons_zero, List.set_cons_succ]
        refine wpAnyH_take (i := 21) (oi := { dst := some 109, op := Go.Op.load 27 (Go.Operand.tmp 6), type := 27, pos := "outright.go:69", after := #[{ on := 17, ground := Go.Ground.guard }], guard := some (17, true) }) (v := .agg #[.slice ay ny cy]) rfl (by kernel_rfl) (by kernel_rfl) (by kernel_rfl) (fun _ _ _ h => h) (Or.inl ⟨by rfl, ?_⟩) hS ?_
        · rintro w ⟨q0, q1⟩
          go_simp
        simp only [Act.put, List.setIfInBounds_toArray, List.set_cons_zero, List.set_cons_succ]
        refine wpAnyH_take (i := 22) (oi := { dst := some 110, op := Go.Op.load 27 (Go.Operand.tmp 5), type := 27, pos := "outright.go:69", after := #[{ on := 17, ground := Go.Ground.guard }], guard := some (17, true) }) (v := .agg #[.slice ax nx cx]) rfl (by kernel_rfl) (by kernel_rfl) (by kernel_rfl) (fun _ _ _ h => h) (Or.inl ⟨by rfl, ?_⟩) hS ?_
        · rintro w ⟨q0, q1⟩
          go_simp
        simp only [Act.put, List.setIfInBounds_toArray, List.set_cons_zero, List.set_cons_succ]
        refine wpAnyH_ready (rs := [20]) (by kernel_rfl) (by simp) ?_
        refine AllReadyH.cons (o := { dst := some 108, op := Go.Op.call { callee := Go.Callee.value (Go.Operand.func 26), args := #[Go.Operand.tmp 106, Go.Operand.tmp 107], argTypes := #[27, 27] }, type := 3, pos := "outright.go:69", after := #[{ on := 18, ground := Go.Ground.data }, { on := 19, ground := Go.Ground.data }, { on := 17, ground := Go.Ground.chain }, { on := 17, ground := Go.Ground.guard }], guard := some (17, true) }) rfl (fun K hK => ?_) AllReadyH.nil
        go_simp
        refine Calls.mono (cmp_any _ _ x y _ (U3.out.at (.agg #[.slice ax nx cx]) x) (U3.out.at (.agg #[.slice ay ny cy]) y) M1.out.1.fits M2.out.fits) ?_
        rintro e wg ⟨rfl, hbg⟩
        have U4 : Hid _ := U3.out.go hbg
        clear hbg
        have hS := And.intro (U4.out.cell b (.slice ax nx cx)) (U4.out.cell (b + 1) (.slice ay ny cy))
        go_wp2_with fail
        refine hK.out _ _ hS (fun hHeld => ?_)
        clear hK K hHeld
        refine wpAnyH_ready (rs := [23]) (by kernel_rfl) (by simp) ?_
        refine AllReadyH.cons (o := { dst := some 111, op := Go.Op.call { callee := Go.Callee.value (Go.Operand.func 26), args := #[Go.Operand.tmp 109, Go.Operand.tmp 110], argTypes := #[27, 27] }, type := 3, pos := "outright.go:69", after := #[{ on := 21, ground := Go.Ground.data }, { on := 22, ground := Go.Ground.data }, { on := 20, ground := Go.Ground.chain }, { on := 17, ground := Go.Ground.guard }], guard := some (17, true) }) rfl (fun K hK => ?_) AllReadyH.nil
        go_simp
        refine Calls.mono (cmp_any _ _ y x _ (U4.out.at (.agg #[.slice ay ny cy]) y) (U4.out.at (.agg #[.slice ax nx cx]) x) M2.out.fits M1.out.1.fits) ?_
        rintro e wh ⟨rfl, hbh⟩
        have U5 : Hid _ := U4.out.go hbh
        clear hbh
        have hS := And.intro (U5.out.cell b (.slice ax nx cx)) (U5.out.cell (b + 1) (.slice ay ny cy))
        go_wp2_with fail
        refine hK.out _ _ hS (fun hHeld => ?_)
        clear hK K hHeld
        refine wpAnyH_take (i := 24) (oi := { dst := some 112, op := Go.Op.unOp Go.UnOp.neg 3 (Go.Operand.tmp 111), type := 3, pos := "outright.go:69", after := #[{ on := 23, ground := Go.Ground.data }, { on := 17, ground := Go.Ground.guard }], guard := some (17, true) }) (v := .int .i64 (cmpI x y)) rfl (by kernel_rfl) (by kernel_rfl) (by kernel_rfl) (fun _ _ _ h => h) (Or.inl ⟨by rfl, ?_⟩) hS ?_
        · rintro w ⟨q0, q1⟩
          go_simp
          exact wrap_neg x y
        simp only [Act.put, List.setIfInBounds_toArray, List.set_cons_zero, List.set_cons_succ]
        refine wpAnyH_take (i := 25) (oi := { dst := some 113, op := Go.Op.binOp Go.BinOp.eql 3 (Go.Operand.tmp 108) (Go.Operand.tmp 112) 3, type := 4, pos := "outright.go:69", after := #[{ on := 20, ground := Go.Ground.data }, { on := 24, ground := Go.Ground.data }, { on := 17, ground := Go.Ground.guard }], guard := some (17, true) }) (v := .bool true) rfl (by kernel_rfl) (by kernel_rfl) (by kernel_rfl) (fun _ _ _ h => h) (Or.inl ⟨by rfl, ?_⟩) hS ?_
        · rintro w ⟨q0, q1⟩
          go_simp
        simp only [Act.put, List.setIfInBounds_toArray, List.set_cons_zero, List.set_cons_succ]
        refine wpAnyH_take (i := 26) (oi := { dst := some 114, op := Go.Op.pick (Go.Operand.tmp 105) (Go.Operand.tmp 113) (Go.Operand.const (Go.Value.bool false)), type := 4, pos := "outright.go:69", after := #[{ on := 17, ground := Go.Ground.data }, { on := 25, ground := Go.Ground.data }], guard := none }) (v := .bool true) rfl (by kernel_rfl) (by kernel_rfl) (by kernel_rfl) (fun _ _ _ h => h) (Or.inl ⟨by rfl, ?_⟩) hS ?_
        · rintro w ⟨q0, q1⟩
          go_simp
        simp only [Act.put, List.setIfInBounds_toArray, List.set_cons_zero, List.set_cons_succ]
        refine wpAnyH_take (i := 27) (oi := { dst := some 115, op := Go.Op.move (Go.Operand.tmp 114), type := 4, pos := "outright.go:69", after := #[{ on := 26, ground := Go.Ground.data }, { on := 23, ground := Go.Ground.chain }], guard := none }) (v := .bool true) rfl (by kernel_rfl) (by kernel_rfl) (by kernel_rfl) (fun _ _ _ h => h) (Or.inl ⟨by rfl, ?_⟩) hS ?_
        · rintro w ⟨q0, q1⟩
          go_simp
        simp only [Act.put, List.setIfInBounds_toArray, List.set_cons_zero, List.set_cons_succ]
        refine wpAnyH_ready (rs := [28]) (by kernel_rfl) (by simp) ?_
        refine AllReadyH.cons (o := { dst := some 116, op := Go.Op.call { callee := Go.Callee.value (Go.Operand.func 19), args := #[], argTypes := #[] }, type := 4, pos := "outright.go:69", after := #[{ on := 27, ground := Go.Ground.chain }, { on := 27, ground := Go.Ground.guard }], guard := some (27, true) }) rfl (fun K hK => ?_) AllReadyH.nil
        go_simp
        refine Calls.mono (started_true _) ?_
        rintro e wi ⟨rfl, hbi⟩
        have U6 : Hid _ := U5.out.go hbi
        clear hbi
        have hS := And.intro (U6.out.cell b (.slice ax nx cx)) (U6.out.cell (b + 1) (.slice ay ny cy))
        go_wp2_with fail
        refine hK.out _ _ hS (fun hHeld => ?_)
        clear hK K hHeld
        refine wpAnyH_take (i := 29) (oi := { dst := some 117, op := Go.Op.pick (Go.Operand.tmp 115) (Go.Operand.tmp 116) (Go.Operand.const (Go.Value.bool false)), type := 4, pos := "outright.go:69", after := #[{ on := 27, ground := Go.Ground.data }, { on := 28, ground := Go.Ground.data }], guard := none }) (v := .bool true) rfl (by kernel_rfl) (by kernel_rfl) (by kernel_rfl) (fun _ _ _ h => h) (Or.inl ⟨by rfl, ?_⟩) hS ?_
        · rintro w ⟨q0, q1⟩
          go_simp
        simp only [Act.put, List.setIfInBounds_toArray, List.set_cons_zero, List.set_cons_succ]
        refine wpAnyH_take (i := 30) (oi := { dst := some 4, op := Go.Op.assign (Go.Operand.tmp 117), type := 4, pos := "outright.go:69", after := #[{ on := 29, ground := Go.Ground.data }, { on := 28, ground := Go.Ground.chain }, { on := 0, ground := Go.Ground.phase }, { on := 1, ground := Go.Ground.phase }, { on := 2, ground := Go.Ground.phase }, { on := 3, ground := Go.Ground.phase }, { on := 4, ground := Go.Ground.phase }, { on := 5, ground := Go.Ground.phase }, { on := 6, ground := Go.Ground.phase }, { on := 7, ground := Go.Ground.phase }, { on := 8, ground := Go.Ground.phase }, { on := 9, ground := Go.Ground.phase }, { on := 10, ground := Go.Ground.phase }, { on := 11, ground := Go.Ground.phase }, { on := 12, ground := Go.Ground.phase }, { on := 13, ground := Go.Ground.phase }, { on := 14, ground := Go.Ground.phase }, { on := 15, ground := Go.Ground.phase }, { on := 16, ground := Go.Ground.phase }, { on := 17, ground := Go.Ground.phase }, { on := 18, ground := Go.Ground.phase }, { on := 19, ground := Go.Ground.phase }, { on := 20, ground := Go.Ground.phase }, { on := 21, ground := Go.Ground.phase }, { on := 22, ground := Go.Ground.phase }, { on := 23, ground := Go.Ground.phase }, { on := 24, ground := Go.Ground.phase }, { on := 25, ground := Go.Ground.phase }, { on := 26, ground := Go.Ground.phase }, { on := 27, ground := Go.Ground.phase }, { on := 28, ground := Go.Ground.phase }, { on := 29, ground := Go.Ground.phase }], guard := none }) (v := .bool true) rfl (by kernel_rfl) (by kernel_rfl) (by kernel_rfl) (fun _ _ _ h => h) (Or.inl ⟨by rfl, ?_⟩) hS ?_
        · rintro w ⟨q0, q1⟩
          go_simp
        simp only [Act.put, List.setIfInBounds_toArray, List.set_cons_zero, List.set_cons_succ]
        refine wpAnyH_done (by kernel_rfl) ?_ _
        go_wp2_with fail
        go_ret
        exact ⟨rfl, U6.out.bel⟩
  · have hd2 : decide ((0 : Int) < (L : Int)) = true := decide_eq_true (by omega)
    go_wp2_with fail
    refine (bytes_any _ x _ (S10.out.at (.agg #[.slice ax nx cx]) x) M1.out.1.fits).mono ?_
    rintro e w11 ⟨g11, rfl, hg11, hR11, hb11⟩
    rw [← HLx.out] at hR11 ⊢
    have hcf : w11.cell? ⟨g11, 0, none⟩ = some (.int .u8 ((byteAt x (L - 1 - 0) : Nat) : Int)) := hR11.cell (by omega)
    rw [Nat.sub_zero] at hcf
    have hne : (((byteAt x (L - 1) : Nat) : Int) == 0) = false := beq_eq_false_iff_ne.2 (by have := byte_head (x := x) (by rw [← HLx.out]; omega); rw [← HLx.out] at this; omega)
    have hlen0 : (0 : Int) < (L : Int) := by omega
    have S11 : Hid _ := S10.out.go hb11
    clear hg11 hR11 hb11 S10 c0
    have c0 := S11.out.cell b (.slice ax nx cx)
    go_wp2_with fail
    clear hcf hne
    refine (text_any _ x _ (S11.out.at (.agg #[.slice ax nx cx]) x) M1.out.1.tx).mono ?_
    rintro e wt ⟨k, rfl, hk, hbt⟩
    have ST : Hid _ := S11.out.go hbt
    have HS : Hid ((decText x k).size = k ∧ Digits (decText x k) k ∧ decVal (decText x k) k = x ∧ DecLen x k ∧ (1 < k → sb (decText x k) 0 ≠ 48) ∧ (∀ l, DecLen y l → (decText x k = decText y l ↔ x = y))) := ⟨text_size _ _, digits_text _ _, decVal_text hk, hk, text_head hk, fun l hl => ⟨fun e => text_inj hk hl e, fun e => by subst e; rw [hk.unique hl]⟩⟩
    generalize decText x k = s at HS ⊢
    have hsz : s.size = k := HS.out.1
    have hk0 : 0 < k := HS.out.2.2.2.1.1
    have hkb : k ≤ 5000 := dec_small HS.out.2.2.2.1 M1.out.1
    have hkz : ((k : Int) == 0) = false := beq_eq_false_iff_ne.2 (by omega)
    clear hbt hk S11 c0
    have c1 := ST.out.cell (b + 1) (.slice ay ny cy)
    go_wp2_with fail
    by_cases hk4' : k ≤ 400
    · by_cases hk1 : k = 1
      · refine (parse_digits s x _ (by omega) (by omega) (by rw [hsz]; exact HS.out.2.1) (by rw [hsz]; exact HS.out.2.2.1)).mono ?_
        rintro e wp ⟨vp, rfl, hvp, hbp⟩
        obtain ⟨ap, np, cp, rfl⟩ := hvp.isAgg
        have SP : Hid _ := ((ST.out.go hbp).nat hvp).box (.slice ap np cp) 27 _ rfl
        clear hvp hbp ST c1
        have c0 := SP.out.cell b (.slice ax nx cx)
        have hk4 : decide ((k : Int) ≤ 400) = true := decide_eq_true (by omega)
        go_wp2_with fail
        obtain ⟨wq, hwq⟩ : ∃ wq, wq = wp.alloc (Obj.cells #[Value.slice ap np cp] 27) := ⟨_, rfl⟩
        rw [← hwq] at SP c0 ⊢
        clear hwq
        refine (eq_true _ _ x _ (SP.out.at (.agg #[.slice ap np cp]) x) (SP.out.at (.agg #[.slice ax nx cx]) x) M1.out.1.tx).mono ?_
        rintro e wr ⟨rfl, hbr⟩
        have SR : Hid _ := SP.out.go hbr
        clear hbr SP c0
        have c0 := SR.out.cell b (.slice ax nx cx)
        have c1 := SR.out.cell (b + 1) (.slice ay ny cy)
        have hk5 : decide ((1 : Int) < (k : Int)) = false := decide_eq_false (by omega)
        go_wp2_with fail
        refine (cmp_any _ _ x y _ (SR.out.at (.agg #[.slice ax nx cx]) x) (SR.out.at (.agg #[.slice ay ny cy]) y) M1.out.1.fits M2.out.fits).mono ?_
        rintro e wc0 ⟨rfl, hbc⟩
        have U0 : Hid _ := SR.out.go hbc
        clear hbc SR c0 c1
        have c0 := U0.out.cell b (.slice ax nx cx)
        have c1 := U0.out.cell (b + 1) (.slice ay ny cy)
        go_wp2_with fail
        generalize hsm : (cmpI x y == 0) = sm
        have HSM : Hid _ := hsm
        clear hsm
        refine wp_region_held_drew (S := fun w' => w'.cell? ⟨b, 0, none⟩ = some (.slice ax nx cx) ∧ w'.cell? ⟨b + 1, 0, none⟩ = some (.slice ay ny cy)) (by kernel_rfl) ⟨c0, c1⟩ (fun hS => ?_)
        refine wpAnyH_take (i := 0) (oi := { dst := some 88, op := Go.Op.move (Go.Operand.tmp 11), type := 4, pos := "outright.go:69", after := #[], guard := none }) (v := .bool sm) rfl (by kernel_rfl) (by kernel_rfl) (by kernel_rfl) (fun _ _ _ h => h) (Or.inl ⟨by rfl, ?_⟩) hS ?_
        · rintro w ⟨q0, q1⟩
          go_simp
        simp only [Act.put, List.setIfInBounds_toArray, List.set_cons_zero, List.set_cons_succ]
        refine wpAnyH_take (i := 1) (oi := { dst := some 89, op := Go.Op.load 27 (Go.Operand.tmp 5), type := 27, pos := "outright.go:69", after := #[], guard := none }) (v := .agg #[.slice ax nx cx]) rfl (by kernel_rfl) (by kernel_rfl) (by kernel_rfl) (fun _ _ _ h => h) (Or.inl ⟨by rfl, ?_⟩) hS ?_
        · rintro w ⟨q0, q1⟩
          go_simp
        simp only [Act.put, List.setIfInBounds_toArray, List.set_cons_zero, List.set_cons_succ]
        refine wpAnyH_take (i := 4) (oi := { dst := some 92, op := Go.Op.load 27 (Go.Operand.tmp 6), type := 27, pos := "outright.go:69", after := #[], guard := none }) (v := .agg #[.slice ay ny cy]) rfl (by kernel_rfl) (by kernel_rfl) (by kernel_rfl) (fun _ _ _ h => h) (Or.inl ⟨by rfl, ?_⟩) hS ?_
        · rintro w ⟨q0, q1⟩
          go_simp
        simp only [Act.put, List.setIfInBounds_toArray, List.set_cons_zero, List.set_cons_succ]
        refine wpAnyH_ready (rs := [2]) (by kernel_rfl) (by simp) ?_
        refine AllReadyH.cons (o := { dst := some 90, op := Go.Op.call { callee := Go.Callee.value (Go.Operand.func 27), args := #[Go.Operand.tmp 89], argTypes := #[27] }, type := 23, pos := "outright.go:69", after := #[{ on := 1, ground := Go.Ground.data }], guard := none }) rfl (fun K hK => ?_) AllReadyH.nil
        go_simp
        refine Calls.mono (bytes_any _ x _ (U0.out.at (.agg #[.slice ax nx cx]) x) M1.out.1.fits) ?_
        rintro e wd ⟨gd, rfl, hgd, hRd, hbd⟩
        have U1 : Hid _ := U0.out.god hbd
        have RX : Hid (BRow wd gd (byteLen x) (fun i => byteAt x (byteLen x - 1 - i))) := hRd
        have cvx := conv_b hRd
        clear hgd hRd hbd
        have hS := And.intro (U1.out.cell b (.slice ax nx cx)) (U1.out.cell (b + 1) (.slice ay ny cy))
        go_wp2_with fail
        refine hK.out _ _ hS (fun hHeld => ?_)
        clear hK K hHeld
        refine wpAnyH_ready (rs := [3, 5]) (by kernel_rfl) (by simp) ?_
        refine AllReadyH.cons (o := { dst := some 91, op := Go.Op.convert 23 9 (Go.Operand.tmp 90), type := 9, pos := "outright.go:69", after := #[{ on := 2, ground := Go.Ground.data }], guard := none }) rfl (fun K hK => ?_) (AllReadyH.cons (o := { dst := some 93, op := Go.Op.call { callee := Go.Callee.value (Go.Operand.func 27), args := #[Go.Operand.tmp 92], argTypes := #[27] }, type := 23, pos := "outright.go:69", after := #[{ on := 4, ground := Go.Ground.data }, { on := 2, ground := Go.Ground.chain }], guard := none }) rfl (fun K hK => ?_) AllReadyH.nil)
        · go_simp
          refine hK.out _ _ hS (fun hHeld => ?_)
          clear hK K hHeld
          refine wpAnyH_ready (rs := [5]) (by kernel_rfl) (by simp) ?_
          refine AllReadyH.cons (o := { dst := some 93, op := Go.Op.call { callee := Go.Callee.value (Go.Operand.func 27), args := #[Go.Operand.tmp 92], argTypes := #[27] }, type := 23, pos := "outright.go:69", after := #[{ on := 4, ground := Go.Ground.data }, { on := 2, ground := Go.Ground.chain }], guard := none }) rfl (fun K hK => ?_) AllReadyH.nil
          go_simp
          refine Calls.mono (bytes_any _ y _ (U1.out.at (.agg #[.slice ay ny cy]) y) M2.out.fits) ?_
          rintro e we ⟨ge, rfl, hge, hRe, hbe⟩
          have U2 : Hid _ := U1.out.go hbe
          have cvx2 := conv_b (BRow.below RX.out hbe)
          have cvy := conv_b hRe
          clear hge hRe hbe
          have hS := And.intro (U2.out.cell b (.slice ax nx cx)) (U2.out.cell (b + 1) (.slice ay ny cy))
          go_wp2_with fail
          refine hK.out _ _ hS (fun hHeld => ?_)
          clear hK K hHeld
          refine wpAnyH_ready (rs := [6]) (by kernel_rfl) (by simp) ?_
          refine AllReadyH.cons (o := { dst := some 94, op := Go.Op.convert 23 9 (Go.Operand.tmp 93), type := 9, pos := "outright.go:69", after := #[{ on := 5, ground := Go.Ground.data }], guard := none }) rfl (fun K hK => ?_) AllReadyH.nil
          skip
          go_simp
          refine hK.out _ _ hS (fun hHeld => ?_)
          clear hK K hHeld
          refine wpAnyH_take (i := 7) (oi := { dst := some 95, op := Go.Op.binOp Go.BinOp.eql 9 (Go.Operand.tmp 91) (Go.Operand.tmp 94) 9, type := 4, pos := "outright.go:69", after := #[{ on := 3, ground := Go.Ground.data }, { on := 6, ground := Go.Ground.data }], guard := none }) (v := .bool sm) rfl (by kernel_rfl) (by kernel_rfl) (by kernel_rfl) (fun _ _ _ h => h) (Or.inl ⟨by rfl, ?_⟩) hS ?_
          · rintro w ⟨q0, q1⟩
            go_simp
            exact str_sm HSM.out ⟨byteText_inj, fun e => by rw [e]⟩
          simp only [Act.put, List.setIfInBounds_toArray, List.set_cons_zero, List.set_cons_succ]
          refine wpAnyH_take (i := 8) (oi := { dst := some 96, op := Go.Op.binOp Go.BinOp.eql 4 (Go.Operand.tmp 88) (Go.Operand.tmp 95) 4, type := 4, pos := "outright.go:69", after := #[{ on := 0, ground := Go.Ground.data }, { on := 7, ground := Go.Ground.data }], guard := none }) (v := .bool true) rfl (by kernel_rfl) (by kernel_rfl) (by kernel_rfl) (fun _ _ _ h => h) (Or.inl ⟨by rfl, ?_⟩) hS ?_
          · rintro w ⟨q0, q1⟩
            go_simp
          simp only [Act.put, List.setIfInBounds_toArray, List.set_cons_zero, List.set_cons_succ]
          refine wpAnyH_take (i := 9) (oi := { dst := some 97, op := Go.Op.move (Go.Operand.tmp 96), type := 4, pos := "outright.go:69", after := #[{ on := 8, ground := Go.Ground.data }, { on := 5, ground := Go.Ground.chain }], guard := none }) (v := .bool true) rfl (by kernel_rfl) (by kernel_rfl) (by kernel_rfl) (fun _ _ _ h => h) (Or.inl ⟨by rfl, ?_⟩) hS ?_
          · rintro w ⟨q0, q1⟩
            go_simp
          simp only [Act.put, List.setIfInBounds_toArray, List.set_cons_zero, List.set_cons_succ]
          refine wpAnyH_take (i := 10) (oi := { dst := some 98, op := Go.Op.move (Go.Operand.tmp 11), type := 4, pos := "outright.go:69", after := #[{ on := 9, ground := Go.Ground.guard }], guard := some (9, true) }) (v := .bool sm) rfl (by kernel_rfl) (by kernel_rfl) (by kernel_rfl) (fun _ _ _ h => h) (Or.inl ⟨by rfl, ?_⟩) hS ?_
          · rintro w ⟨q0, q1⟩
            go_simp
          simp only [Act.put, List.setIfInBounds_toArray, List.set_cons_zero, List.set_cons_succ]
          refine wpAnyH_take (i := 11) (oi := { dst := some 99, op := Go.Op.move (Go.Operand.tmp 8), type := 9, pos := "outright.go:69", after := #[{ on := 9, ground := Go.Ground.guard }], guard := some (9, true) }) (v := .string s) rfl (by kernel_rfl) (by kernel_rfl) (by kernel_rfl) (fun _ _ _ h => h) (Or.inl ⟨by rfl, ?_⟩) hS ?_
          · rintro w ⟨q0, q1⟩
            go_simp
          simp only [Act.put, List.setIfInBounds_toArray, List.set_cons_zero, List.set_cons_succ]
          refine wpAnyH_take (i := 12) (oi := { dst := some 100, op := Go.Op.load 27 (Go.Operand.tmp 6), type := 27, pos := "outright.go:69", after := #[{ on := 9, ground := Go.Ground.guard }], guard := some (9, true) }) (v := .agg #[.slice ay ny cy]) rfl (by kernel_rfl) (by kernel_rfl) (by kernel_rfl) (fun _ _ _ h => h) (Or.inl ⟨by rfl, ?_⟩) hS ?_
          · rintro w ⟨q0, q1⟩
            go_simp
          simp only [Act.put, List.setIfInBounds_toArray, List.set_cons_zero, List.set_cons_succ]
          refine wpAnyH_ready (rs := [13]) (by kernel_rfl) (by simp) ?_
          refine AllReadyH.cons (o := { dst := some 101, op := Go.Op.call { callee := Go.Callee.value (Go.Operand.func 28), args := #[Go.Operand.tmp 100], argTypes := #[27] }, type := 9, pos := "outright.go:69", after := #[{ on := 12, ground := Go.Ground.data }, { on := 9, ground := Go.Ground.chain }, { on := 9, ground := Go.Ground.guard }], guard := some (9, true) }) rfl (fun K hK => ?_) AllReadyH.nil
          go_simp
          refine Calls.mono (text_any _ y _ (U2.out.at (.agg #[.slice ay ny cy]) y) M2.out.tx) ?_
          rintro e wf ⟨l, rfl, hl, hbf⟩
          have HT : Hid _ := HS.out.2.2.2.2.2 l hl
          generalize decText y l = s' at HT ⊢
          have U3 : Hid _ := U2.out.go hbf
          clear hbf hl
          have hS := And.intro (U3.out.cell b (.slice ax nx cx)) (U3.out.cell (b + 1) (.slice ay ny cy))
          go_wp2_with fail
          refine hK.out _ _ hS (fun hHeld => ?_)
          clear hK K hHeld
          refine wpAnyH_take (i := 14) (oi := { dst := some 102, op := Go.Op.binOp Go.BinOp.eql 9 (Go.Operand.tmp 99) (Go.Operand.tmp 101) 9, type := 4, pos := "outright.go:69", after := #[{ on := 11, ground := Go.Ground.data }, { on := 13, ground := Go.Ground.data }, { on := 9, ground := Go.Ground.guard }], guard := some (9, true) }) (v := .bool sm) rfl (by kernel_rfl) (by kernel_rfl) (by kernel_rfl) (fun _ _ _ h => h) (Or.inl ⟨by rfl, ?_⟩) hS ?_
          · rintro w ⟨q0, q1⟩
            go_simp
            exact str_sm HSM.out HT.out
          simp only [Act.put, List.setIfInBounds_toArray, List.set_cons_zero, List.set_cons_succ]
          refine wpAnyH_take (i := 15) (oi := { dst := some 103, op := Go.Op.binOp Go.BinOp.eql 4 (Go.Operand.tmp 98) (Go.Operand.tmp 102) 4, type := 4, pos := "outright.go:69", after := #[{ on := 10, ground := Go.Ground.data }, { on := 14, ground := Go.Ground.data }, { on := 9, ground := Go.Ground.guard }], guard := some (9, true) }) (v := .bool true) rfl (by kernel_rfl) (by kernel_rfl) (by kernel_rfl) (fun _ _ _ h => h) (Or.inl ⟨by rfl, ?_⟩) hS ?_
          · rintro w ⟨q0, q1⟩
            go_simp
          simp only [Act.put, List.setIfInBounds_toArray, List.set_cons_zero, List.set_cons_succ]
          refine wpAnyH_take (i := 16) (oi := { dst := some 104, op := Go.Op.pick (Go.Operand.tmp 97) (Go.Operand.tmp 103) (Go.Operand.const (Go.Value.bool false)), type := 4, pos := "outright.go:69", after := #[{ on := 9, ground := Go.Ground.data }, { on := 15, ground := Go.Ground.data }], guard := none }) (v := .bool true) rfl (by kernel_rfl) (by kernel_rfl) (by kernel_rfl) (fun _ _ _ h => h) (Or.inl ⟨by rfl, ?_⟩) hS ?_
          · rintro w ⟨q0, q1⟩
            go_simp
          simp only [Act.put, List.setIfInBounds_toArray, List.set_cons_zero, List.set_cons_succ]
          refine wpAnyH_take (i := 17) (oi := { dst := some 105, op := Go.Op.move (Go.Operand.tmp 104), type := 4, pos := "outright.go:69", after := #[{ on := 16, ground := Go.Ground.data }, { on := 13, ground := Go.Ground.chain }], guard := none }) (v := .bool true) rfl (by kernel_rfl) (by kernel_rfl) (by kernel_rfl) (fun _ _ _ h => h) (Or.inl ⟨by rfl, ?_⟩) hS ?_
          · rintro w ⟨q0, q1⟩
            go_simp
          simp only [Act.put, List.setIfInBounds_toArray, List.set_cons_zero, List.set_cons_succ]
          refine wpAnyH_take (i := 18) (oi := { dst := some 106, op := Go.Op.load 27 (Go.Operand.tmp 5), type := 27, pos := "outright.go:69", after := #[{ on := 17, ground := Go.Ground.guard }], guard := some (17, true) }) (v := .agg #[.slice ax nx cx]) rfl (by kernel_rfl) (by kernel_rfl) (by kernel_rfl) (fun _ _ _ h => h) (Or.inl ⟨by rfl, ?_⟩) hS ?_
          · rintro w ⟨q0, q1⟩
            go_simp
          simp only [Act.put, List.setIfInBounds_toArray, List.set_cons_zero, List.set_cons_succ]
          refine wpAnyH_take (i := 19) (oi := { dst := some 107, op := Go.Op.load 27 (Go.Operand.tmp 6), type := 27, pos := "outright.go:69", after := #[{ on := 17, ground := Go.Ground.guard }], guard := some (17, true) }) (v := .agg #[.slice ay ny cy]) rfl (by kernel_rfl) (by kernel_rfl) (by kernel_rfl) (fun _ _ _ h => h) (Or.inl ⟨by rfl, ?_⟩) hS ?_
          · rintro w ⟨q0, q1⟩
            go_simp
          simp only [Act.put, List.setIfInBounds_toArray, List.set_cons_zero, List.set_cons_succ]
          refine wpAnyH_take (i := 21) (oi := { dst := some 109, op := Go.Op.load 27 (Go.Operand.tmp 6), type := 27, pos := "outright.go:69", after := #[{ on := 17, ground := Go.Ground.guard }], guard := some (17, true) }) (v := .agg #[.slice ay ny cy]) rfl (by kernel_rfl) (by kernel_rfl) (by kernel_rfl) (fun _ _ _ h => h) (Or.inl ⟨by rfl, ?_⟩) hS ?_
          · rintro w ⟨q0, q1⟩
            go_simp
          simp only [Act.put, List.setIfInBounds_toArray, List.set_cons_zero, List.set_cons_succ]
          refine wpAnyH_take (i := 22) (oi := { dst := some 110, op := Go.Op.load 27 (Go.Operand.tmp 5), type := 27, pos := "outright.go:69", after := #[{ on := 17, ground := Go.Ground.guard }], guard := some (17, true) }) (v := .agg #[.slice ax nx cx]) rfl (by kernel_rfl) (by kernel_rfl) (by kernel_rfl) (fun _ _ _ h => h) (Or.inl ⟨by rfl, ?_⟩) hS ?_
          · rintro w ⟨q0, q1⟩
            go_simp
          simp only [Act.put, List.setIfInBounds_toArray, List.set_cons_zero, List.set_cons_succ]
          refine wpAnyH_ready (rs := [20]) (by kernel_rfl) (by simp) ?_
          refine AllReadyH.cons (o := { dst := some 108, op := Go.Op.call { callee := Go.Callee.value (Go.Operand.func 26), args := #[Go.Operand.tmp 106, Go.Operand.tmp 107], argTypes := #[27, 27] }, type := 3, pos := "outright.go:69", after := #[{ on := 18, ground := Go.Ground.data }, { on := 19, ground := Go.Ground.data }, { on := 17, ground := Go.Ground.chain }, { on := 17, ground := Go.Ground.guard }], guard := some (17, true) }) rfl (fun K hK => ?_) AllReadyH.nil
          go_simp
          refine Calls.mono (cmp_any _ _ x y _ (U3.out.at (.agg #[.slice ax nx cx]) x) (U3.out.at (.agg #[.slice ay ny cy]) y) M1.out.1.fits M2.out.fits) ?_
          rintro e wg ⟨rfl, hbg⟩
          have U4 : Hid _ := U3.out.go hbg
          clear hbg
          have hS := And.intro (U4.out.cell b (.slice ax nx cx)) (U4.out.cell (b + 1) (.slice ay ny cy))
          go_wp2_with fail
          refine hK.out _ _ hS (fun hHeld => ?_)
          clear hK K hHeld
          refine wpAnyH_ready (rs := [23]) (by kernel_rfl) (by simp) ?_
          refine AllReadyH.cons (o := { dst := some 111, op := Go.Op.call { callee := Go.Callee.value (Go.Operand.func 26), args := #[Go.Operand.tmp 109, Go.Operand.tmp 110], argTypes := #[27, 27] }, type := 3, pos := "outright.go:69", after := #[{ on := 21, ground := Go.Ground.data }, { on := 22, ground := Go.Ground.data }, { on := 20, ground := Go.Ground.chain }, { on := 17, ground := Go.Ground.guard }], guard := some (17, true) }) rfl (fun K hK => ?_) AllReadyH.nil
          go_simp
          refine Calls.mono (cmp_any _ _ y x _ (U4.out.at (.agg #[.slice ay ny cy]) y) (U4.out.at (.agg #[.slice ax nx cx]) x) M2.out.fits M1.out.1.fits) ?_
          rintro e wh ⟨rfl, hbh⟩
          have U5 : Hid _ := U4.out.go hbh
          clear hbh
          have hS := And.intro (U5.out.cell b (.slice ax nx cx)) (U5.out.cell (b + 1) (.slice ay ny cy))
          go_wp2_with fail
          refine hK.out _ _ hS (fun hHeld => ?_)
          clear hK K hHeld
          refine wpAnyH_take (i := 24) (oi := { dst := some 112, op := Go.Op.unOp Go.UnOp.neg 3 (Go.Operand.tmp 111), type := 3, pos := "outright.go:69", after := #[{ on := 23, ground := Go.Ground.data }, { on := 17, ground := Go.Ground.guard }], guard := some (17, true) }) (v := .int .i64 (cmpI x y)) rfl (by kernel_rfl) (by kernel_rfl) (by kernel_rfl) (fun _ _ _ h => h) (Or.inl ⟨by rfl, ?_⟩) hS ?_
          · rintro w ⟨q0, q1⟩
            go_simp
            exact wrap_neg x y
          simp only [Act.put, List.setIfInBounds_toArray, List.set_cons_zero, List.set_cons_succ]
          refine wpAnyH_take (i := 25) (oi := { dst := some 113, op := Go.Op.binOp Go.BinOp.eql 3 (Go.Operand.tmp 108) (Go.Operand.tmp 112) 3, type := 4, pos := "outright.go:69", after := #[{ on := 20, ground := Go.Ground.data }, { on := 24, ground := Go.Ground.data }, { on := 17, ground := Go.Ground.guard }], guard := some (17, true) }) (v := .bool true) rfl (by kernel_rfl) (by kernel_rfl) (by kernel_rfl) (fun _ _ _ h => h) (Or.inl ⟨by rfl, ?_⟩) hS ?_
          · rintro w ⟨q0, q1⟩
            go_simp
          simp only [Act.put, List.setIfInBounds_toArray, List.set_cons_zero, List.set_cons_succ]
          refine wpAnyH_take (i := 26) (oi := { dst := some 114, op := Go.Op.pick (Go.Operand.tmp 105) (Go.Operand.tmp 113) (Go.Operand.const (Go.Value.bool false)), type := 4, pos := "outright.go:69", after := #[{ on := 17, ground := Go.Ground.data }, { on := 25, ground := Go.Ground.data }], guard := none }) (v := .bool true) rfl (by kernel_rfl) (by kernel_rfl) (by kernel_rfl) (fun _ _ _ h => h) (Or.inl ⟨by rfl, ?_⟩) hS ?_
          · rintro w ⟨q0, q1⟩
            go_simp
          simp only [Act.put, List.setIfInBounds_toArray, List.set_cons_zero, List.set_cons_succ]
          refine wpAnyH_take (i := 27) (oi := { dst := some 115, op := Go.Op.move (Go.Operand.tmp 114), type := 4, pos := "outright.go:69", after := #[{ on := 26, ground := Go.Ground.data }, { on := 23, ground := Go.Ground.chain }], guard := none }) (v := .bool true) rfl (by kernel_rfl) (by kernel_rfl) (by kernel_rfl) (fun _ _ _ h => h) (Or.inl ⟨by rfl, ?_⟩) hS ?_
          · rintro w ⟨q0, q1⟩
            go_simp
          simp only [Act.put, List.setIfInBounds_toArray, List.set_cons_zero, List.set_cons_succ]
          refine wpAnyH_ready (rs := [28]) (by kernel_rfl) (by simp) ?_
          refine AllReadyH.cons (o := { dst := some 116, op := Go.Op.call { callee := Go.Callee.value (Go.Operand.func 19), args := #[], argTypes := #[] }, type := 4, pos := "outright.go:69", after := #[{ on := 27, ground := Go.Ground.chain }, { on := 27, ground := Go.Ground.guard }], guard := some (27, true) }) rfl (fun K hK => ?_) AllReadyH.nil
          go_simp
          refine Calls.mono (started_true _) ?_
          rintro e wi ⟨rfl, hbi⟩
          have U6 : Hid _ := U5.out.go hbi
          clear hbi
          have hS := And.intro (U6.out.cell b (.slice ax nx cx)) (U6.out.cell (b + 1) (.slice ay ny cy))
          go_wp2_with fail
          refine hK.out _ _ hS (fun hHeld => ?_)
          clear hK K hHeld
          refine wpAnyH_take (i := 29) (oi := { dst := some 117, op := Go.Op.pick (Go.Operand.tmp 115) (Go.Operand.tmp 116) (Go.Operand.const (Go.Value.bool false)), type := 4, pos := "outright.go:69", after := #[{ on := 27, ground := Go.Ground.data }, { on := 28, ground := Go.Ground.data }], guard := none }) (v := .bool true) rfl (by kernel_rfl) (by kernel_rfl) (by kernel_rfl) (fun _ _ _ h => h) (Or.inl ⟨by rfl, ?_⟩) hS ?_
          · rintro w ⟨q0, q1⟩
            go_simp
          simp only [Act.put, List.setIfInBounds_toArray, List.set_cons_zero, List.set_cons_succ]
          refine wpAnyH_take (i := 30) (oi := { dst := some 4, op := Go.Op.assign (Go.Operand.tmp 117), type := 4, pos := "outright.go:69", after := #[{ on := 29, ground := Go.Ground.data }, { on := 28, ground := Go.Ground.chain }, { on := 0, ground := Go.Ground.phase }, { on := 1, ground := Go.Ground.phase }, { on := 2, ground := Go.Ground.phase }, { on := 3, ground := Go.Ground.phase }, { on := 4, ground := Go.Ground.phase }, { on := 5, ground := Go.Ground.phase }, { on := 6, ground := Go.Ground.phase }, { on := 7, ground := Go.Ground.phase }, { on := 8, ground := Go.Ground.phase }, { on := 9, ground := Go.Ground.phase }, { on := 10, ground := Go.Ground.phase }, { on := 11, ground := Go.Ground.phase }, { on := 12, ground := Go.Ground.phase }, { on := 13, ground := Go.Ground.phase }, { on := 14, ground := Go.Ground.phase }, { on := 15, ground := Go.Ground.phase }, { on := 16, ground := Go.Ground.phase }, { on := 17, ground := Go.Ground.phase }, { on := 18, ground := Go.Ground.phase }, { on := 19, ground := Go.Ground.phase }, { on := 20, ground := Go.Ground.phase }, { on := 21, ground := Go.Ground.phase }, { on := 22, ground := Go.Ground.phase }, { on := 23, ground := Go.Ground.phase }, { on := 24, ground := Go.Ground.phase }, { on := 25, ground := Go.Ground.phase }, { on := 26, ground := Go.Ground.phase }, { on := 27, ground := Go.Ground.phase }, { on := 28, ground := Go.Ground.phase }, { on := 29, ground := Go.Ground.phase }], guard := none }) (v := .bool true) rfl (by kernel_rfl) (by kernel_rfl) (by kernel_rfl) (fun _ _ _ h => h) (Or.inl ⟨by rfl, ?_⟩) hS ?_
          · rintro w ⟨q0, q1⟩
            go_simp
          simp only [Act.put, List.setIfInBounds_toArray, List.set_cons_zero, List.set_cons_succ]
          refine wpAnyH_done (by kernel_rfl) ?_ _
          go_wp2_with fail
          go_ret
          exact ⟨rfl, U6.out.bel⟩
        · go_simp
          refine Calls.mono (bytes_any _ y _ (U1.out.at (.agg #[.slice ay ny cy]) y) M2.out.fits) ?_
          rintro e we ⟨ge, rfl, hge, hRe, hbe⟩
          have U2 : Hid _ := U1.out.go hbe
          have cvx2 := conv_b (BRow.below RX.out hbe)
          have cvy := conv_b hRe
          clear hge hRe hbe
          have hS := And.intro (U2.out.cell b (.slice ax nx cx)) (U2.out.cell (b + 1) (.slice ay ny cy))
          go_wp2_with fail
          refine hK.out _ _ hS (fun hHeld => ?_)
          clear hK K hHeld
          refine wpAnyH_ready (rs := [3, 6]) (by kernel_rfl) (by simp) ?_
          refine AllReadyH.cons (o := { dst := some 91, op := Go.Op.convert 23 9 (Go.Operand.tmp 90), type := 9, pos := "outright.go:69", after := #[{ on := 2, ground := Go.Ground.data }], guard := none }) rfl (fun K hK => ?_) (AllReadyH.cons (o := { dst := some 94, op := Go.Op.convert 23 9 (Go.Operand.tmp 93), type := 9, pos := "outright.go:69", after := #[{ on := 5, ground := Go.Ground.data }], guard := none }) rfl (fun K hK => ?_) AllReadyH.nil)
          · go_simp
            refine hK.out _ _ hS (fun hHeld => ?_)
            clear hK K hHeld
            refine wpAnyH_ready (rs := [6]) (by kernel_rfl) (by simp) ?_
            refine AllReadyH.cons (o := { dst := some 94, op := Go.Op.convert 23 9 (Go.Operand.tmp 93), type := 9, pos := "outright.go:69", after := #[{ on := 5, ground := Go.Ground.data }], guard := none }) rfl (fun K hK => ?_) AllReadyH.nil
            skip
            go_simp
            refine hK.out _ _ hS (fun hHeld => ?_)
            clear hK K hHeld
            refine wpAnyH_take (i := 7) (oi := { dst := some 95, op := Go.Op.binOp Go.BinOp.eql 9 (Go.Operand.tmp 91) (Go.Operand.tmp 94) 9, type := 4, pos := "outright.go:69", after := #[{ on := 3, ground := Go.Ground.data }, { on := 6, ground := Go.Ground.data }], guard := none }) (v := .bool sm) rfl (by kernel_rfl) (by kernel_rfl) (by kernel_rfl) (fun _ _ _ h => h) (Or.inl ⟨by rfl, ?_⟩) hS ?_
            · rintro w ⟨q0, q1⟩
              go_simp
              exact str_sm HSM.out ⟨byteText_inj, fun e => by rw [e]⟩
            simp only [Act.put, List.setIfInBounds_toArray, List.set_cons_zero, List.set_cons_succ]
            refine wpAnyH_take (i := 8) (oi := { dst := some 96, op := Go.Op.binOp Go.BinOp.eql 4 (Go.Operand.tmp 88) (Go.Operand.tmp 95) 4, type := 4, pos := "outright.go:69", after := #[{ on := 0, ground := Go.Ground.data }, { on := 7, ground := Go.Ground.data }], guard := none }) (v := .bool true) rfl (by kernel_rfl) (by kernel_rfl) (by kernel_rfl) (fun _ _ _ h => h) (Or.inl ⟨by rfl, ?_⟩) hS ?_
            · rintro w ⟨q0, q1⟩
              go_simp
            simp only [Act.put, List.setIfInBounds_toArray, List.set_cons_zero, List.set_cons_succ]
            refine wpAnyH_take (i := 9) (oi := { dst := some 97, op := Go.Op.move (Go.Operand.tmp 96), type := 4, pos := "outright.go:69", after := #[{ on := 8, ground := Go.Ground.data }, { on := 5, ground := Go.Ground.chain }], guard := none }) (v := .bool true) rfl (by kernel_rfl) (by kernel_rfl) (by kernel_rfl) (fun _ _ _ h => h) (Or.inl ⟨by rfl, ?_⟩) hS ?_
            · rintro w ⟨q0, q1⟩
              go_simp
            simp only [Act.put, List.setIfInBounds_toArray, List.set_cons_zero, List.set_cons_succ]
            refine wpAnyH_take (i := 10) (oi := { dst := some 98, op := Go.Op.move (Go.Operand.tmp 11), type := 4, pos := "outright.go:69", after := #[{ on := 9, ground := Go.Ground.guard }], guard := some (9, true) }) (v := .bool sm) rfl (by kernel_rfl) (by kernel_rfl) (by kernel_rfl) (fun _ _ _ h => h) (Or.inl ⟨by rfl, ?_⟩) hS ?_
            · rintro w ⟨q0, q1⟩
              go_simp
            simp only [Act.put, List.setIfInBounds_toArray, List.set_cons_zero, List.set_cons_succ]
            refine wpAnyH_take (i := 11) (oi := { dst := some 99, op := Go.Op.move (Go.Operand.tmp 8), type := 9, pos := "outright.go:69", after := #[{ on := 9, ground := Go.Ground.guard }], guard := some (9, true) }) (v := .string s) rfl (by kernel_rfl) (by kernel_rfl) (by kernel_rfl) (fun _ _ _ h => h) (Or.inl ⟨by rfl, ?_⟩) hS ?_
            · rintro w ⟨q0, q1⟩
              go_simp
            simp only [Act.put, List.setIfInBounds_toArray, List.set_cons_zero, List.set_cons_succ]
            refine wpAnyH_take (i := 12) (oi := { dst := some 100, op := Go.Op.load 27 (Go.Operand.tmp 6), type := 27, pos := "outright.go:69", after := #[{ on := 9, ground := Go.Ground.guard }], guard := some (9, true) }) (v := .agg #[.slice ay ny cy]) rfl (by kernel_rfl) (by kernel_rfl) (by kernel_rfl) (fun _ _ _ h => h) (Or.inl ⟨by rfl, ?_⟩) hS ?_
            · rintro w ⟨q0, q1⟩
              go_simp
            simp only [Act.put, List.setIfInBounds_toArray, List.set_cons_zero, List.set_cons_succ]
            refine wpAnyH_ready (rs := [13]) (by kernel_rfl) (by simp) ?_
            refine AllReadyH.cons (o := { dst := some 101, op := Go.Op.call { callee := Go.Callee.value (Go.Operand.func 28), args := #[Go.Operand.tmp 100], argTypes := #[27] }, type := 9, pos := "outright.go:69", after := #[{ on := 12, ground := Go.Ground.data }, { on := 9, ground := Go.Ground.chain }, { on := 9, ground := Go.Ground.guard }], guard := some (9, true) }) rfl (fun K hK => ?_) AllReadyH.nil
            go_simp
            refine Calls.mono (text_any _ y _ (U2.out.at (.agg #[.slice ay ny cy]) y) M2.out.tx) ?_
            rintro e wf ⟨l, rfl, hl, hbf⟩
            have HT : Hid _ := HS.out.2.2.2.2.2 l hl
            generalize decText y l = s' at HT ⊢
            have U3 : Hid _ := U2.out.go hbf
            clear hbf hl
            have hS := And.intro (U3.out.cell b (.slice ax nx cx)) (U3.out.cell (b + 1) (.slice ay ny cy))
            go_wp2_with fail
            refine hK.out _ _ hS (fun hHeld => ?_)
            clear hK K hHeld
            refine wpAnyH_take (i := 14) (oi := { dst := some 102, op := Go.Op.binOp Go.BinOp.eql 9 (Go.Operand.tmp 99) (Go.Operand.tmp 101) 9, type := 4, pos := "outright.go:69", after := #[{ on := 11, ground := Go.Ground.data }, { on := 13, ground := Go.Ground.data }, { on := 9, ground := Go.Ground.guard }], guard := some (9, true) }) (v := .bool sm) rfl (by kernel_rfl) (by kernel_rfl) (by kernel_rfl) (fun _ _ _ h => h) (Or.inl ⟨by rfl, ?_⟩) hS ?_
            · rintro w ⟨q0, q1⟩
              go_simp
              exact str_sm HSM.out HT.out
            simp only [Act.put, List.setIfInBounds_toArray, List.set_cons_zero, List.set_cons_succ]
            refine wpAnyH_take (i := 15) (oi := { dst := some 103, op := Go.Op.binOp Go.BinOp.eql 4 (Go.Operand.tmp 98) (Go.Operand.tmp 102) 4, type := 4, pos := "outright.go:69", after := #[{ on := 10, ground := Go.Ground.data }, { on := 14, ground := Go.Ground.data }, { on := 9, ground := Go.Ground.guard }], guard := some (9, true) }) (v := .bool true) rfl (by kernel_rfl) (by kernel_rfl) (by kernel_rfl) (fun _ _ _ h => h) (Or.inl ⟨by rfl, ?_⟩) hS ?_
            · rintro w ⟨q0, q1⟩
              go_simp
            simp only [Act.put, List.setIfInBounds_toArray, List.set_cons_zero, List.set_cons_succ]
            refine wpAnyH_take (i := 16) (oi := { dst := some 104, op := Go.Op.pick (Go.Operand.tmp 97) (Go.Operand.tmp 103) (Go.Operand.const (Go.Value.bool false)), type := 4, pos := "outright.go:69", after := #[{ on := 9, ground := Go.Ground.data }, { on := 15, ground := Go.Ground.data }], guard := none }) (v := .bool true) rfl (by kernel_rfl) (by kernel_rfl) (by kernel_rfl) (fun _ _ _ h => h) (Or.inl ⟨by rfl, ?_⟩) hS ?_
            · rintro w ⟨q0, q1⟩
              go_simp
            simp only [Act.put, List.setIfInBounds_toArray, List.set_cons_zero, List.set_cons_succ]
            refine wpAnyH_take (i := 17) (oi := { dst := some 105, op := Go.Op.move (Go.Operand.tmp 104), type := 4, pos := "outright.go:69", after := #[{ on := 16, ground := Go.Ground.data }, { on := 13, ground := Go.Ground.chain }], guard := none }) (v := .bool true) rfl (by kernel_rfl) (by kernel_rfl) (by kernel_rfl) (fun _ _ _ h => h) (Or.inl ⟨by rfl, ?_⟩) hS ?_
            · rintro w ⟨q0, q1⟩
              go_simp
            simp only [Act.put, List.setIfInBounds_toArray, List.set_cons_zero, List.set_cons_succ]
            refine wpAnyH_take (i := 18) (oi := { dst := some 106, op := Go.Op.load 27 (Go.Operand.tmp 5), type := 27, pos := "outright.go:69", after := #[{ on := 17, ground := Go.Ground.guard }], guard := some (17, true) }) (v := .agg #[.slice ax nx cx]) rfl (by kernel_rfl) (by kernel_rfl) (by kernel_rfl) (fun _ _ _ h => h) (Or.inl ⟨by rfl, ?_⟩) hS ?_
            · rintro w ⟨q0, q1⟩
              go_simp
            simp only [Act.put, List.setIfInBounds_toArray, List.set_cons_zero, List.set_cons_succ]
            refine wpAnyH_take (i := 19) (oi := { dst := some 107, op := Go.Op.load 27 (Go.Operand.tmp 6), type := 27, pos := "outright.go:69", after := #[{ on := 17, ground := Go.Ground.guard }], guard := some (17, true) }) (v := .agg #[.slice ay ny cy]) rfl (by kernel_rfl) (by kernel_rfl) (by kernel_rfl) (fun _ _ _ h => h) (Or.inl ⟨by rfl, ?_⟩) hS ?_
            · rintro w ⟨q0, q1⟩
              go_simp
            simp only [Act.put, List.setIfInBounds_toArray, List.set_cons_zero, List.set_cons_succ]
            refine wpAnyH_take (i := 21) (oi := { dst := some 109, op := Go.Op.load 27 (Go.Operand.tmp 6), type := 27, pos := "outright.go:69", after := #[{ on := 17, ground := Go.Ground.guard }], guard := some (17, true) }) (v := .agg #[.slice ay ny cy]) rfl (by kernel_rfl) (by kernel_rfl) (by kernel_rfl) (fun _ _ _ h => h) (Or.inl ⟨by rfl, ?_⟩) hS ?_
            · rintro w ⟨q0, q1⟩
              go_simp
            simp only [Act.put, List.setIfInBounds_toArray, List.set_cons_zero, List.set_cons_succ]
            refine wpAnyH_take (i := 22) (oi := { dst := some 110, op := Go.Op.load 27 (Go.Operand.tmp 5), type := 27, pos := "outright.go:69", after := #[{ on := 17, ground := Go.Ground.guard }], guard := some (17, true) }) (v := .agg #[.slice ax nx cx]) rfl (by kernel_rfl) (by kernel_rfl) (by kernel_rfl) (fun _ _ _ h => h) (Or.inl ⟨by rfl, ?_⟩) hS ?_
            · rintro w ⟨q0, q1⟩
              go_simp
            simp only [Act.put, List.setIfInBounds_toArray, List.set_cons_zero, List.set_cons_succ]
            refine wpAnyH_ready (rs := [20]) (by kernel_rfl) (by simp) ?_
            refine AllReadyH.cons (o := { dst := some 108, op := Go.Op.call { callee := Go.Callee.value (Go.Operand.func 26), args := #[Go.Operand.tmp 106, Go.Operand.tmp 107], argTypes := #[27, 27] }, type := 3, pos := "outright.go:69", after := #[{ on := 18, ground := Go.Ground.data }, { on := 19, ground := Go.Ground.data }, { on := 17, ground := Go.Ground.chain }, { on := 17, ground := Go.Ground.guard }], guard := some (17, true) }) rfl (fun K hK => ?_) AllReadyH.nil
            go_simp
            refine Calls.mono (cmp_any _ _ x y _ (U3.out.at (.agg #[.slice ax nx cx]) x) (U3.out.at (.agg #[.slice ay ny cy]) y) M1.out.1.fits M2.out.fits) ?_
            rintro e wg ⟨rfl, hbg⟩
            have U4 : Hid _ := U3.out.go hbg
            clear hbg
            have hS := And.intro (U4.out.cell b (.slice ax nx cx)) (U4.out.cell (b + 1) (.slice ay ny cy))
            go_wp2_with fail
            refine hK.out _ _ hS (fun hHeld => ?_)
            clear hK K hHeld
            refine wpAnyH_ready (rs := [23]) (by kernel_rfl) (by simp) ?_
            refine AllReadyH.cons (o := { dst := some 111, op := Go.Op.call { callee := Go.Callee.value (Go.Operand.func 26), args := #[Go.Operand.tmp 109, Go.Operand.tmp 110], argTypes := #[27, 27] }, type := 3, pos := "outright.go:69", after := #[{ on := 21, ground := Go.Ground.data }, { on := 22, ground := Go.Ground.data }, { on := 20, ground := Go.Ground.chain }, { on := 17, ground := Go.Ground.guard }], guard := some (17, true) }) rfl (fun K hK => ?_) AllReadyH.nil
            go_simp
            refine Calls.mono (cmp_any _ _ y x _ (U4.out.at (.agg #[.slice ay ny cy]) y) (U4.out.at (.agg #[.slice ax nx cx]) x) M2.out.fits M1.out.1.fits) ?_
            rintro e wh ⟨rfl, hbh⟩
            have U5 : Hid _ := U4.out.go hbh
            clear hbh
            have hS := And.intro (U5.out.cell b (.slice ax nx cx)) (U5.out.cell (b + 1) (.slice ay ny cy))
            go_wp2_with fail
            refine hK.out _ _ hS (fun hHeld => ?_)
            clear hK K hHeld
            refine wpAnyH_take (i := 24) (oi := { dst := some 112, op := Go.Op.unOp Go.UnOp.neg 3 (Go.Operand.tmp 111), type := 3, pos := "outright.go:69", after := #[{ on := 23, ground := Go.Ground.data }, { on := 17, ground := Go.Ground.guard }], guard := some (17, true) }) (v := .int .i64 (cmpI x y)) rfl (by kernel_rfl) (by kernel_rfl) (by kernel_rfl) (fun _ _ _ h => h) (Or.inl ⟨by rfl, ?_⟩) hS ?_
            · rintro w ⟨q0, q1⟩
              go_simp
              exact wrap_neg x y
            simp only [Act.put, List.setIfInBounds_toArray, List.set_cons_zero, List.set_cons_succ]
            refine wpAnyH_take (i := 25) (oi := { dst := some 113, op := Go.Op.binOp Go.BinOp.eql 3 (Go.Operand.tmp 108) (Go.Operand.tmp 112) 3, type := 4, pos := "outright.go:69", after := #[{ on := 20, ground := Go.Ground.data }, { on := 24, ground := Go.Ground.data }, { on := 17, ground := Go.Ground.guard }], guard := some (17, true) }) (v := .bool true) rfl (by kernel_rfl) (by kernel_rfl) (by kernel_rfl) (fun _ _ _ h => h) (Or.inl ⟨by rfl, ?_⟩) hS ?_
            · rintro w ⟨q0, q1⟩
              go_simp
            simp only [Act.put, List.setIfInBounds_toArray, List.set_cons_zero, List.set_cons_succ]
            refine wpAnyH_take (i := 26) (oi := { dst := some 114, op := Go.Op.pick (Go.Operand.tmp 105) (Go.Operand.tmp 113) (Go.Operand.const (Go.Value.bool false)), type := 4, pos := "outright.go:69", after := #[{ on := 17, ground := Go.Ground.data }, { on := 25, ground := Go.Ground.data }], guard := none }) (v := .bool true) rfl (by kernel_rfl) (by kernel_rfl) (by kernel_rfl) (fun _ _ _ h => h) (Or.inl ⟨by rfl, ?_⟩) hS ?_
            · rintro w ⟨q0, q1⟩
              go_simp
            simp only [Act.put, List.setIfInBounds_toArray, List.set_cons_zero, List.set_cons_succ]
            refine wpAnyH_take (i := 27) (oi := { dst := some 115, op := Go.Op.move (Go.Operand.tmp 114), type := 4, pos := "outright.go:69", after := #[{ on := 26, ground := Go.Ground.data }, { on := 23, ground := Go.Ground.chain }], guard := none }) (v := .bool true) rfl (by kernel_rfl) (by kernel_rfl) (by kernel_rfl) (fun _ _ _ h => h) (Or.inl ⟨by rfl, ?_⟩) hS ?_
            · rintro w ⟨q0, q1⟩
              go_simp
            simp only [Act.put, List.setIfInBounds_toArray, List.set_cons_zero, List.set_cons_succ]
            refine wpAnyH_ready (rs := [28]) (by kernel_rfl) (by simp) ?_
            refine AllReadyH.cons (o := { dst := some 116, op := Go.Op.call { callee := Go.Callee.value (Go.Operand.func 19), args := #[], argTypes := #[] }, type := 4, pos := "outright.go:69", after := #[{ on := 27, ground := Go.Ground.chain }, { on := 27, ground := Go.Ground.guard }], guard := some (27, true) }) rfl (fun K hK => ?_) AllReadyH.nil
            go_simp
            refine Calls.mono (started_true _) ?_
            rintro e wi ⟨rfl, hbi⟩
            have U6 : Hid _ := U5.out.go hbi
            clear hbi
            have hS := And.intro (U6.out.cell b (.slice ax nx cx)) (U6.out.cell (b + 1) (.slice ay ny cy))
            go_wp2_with fail
            refine hK.out _ _ hS (fun hHeld => ?_)
            clear hK K hHeld
            refine wpAnyH_take (i := 29) (oi := { dst := some 117, op := Go.Op.pick (Go.Operand.tmp 115) (Go.Operand.tmp 116) (Go.Operand.const (Go.Value.bool false)), type := 4, pos := "outright.go:69", after := #[{ on := 27, ground := Go.Ground.data }, { on := 28, ground := Go.Ground.data }], guard := none }) (v := .bool true) rfl (by kernel_rfl) (by kernel_rfl) (by kernel_rfl) (fun _ _ _ h => h) (Or.inl ⟨by rfl, ?_⟩) hS ?_
            · rintro w ⟨q0, q1⟩
              go_simp
            simp only [Act.put, List.setIfInBounds_toArray, List.set_cons_zero, List.set_cons_succ]
            refine wpAnyH_take (i := 30) (oi := { dst := some 4, op := Go.Op.assign (Go.Operand.tmp 117), type := 4, pos := "outright.go:69", after := #[{ on := 29, ground := Go.Ground.data }, { on := 28, ground := Go.Ground.chain }, { on := 0, ground := Go.Ground.phase }, { on := 1, ground := Go.Ground.phase }, { on := 2, ground := Go.Ground.phase }, { on := 3, ground := Go.Ground.phase }, { on := 4, ground := Go.Ground.phase }, { on := 5, ground := Go.Ground.phase }, { on := 6, ground := Go.Ground.phase }, { on := 7, ground := Go.Ground.phase }, { on := 8, ground := Go.Ground.phase }, { on := 9, ground := Go.Ground.phase }, { on := 10, ground := Go.Ground.phase }, { on := 11, ground := Go.Ground.phase }, { on := 12, ground := Go.Ground.phase }, { on := 13, ground := Go.Ground.phase }, { on := 14, ground := Go.Ground.phase }, { on := 15, ground := Go.Ground.phase }, { on := 16, ground := Go.Ground.phase }, { on := 17, ground := Go.Ground.phase }, { on := 18, ground := Go.Ground.phase }, { on := 19, ground := Go.Ground.phase }, { on := 20, ground := Go.Ground.phase }, { on := 21, ground := Go.Ground.phase }, { on := 22, ground := Go.Ground.phase }, { on := 23, ground := Go.Ground.phase }, { on := 24, ground := Go.Ground.phase }, { on := 25, ground := Go.Ground.phase }, { on := 26, ground := Go.Ground.phase }, { on := 27, ground := Go.Ground.phase }, { on := 28, ground := Go.Ground.phase }, { on := 29, ground := Go.Ground.phase }], guard := none }) (v := .bool true) rfl (by kernel_rfl) (by kernel_rfl) (by kernel_rfl) (fun _ _ _ h => h) (Or.inl ⟨by rfl, ?_⟩) hS ?_
            · rintro w ⟨q0, q1⟩
              go_simp
            simp only [Act.put, List.setIfInBounds_toArray, List.set_cons_zero, List.set_cons_succ]
            refine wpAnyH_done (by kernel_rfl) ?_ _
            go_wp2_with fail
            go_ret
            exact ⟨rfl, U6.out.bel⟩
          · go_simp
            refine hK.out _ _ hS (fun hHeld => ?_)
            clear hK K hHeld
            refine wpAnyH_ready (rs := [3]) (by kernel_rfl) (by simp) ?_
            refine AllReadyH.cons (o := { dst := some 91, op := Go.Op.convert 23 9 (Go.Operand.tmp 90), type := 9, pos := "outright.go:69", after := #[{ on := 2, ground := Go.Ground.data }], guard := none }) rfl (fun K hK => ?_) AllReadyH.nil
            skip
            go_simp
            refine hK.out _ _ hS (fun hHeld => ?_)
            clear hK K hHeld
            refine wpAnyH_take (i := 7) (oi := { dst := some 95, op := Go.Op.binOp Go.BinOp.eql 9 (Go.Operand.tmp 91) (Go.Operand.tmp 94) 9, type := 4, pos := "outright.go:69", after := #[{ on := 3, ground := Go.Ground.data }, { on := 6, ground := Go.Ground.data }], guard := none }) (v := .bool sm) rfl (by kernel_rfl) (by kernel_rfl) (by kernel_rfl) (fun _ _ _ h => h) (Or.inl ⟨by rfl, ?_⟩) hS ?_
            · rintro w ⟨q0, q1⟩
              go_simp
              exact str_sm HSM.out ⟨byteText_inj, fun e => by rw [e]⟩
            simp only [Act.put, List.setIfInBounds_toArray, List.set_cons_zero, List.set_cons_succ]
            refine wpAnyH_take (i := 8) (oi := { dst := some 96, op := Go.Op.binOp Go.BinOp.eql 4 (Go.Operand.tmp 88) (Go.Operand.tmp 95) 4, type := 4, pos := "outright.go:69", after := #[{ on := 0, ground := Go.Ground.data }, { on := 7, ground := Go.Ground.data }], guard := none }) (v := .bool true) rfl (by kernel_rfl) (by kernel_rfl) (by kernel_rfl) (fun _ _ _ h => h) (Or.inl ⟨by rfl, ?_⟩) hS ?_
            · rintro w ⟨q0, q1⟩
              go_simp
            simp only [Act.put, List.setIfInBounds_toArray, List.set_cons_zero, List.set_cons_succ]
            refine wpAnyH_take (i := 9) (oi := { dst := some 97, op := Go.Op.move (Go.Operand.tmp 96), type := 4, pos := "outright.go:69", after := #[{ on := 8, ground := Go.Ground.data }, { on := 5, ground := Go.Ground.chain }], guard := none }) (v := .bool true) rfl (by kernel_rfl) (by kernel_rfl) (by kernel_rfl) (fun _ _ _ h => h) (Or.inl ⟨by rfl, ?_⟩) hS ?_
            · rintro w ⟨q0, q1⟩
              go_simp
            simp only [Act.put, List.setIfInBounds_toArray, List.set_cons_zero, List.set_cons_succ]
            refine wpAnyH_take (i := 10) (oi := { dst := some 98, op := Go.Op.move (Go.Operand.tmp 11), type := 4, pos := "outright.go:69", after := #[{ on := 9, ground := Go.Ground.guard }], guard := some (9, true) }) (v := .bool sm) rfl (by kernel_rfl) (by kernel_rfl) (by kernel_rfl) (fun _ _ _ h => h) (Or.inl ⟨by rfl, ?_⟩) hS ?_
            · rintro w ⟨q0, q1⟩
              go_simp
            simp only [Act.put, List.setIfInBounds_toArray, List.set_cons_zero, List.set_cons_succ]
            refine wpAnyH_take (i := 11) (oi := { dst := some 99, op := Go.Op.move (Go.Operand.tmp 8), type := 9, pos := "outright.go:69", after := #[{ on := 9, ground := Go.Ground.guard }], guard := some (9, true) }) (v := .string s) rfl (by kernel_rfl) (by kernel_rfl) (by kernel_rfl) (fun _ _ _ h => h) (Or.inl ⟨by rfl, ?_⟩) hS ?_
            · rintro w ⟨q0, q1⟩
              go_simp
            simp only [Act.put, List.setIfInBounds_toArray, List.set_cons_zero, List.set_cons_succ]
            refine wpAnyH_take (i := 12) (oi := { dst := some 100, op := Go.Op.load 27 (Go.Operand.tmp 6), type := 27, pos := "outright.go:69", after := #[{ on := 9, ground := Go.Ground.guard }], guard := some (9, true) }) (v := .agg #[.slice ay ny cy]) rfl (by kernel_rfl) (by kernel_rfl) (by kernel_rfl) (fun _ _ _ h => h) (Or.inl ⟨by rfl, ?_⟩) hS ?_
            · rintro w ⟨q0, q1⟩
              go_simp
            simp only [Act.put, List.setIfInBounds_toArray, List.set_cons_zero, List.set_cons_succ]
            refine wpAnyH_ready (rs := [13]) (by kernel_rfl) (by simp) ?_
            refine AllReadyH.cons (o := { dst := some 101, op := Go.Op.call { callee := Go.Callee.value (Go.Operand.func 28), args := #[Go.Operand.tmp 100], argTypes := #[27] }, type := 9, pos := "outright.go:69", after := #[{ on := 12, ground := Go.Ground.data }, { on := 9, ground := Go.Ground.chain }, { on := 9, ground := Go.Ground.guard }], guard := some (9, true) }) rfl (fun K hK => ?_) AllReadyH.nil
            go_simp
            refine Calls.mono (text_any _ y _ (U2.out.at (.agg #[.slice ay ny cy]) y) M2.out.tx) ?_
            rintro e wf ⟨l, rfl, hl, hbf⟩
            have HT : Hid _ := HS.out.2.2.2.2.2 l hl
            generalize decText y l = s' at HT ⊢
            have U3 : Hid _ := U2.out.go hbf
            clear hbf hl
            have hS := And.intro (U3.out.cell b (.slice ax nx cx)) (U3.out.cell (b + 1) (.slice ay ny cy))
            go_wp2_with fail
            refine hK.out _ _ hS (fun hHeld => ?_)
            clear hK K hHeld
            refine wpAnyH_take (i := 14) (oi := { dst := some 102, op := Go.Op.binOp Go.BinOp.eql 9 (Go.Operand.tmp 99) (Go.Operand.tmp 101) 9, type := 4, pos := "outright.go:69", after := #[{ on := 11, ground := Go.Ground.data }, { on := 13, ground := Go.Ground.data }, { on := 9, ground := Go.Ground.guard }], guard := some (9, true) }) (v := .bool sm) rfl (by kernel_rfl) (by kernel_rfl) (by kernel_rfl) (fun _ _ _ h => h) (Or.inl ⟨by rfl, ?_⟩) hS ?_
            · rintro w ⟨q0, q1⟩
              go_simp
              exact str_sm HSM.out HT.out
            simp only [Act.put, List.setIfInBounds_toArray, List.set_cons_zero, List.set_cons_succ]
            refine wpAnyH_take (i := 15) (oi := { dst := some 103, op := Go.Op.binOp Go.BinOp.eql 4 (Go.Operand.tmp 98) (Go.Operand.tmp 102) 4, type := 4, pos := "outright.go:69", after := #[{ on := 10, ground := Go.Ground.data }, { on := 14, ground := Go.Ground.data }, { on := 9, ground := Go.Ground.guard }], guard := some (9, true) }) (v := .bool true) rfl (by kernel_rfl) (by kernel_rfl) (by kernel_rfl) (fun _ _ _ h => h) (Or.inl ⟨by rfl, ?_⟩) hS ?_
            · rintro w ⟨q0, q1⟩
              go_simp
            simp only [Act.put, List.setIfInBounds_toArray, List.set_cons_zero, List.set_cons_succ]
            refine wpAnyH_take (i := 16) (oi := { dst := some 104, op := Go.Op.pick (Go.Operand.tmp 97) (Go.Operand.tmp 103) (Go.Operand.const (Go.Value.bool false)), type := 4, pos := "outright.go:69", after := #[{ on := 9, ground := Go.Ground.data }, { on := 15, ground := Go.Ground.data }], guard := none }) (v := .bool true) rfl (by kernel_rfl) (by kernel_rfl) (by kernel_rfl) (fun _ _ _ h => h) (Or.inl ⟨by rfl, ?_⟩) hS ?_
            · rintro w ⟨q0, q1⟩
              go_simp
            simp only [Act.put, List.setIfInBounds_toArray, List.set_cons_zero, List.set_cons_succ]
            refine wpAnyH_take (i := 17) (oi := { dst := some 105, op := Go.Op.move (Go.Operand.tmp 104), type := 4, pos := "outright.go:69", after := #[{ on := 16, ground := Go.Ground.data }, { on := 13, ground := Go.Ground.chain }], guard := none }) (v := .bool true) rfl (by kernel_rfl) (by kernel_rfl) (by kernel_rfl) (fun _ _ _ h => h) (Or.inl ⟨by rfl, ?_⟩) hS ?_
            · rintro w ⟨q0, q1⟩
              go_simp
            simp only [Act.put, List.setIfInBounds_toArray, List.set_cons_zero, List.set_cons_succ]
            refine wpAnyH_take (i := 18) (oi := { dst := some 106, op := Go.Op.load 27 (Go.Operand.tmp 5), type := 27, pos := "outright.go:69", after := #[{ on := 17, ground := Go.Ground.guard }], guard := some (17, true) }) (v := .agg #[.slice ax nx cx]) rfl (by kernel_rfl) (by kernel_rfl) (by kernel_rfl) (fun _ _ _ h => h) (Or.inl ⟨by rfl, ?_⟩) hS ?_
            · rintro w ⟨q0, q1⟩
              go_simp
            simp only [Act.put, List.setIfInBounds_toArray, List.set_cons_zero, List.set_cons_succ]
            refine wpAnyH_take (i := 19) (oi := { dst := some 107, op := Go.Op.load 27 (Go.Operand.tmp 6), type := 27, pos := "outright.go:69", after := #[{ on := 17, ground := Go.Ground.guard }], guard := some (17, true) }) (v := .agg #[.slice ay ny cy]) rfl (by kernel_rfl) (by kernel_rfl) (by kernel_rfl) (fun _ _ _ h => h) (Or.inl ⟨by rfl, ?_⟩) hS ?_
            · rintro w ⟨q0, q1⟩
              go_simp
            simp only [Act.put, List.setIfInBounds_toArray, List.set_cons_zero, List.set_cons_succ]
            refine wpAnyH_take (i := 21) (oi := { dst := some 109, op := Go.Op.load 27 (Go.Operand.tmp 6), type := 27, pos := "outright.go:69", after := #[{ on := 17, ground := Go.Ground.guard }], guard := some (17, true) }) (v := .agg #[.slice ay ny cy]) rfl (by kernel_rfl) (by kernel_rfl) (by kernel_rfl) (fun _ _ _ h => h) (Or.inl ⟨by rfl, ?_⟩) hS ?_
            · rintro w ⟨q0, q1⟩
              go_simp
            simp only [Act.put, List.setIfInBounds_toArray, List.set_cons_zero, List.set_cons_succ]
            refine wpAnyH_take (i := 22) (oi := { dst := some 110, op := Go.Op.load 27 (Go.Operand.tmp 5), type := 27, pos := "outright.go:69", after := #[{ on := 17, ground := Go.Ground.guard }], guard := some (17, true) }) (v := .agg #[.slice ax nx cx]) rfl (by kernel_rfl) (by kernel_rfl) (by kernel_rfl) (fun _ _ _ h => h) (Or.inl ⟨by rfl, ?_⟩) hS ?_
            · rintro w ⟨q0, q1⟩
              go_simp
            simp only [Act.put, List.setIfInBounds_toArray, List.set_cons_zero, List.set_cons_succ]
            refine wpAnyH_ready (rs := [20]) (by kernel_rfl) (by simp) ?_
            refine AllReadyH.cons (o := { dst := some 108, op := Go.Op.call { callee := Go.Callee.value (Go.Operand.func 26), args := #[Go.Operand.tmp 106, Go.Operand.tmp 107], argTypes := #[27, 27] }, type := 3, pos := "outright.go:69", after := #[{ on := 18, ground := Go.Ground.data }, { on := 19, ground := Go.Ground.data }, { on := 17, ground := Go.Ground.chain }, { on := 17, ground := Go.Ground.guard }], guard := some (17, true) }) rfl (fun K hK => ?_) AllReadyH.nil
            go_simp
            refine Calls.mono (cmp_any _ _ x y _ (U3.out.at (.agg #[.slice ax nx cx]) x) (U3.out.at (.agg #[.slice ay ny cy]) y) M1.out.1.fits M2.out.fits) ?_
            rintro e wg ⟨rfl, hbg⟩
            have U4 : Hid _ := U3.out.go hbg
            clear hbg
            have hS := And.intro (U4.out.cell b (.slice ax nx cx)) (U4.out.cell (b + 1) (.slice ay ny cy))
            go_wp2_with fail
            refine hK.out _ _ hS (fun hHeld => ?_)
            clear hK K hHeld
            refine wpAnyH_ready (rs := [23]) (by kernel_rfl) (by simp) ?_
            refine AllReadyH.cons (o := { dst := some 111, op := Go.Op.call { callee := Go.Callee.value (Go.Operand.func 26), args := #[Go.Operand.tmp 109, Go.Operand.tmp 110], argTypes := #[27, 27] }, type := 3, pos := "outright.go:69", after := #[{ on := 21, ground := Go.Ground.data }, { on := 22, ground := Go.Ground.data }, { on := 20, ground := Go.Ground.chain }, { on := 17, ground := Go.Ground.guard }], guard := some (17, true) }) rfl (fun K hK => ?_) AllReadyH.nil
            go_simp
            refine Calls.mono (cmp_any _ _ y x _ (U4.out.at (.agg #[.slice ay ny cy]) y) (U4.out.at (.agg #[.slice ax nx cx]) x) M2.out.fits M1.out.1.fits) ?_
            rintro e wh ⟨rfl, hbh⟩
            have U5 : Hid _ := U4.out.go hbh
            clear hbh
            have hS := And.intro (U5.out.cell b (.slice ax nx cx)) (U5.out.cell (b + 1) (.slice ay ny cy))
            go_wp2_with fail
            refine hK.out _ _ hS (fun hHeld => ?_)
            clear hK K hHeld
            refine wpAnyH_take (i := 24) (oi := { dst := some 112, op := Go.Op.unOp Go.UnOp.neg 3 (Go.Operand.tmp 111), type := 3, pos := "outright.go:69", after := #[{ on := 23, ground := Go.Ground.data }, { on := 17, ground := Go.Ground.guard }], guard := some (17, true) }) (v := .int .i64 (cmpI x y)) rfl (by kernel_rfl) (by kernel_rfl) (by kernel_rfl) (fun _ _ _ h => h) (Or.inl ⟨by rfl, ?_⟩) hS ?_
            · rintro w ⟨q0, q1⟩
              go_simp
              exact wrap_neg x y
            simp only [Act.put, List.setIfInBounds_toArray, List.set_cons_zero, List.set_cons_succ]
            refine wpAnyH_take (i := 25) (oi := { dst := some 113, op := Go.Op.binOp Go.BinOp.eql 3 (Go.Operand.tmp 108) (Go.Operand.tmp 112) 3, type := 4, pos := "outright.go:69", after := #[{ on := 20, ground := Go.Ground.data }, { on := 24, ground := Go.Ground.data }, { on := 17, ground := Go.Ground.guard }], guard := some (17, true) }) (v := .bool true) rfl (by kernel_rfl) (by kernel_rfl) (by kernel_rfl) (fun _ _ _ h => h) (Or.inl ⟨by rfl, ?_⟩) hS ?_
            · rintro w ⟨q0, q1⟩
              go_simp
            simp only [Act.put, List.setIfInBounds_toArray, List.set_cons_zero, List.set_cons_succ]
            refine wpAnyH_take (i := 26) (oi := { dst := some 114, op := Go.Op.pick (Go.Operand.tmp 105) (Go.Operand.tmp 113) (Go.Operand.const (Go.Value.bool false)), type := 4, pos := "outright.go:69", after := #[{ on := 17, ground := Go.Ground.data }, { on := 25, ground := Go.Ground.data }], guard := none }) (v := .bool true) rfl (by kernel_rfl) (by kernel_rfl) (by kernel_rfl) (fun _ _ _ h => h) (Or.inl ⟨by rfl, ?_⟩) hS ?_
            · rintro w ⟨q0, q1⟩
              go_simp
            simp only [Act.put, List.setIfInBounds_toArray, List.set_cons_zero, List.set_cons_succ]
            refine wpAnyH_take (i := 27) (oi := { dst := some 115, op := Go.Op.move (Go.Operand.tmp 114), type := 4, pos := "outright.go:69", after := #[{ on := 26, ground := Go.Ground.data }, { on := 23, ground := Go.Ground.chain }], guard := none }) (v := .bool true) rfl (by kernel_rfl) (by kernel_rfl) (by kernel_rfl) (fun _ _ _ h => h) (Or.inl ⟨by rfl, ?_⟩) hS ?_
            · rintro w ⟨q0, q1⟩
              go_simp
            simp only [Act.put, List.setIfInBounds_toArray, List.set_cons_zero, List.set_cons_succ]
            refine wpAnyH_ready (rs := [28]) (by kernel_rfl) (by simp) ?_
            refine AllReadyH.cons (o := { dst := some 116, op := Go.Op.call { callee := Go.Callee.value (Go.Operand.func 19), args := #[], argTypes := #[] }, type := 4, pos := "outright.go:69", after := #[{ on := 27, ground := Go.Ground.chain }, { on := 27, ground := Go.Ground.guard }], guard := some (27, true) }) rfl (fun K hK => ?_) AllReadyH.nil
            go_simp
            refine Calls.mono (started_true _) ?_
            rintro e wi ⟨rfl, hbi⟩
            have U6 : Hid _ := U5.out.go hbi
            clear hbi
            have hS := And.intro (U6.out.cell b (.slice ax nx cx)) (U6.out.cell (b + 1) (.slice ay ny cy))
            go_wp2_with fail
            refine hK.out _ _ hS (fun hHeld => ?_)
            clear hK K hHeld
            refine wpAnyH_take (i := 29) (oi := { dst := some 117, op := Go.Op.pick (Go.Operand.tmp 115) (Go.Operand.tmp 116) (Go.Operand.const (Go.Value.bool false)), type := 4, pos := "outright.go:69", after := #[{ on := 27, ground := Go.Ground.data }, { on := 28, ground := Go.Ground.data }], guard := none }) (v := .bool true) rfl (by kernel_rfl) (by kernel_rfl) (by kernel_rfl) (fun _ _ _ h => h) (Or.inl ⟨by rfl, ?_⟩) hS ?_
            · rintro w ⟨q0, q1⟩
              go_simp
            simp only [Act.put, List.setIfInBounds_toArray, List.set_cons_zero, List.set_cons_succ]
            refine wpAnyH_take (i := 30) (oi := { dst := some 4, op := Go.Op.assign (Go.Operand.tmp 117), type := 4, pos := "outright.go:69", after := #[{ on := 29, ground := Go.Ground.data }, { on := 28, ground := Go.Ground.chain }, { on := 0, ground := Go.Ground.phase }, { on := 1, ground := Go.Ground.phase }, { on := 2, ground := Go.Ground.phase }, { on := 3, ground := Go.Ground.phase }, { on := 4, ground := Go.Ground.phase }, { on := 5, ground := Go.Ground.phase }, { on := 6, ground := Go.Ground.phase }, { on := 7, ground := Go.Ground.phase }, { on := 8, ground := Go.Ground.phase }, { on := 9, ground := Go.Ground.phase }, { on := 10, ground := Go.Ground.phase }, { on := 11, ground := Go.Ground.phase }, { on := 12, ground := Go.Ground.phase }, { on := 13, ground := Go.Ground.phase }, { on := 14, ground := Go.Ground.phase }, { on := 15, ground := Go.Ground.phase }, { on := 16, ground := Go.Ground.phase }, { on := 17, ground := Go.Ground.phase }, { on := 18, ground := Go.Ground.phase }, { on := 19, ground := Go.Ground.phase }, { on := 20, ground := Go.Ground.phase }, { on := 21, ground := Go.Ground.phase }, { on := 22, ground := Go.Ground.phase }, { on := 23, ground := Go.Ground.phase }, { on := 24, ground := Go.Ground.phase }, { on := 25, ground := Go.Ground.phase }, { on := 26, ground := Go.Ground.phase }, { on := 27, ground := Go.Ground.phase }, { on := 28, ground := Go.Ground.phase }, { on := 29, ground := Go.Ground.phase }], guard := none }) (v := .bool true) rfl (by kernel_rfl) (by kernel_rfl) (by kernel_rfl) (fun _ _ _ h => h) (Or.inl ⟨by rfl, ?_⟩) hS ?_
            · rintro w ⟨q0, q1⟩
              go_simp
            simp only [Act.put, List.setIfInBounds_toArray, List.set_cons_zero, List.set_cons_succ]
            refine wpAnyH_done (by kernel_rfl) ?_ _
            go_wp2_with fail
            go_ret
            exact ⟨rfl, U6.out.bel⟩
      · refine (parse_digits s x _ (by omega) (by omega) (by rw [hsz]; exact HS.out.2.1) (by rw [hsz]; exact HS.out.2.2.1)).mono ?_
        rintro e wp ⟨vp, rfl, hvp, hbp⟩
        obtain ⟨ap, np, cp, rfl⟩ := hvp.isAgg
        have SP : Hid _ := ((ST.out.go hbp).nat hvp).box (.slice ap np cp) 27 _ rfl
        clear hvp hbp ST c1
        have c0 := SP.out.cell b (.slice ax nx cx)
        have hk4 : decide ((k : Int) ≤ 400) = true := decide_eq_true (by omega)
        go_wp2_with fail
        obtain ⟨wq, hwq⟩ : ∃ wq, wq = wp.alloc (Obj.cells #[Value.slice ap np cp] 27) := ⟨_, rfl⟩
        rw [← hwq] at SP c0 ⊢
        clear hwq
        refine (eq_true _ _ x _ (SP.out.at (.agg #[.slice ap np cp]) x) (SP.out.at (.agg #[.slice ax nx cx]) x) M1.out.1.tx).mono ?_
        rintro e wr ⟨rfl, hbr⟩
        have SR : Hid _ := SP.out.go hbr
        clear hbr SP c0
        have c0 := SR.out.cell b (.slice ax nx cx)
        have c1 := SR.out.cell (b + 1) (.slice ay ny cy)
        have hk5 : decide ((1 : Int) < (k : Int)) = true := decide_eq_true (by omega)
        have hc48 := sb_at (s := s) (i := 0) (by omega)
        have hc49 : (((sb s 0 : Nat) : Int) == 48) = false := beq_eq_false_iff_ne.2 (by have := HS.out.2.2.2.2.1 (by omega); omega)
        go_wp2_with fail
        refine (cmp_any _ _ x y _ (SR.out.at (.agg #[.slice ax nx cx]) x) (SR.out.at (.agg #[.slice ay ny cy]) y) M1.out.1.fits M2.out.fits).mono ?_
        rintro e wc0 ⟨rfl, hbc⟩
        have U0 : Hid _ := SR.out.go hbc
        clear hbc SR c0 c1
        have c0 := U0.out.cell b (.slice ax nx cx)
        have c1 := U0.out.cell (b + 1) (.slice ay ny cy)
        go_wp2_with fail
        generalize hsm : (cmpI x y == 0) = sm
        have HSM : Hid _ := hsm
        clear hsm
        refine wp_region_held_drew (S := fun w' => w'.cell? ⟨b, 0, none⟩ = some (.slice ax nx cx) ∧ w'.cell? ⟨b + 1, 0, none⟩ = some (.slice ay ny cy)) (by kernel_rfl) ⟨c0, c1⟩ (fun hS => ?_)
        refine wpAnyH_take (i := 0) (oi := { dst := some 88, op := Go.Op.move (Go.Operand.tmp 11), type := 4, pos := "outright.go:69", after := #[], guard := none }) (v := .bool sm) rfl (by kernel_rfl) (by kernel_rfl) (by kernel_rfl) (fun _ _ _ h => h) (Or.inl ⟨by rfl, ?_⟩) hS ?_
        · rintro w ⟨q0, q1⟩
          go_simp
        simp only [Act.put, List.setIfInBounds_toArray, List.set_cons_zero, List.set_cons_succ]
        refine wpAnyH_take (i := 1) (oi := { dst := some 89, op := Go.Op.load 27 (Go.Operand.tmp 5), type := 27, pos := "outright.go:69", after := #[], guard := none }) (v := .agg #[.slice ax nx cx]) rfl (by kernel_rfl) (by kernel_rfl) (by kernel_rfl) (fun _ _ _ h => h) (Or.inl ⟨by rfl, ?_⟩) hS ?_
        · rintro w ⟨q0, q1⟩
          go_simp
        simp only [Act.put, List.setIfInBounds_toArray, List.set_cons_zero, List.set_cons_succ]
        refine wpAnyH_take (i := 4) (oi := { dst := some 92, op := Go.Op.load 27 (Go.Operand.tmp 6), type := 27, pos := "outright.go:69", after := #[], guard := none }) (v := .agg #[.slice ay ny cy]) rfl (by kernel_rfl) (by kernel_rfl) (by kernel_rfl) (fun _ _ _ h => h) (Or.inl ⟨by rfl, ?_⟩) hS ?_
        · rintro w ⟨q0, q1⟩
          go_simp
        simp only [Act.put, List.setIfInBounds_toArray, List.set_cons_zero, List.set_cons_succ]
        refine wpAnyH_ready (rs := [2]) (by kernel_rfl) (by simp) ?_
        refine AllReadyH.cons (o := { dst := some 90, op := Go.Op.call { callee := Go.Callee.value (Go.Operand.func 27), args := #[Go.Operand.tmp 89], argTypes := #[27] }, type := 23, pos := "outright.go:69", after := #[{ on := 1, ground := Go.Ground.data }], guard := none }) rfl (fun K hK => ?_) AllReadyH.nil
        go_simp
        refine Calls.mono (bytes_any _ x _ (U0.out.at (.agg #[.slice ax nx cx]) x) M1.out.1.fits) ?_
        rintro e wd ⟨gd, rfl, hgd, hRd, hbd⟩
        have U1 : Hid _ := U0.out.god hbd
        have RX : Hid (BRow wd gd (byteLen x) (fun i => byteAt x (byteLen x - 1 - i))) := hRd
        have cvx := conv_b hRd
        clear hgd hRd hbd
        have hS := And.intro (U1.out.cell b (.slice ax nx cx)) (U1.out.cell (b + 1) (.slice ay ny cy))
        go_wp2_with fail
        refine hK.out _ _ hS (fun hHeld => ?_)
        clear hK K hHeld
        refine wpAnyH_ready (rs := [3, 5]) (by kernel_rfl) (by simp) ?_
        refine AllReadyH.cons (o := { dst := some 91, op := Go.Op.convert 23 9 (Go.Operand.tmp 90), type := 9, pos := "outright.go:69", after := #[{ on := 2, ground := Go.Ground.data }], guard := none }) rfl (fun K hK => ?_) (AllReadyH.cons (o := { dst := some 93, op := Go.Op.call { callee := Go.Callee.value (Go.Operand.func 27), args := #[Go.Operand.tmp 92], argTypes := #[27] }, type := 23, pos := "outright.go:69", after := #[{ on := 4, ground := Go.Ground.data }, { on := 2, ground := Go.Ground.chain }], guard := none }) rfl (fun K hK => ?_) AllReadyH.nil)
        · go_simp
          refine hK.out _ _ hS (fun hHeld => ?_)
          clear hK K hHeld
          refine wpAnyH_ready (rs := [5]) (by kernel_rfl) (by simp) ?_
          refine AllReadyH.cons (o := { dst := some 93, op := Go.Op.call { callee := Go.Callee.value (Go.Operand.func 27), args := #[Go.Operand.tmp 92], argTypes := #[27] }, type := 23, pos := "outright.go:69", after := #[{ on := 4, ground := Go.Ground.data }, { on := 2, ground := Go.Ground.chain }], guard := none }) rfl (fun K hK => ?_) AllReadyH.nil
          go_simp
          refine Calls.mono (bytes_any _ y _ (U1.out.at (.agg #[.slice ay ny cy]) y) M2.out.fits) ?_
          rintro e we ⟨ge, rfl, hge, hRe, hbe⟩
          have U2 : Hid _ := U1.out.go hbe
          have cvx2 := conv_b (BRow.below RX.out hbe)
          have cvy := conv_b hRe
          clear hge hRe hbe
          have hS := And.intro (U2.out.cell b (.slice ax nx cx)) (U2.out.cell (b + 1) (.slice ay ny cy))
          go_wp2_with fail
          refine hK.out _ _ hS (fun hHeld => ?_)
          clear hK K hHeld
          refine wpAnyH_ready (rs := [6]) (by kernel_rfl) (by simp) ?_
          refine AllReadyH.cons (o := { dst := some 94, op := Go.Op.convert 23 9 (Go.Operand.tmp 93), type := 9, pos := "outright.go:69", after := #[{ on := 5, ground := Go.Ground.data }], guard := none }) rfl (fun K hK => ?_) AllReadyH.nil
          skip
          go_simp
          refine hK.out _ _ hS (fun hHeld => ?_)
          clear hK K hHeld
          refine wpAnyH_take (i := 7) (oi := { dst := some 95, op := Go.Op.binOp Go.BinOp.eql 9 (Go.Operand.tmp 91) (Go.Operand.tmp 94) 9, type := 4, pos := "outright.go:69", after := #[{ on := 3, ground := Go.Ground.data }, { on := 6, ground := Go.Ground.data }], guard := none }) (v := .bool sm) rfl (by kernel_rfl) (by kernel_rfl) (by kernel_rfl) (fun _ _ _ h => h) (Or.inl ⟨by rfl, ?_⟩) hS ?_
          · rintro w ⟨q0, q1⟩
            go_simp
            exact str_sm HSM.out ⟨byteText_inj, fun e => by rw [e]⟩
          simp only [Act.put, List.setIfInBounds_toArray, List.set_cons_zero, List.set_cons_succ]
          refine wpAnyH_take (i := 8) (oi := { dst := some 96, op := Go.Op.binOp Go.BinOp.eql 4 (Go.Operand.tmp 88) (Go.Operand.tmp 95) 4, type := 4, pos := "outright.go:69", after := #[{ on := 0, ground := Go.Ground.data }, { on := 7, ground := Go.Ground.data }], guard := none }) (v := .bool true) rfl (by kernel_rfl) (by kernel_rfl) (by kernel_rfl) (fun _ _ _ h => h) (Or.inl ⟨by rfl, ?_⟩) hS ?_
          · rintro w ⟨q0, q1⟩
            go_simp
          simp only [Act.put, List.setIfInBounds_toArray, List.set_cons_zero, List.set_cons_succ]
          refine wpAnyH_take (i := 9) (oi := { dst := some 97, op := Go.Op.move (Go.Operand.tmp 96), type := 4, pos := "outright.go:69", after := #[{ on := 8, ground := Go.Ground.data }, { on := 5, ground := Go.Ground.chain }], guard := none }) (v := .bool true) rfl (by kernel_rfl) (by kernel_rfl) (by kernel_rfl) (fun _ _ _ h => h) (Or.inl ⟨by rfl, ?_⟩) hS ?_
          · rintro w ⟨q0, q1⟩
            go_simp
          simp only [Act.put, List.setIfInBounds_toArray, List.set_cons_zero, List.set_cons_succ]
          refine wpAnyH_take (i := 10) (oi := { dst := some 98, op := Go.Op.move (Go.Operand.tmp 11), type := 4, pos := "outright.go:69", after := #[{ on := 9, ground := Go.Ground.guard }], guard := some (9, true) }) (v := .bool sm) rfl (by kernel_rfl) (by kernel_rfl) (by kernel_rfl) (fun _ _ _ h => h) (Or.inl ⟨by rfl, ?_⟩) hS ?_
          · rintro w ⟨q0, q1⟩
            go_simp
          simp only [Act.put, List.setIfInBounds_toArray, List.set_cons_zero, List.set_cons_succ]
          refine wpAnyH_take (i := 11) (oi := { dst := some 99, op := Go.Op.move (Go.Operand.tmp 8), type := 9, pos := "outright.go:69", after := #[{ on := 9, ground := Go.Ground.guard }], guard := some (9, true) }) (v := .string s) rfl (by kernel_rfl) (by kernel_rfl) (by kernel_rfl) (fun _ _ _ h => h) (Or.inl ⟨by rfl, ?_⟩) hS ?_
          · rintro w ⟨q0, q1⟩
            go_simp
          simp only [Act.put, List.setIfInBounds_toArray, List.set_cons_zero, List.set_cons_succ]
          refine wpAnyH_take (i := 12) (oi := { dst := some 100, op := Go.Op.load 27 (Go.Operand.tmp 6), type := 27, pos := "outright.go:69", after := #[{ on := 9, ground := Go.Ground.guard }], guard := some (9, true) }) (v := .agg #[.slice ay ny cy]) rfl (by kernel_rfl) (by kernel_rfl) (by kernel_rfl) (fun _ _ _ h => h) (Or.inl ⟨by rfl, ?_⟩) hS ?_
          · rintro w ⟨q0, q1⟩
            go_simp
          simp only [Act.put, List.setIfInBounds_toArray, List.set_cons_zero, List.set_cons_succ]
          refine wpAnyH_ready (rs := [13]) (by kernel_rfl) (by simp) ?_
          refine AllReadyH.cons (o := { dst := some 101, op := Go.Op.call { callee := Go.Callee.value (Go.Operand.func 28), args := #[Go.Operand.tmp 100], argTypes := #[27] }, type := 9, pos := "outright.go:69", after := #[{ on := 12, ground := Go.Ground.data }, { on := 9, ground := Go.Ground.chain }, { on := 9, ground := Go.Ground.guard }], guard := some (9, true) }) rfl (fun K hK => ?_) AllReadyH.nil
          go_simp
          refine Calls.mono (text_any _ y _ (U2.out.at (.agg #[.slice ay ny cy]) y) M2.out.tx) ?_
          rintro e wf ⟨l, rfl, hl, hbf⟩
          have HT : Hid _ := HS.out.2.2.2.2.2 l hl
          generalize decText y l = s' at HT ⊢
          have U3 : Hid _ := U2.out.go hbf
          clear hbf hl
          have hS := And.intro (U3.out.cell b (.slice ax nx cx)) (U3.out.cell (b + 1) (.slice ay ny cy))
          go_wp2_with fail
          refine hK.out _ _ hS (fun hHeld => ?_)
          clear hK K hHeld
          refine wpAnyH_take (i := 14) (oi := { dst := some 102, op := Go.Op.binOp Go.BinOp.eql 9 (Go.Operand.tmp 99) (Go.Operand.tmp 101) 9, type := 4, pos := "outright.go:69", after := #[{ on := 11, ground := Go.Ground.data }, { on := 13, ground := Go.Ground.data }, { on := 9, ground := Go.Ground.guard }], guard := some (9, true) }) (v := .bool sm) rfl (by kernel_rfl) (by kernel_rfl) (by kernel_rfl) (fun _ _ _ h => h) (Or.inl ⟨by rfl, ?_⟩) hS ?_
          · rintro w ⟨q0, q1⟩
            go_simp
            exact str_sm HSM.out HT.out
          simp only [Act.put, List.setIfInBounds_toArray, List.set_cons_zero, List.set_cons_succ]
          refine wpAnyH_take (i := 15) (oi := { dst := some 103, op := Go.Op.binOp Go.BinOp.eql 4 (Go.Operand.tmp 98) (Go.Operand.tmp 102) 4, type := 4, pos := "outright.go:69", after := #[{ on := 10, ground := Go.Ground.data }, { on := 14, ground := Go.Ground.data }, { on := 9, ground := Go.Ground.guard }], guard := some (9, true) }) (v := .bool true) rfl (by kernel_rfl) (by kernel_rfl) (by kernel_rfl) (fun _ _ _ h => h) (Or.inl ⟨by rfl, ?_⟩) hS ?_
          · rintro w ⟨q0, q1⟩
            go_simp
          simp only [Act.put, List.setIfInBounds_toArray, List.set_cons_zero, List.set_cons_succ]
          refine wpAnyH_take (i := 16) (oi := { dst := some 104, op := Go.Op.pick (Go.Operand.tmp 97) (Go.Operand.tmp 103) (Go.Operand.const (Go.Value.bool false)), type := 4, pos := "outright.go:69", after := #[{ on := 9, ground := Go.Ground.data }, { on := 15, ground := Go.Ground.data }], guard := none }) (v := .bool true) rfl (by kernel_rfl) (by kernel_rfl) (by kernel_rfl) (fun _ _ _ h => h) (Or.inl ⟨by rfl, ?_⟩) hS ?_
          · rintro w ⟨q0, q1⟩
            go_simp
          simp only [Act.put, List.setIfInBounds_toArray, List.set_cons_zero, List.set_cons_succ]
          refine wpAnyH_take (i := 17) (oi := { dst := some 105, op := Go.Op.move (Go.Operand.tmp 104), type := 4, pos := "outright.go:69", after := #[{ on := 16, ground := Go.Ground.data }, { on := 13, ground := Go.Ground.chain }], guard := none }) (v := .bool true) rfl (by kernel_rfl) (by kernel_rfl) (by kernel_rfl) (fun _ _ _ h => h) (Or.inl ⟨by rfl, ?_⟩) hS ?_
          · rintro w ⟨q0, q1⟩
            go_simp
          simp only [Act.put, List.setIfInBounds_toArray, List.set_cons_zero, List.set_cons_succ]
          refine wpAnyH_take (i := 18) (oi := { dst := some 106, op := Go.Op.load 27 (Go.Operand.tmp 5), type := 27, pos := "outright.go:69", after := #[{ on := 17, ground := Go.Ground.guard }], guard := some (17, true) }) (v := .agg #[.slice ax nx cx]) rfl (by kernel_rfl) (by kernel_rfl) (by kernel_rfl) (fun _ _ _ h => h) (Or.inl ⟨by rfl, ?_⟩) hS ?_
          · rintro w ⟨q0, q1⟩
            go_simp
          simp only [Act.put, List.setIfInBounds_toArray, List.set_cons_zero, List.set_cons_succ]
          refine wpAnyH_take (i := 19) (oi := { dst := some 107, op := Go.Op.load 27 (Go.Operand.tmp 6), type := 27, pos := "outright.go:69", after := #[{ on := 17, ground := Go.Ground.guard }], guard := some (17, true) }) (v := .agg #[.slice ay ny cy]) rfl (by kernel_rfl) (by kernel_rfl) (by kernel_rfl) (fun _ _ _ h => h) (Or.inl ⟨by rfl, ?_⟩) hS ?_
          · rintro w ⟨q0, q1⟩
            go_simp
          simp only [Act.put, List.setIfInBounds_toArray, List.set_cons_zero, List.set_cons_succ]
          refine wpAnyH_take (i := 21) (oi := { dst := some 109, op := Go.Op.load 27 (Go.Operand.tmp 6), type := 27, pos := "outright.go:69", after := #[{ on := 17, ground := Go.Ground.guard }], guard := some (17, true) }) (v := .agg #[.slice ay ny cy]) rfl (by kernel_rfl) (by kernel_rfl) (by kernel_rfl) (fun _ _ _ h => h) (Or.inl ⟨by rfl, ?_⟩) hS ?_
          · rintro w ⟨q0, q1⟩
            go_simp
          simp only [Act.put, List.setIfInBounds_toArray, List.set_cons_zero, List.set_cons_succ]
          refine wpAnyH_take (i := 22) (oi := { dst := some 110, op := Go.Op.load 27 (Go.Operand.tmp 5), type := 27, pos := "outright.go:69", after := #[{ on := 17, ground := Go.Ground.guard }], guard := some (17, true) }) (v := .agg #[.slice ax nx cx]) rfl (by kernel_rfl) (by kernel_rfl) (by kernel_rfl) (fun _ _ _ h => h) (Or.inl ⟨by rfl, ?_⟩) hS ?_
          · rintro w ⟨q0, q1⟩
            go_simp
          simp only [Act.put, List.setIfInBounds_toArray, List.set_cons_zero, List.set_cons_succ]
          refine wpAnyH_ready (rs := [20]) (by kernel_rfl) (by simp) ?_
          refine AllReadyH.cons (o := { dst := some 108, op := Go.Op.call { callee := Go.Callee.value (Go.Operand.func 26), args := #[Go.Operand.tmp 106, Go.Operand.tmp 107], argTypes := #[27, 27] }, type := 3, pos := "outright.go:69", after := #[{ on := 18, ground := Go.Ground.data }, { on := 19, ground := Go.Ground.data }, { on := 17, ground := Go.Ground.chain }, { on := 17, ground := Go.Ground.guard }], guard := some (17, true) }) rfl (fun K hK => ?_) AllReadyH.nil
          go_simp
          refine Calls.mono (cmp_any _ _ x y _ (U3.out.at (.agg #[.slice ax nx cx]) x) (U3.out.at (.agg #[.slice ay ny cy]) y) M1.out.1.fits M2.out.fits) ?_
          rintro e wg ⟨rfl, hbg⟩
          have U4 : Hid _ := U3.out.go hbg
          clear hbg
          have hS := And.intro (U4.out.cell b (.slice ax nx cx)) (U4.out.cell (b + 1) (.slice ay ny cy))
          go_wp2_with fail
          refine hK.out _ _ hS (fun hHeld => ?_)
          clear hK K hHeld
          refine wpAnyH_ready (rs := [23]) (by kernel_rfl) (by simp) ?_
          refine AllReadyH.cons (o := { dst := some 111, op := Go.Op.call { callee := Go.Callee.value (Go.Operand.func 26), args := #[Go.Operand.tmp 109, Go.Operand.tmp 110], argTypes := #[27, 27] }, type := 3, pos := "outright.go:69", after := #[{ on := 21, ground := Go.Ground.data }, { on := 22, ground := Go.Ground.data }, { on := 20, ground := Go.Ground.chain }, { on := 17, ground := Go.Ground.guard }], guard := some (17, true) }) rfl (fun K hK => ?_) AllReadyH.nil
          go_simp
          refine Calls.mono (cmp_any _ _ y x _ (U4.out.at (.agg #[.slice ay ny cy]) y) (U4.out.at (.agg #[.slice ax nx cx]) x) M2.out.fits M1.out.1.fits) ?_
          rintro e wh ⟨rfl, hbh⟩
          have U5 : Hid _ := U4.out.go hbh
          clear hbh
          have hS := And.intro (U5.out.cell b (.slice ax nx cx)) (U5.out.cell (b + 1) (.slice ay ny cy))
          go_wp2_with fail
          refine hK.out _ _ hS (fun hHeld => ?_)
          clear hK K hHeld
          refine wpAnyH_take (i := 24) (oi := { dst := some 112, op := Go.Op.unOp Go.UnOp.neg 3 (Go.Operand.tmp 111), type := 3, pos := "outright.go:69", after := #[{ on := 23, ground := Go.Ground.data }, { on := 17, ground := Go.Ground.guard }], guard := some (17, true) }) (v := .int .i64 (cmpI x y)) rfl (by kernel_rfl) (by kernel_rfl) (by kernel_rfl) (fun _ _ _ h => h) (Or.inl ⟨by rfl, ?_⟩) hS ?_
          · rintro w ⟨q0, q1⟩
            go_simp
            exact wrap_neg x y
          simp only [Act.put, List.setIfInBounds_toArray, List.set_cons_zero, List.set_cons_succ]
          refine wpAnyH_take (i := 25) (oi := { dst := some 113, op := Go.Op.binOp Go.BinOp.eql 3 (Go.Operand.tmp 108) (Go.Operand.tmp 112) 3, type := 4, pos := "outright.go:69", after := #[{ on := 20, ground := Go.Ground.data }, { on := 24, ground := Go.Ground.data }, { on := 17, ground := Go.Ground.guard }], guard := some (17, true) }) (v := .bool true) rfl (by kernel_rfl) (by kernel_rfl) (by kernel_rfl) (fun _ _ _ h => h) (Or.inl ⟨by rfl, ?_⟩) hS ?_
          · rintro w ⟨q0, q1⟩
            go_simp
          simp only [Act.put, List.setIfInBounds_toArray, List.set_cons_zero, List.set_cons_succ]
          refine wpAnyH_take (i := 26) (oi := { dst := some 114, op := Go.Op.pick (Go.Operand.tmp 105) (Go.Operand.tmp 113) (Go.Operand.const (Go.Value.bool false)), type := 4, pos := "outright.go:69", after := #[{ on := 17, ground := Go.Ground.data }, { on := 25, ground := Go.Ground.data }], guard := none }) (v := .bool true) rfl (by kernel_rfl) (by kernel_rfl) (by kernel_rfl) (fun _ _ _ h => h) (Or.inl ⟨by rfl, ?_⟩) hS ?_
          · rintro w ⟨q0, q1⟩
            go_simp
          simp only [Act.put, List.setIfInBounds_toArray, List.set_cons_zero, List.set_cons_succ]
          refine wpAnyH_take (i := 27) (oi := { dst := some 115, op := Go.Op.move (Go.Operand.tmp 114), type := 4, pos := "outright.go:69", after := #[{ on := 26, ground := Go.Ground.data }, { on := 23, ground := Go.Ground.chain }], guard := none }) (v := .bool true) rfl (by kernel_rfl) (by kernel_rfl) (by kernel_rfl) (fun _ _ _ h => h) (Or.inl ⟨by rfl, ?_⟩) hS ?_
          · rintro w ⟨q0, q1⟩
            go_simp
          simp only [Act.put, List.setIfInBounds_toArray, List.set_cons_zero, List.set_cons_succ]
          refine wpAnyH_ready (rs := [28]) (by kernel_rfl) (by simp) ?_
          refine AllReadyH.cons (o := { dst := some 116, op := Go.Op.call { callee := Go.Callee.value (Go.Operand.func 19), args := #[], argTypes := #[] }, type := 4, pos := "outright.go:69", after := #[{ on := 27, ground := Go.Ground.chain }, { on := 27, ground := Go.Ground.guard }], guard := some (27, true) }) rfl (fun K hK => ?_) AllReadyH.nil
          go_simp
          refine Calls.mono (started_true _) ?_
          rintro e wi ⟨rfl, hbi⟩
          have U6 : Hid _ := U5.out.go hbi
          clear hbi
          have hS := And.intro (U6.out.cell b (.slice ax nx cx)) (U6.out.cell (b + 1) (.slice ay ny cy))
          go_wp2_with fail
          refine hK.out _ _ hS (fun hHeld => ?_)
          clear hK K hHeld
          refine wpAnyH_take (i := 29) (oi := { dst := some 117, op := Go.Op.pick (Go.Operand.tmp 115) (Go.Operand.tmp 116) (Go.Operand.const (Go.Value.bool false)), type := 4, pos := "outright.go:69", after := #[{ on := 27, ground := Go.Ground.data }, { on := 28, ground := Go.Ground.data }], guard := none }) (v := .bool true) rfl (by kernel_rfl) (by kernel_rfl) (by kernel_rfl) (fun _ _ _ h => h) (Or.inl ⟨by rfl, ?_⟩) hS ?_
          · rintro w ⟨q0, q1⟩
            go_simp
          simp only [Act.put, List.setIfInBounds_toArray, List.set_cons_zero, List.set_cons_succ]
          refine wpAnyH_take (i := 30) (oi := { dst := some 4, op := Go.Op.assign (Go.Operand.tmp 117), type := 4, pos := "outright.go:69", after := #[{ on := 29, ground := Go.Ground.data }, { on := 28, ground := Go.Ground.chain }, { on := 0, ground := Go.Ground.phase }, { on := 1, ground := Go.Ground.phase }, { on := 2, ground := Go.Ground.phase }, { on := 3, ground := Go.Ground.phase }, { on := 4, ground := Go.Ground.phase }, { on := 5, ground := Go.Ground.phase }, { on := 6, ground := Go.Ground.phase }, { on := 7, ground := Go.Ground.phase }, { on := 8, ground := Go.Ground.phase }, { on := 9, ground := Go.Ground.phase }, { on := 10, ground := Go.Ground.phase }, { on := 11, ground := Go.Ground.phase }, { on := 12, ground := Go.Ground.phase }, { on := 13, ground := Go.Ground.phase }, { on := 14, ground := Go.Ground.phase }, { on := 15, ground := Go.Ground.phase }, { on := 16, ground := Go.Ground.phase }, { on := 17, ground := Go.Ground.phase }, { on := 18, ground := Go.Ground.phase }, { on := 19, ground := Go.Ground.phase }, { on := 20, ground := Go.Ground.phase }, { on := 21, ground := Go.Ground.phase }, { on := 22, ground := Go.Ground.phase }, { on := 23, ground := Go.Ground.phase }, { on := 24, ground := Go.Ground.phase }, { on := 25, ground := Go.Ground.phase }, { on := 26, ground := Go.Ground.phase }, { on := 27, ground := Go.Ground.phase }, { on := 28, ground := Go.Ground.phase }, { on := 29, ground := Go.Ground.phase }], guard := none }) (v := .bool true) rfl (by kernel_rfl) (by kernel_rfl) (by kernel_rfl) (fun _ _ _ h => h) (Or.inl ⟨by rfl, ?_⟩) hS ?_
          · rintro w ⟨q0, q1⟩
            go_simp
          simp only [Act.put, List.setIfInBounds_toArray, List.set_cons_zero, List.set_cons_succ]
          refine wpAnyH_done (by kernel_rfl) ?_ _
          go_wp2_with fail
          go_ret
          exact ⟨rfl, U6.out.bel⟩
        · go_simp
          refine Calls.mono (bytes_any _ y _ (U1.out.at (.agg #[.slice ay ny cy]) y) M2.out.fits) ?_
          rintro e we ⟨ge, rfl, hge, hRe, hbe⟩
          have U2 : Hid _ := U1.out.go hbe
          have cvx2 := conv_b (BRow.below RX.out hbe)
          have cvy := conv_b hRe
          clear hge hRe hbe
          have hS := And.intro (U2.out.cell b (.slice ax nx cx)) (U2.out.cell (b + 1) (.slice ay ny cy))
          go_wp2_with fail
          refine hK.out _ _ hS (fun hHeld => ?_)
          clear hK K hHeld
          refine wpAnyH_ready (rs := [3, 6]) (by kernel_rfl) (by simp) ?_
          refine AllReadyH.cons (o := { dst := some 91, op := Go.Op.convert 23 9 (Go.Operand.tmp 90), type := 9, pos := "outright.go:69", after := #[{ on := 2, ground := Go.Ground.data }], guard := none }) rfl (fun K hK => ?_) (AllReadyH.cons (o := { dst := some 94, op := Go.Op.convert 23 9 (Go.Operand.tmp 93), type := 9, pos := "outright.go:69", after := #[{ on := 5, ground := Go.Ground.data }], guard := none }) rfl (fun K hK => ?_) AllReadyH.nil)
          · go_simp
            refine hK.out _ _ hS (fun hHeld => ?_)
            clear hK K hHeld
            refine wpAnyH_ready (rs := [6]) (by kernel_rfl) (by simp) ?_
            refine AllReadyH.cons (o := { dst := some 94, op := Go.Op.convert 23 9 (Go.Operand.tmp 93), type := 9, pos := "outright.go:69", after := #[{ on := 5, ground := Go.Ground.data }], guard := none }) rfl (fun K hK => ?_) AllReadyH.nil
            skip
            go_simp
            refine hK.out _ _ hS (fun hHeld => ?_)
            clear hK K hHeld
            refine wpAnyH_take (i := 7) (oi := { dst := some 95, op := Go.Op.binOp Go.BinOp.eql 9 (Go.Operand.tmp 91) (Go.Operand.tmp 94) 9, type := 4, pos := "outright.go:69", after := #[{ on := 3, ground := Go.Ground.data }, { on := 6, ground := Go.Ground.data }], guard := none }) (v := .bool sm) rfl (by kernel_rfl) (by kernel_rfl) (by kernel_rfl) (fun _ _ _ h => h) (Or.inl ⟨by rfl, ?_⟩) hS ?_
            · rintro w ⟨q0, q1⟩
              go_simp
              exact str_sm HSM.out ⟨byteText_inj, fun e => by rw [e]⟩
            simp only [Act.put, List.setIfInBounds_toArray, List.set_cons_zero, List.set_cons_succ]
            refine wpAnyH_take (i := 8) (oi := { dst := some 96, op := Go.Op.binOp Go.BinOp.eql 4 (Go.Operand.tmp 88) (Go.Operand.tmp 95) 4, type := 4, pos := "outright.go:69", after := #[{ on := 0, ground := Go.Ground.data }, { on := 7, ground := Go.Ground.data }], guard := none }) (v := .bool true) rfl (by kernel_rfl) (by kernel_rfl) (by kernel_rfl) (fun _ _ _ h => h) (Or.inl ⟨by rfl, ?_⟩) hS ?_
            · rintro w ⟨q0, q1⟩
              go_simp
            simp only [Act.put, List.setIfInBounds_toArray, List.set_cons_zero, List.set_cons_succ]
            refine wpAnyH_take (i := 9) (oi := { dst := some 97, op := Go.Op.move (Go.Operand.tmp 96), type := 4, pos := "outright.go:69", after := #[{ on := 8, ground := Go.Ground.data }, { on := 5, ground := Go.Ground.chain }], guard := none }) (v := .bool true) rfl (by kernel_rfl) (by kernel_rfl) (by kernel_rfl) (fun _ _ _ h => h) (Or.inl ⟨by rfl, ?_⟩) hS ?_
            · rintro w ⟨q0, q1⟩
              go_simp
            simp only [Act.put, List.setIfInBounds_toArray, List.set_cons_zero, List.set_cons_succ]
            refine wpAnyH_take (i := 10) (oi := { dst := some 98, op := Go.Op.move (Go.Operand.tmp 11), type := 4, pos := "outright.go:69", after := #[{ on := 9, ground := Go.Ground.guard }], guard := some (9, true) }) (v := .bool sm) rfl (by kernel_rfl) (by kernel_rfl) (by kernel_rfl) (fun _ _ _ h => h) (Or.inl ⟨by rfl, ?_⟩) hS ?_
            · rintro w ⟨q0, q1⟩
              go_simp
            simp only [Act.put, List.setIfInBounds_toArray, List.set_cons_zero, List.set_cons_succ]
            refine wpAnyH_take (i := 11) (oi := { dst := some 99, op := Go.Op.move (Go.Operand.tmp 8), type := 9, pos := "outright.go:69", after := #[{ on := 9, ground := Go.Ground.guard }], guard := some (9, true) }) (v := .string s) rfl (by kernel_rfl) (by kernel_rfl) (by kernel_rfl) (fun _ _ _ h => h) (Or.inl ⟨by rfl, ?_⟩) hS ?_
            · rintro w ⟨q0, q1⟩
              go_simp
            simp only [Act.put, List.setIfInBounds_toArray, List.set_cons_zero, List.set_cons_succ]
            refine wpAnyH_take (i := 12) (oi := { dst := some 100, op := Go.Op.load 27 (Go.Operand.tmp 6), type := 27, pos := "outright.go:69", after := #[{ on := 9, ground := Go.Ground.guard }], guard := some (9, true) }) (v := .agg #[.slice ay ny cy]) rfl (by kernel_rfl) (by kernel_rfl) (by kernel_rfl) (fun _ _ _ h => h) (Or.inl ⟨by rfl, ?_⟩) hS ?_
            · rintro w ⟨q0, q1⟩
              go_simp
            simp only [Act.put, List.setIfInBounds_toArray, List.set_cons_zero, List.set_cons_succ]
            refine wpAnyH_ready (rs := [13]) (by kernel_rfl) (by simp) ?_
            refine AllReadyH.cons (o := { dst := some 101, op := Go.Op.call { callee := Go.Callee.value (Go.Operand.func 28), args := #[Go.Operand.tmp 100], argTypes := #[27] }, type := 9, pos := "outright.go:69", after := #[{ on := 12, ground := Go.Ground.data }, { on := 9, ground := Go.Ground.chain }, { on := 9, ground := Go.Ground.guard }], guard := some (9, true) }) rfl (fun K hK => ?_) AllReadyH.nil
            go_simp
            refine Calls.mono (text_any _ y _ (U2.out.at (.agg #[.slice ay ny cy]) y) M2.out.tx) ?_
            rintro e wf ⟨l, rfl, hl, hbf⟩
            have HT : Hid _ := HS.out.2.2.2.2.2 l hl
            generalize decText y l = s' at HT ⊢
            have U3 : Hid _ := U2.out.go hbf
            clear hbf hl
            have hS := And.intro (U3.out.cell b (.slice ax nx cx)) (U3.out.cell (b + 1) (.slice ay ny cy))
            go_wp2_with fail
            refine hK.out _ _ hS (fun hHeld => ?_)
            clear hK K hHeld
            refine wpAnyH_take (i := 14) (oi := { dst := some 102, op := Go.Op.binOp Go.BinOp.eql 9 (Go.Operand.tmp 99) (Go.Operand.tmp 101) 9, type := 4, pos := "outright.go:69", after := #[{ on := 11, ground := Go.Ground.data }, { on := 13, ground := Go.Ground.data }, { on := 9, ground := Go.Ground.guard }], guard := some (9, true) }) (v := .bool sm) rfl (by kernel_rfl) (by kernel_rfl) (by kernel_rfl) (fun _ _ _ h => h) (Or.inl ⟨by rfl, ?_⟩) hS ?_
            · rintro w ⟨q0, q1⟩
              go_simp
              exact str_sm HSM.out HT.out
            simp only [Act.put, List.setIfInBounds_toArray, List.set_cons_zero, List.set_cons_succ]
            refine wpAnyH_take (i := 15) (oi := { dst := some 103, op := Go.Op.binOp Go.BinOp.eql 4 (Go.Operand.tmp 98) (Go.Operand.tmp 102) 4, type := 4, pos := "outright.go:69", after := #[{ on := 10, ground := Go.Ground.data }, { on := 14, ground := Go.Ground.data }, { on := 9, ground := Go.Ground.guard }], guard := some (9, true) }) (v := .bool true) rfl (by kernel_rfl) (by kernel_rfl) (by kernel_rfl) (fun _ _ _ h => h) (Or.inl ⟨by rfl, ?_⟩) hS ?_
            · rintro w ⟨q0, q1⟩
              go_simp
            simp only [Act.put, List.setIfInBounds_toArray, List.set_cons_zero, List.set_cons_succ]
            refine wpAnyH_take (i := 16) (oi := { dst := some 104, op := Go.Op.pick (Go.Operand.tmp 97) (Go.Operand.tmp 103) (Go.Operand.const (Go.Value.bool false)), type := 4, pos := "outright.go:69", after := #[{ on := 9, ground := Go.Ground.data }, { on := 15, ground := Go.Ground.data }], guard := none }) (v := .bool true) rfl (by kernel_rfl) (by kernel_rfl) (by kernel_rfl) (fun _ _ _ h => h) (Or.inl ⟨by rfl, ?_⟩) hS ?_
            · rintro w ⟨q0, q1⟩
              go_simp
            simp only [Act.put, List.setIfInBounds_toArray, List.set_cons_zero, List.set_cons_succ]
            refine wpAnyH_take (i := 17) (oi := { dst := some 105, op := Go.Op.move (Go.Operand.tmp 104), type := 4, pos := "outright.go:69", after := #[{ on := 16, ground := Go.Ground.data }, { on := 13, ground := Go.Ground.chain }], guard := none }) (v := .bool true) rfl (by kernel_rfl) (by kernel_rfl) (by kernel_rfl) (fun _ _ _ h => h) (Or.inl ⟨by rfl, ?_⟩) hS ?_
            · rintro w ⟨q0, q1⟩
              go_simp
            simp only [Act.put, List.setIfInBounds_toArray, List.set_cons_zero, List.set_cons_succ]
            refine wpAnyH_take (i := 18) (oi := { dst := some 106, op := Go.Op.load 27 (Go.Operand.tmp 5), type := 27, pos := "outright.go:69", after := #[{ on := 17, ground := Go.Ground.guard }], guard := some (17, true) }) (v := .agg #[.slice ax nx cx]) rfl (by kernel_rfl) (by kernel_rfl) (by kernel_rfl) (fun _ _ _ h => h) (Or.inl ⟨by rfl, ?_⟩) hS ?_
            · rintro w ⟨q0, q1⟩
              go_simp
            simp only [Act.put, List.setIfInBounds_toArray, List.set_cons_zero, List.set_cons_succ]
            refine wpAnyH_take (i := 19) (oi := { dst := some 107, op := Go.Op.load 27 (Go.Operand.tmp 6), type := 27, pos := "outright.go:69", after := #[{ on := 17, ground := Go.Ground.guard }], guard := some (17, true) }) (v := .agg #[.slice ay ny cy]) rfl (by kernel_rfl) (by kernel_rfl) (by kernel_rfl) (fun _ _ _ h => h) (Or.inl ⟨by rfl, ?_⟩) hS ?_
            · rintro w ⟨q0, q1⟩
              go_simp
            simp only [Act.put, List.setIfInBounds_toArray, List.set_cons_zero, List.set_cons_succ]
            refine wpAnyH_take (i := 21) (oi := { dst := some 109, op := Go.Op.load 27 (Go.Operand.tmp 6), type := 27, pos := "outright.go:69", after := #[{ on := 17, ground := Go.Ground.guard }], guard := some (17, true) }) (v := .agg #[.slice ay ny cy]) rfl (by kernel_rfl) (by kernel_rfl) (by kernel_rfl) (fun _ _ _ h => h) (Or.inl ⟨by rfl, ?_⟩) hS ?_
            · rintro w ⟨q0, q1⟩
              go_simp
            simp only [Act.put, List.setIfInBounds_toArray, List.set_cons_zero, List.set_cons_succ]
            refine wpAnyH_take (i := 22) (oi := { dst := some 110, op := Go.Op.load 27 (Go.Operand.tmp 5), type := 27, pos := "outright.go:69", after := #[{ on := 17, ground := Go.Ground.guard }], guard := some (17, true) }) (v := .agg #[.slice ax nx cx]) rfl (by kernel_rfl) (by kernel_rfl) (by kernel_rfl) (fun _ _ _ h => h) (Or.inl ⟨by rfl, ?_⟩) hS ?_
            · rintro w ⟨q0, q1⟩
              go_simp
            simp only [Act.put, List.setIfInBounds_toArray, List.set_cons_zero, List.set_cons_succ]
            refine wpAnyH_ready (rs := [20]) (by kernel_rfl) (by simp) ?_
            refine AllReadyH.cons (o := { dst := some 108, op := Go.Op.call { callee := Go.Callee.value (Go.Operand.func 26), args := #[Go.Operand.tmp 106, Go.Operand.tmp 107], argTypes := #[27, 27] }, type := 3, pos := "outright.go:69", after := #[{ on := 18, ground := Go.Ground.data }, { on := 19, ground := Go.Ground.data }, { on := 17, ground := Go.Ground.chain }, { on := 17, ground := Go.Ground.guard }], guard := some (17, true) }) rfl (fun K hK => ?_) AllReadyH.nil
            go_simp
            refine Calls.mono (cmp_any _ _ x y _ (U3.out.at (.agg #[.slice ax nx cx]) x) (U3.out.at (.agg #[.slice ay ny cy]) y) M1.out.1.fits M2.out.fits) ?_
            rintro e wg ⟨rfl, hbg⟩
            have U4 : Hid _ := U3.out.go hbg
            clear hbg
            have hS := And.intro (U4.out.cell b (.slice ax nx cx)) (U4.out.cell (b + 1) (.slice ay ny cy))
            go_wp2_with fail
            refine hK.out _ _ hS (fun hHeld => ?_)
            clear hK K hHeld
            refine wpAnyH_ready (rs := [23]) (by kernel_rfl) (by simp) ?_
            refine AllReadyH.cons (o := { dst := some 111, op := Go.Op.call { callee := Go.Callee.value (Go.Operand.func 26), args := #[Go.Operand.tmp 109, Go.Operand.tmp 110], argTypes := #[27, 27] }, type := 3, pos := "outright.go:69", after := #[{ on := 21, ground := Go.Ground.data }, { on := 22, ground := Go.Ground.data }, { on := 20, ground := Go.Ground.chain }, { on := 17, ground := Go.Ground.guard }], guard := some (17, true) }) rfl (fun K hK => ?_) AllReadyH.nil
            go_simp
            refine Calls.mono (cmp_any _ _ y x _ (U4.out.at (.agg #[.slice ay ny cy]) y) (U4.out.at (.agg #[.slice ax nx cx]) x) M2.out.fits M1.out.1.fits) ?_
            rintro e wh ⟨rfl, hbh⟩
            have U5 : Hid _ := U4.out.go hbh
            clear hbh
            have hS := And.intro (U5.out.cell b (.slice ax nx cx)) (U5.out.cell (b + 1) (.slice ay ny cy))
            go_wp2_with fail
            refine hK.out _ _ hS (fun hHeld => ?_)
            clear hK K hHeld
            refine wpAnyH_take (i := 24) (oi := { dst := some 112, op := Go.Op.unOp Go.UnOp.neg 3 (Go.Operand.tmp 111), type := 3, pos := "outright.go:69", after := #[{ on := 23, ground := Go.Ground.data }, { on := 17, ground := Go.Ground.guard }], guard := some (17, true) }) (v := .int .i64 (cmpI x y)) rfl (by kernel_rfl) (by kernel_rfl) (by kernel_rfl) (fun _ _ _ h => h) (Or.inl ⟨by rfl, ?_⟩) hS ?_
            · rintro w ⟨q0, q1⟩
              go_simp
              exact wrap_neg x y
            simp only [Act.put, List.setIfInBounds_toArray, List.set_cons_zero, List.set_cons_succ]
            refine wpAnyH_take (i := 25) (oi := { dst := some 113, op := Go.Op.binOp Go.BinOp.eql 3 (Go.Operand.tmp 108) (Go.Operand.tmp 112) 3, type := 4, pos := "outright.go:69", after := #[{ on := 20, ground := Go.Ground.data }, { on := 24, ground := Go.Ground.data }, { on := 17, ground := Go.Ground.guard }], guard := some (17, true) }) (v := .bool true) rfl (by kernel_rfl) (by kernel_rfl) (by kernel_rfl) (fun _ _ _ h => h) (Or.inl ⟨by rfl, ?_⟩) hS ?_
            · rintro w ⟨q0, q1⟩
              go_simp
            simp only [Act.put, List.setIfInBounds_toArray, List.set_cons_zero, List.set_cons_succ]
            refine wpAnyH_take (i := 26) (oi := { dst := some 114, op := Go.Op.pick (Go.Operand.tmp 105) (Go.Operand.tmp 113) (Go.Operand.const (Go.Value.bool false)), type := 4, pos := "outright.go:69", after := #[{ on := 17, ground := Go.Ground.data }, { on := 25, ground := Go.Ground.data }], guard := none }) (v := .bool true) rfl (by kernel_rfl) (by kernel_rfl) (by kernel_rfl) (fun _ _ _ h => h) (Or.inl ⟨by rfl, ?_⟩) hS ?_
            · rintro w ⟨q0, q1⟩
              go_simp
            simp only [Act.put, List.setIfInBounds_toArray, List.set_cons_zero, List.set_cons_succ]
            refine wpAnyH_take (i := 27) (oi := { dst := some 115, op := Go.Op.move (Go.Operand.tmp 114), type := 4, pos := "outright.go:69", after := #[{ on := 26, ground := Go.Ground.data }, { on := 23, ground := Go.Ground.chain }], guard := none }) (v := .bool true) rfl (by kernel_rfl) (by kernel_rfl) (by kernel_rfl) (fun _ _ _ h => h) (Or.inl ⟨by rfl, ?_⟩) hS ?_
            · rintro w ⟨q0, q1⟩
              go_simp
            simp only [Act.put, List.setIfInBounds_toArray, List.set_cons_zero, List.set_cons_succ]
            refine wpAnyH_ready (rs := [28]) (by kernel_rfl) (by simp) ?_
            refine AllReadyH.cons (o := { dst := some 116, op := Go.Op.call { callee := Go.Callee.value (Go.Operand.func 19), args := #[], argTypes := #[] }, type := 4, pos := "outright.go:69", after := #[{ on := 27, ground := Go.Ground.chain }, { on := 27, ground := Go.Ground.guard }], guard := some (27, true) }) rfl (fun K hK => ?_) AllReadyH.nil
            go_simp
            refine Calls.mono (started_true _) ?_
            rintro e wi ⟨rfl, hbi⟩
            have U6 : Hid _ := U5.out.go hbi
            clear hbi
            have hS := And.intro (U6.out.cell b (.slice ax nx cx)) (U6.out.cell (b + 1) (.slice ay ny cy))
            go_wp2_with fail
            refine hK.out _ _ hS (fun hHeld => ?_)
            clear hK K hHeld
            refine wpAnyH_take (i := 29) (oi := { dst := some 117, op := Go.Op.pick (Go.Operand.tmp 115) (Go.Operand.tmp 116) (Go.Operand.const (Go.Value.bool false)), type := 4, pos := "outright.go:69", after := #[{ on := 27, ground := Go.Ground.data }, { on := 28, ground := Go.Ground.data }], guard := none }) (v := .bool true) rfl (by kernel_rfl) (by kernel_rfl) (by kernel_rfl) (fun _ _ _ h => h) (Or.inl ⟨by rfl, ?_⟩) hS ?_
            · rintro w ⟨q0, q1⟩
              go_simp
            simp only [Act.put, List.setIfInBounds_toArray, List.set_cons_zero, List.set_cons_succ]
            refine wpAnyH_take (i := 30) (oi := { dst := some 4, op := Go.Op.assign (Go.Operand.tmp 117), type := 4, pos := "outright.go:69", after := #[{ on := 29, ground := Go.Ground.data }, { on := 28, ground := Go.Ground.chain }, { on := 0, ground := Go.Ground.phase }, { on := 1, ground := Go.Ground.phase }, { on := 2, ground := Go.Ground.phase }, { on := 3, ground := Go.Ground.phase }, { on := 4, ground := Go.Ground.phase }, { on := 5, ground := Go.Ground.phase }, { on := 6, ground := Go.Ground.phase }, { on := 7, ground := Go.Ground.phase }, { on := 8, ground := Go.Ground.phase }, { on := 9, ground := Go.Ground.phase }, { on := 10, ground := Go.Ground.phase }, { on := 11, ground := Go.Ground.phase }, { on := 12, ground := Go.Ground.phase }, { on := 13, ground := Go.Ground.phase }, { on := 14, ground := Go.Ground.phase }, { on := 15, ground := Go.Ground.phase }, { on := 16, ground := Go.Ground.phase }, { on := 17, ground := Go.Ground.phase }, { on := 18, ground := Go.Ground.phase }, { on := 19, ground := Go.Ground.phase }, { on := 20, ground := Go.Ground.phase }, { on := 21, ground := Go.Ground.phase }, { on := 22, ground := Go.Ground.phase }, { on := 23, ground := Go.Ground.phase }, { on := 24, ground := Go.Ground.phase }, { on := 25, ground := Go.Ground.phase }, { on := 26, ground := Go.Ground.phase }, { on := 27, ground := Go.Ground.phase }, { on := 28, ground := Go.Ground.phase }, { on := 29, ground := Go.Ground.phase }], guard := none }) (v := .bool true) rfl (by kernel_rfl) (by kernel_rfl) (by kernel_rfl) (fun _ _ _ h => h) (Or.inl ⟨by rfl, ?_⟩) hS ?_
            · rintro w ⟨q0, q1⟩
              go_simp
            simp only [Act.put, List.setIfInBounds_toArray, List.set_cons_zero, List.set_cons_succ]
            refine wpAnyH_done (by kernel_rfl) ?_ _
            go_wp2_with fail
            go_ret
            exact ⟨rfl, U6.out.bel⟩
          · go_simp
            refine hK.out _ _ hS (fun hHeld => ?_)
            clear hK K hHeld
            refine wpAnyH_ready (rs := [3]) (by kernel_rfl) (by simp) ?_
            refine AllReadyH.cons (o := { dst := some 91, op := Go.Op.convert 23 9 (Go.Operand.tmp 90), type := 9, pos := "outright.go:69", after := #[{ on := 2, ground := Go.Ground.data }], guard := none }) rfl (fun K hK => ?_) AllReadyH.nil
            skip
            go_simp
            refine hK.out _ _ hS (fun hHeld => ?_)
            clear hK K hHeld
            refine wpAnyH_take (i := 7) (oi := { dst := some 95, op := Go.Op.binOp Go.BinOp.eql 9 (Go.Operand.tmp 91) (Go.Operand.tmp 94) 9, type := 4, pos := "outright.go:69", after := #[{ on := 3, ground := Go.Ground.data }, { on := 6, ground := Go.Ground.data }], guard := none }) (v := .bool sm) rfl (by kernel_rfl) (by kernel_rfl) (by kernel_rfl) (fun _ _ _ h => h) (Or.inl ⟨by rfl, ?_⟩) hS ?_
            · rintro w ⟨q0, q1⟩
              go_simp
              exact str_sm HSM.out ⟨byteText_inj, fun e => by rw [e]⟩
            simp only [Act.put, List.setIfInBounds_toArray, List.set_cons_zero, List.set_cons_succ]
            refine wpAnyH_take (i := 8) (oi := { dst := some 96, op := Go.Op.binOp Go.BinOp.eql 4 (Go.Operand.tmp 88) (Go.Operand.tmp 95) 4, type := 4, pos := "outright.go:69", after := #[{ on := 0, ground := Go.Ground.data }, { on := 7, ground := Go.Ground.data }], guard := none }) (v := .bool true) rfl (by kernel_rfl) (by kernel_rfl) (by kernel_rfl) (fun _ _ _ h => h) (Or.inl ⟨by rfl, ?_⟩) hS ?_
            · rintro w ⟨q0, q1⟩
              go_simp
            simp only [Act.put, List.setIfInBounds_toArray, List.set_cons_zero, List.set_cons_succ]
            refine wpAnyH_take (i := 9) (oi := { dst := some 97, op := Go.Op.move (Go.Operand.tmp 96), type := 4, pos := "outright.go:69", after := #[{ on := 8, ground := Go.Ground.data }, { on := 5, ground := Go.Ground.chain }], guard := none }) (v := .bool true) rfl (by kernel_rfl) (by kernel_rfl) (by kernel_rfl) (fun _ _ _ h => h) (Or.inl ⟨by rfl, ?_⟩) hS ?_
            · rintro w ⟨q0, q1⟩
              go_simp
            simp only [Act.put, List.setIfInBounds_toArray, List.set_cons_zero, List.set_cons_succ]
            refine wpAnyH_take (i := 10) (oi := { dst := some 98, op := Go.Op.move (Go.Operand.tmp 11), type := 4, pos := "outright.go:69", after := #[{ on := 9, ground := Go.Ground.guard }], guard := some (9, true) }) (v := .bool sm) rfl (by kernel_rfl) (by kernel_rfl) (by kernel_rfl) (fun _ _ _ h => h) (Or.inl ⟨by rfl, ?_⟩) hS ?_
            · rintro w ⟨q0, q1⟩
              go_simp
            simp only [Act.put, List.setIfInBounds_toArray, List.set_cons_zero, List.set_cons_succ]
            refine wpAnyH_take (i := 11) (oi := { dst := some 99, op := Go.Op.move (Go.Operand.tmp 8), type := 9, pos := "outright.go:69", after := #[{ on := 9, ground := Go.Ground.guard }], guard := some (9, true) }) (v := .string s) rfl (by kernel_rfl) (by kernel_rfl) (by kernel_rfl) (fun _ _ _ h => h) (Or.inl ⟨by rfl, ?_⟩) hS ?_
            · rintro w ⟨q0, q1⟩
              go_simp
            simp only [Act.put, List.setIfInBounds_toArray, List.set_cons_zero, List.set_cons_succ]
            refine wpAnyH_take (i := 12) (oi := { dst := some 100, op := Go.Op.load 27 (Go.Operand.tmp 6), type := 27, pos := "outright.go:69", after := #[{ on := 9, ground := Go.Ground.guard }], guard := some (9, true) }) (v := .agg #[.slice ay ny cy]) rfl (by kernel_rfl) (by kernel_rfl) (by kernel_rfl) (fun _ _ _ h => h) (Or.inl ⟨by rfl, ?_⟩) hS ?_
            · rintro w ⟨q0, q1⟩
              go_simp
            simp only [Act.put, List.setIfInBounds_toArray, List.set_cons_zero, List.set_cons_succ]
            refine wpAnyH_ready (rs := [13]) (by kernel_rfl) (by simp) ?_
            refine AllReadyH.cons (o := { dst := some 101, op := Go.Op.call { callee := Go.Callee.value (Go.Operand.func 28), args := #[Go.Operand.tmp 100], argTypes := #[27] }, type := 9, pos := "outright.go:69", after := #[{ on := 12, ground := Go.Ground.data }, { on := 9, ground := Go.Ground.chain }, { on := 9, ground := Go.Ground.guard }], guard := some (9, true) }) rfl (fun K hK => ?_) AllReadyH.nil
            go_simp
            refine Calls.mono (text_any _ y _ (U2.out.at (.agg #[.slice ay ny cy]) y) M2.out.tx) ?_
            rintro e wf ⟨l, rfl, hl, hbf⟩
            have HT : Hid _ := HS.out.2.2.2.2.2 l hl
            generalize decText y l = s' at HT ⊢
            have U3 : Hid _ := U2.out.go hbf
            clear hbf hl
            have hS := And.intro (U3.out.cell b (.slice ax nx cx)) (U3.out.cell (b + 1) (.slice ay ny cy))
            go_wp2_with fail
            refine hK.out _ _ hS (fun hHeld => ?_)
            clear hK K hHeld
            refine wpAnyH_take (i := 14) (oi := { dst := some 102, op := Go.Op.binOp Go.BinOp.eql 9 (Go.Operand.tmp 99) (Go.Operand.tmp 101) 9, type := 4, pos := "outright.go:69", after := #[{ on := 11, ground := Go.Ground.data }, { on := 13, ground := Go.Ground.data }, { on := 9, ground := Go.Ground.guard }], guard := some (9, true) }) (v := .bool sm) rfl (by kernel_rfl) (by kernel_rfl) (by kernel_rfl) (fun _ _ _ h => h) (Or.inl ⟨by rfl, ?_⟩) hS ?_
            · rintro w ⟨q0, q1⟩
              go_simp
              exact str_sm HSM.out HT.out
            simp only [Act.put, List.setIfInBounds_toArray, List.set_cons_zero, List.set_cons_succ]
            refine wpAnyH_take (i := 15) (oi := { dst := some 103, op := Go.Op.binOp Go.BinOp.eql 4 (Go.Operand.tmp 98) (Go.Operand.tmp 102) 4, type := 4, pos := "outright.go:69", after := #[{ on := 10, ground := Go.Ground.data }, { on := 14, ground := Go.Ground.data }, { on := 9, ground := Go.Ground.guard }], guard := some (9, true) }) (v := .bool true) rfl (by kernel_rfl) (by kernel_rfl) (by kernel_rfl) (fun _ _ _ h => h) (Or.inl ⟨by rfl, ?_⟩) hS ?_
            · rintro w ⟨q0, q1⟩
              go_simp
            simp only [Act.put, List.setIfInBounds_toArray, List.set_cons_zero, List.set_cons_succ]
            refine wpAnyH_take (i := 16) (oi := { dst := some 104, op := Go.Op.pick (Go.Operand.tmp 97) (Go.Operand.tmp 103) (Go.Operand.const (Go.Value.bool false)), type := 4, pos := "outright.go:69", after := #[{ on := 9, ground := Go.Ground.data }, { on := 15, ground := Go.Ground.data }], guard := none }) (v := .bool true) rfl (by kernel_rfl) (by kernel_rfl) (by kernel_rfl) (fun _ _ _ h => h) (Or.inl ⟨by rfl, ?_⟩) hS ?_
            · rintro w ⟨q0, q1⟩
              go_simp
            simp only [Act.put, List.setIfInBounds_toArray, List.set_cons_zero, List.set_cons_succ]
            refine wpAnyH_take (i := 17) (oi := { dst := some 105, op := Go.Op.move (Go.Operand.tmp 104), type := 4, pos := "outright.go:69", after := #[{ on := 16, ground := Go.Ground.data }, { on := 13, ground := Go.Ground.chain }], guard := none }) (v := .bool true) rfl (by kernel_rfl) (by kernel_rfl) (by kernel_rfl) (fun _ _ _ h => h) (Or.inl ⟨by rfl, ?_⟩) hS ?_
            · rintro w ⟨q0, q1⟩
              go_simp
            simp only [Act.put, List.setIfInBounds_toArray, List.set_cons_zero, List.set_cons_succ]
            refine wpAnyH_take (i := 18) (oi := { dst := some 106, op := Go.Op.load 27 (Go.Operand.tmp 5), type := 27, pos := "outright.go:69", after := #[{ on := 17, ground := Go.Ground.guard }], guard := some (17, true) }) (v := .agg #[.slice ax nx cx]) rfl (by kernel_rfl) (by kernel_rfl) (by kernel_rfl) (fun _ _ _ h => h) (Or.inl ⟨by rfl, ?_⟩) hS ?_
            · rintro w ⟨q0, q1⟩
              go_simp
            simp only [Act.put, List.setIfInBounds_toArray, List.set_cons_zero, List.set_cons_succ]
            refine wpAnyH_take (i := 19) (oi := { dst := some 107, op := Go.Op.load 27 (Go.Operand.tmp 6), type := 27, pos := "outright.go:69", after := #[{ on := 17, ground := Go.Ground.guard }], guard := some (17, true) }) (v := .agg #[.slice ay ny cy]) rfl (by kernel_rfl) (by kernel_rfl) (by kernel_rfl) (fun _ _ _ h => h) (Or.inl ⟨by rfl, ?_⟩) hS ?_
            · rintro w ⟨q0, q1⟩
              go_simp
            simp only [Act.put, List.setIfInBounds_toArray, List.set_cons_zero, List.set_cons_succ]
            refine wpAnyH_take (i := 21) (oi := { dst := some 109, op := Go.Op.load 27 (Go.Operand.tmp 6), type := 27, pos := "outright.go:69", after := #[{ on := 17, ground := Go.Ground.guard }], guard := some (17, true) }) (v := .agg #[.slice ay ny cy]) rfl (by kernel_rfl) (by kernel_rfl) (by kernel_rfl) (fun _ _ _ h => h) (Or.inl ⟨by rfl, ?_⟩) hS ?_
            · rintro w ⟨q0, q1⟩
              go_simp
            simp only [Act.put, List.setIfInBounds_toArray, List.set_cons_zero, List.set_cons_succ]
            refine wpAnyH_take (i := 22) (oi := { dst := some 110, op := Go.Op.load 27 (Go.Operand.tmp 5), type := 27, pos := "outright.go:69", after := #[{ on := 17, ground := Go.Ground.guard }], guard := some (17, true) }) (v := .agg #[.slice ax nx cx]) rfl (by kernel_rfl) (by kernel_rfl) (by kernel_rfl) (fun _ _ _ h => h) (Or.inl ⟨by rfl, ?_⟩) hS ?_
            · rintro w ⟨q0, q1⟩
              go_simp
            simp only [Act.put, List.setIfInBounds_toArray, List.set_cons_zero, List.set_cons_succ]
            refine wpAnyH_ready (rs := [20]) (by kernel_rfl) (by simp) ?_
            refine AllReadyH.cons (o := { dst := some 108, op := Go.Op.call { callee := Go.Callee.value (Go.Operand.func 26), args := #[Go.Operand.tmp 106, Go.Operand.tmp 107], argTypes := #[27, 27] }, type := 3, pos := "outright.go:69", after := #[{ on := 18, ground := Go.Ground.data }, { on := 19, ground := Go.Ground.data }, { on := 17, ground := Go.Ground.chain }, { on := 17, ground := Go.Ground.guard }], guard := some (17, true) }) rfl (fun K hK => ?_) AllReadyH.nil
            go_simp
            refine Calls.mono (cmp_any _ _ x y _ (U3.out.at (.agg #[.slice ax nx cx]) x) (U3.out.at (.agg #[.slice ay ny cy]) y) M1.out.1.fits M2.out.fits) ?_
            rintro e wg ⟨rfl, hbg⟩
            have U4 : Hid _ := U3.out.go hbg
            clear hbg
            have hS := And.intro (U4.out.cell b (.slice ax nx cx)) (U4.out.cell (b + 1) (.slice ay ny cy))
            go_wp2_with fail
            refine hK.out _ _ hS (fun hHeld => ?_)
            clear hK K hHeld
            refine wpAnyH_ready (rs := [23]) (by kernel_rfl) (by simp) ?_
            refine AllReadyH.cons (o := { dst := some 111, op := Go.Op.call { callee := Go.Callee.value (Go.Operand.func 26), args := #[Go.Operand.tmp 109, Go.Operand.tmp 110], argTypes := #[27, 27] }, type := 3, pos := "outright.go:69", after := #[{ on := 21, ground := Go.Ground.data }, { on := 22, ground := Go.Ground.data }, { on := 20, ground := Go.Ground.chain }, { on := 17, ground := Go.Ground.guard }], guard := some (17, true) }) rfl (fun K hK => ?_) AllReadyH.nil
            go_simp
            refine Calls.mono (cmp_any _ _ y x _ (U4.out.at (.agg #[.slice ay ny cy]) y) (U4.out.at (.agg #[.slice ax nx cx]) x) M2.out.fits M1.out.1.fits) ?_
            rintro e wh ⟨rfl, hbh⟩
            have U5 : Hid _ := U4.out.go hbh
            clear hbh
            have hS := And.intro (U5.out.cell b (.slice ax nx cx)) (U5.out.cell (b + 1) (.slice ay ny cy))
            go_wp2_with fail
            refine hK.out _ _ hS (fun hHeld => ?_)
            clear hK K hHeld
            refine wpAnyH_take (i := 24) (oi := { dst := some 112, op := Go.Op.unOp Go.UnOp.neg 3 (Go.Operand.tmp 111), type := 3, pos := "outright.go:69", after := #[{ on := 23, ground := Go.Ground.data }, { on := 17, ground := Go.Ground.guard }], guard := some (17, true) }) (v := .int .i64 (cmpI x y)) rfl (by kernel_rfl) (by kernel_rfl) (by kernel_rfl) (fun _ _ _ h => h) (Or.inl ⟨by rfl, ?_⟩) hS ?_
            · rintro w ⟨q0, q1⟩
              go_simp
              exact wrap_neg x y
            simp only [Act.put, List.setIfInBounds_toArray, List.set_cons_zero, List.set_cons_succ]
            refine wpAnyH_take (i := 25) (oi := { dst := some 113, op := Go.Op.binOp Go.BinOp.eql 3 (Go.Operand.tmp 108) (Go.Operand.tmp 112) 3, type := 4, pos := "outright.go:69", after := #[{ on := 20, ground := Go.Ground.data }, { on := 24, ground := Go.Ground.data }, { on := 17, ground := Go.Ground.guard }], guard := some (17, true) }) (v := .bool true) rfl (by kernel_rfl) (by kernel_rfl) (by kernel_rfl) (fun _ _ _ h => h) (Or.inl ⟨by rfl, ?_⟩) hS ?_
            · rintro w ⟨q0, q1⟩
              go_simp
            simp only [Act.put, List.setIfInBounds_toArray, List.set_cons_zero, List.set_cons_succ]
            refine wpAnyH_take (i := 26) (oi := { dst := some 114, op := Go.Op.pick (Go.Operand.tmp 105) (Go.Operand.tmp 113) (Go.Operand.const (Go.Value.bool false)), type := 4, pos := "outright.go:69", after := #[{ on := 17, ground := Go.Ground.data }, { on := 25, ground := Go.Ground.data }], guard := none }) (v := .bool true) rfl (by kernel_rfl) (by kernel_rfl) (by kernel_rfl) (fun _ _ _ h => h) (Or.inl ⟨by rfl, ?_⟩) hS ?_
            · rintro w ⟨q0, q1⟩
              go_simp
            simp only [Act.put, List.setIfInBounds_toArray, List.set_cons_zero, List.set_cons_succ]
            refine wpAnyH_take (i := 27) (oi := { dst := some 115, op := Go.Op.move (Go.Operand.tmp 114), type := 4, pos := "outright.go:69", after := #[{ on := 26, ground := Go.Ground.data }, { on := 23, ground := Go.Ground.chain }], guard := none }) (v := .bool true) rfl (by kernel_rfl) (by kernel_rfl) (by kernel_rfl) (fun _ _ _ h => h) (Or.inl ⟨by rfl, ?_⟩) hS ?_
            · rintro w ⟨q0, q1⟩
              go_simp
            simp only [Act.put, List.setIfInBounds_toArray, List.set_cons_zero, List.set_cons_succ]
            refine wpAnyH_ready (rs := [28]) (by kernel_rfl) (by simp) ?_
            refine AllReadyH.cons (o := { dst := some 116, op := Go.Op.call { callee := Go.Callee.value (Go.Operand.func 19), args := #[], argTypes := #[] }, type := 4, pos := "outright.go:69", after := #[{ on := 27, ground := Go.Ground.chain }, { on := 27, ground := Go.Ground.guard }], guard := some (27, true) }) rfl (fun K hK => ?_) AllReadyH.nil
            go_simp
            refine Calls.mono (started_true _) ?_
            rintro e wi ⟨rfl, hbi⟩
            have U6 : Hid _ := U5.out.go hbi
            clear hbi
            have hS := And.intro (U6.out.cell b (.slice ax nx cx)) (U6.out.cell (b + 1) (.slice ay ny cy))
            go_wp2_with fail
            refine hK.out _ _ hS (fun hHeld => ?_)
            clear hK K hHeld
            refine wpAnyH_take (i := 29) (oi := { dst := some 117, op := Go.Op.pick (Go.Operand.tmp 115) (Go.Operand.tmp 116) (Go.Operand.const (Go.Value.bool false)), type := 4, pos := "outright.go:69", after := #[{ on := 27, ground := Go.Ground.data }, { on := 28, ground := Go.Ground.data }], guard := none }) (v := .bool true) rfl (by kernel_rfl) (by kernel_rfl) (by kernel_rfl) (fun _ _ _ h => h) (Or.inl ⟨by rfl, ?_⟩) hS ?_
            · rintro w ⟨q0, q1⟩
              go_simp
            simp only [Act.put, List.setIfInBounds_toArray, List.set_cons_zero, List.set_cons_succ]
            refine wpAnyH_take (i := 30) (oi := { dst := some 4, op := Go.Op.assign (Go.Operand.tmp 117), type := 4, pos := "outright.go:69", after := #[{ on := 29, ground := Go.Ground.data }, { on := 28, ground := Go.Ground.chain }, { on := 0, ground := Go.Ground.phase }, { on := 1, ground := Go.Ground.phase }, { on := 2, ground := Go.Ground.phase }, { on := 3, ground := Go.Ground.phase }, { on := 4, ground := Go.Ground.phase }, { on := 5, ground := Go.Ground.phase }, { on := 6, ground := Go.Ground.phase }, { on := 7, ground := Go.Ground.phase }, { on := 8, ground := Go.Ground.phase }, { on := 9, ground := Go.Ground.phase }, { on := 10, ground := Go.Ground.phase }, { on := 11, ground := Go.Ground.phase }, { on := 12, ground := Go.Ground.phase }, { on := 13, ground := Go.Ground.phase }, { on := 14, ground := Go.Ground.phase }, { on := 15, ground := Go.Ground.phase }, { on := 16, ground := Go.Ground.phase }, { on := 17, ground := Go.Ground.phase }, { on := 18, ground := Go.Ground.phase }, { on := 19, ground := Go.Ground.phase }, { on := 20, ground := Go.Ground.phase }, { on := 21, ground := Go.Ground.phase }, { on := 22, ground := Go.Ground.phase }, { on := 23, ground := Go.Ground.phase }, { on := 24, ground := Go.Ground.phase }, { on := 25, ground := Go.Ground.phase }, { on := 26, ground := Go.Ground.phase }, { on := 27, ground := Go.Ground.phase }, { on := 28, ground := Go.Ground.phase }, { on := 29, ground := Go.Ground.phase }], guard := none }) (v := .bool true) rfl (by kernel_rfl) (by kernel_rfl) (by kernel_rfl) (fun _ _ _ h => h) (Or.inl ⟨by rfl, ?_⟩) hS ?_
            · rintro w ⟨q0, q1⟩
              go_simp
            simp only [Act.put, List.setIfInBounds_toArray, List.set_cons_zero, List.set_cons_succ]
            refine wpAnyH_done (by kernel_rfl) ?_ _
            go_wp2_with fail
            go_ret
            exact ⟨rfl, U6.out.bel⟩
    · refine (parse_long s _ (by omega) (by omega)).mono ?_
      rintro e wp ⟨rfl, hbp⟩
      have SR : Hid _ := (ST.out.go hbp).box (.slice none 0 0) 27 _ rfl
      clear hbp ST c1
      have c0 := SR.out.cell b (.slice ax nx cx)
      have c1 := SR.out.cell (b + 1) (.slice ay ny cy)
      have hk4 : decide ((k : Int) ≤ 400) = false := decide_eq_false (by omega)
      have hk5 : decide ((1 : Int) < (k : Int)) = true := decide_eq_true (by omega)
      have hc48 := sb_at (s := s) (i := 0) (by omega)
      have hc49 : (((sb s 0 : Nat) : Int) == 48) = false := beq_eq_false_iff_ne.2 (by have := HS.out.2.2.2.2.1 (by omega); omega)
      go_wp2_with fail
      refine (cmp_any _ _ x y _ (SR.out.at (.agg #[.slice ax nx cx]) x) (SR.out.at (.agg #[.slice ay ny cy]) y) M1.out.1.fits M2.out.fits).mono ?_
      rintro e wc0 ⟨rfl, hbc⟩
      have U0 : Hid _ := SR.out.go hbc
      clear hbc SR c0 c1
      have c0 := U0.out.cell b (.slice ax nx cx)
      have c1 := U0.out.cell (b + 1) (.slice ay ny cy)
      go_wp2_with fail
      generalize hsm : (cmpI x y == 0) = sm
      have HSM : Hid _ := hsm
      clear hsm
      refine wp_region_held_drew (S := fun w' => w'.cell? ⟨b, 0, none⟩ = some (.slice ax nx cx) ∧ w'.cell? ⟨b + 1, 0, none⟩ = some (.slice ay ny cy)) (by kernel_rfl) ⟨c0, c1⟩ (fun hS => ?_)
      refine wpAnyH_take (i := 0) (oi := { dst := some 88, op := Go.Op.move (Go.Operand.tmp 11), type := 4, pos := "outright.go:69", after := #[], guard := none }) (v := .bool sm) rfl (by kernel_rfl) (by kernel_rfl) (by kernel_rfl) (fun _ _ _ h => h) (Or.inl ⟨by rfl, ?_⟩) hS ?_
      · rintro w ⟨q0, q1⟩
        go_simp
      simp only [Act.put, List.setIfInBounds_toArray, List.set_cons_zero, List.set_cons_succ]
      refine wpAnyH_take (i := 1) (oi := { dst := some 89, op := Go.Op.load 27 (Go.Operand.tmp 5), type := 27, pos := "outright.go:69", after := #[], guard := none }) (v := .agg #[.slice ax nx cx]) rfl (by kernel_rfl) (by kernel_rfl) (by kernel_rfl) (fun _ _ _ h => h) (Or.inl ⟨by rfl, ?_⟩) hS ?_
      · rintro w ⟨q0, q1⟩
        go_simp
      simp only [Act.put, List.setIfInBounds_toArray, List.set_cons_zero, List.set_cons_succ]
      refine wpAnyH_take (i := 4) (oi := { dst := some 92, op := Go.Op.load 27 (Go.Operand.tmp 6), type := 27, pos := "outright.go:69", after := #[], guard := none }) (v := .agg #[.slice ay ny cy]) rfl (by kernel_rfl) (by kernel_rfl) (by kernel_rfl) (fun _ _ _ h => h) (Or.inl ⟨by rfl, ?_⟩) hS ?_
      · rintro w ⟨q0, q1⟩
        go_simp
      simp only [Act.put, List.setIfInBounds_toArray, List.set_cons_zero, List.set_cons_succ]
      refine wpAnyH_ready (rs := [2]) (by kernel_rfl) (by simp) ?_
      refine AllReadyH.cons (o := { dst := some 90, op := Go.Op.call { callee := Go.Callee.value (Go.Operand.func 27), args := #[Go.Operand.tmp 89], argTypes := #[27] }, type := 23, pos := "outright.go:69", after := #[{ on := 1, ground := Go.Ground.data }], guard := none }) rfl (fun K hK => ?_) AllReadyH.nil
      go_simp
      refine Calls.mono (bytes_any _ x _ (U0.out.at (.agg #[.slice ax nx cx]) x) M1.out.1.fits) ?_
      rintro e wd ⟨gd, rfl, hgd, hRd, hbd⟩
      have U1 : Hid _ := U0.out.god hbd
      have RX : Hid (BRow wd gd (byteLen x) (fun i => byteAt x (byteLen x - 1 - i))) := hRd
      have cvx := conv_b hRd
      clear hgd hRd hbd
      have hS := And.intro (U1.out.cell b (.slice ax nx cx)) (U1.out.cell (b + 1) (.slice ay ny cy))
      go_wp2_with fail
      refine hK.out _ _ hS (fun hHeld => ?_)
      clear hK K hHeld
      refine wpAnyH_ready (rs := [3, 5]) (by kernel_rfl) (by simp) ?_
      refine AllReadyH.cons (o := { dst := some 91, op := Go.Op.convert 23 9 (Go.Operand.tmp 90), type := 9, pos := "outright.go:69", after := #[{ on := 2, ground := Go.Ground.data }], guard := none }) rfl (fun K hK => ?_) (AllReadyH.cons (o := { dst := some 93, op := Go.Op.call { callee := Go.Callee.value (Go.Operand.func 27), args := #[Go.Operand.tmp 92], argTypes := #[27] }, type := 23, pos := "outright.go:69", after := #[{ on := 4, ground := Go.Ground.data }, { on := 2, ground := Go.Ground.chain }], guard := none }) rfl (fun K hK => ?_) AllReadyH.nil)
      · go_simp
        refine hK.out _ _ hS (fun hHeld => ?_)
        clear hK K hHeld
        refine wpAnyH_ready (rs := [5]) (by kernel_rfl) (by simp) ?_
        refine AllReadyH.cons (o := { dst := some 93, op := Go.Op.call { callee := Go.Callee.value (Go.Operand.func 27), args := #[Go.Operand.tmp 92], argTypes := #[27] }, type := 23, pos := "outright.go:69", after := #[{ on := 4, ground := Go.Ground.data }, { on := 2, ground := Go.Ground.chain }], guard := none }) rfl (fun K hK => ?_) AllReadyH.nil
        go_simp
        refine Calls.mono (bytes_any _ y _ (U1.out.at (.agg #[.slice ay ny cy]) y) M2.out.fits) ?_
        rintro e we ⟨ge, rfl, hge, hRe, hbe⟩
        have U2 : Hid _ := U1.out.go hbe
        have cvx2 := conv_b (BRow.below RX.out hbe)
        have cvy := conv_b hRe
        clear hge hRe hbe
        have hS := And.intro (U2.out.cell b (.slice ax nx cx)) (U2.out.cell (b + 1) (.slice ay ny cy))
        go_wp2_with fail
        refine hK.out _ _ hS (fun hHeld => ?_)
        clear hK K hHeld
        refine wpAnyH_ready (rs := [6]) (by kernel_rfl) (by simp) ?_
        refine AllReadyH.cons (o := { dst := some 94, op := Go.Op.convert 23 9 (Go.Operand.tmp 93), type := 9, pos := "outright.go:69", after := #[{ on := 5, ground := Go.Ground.data }], guard := none }) rfl (fun K hK => ?_) AllReadyH.nil
        skip
        go_simp
        refine hK.out _ _ hS (fun hHeld => ?_)
        clear hK K hHeld
        refine wpAnyH_take (i := 7) (oi := { dst := some 95, op := Go.Op.binOp Go.BinOp.eql 9 (Go.Operand.tmp 91) (Go.Operand.tmp 94) 9, type := 4, pos := "outright.go:69", after := #[{ on := 3, ground := Go.Ground.data }, { on := 6, ground := Go.Ground.data }], guard := none }) (v := .bool sm) rfl (by kernel_rfl) (by kernel_rfl) (by kernel_rfl) (fun _ _ _ h => h) (Or.inl ⟨by rfl, ?_⟩) hS ?_
        · rintro w ⟨q0, q1⟩
          go_simp
          exact str_sm HSM.out ⟨byteText_inj, fun e => by rw [e]⟩
        simp only [Act.put, List.setIfInBounds_toArray, List.set_cons_zero, List.set_cons_succ]
        refine wpAnyH_take (i := 8) (oi := { dst := some 96, op := Go.Op.binOp Go.BinOp.eql 4 (Go.Operand.tmp 88) (Go.Operand.tmp 95) 4, type := 4, pos := "outright.go:69", after := #[{ on := 0, ground := Go.Ground.data }, { on := 7, ground := Go.Ground.data }], guard := none }) (v := .bool true) rfl (by kernel_rfl) (by kernel_rfl) (by kernel_rfl) (fun _ _ _ h => h) (Or.inl ⟨by rfl, ?_⟩) hS ?_
        · rintro w ⟨q0, q1⟩
          go_simp
        simp only [Act.put, List.setIfInBounds_toArray, List.set_cons_zero, List.set_cons_succ]
        refine wpAnyH_take (i := 9) (oi := { dst := some 97, op := Go.Op.move (Go.Operand.tmp 96), type := 4, pos := "outright.go:69", after := #[{ on := 8, ground := Go.Ground.data }, { on := 5, ground := Go.Ground.chain }], guard := none }) (v := .bool true) rfl (by kernel_rfl) (by kernel_rfl) (by kernel_rfl) (fun _ _ _ h => h) (Or.inl ⟨by rfl, ?_⟩) hS ?_
        · rintro w ⟨q0, q1⟩
          go_simp
        simp only [Act.put, List.setIfInBounds_toArray, List.set_cons_zero, List.set_cons_succ]
        refine wpAnyH_take (i := 10) (oi := { dst := some 98, op := Go.Op.move (Go.Operand.tmp 11), type := 4, pos := "outright.go:69", after := #[{ on := 9, ground := Go.Ground.guard }], guard := some (9, true) }) (v := .bool sm) rfl (by kernel_rfl) (by kernel_rfl) (by kernel_rfl) (fun _ _ _ h => h) (Or.inl ⟨by rfl, ?_⟩) hS ?_
        · rintro w ⟨q0, q1⟩
          go_simp
        simp only [Act.put, List.setIfInBounds_toArray, List.set_cons_zero, List.set_cons_succ]
        refine wpAnyH_take (i := 11) (oi := { dst := some 99, op := Go.Op.move (Go.Operand.tmp 8), type := 9, pos := "outright.go:69", after := #[{ on := 9, ground := Go.Ground.guard }], guard := some (9, true) }) (v := .string s) rfl (by kernel_rfl) (by kernel_rfl) (by kernel_rfl) (fun _ _ _ h => h) (Or.inl ⟨by rfl, ?_⟩) hS ?_
        · rintro w ⟨q0, q1⟩
          go_simp
        simp only [Act.put, List.setIfInBounds_toArray, List.set_cons_zero, List.set_cons_succ]
        refine wpAnyH_take (i := 12) (oi := { dst := some 100, op := Go.Op.load 27 (Go.Operand.tmp 6), type := 27, pos := "outright.go:69", after := #[{ on := 9, ground := Go.Ground.guard }], guard := some (9, true) }) (v := .agg #[.slice ay ny cy]) rfl (by kernel_rfl) (by kernel_rfl) (by kernel_rfl) (fun _ _ _ h => h) (Or.inl ⟨by rfl, ?_⟩) hS ?_
        · rintro w ⟨q0, q1⟩
          go_simp
        simp only [Act.put, List.setIfInBounds_toArray, List.set_cons_zero, List.set_cons_succ]
        refine wpAnyH_ready (rs := [13]) (by kernel_rfl) (by simp) ?_
        refine AllReadyH.cons (o := { dst := some 101, op := Go.Op.call { callee := Go.Callee.value (Go.Operand.func 28), args := #[Go.Operand.tmp 100], argTypes := #[27] }, type := 9, pos := "outright.go:69", after := #[{ on := 12, ground := Go.Ground.data }, { on := 9, ground := Go.Ground.chain }, { on := 9, ground := Go.Ground.guard }], guard := some (9, true) }) rfl (fun K hK => ?_) AllReadyH.nil
        go_simp
        refine Calls.mono (text_any _ y _ (U2.out.at (.agg #[.slice ay ny cy]) y) M2.out.tx) ?_
        rintro e wf ⟨l, rfl, hl, hbf⟩
        have HT : Hid _ := HS.out.2.2.2.2.2 l hl
        generalize decText y l = s' at HT ⊢
        have U3 : Hid _ := U2.out.go hbf
        clear hbf hl
        have hS := And.intro (U3.out.cell b (.slice ax nx cx)) (U3.out.cell (b + 1) (.slice ay ny cy))
        go_wp2_with fail
        refine hK.out _ _ hS (fun hHeld => ?_)
        clear hK K hHeld
        refine wpAnyH_take (i := 14) (oi := { dst := some 102, op := Go.Op.binOp Go.BinOp.eql 9 (Go.Operand.tmp 99) (Go.Operand.tmp 101) 9, type := 4, pos := "outright.go:69", after := #[{ on := 11, ground := Go.Ground.data }, { on := 13, ground := Go.Ground.data }, { on := 9, ground := Go.Ground.guard }], guard := some (9, true) }) (v := .bool sm) rfl (by kernel_rfl) (by kernel_rfl) (by kernel_rfl) (fun _ _ _ h => h) (Or.inl ⟨by rfl, ?_⟩) hS ?_
        · rintro w ⟨q0, q1⟩
          go_simp
          exact str_sm HSM.out HT.out
        simp only [Act.put, List.setIfInBounds_toArray, List.set_cons_zero, List.set_cons_succ]
        refine wpAnyH_take (i := 15) (oi := { dst := some 103, op := Go.Op.binOp Go.BinOp.eql 4 (Go.Operand.tmp 98) (Go.Operand.tmp 102) 4, type := 4, pos := "outright.go:69", after := #[{ on := 10, ground := Go.Ground.data }, { on := 14, ground := Go.Ground.data }, { on := 9, ground := Go.Ground.guard }], guard := some (9, true) }) (v := .bool true) rfl (by kernel_rfl) (by kernel_rfl) (by kernel_rfl) (fun _ _ _ h => h) (Or.inl ⟨by rfl, ?_⟩) hS ?_
        · rintro w ⟨q0, q1⟩
          go_simp
        simp only [Act.put, List.setIfInBounds_toArray, List.set_cons_zero, List.set_cons_succ]
        refine wpAnyH_take (i := 16) (oi := { dst := some 104, op := Go.Op.pick (Go.Operand.tmp 97) (Go.Operand.tmp 103) (Go.Operand.const (Go.Value.bool false)), type := 4, pos := "outright.go:69", after := #[{ on := 9, ground := Go.Ground.data }, { on := 15, ground := Go.Ground.data }], guard := none }) (v := .bool true) rfl (by kernel_rfl) (by kernel_rfl) (by kernel_rfl) (fun _ _ _ h => h) (Or.inl ⟨by rfl, ?_⟩) hS ?_
        · rintro w ⟨q0, q1⟩
          go_simp
        simp only [Act.put, List.setIfInBounds_toArray, List.set_cons_zero, List.set_cons_succ]
        refine wpAnyH_take (i := 17) (oi := { dst := some 105, op := Go.Op.move (Go.Operand.tmp 104), type := 4, pos := "outright.go:69", after := #[{ on := 16, ground := Go.Ground.data }, { on := 13, ground := Go.Ground.chain }], guard := none }) (v := .bool true) rfl (by kernel_rfl) (by kernel_rfl) (by kernel_rfl) (fun _ _ _ h => h) (Or.inl ⟨by rfl, ?_⟩) hS ?_
        · rintro w ⟨q0, q1⟩
          go_simp
        simp only [Act.put, List.setIfInBounds_toArray, List.set_cons_zero, List.set_cons_succ]
        refine wpAnyH_take (i := 18) (oi := { dst := some 106, op := Go.Op.load 27 (Go.Operand.tmp 5), type := 27, pos := "outright.go:69", after := #[{ on := 17, ground := Go.Ground.guard }], guard := some (17, true) }) (v := .agg #[.slice ax nx cx]) rfl (by kernel_rfl) (by kernel_rfl) (by kernel_rfl) (fun _ _ _ h => h) (Or.inl ⟨by rfl, ?_⟩) hS ?_
        · rintro w ⟨q0, q1⟩
          go_simp
        simp only [Act.put, List.setIfInBounds_toArray, List.set_cons_zero, List.set_cons_succ]
        refine wpAnyH_take (i := 19) (oi := { dst := some 107, op := Go.Op.load 27 (Go.Operand.tmp 6), type := 27, pos := "outright.go:69", after := #[{ on := 17, ground := Go.Ground.guard }], guard := some (17, true) }) (v := .agg #[.slice ay ny cy]) rfl (by kernel_rfl) (by kernel_rfl) (by kernel_rfl) (fun _ _ _ h => h) (Or.inl ⟨by rfl, ?_⟩) hS ?_
        · rintro w ⟨q0, q1⟩
          go_simp
        simp only [Act.put, List.setIfInBounds_toArray, List.set_cons_zero, List.set_cons_succ]
        refine wpAnyH_take (i := 21) (oi := { dst := some 109, op := Go.Op.load 27 (Go.Operand.tmp 6), type := 27, pos := "outright.go:69", after := #[{ on := 17, ground := Go.Ground.guard }], guard := some (17, true) }) (v := .agg #[.slice ay ny cy]) rfl (by kernel_rfl) (by kernel_rfl) (by kernel_rfl) (fun _ _ _ h => h) (Or.inl ⟨by rfl, ?_⟩) hS ?_
        · rintro w ⟨q0, q1⟩
          go_simp
        simp only [Act.put, List.setIfInBounds_toArray, List.set_cons_zero, List.set_cons_succ]
        refine wpAnyH_take (i := 22) (oi := { dst := some 110, op := Go.Op.load 27 (Go.Operand.tmp 5), type := 27, pos := "outright.go:69", after := #[{ on := 17, ground := Go.Ground.guard }], guard := some (17, true) }) (v := .agg #[.slice ax nx cx]) rfl (by kernel_rfl) (by kernel_rfl) (by kernel_rfl) (fun _ _ _ h => h) (Or.inl ⟨by rfl, ?_⟩) hS ?_
        · rintro w ⟨q0, q1⟩
          go_simp
        simp only [Act.put, List.setIfInBounds_toArray, List.set_cons_zero, List.set_cons_succ]
        refine wpAnyH_ready (rs := [20]) (by kernel_rfl) (by simp) ?_
        refine AllReadyH.cons (o := { dst := some 108, op := Go.Op.call { callee := Go.Callee.value (Go.Operand.func 26), args := #[Go.Operand.tmp 106, Go.Operand.tmp 107], argTypes := #[27, 27] }, type := 3, pos := "outright.go:69", after := #[{ on := 18, ground := Go.Ground.data }, { on := 19, ground := Go.Ground.data }, { on := 17, ground := Go.Ground.chain }, { on := 17, ground := Go.Ground.guard }], guard := some (17, true) }) rfl (fun K hK => ?_) AllReadyH.nil
        go_simp
        refine Calls.mono (cmp_any _ _ x y _ (U3.out.at (.agg #[.slice ax nx cx]) x) (U3.out.at (.agg #[.slice ay ny cy]) y) M1.out.1.fits M2.out.fits) ?_
        rintro e wg ⟨rfl, hbg⟩
        have U4 : Hid _ := U3.out.go hbg
        clear hbg
        have hS := And.intro (U4.out.cell b (.slice ax nx cx)) (U4.out.cell (b + 1) (.slice ay ny cy))
        go_wp2_with fail
        refine hK.out _ _ hS (fun hHeld => ?_)
        clear hK K hHeld
        refine wpAnyH_ready (rs := [23]) (by kernel_rfl) (by simp) ?_
        refine AllReadyH.cons (o := { dst := some 111, op := Go.Op.call { callee := Go.Callee.value (Go.Operand.func 26), args := #[Go.Operand.tmp 109, Go.Operand.tmp 110], argTypes := #[27, 27] }, type := 3, pos := "outright.go:69", after := #[{ on := 21, ground := Go.Ground.data }, { on := 22, ground := Go.Ground.data }, { on := 20, ground := Go.Ground.chain }, { on := 17, ground := Go.Ground.guard }], guard := some (17, true) }) rfl (fun K hK => ?_) AllReadyH.nil
        go_simp
        refine Calls.mono (cmp_any _ _ y x _ (U4.out.at (.agg #[.slice ay ny cy]) y) (U4.out.at (.agg #[.slice ax nx cx]) x) M2.out.fits M1.out.1.fits) ?_
        rintro e wh ⟨rfl, hbh⟩
        have U5 : Hid _ := U4.out.go hbh
        clear hbh
        have hS := And.intro (U5.out.cell b (.slice ax nx cx)) (U5.out.cell (b + 1) (.slice ay ny cy))
        go_wp2_with fail
        refine hK.out _ _ hS (fun hHeld => ?_)
        clear hK K hHeld
        refine wpAnyH_take (i := 24) (oi := { dst := some 112, op := Go.Op.unOp Go.UnOp.neg 3 (Go.Operand.tmp 111), type := 3, pos := "outright.go:69", after := #[{ on := 23, ground := Go.Ground.data }, { on := 17, ground := Go.Ground.guard }], guard := some (17, true) }) (v := .int .i64 (cmpI x y)) rfl (by kernel_rfl) (by kernel_rfl) (by kernel_rfl) (fun _ _ _ h => h) (Or.inl ⟨by rfl, ?_⟩) hS ?_
        · rintro w ⟨q0, q1⟩
          go_simp
          exact wrap_neg x y
        simp only [Act.put, List.setIfInBounds_toArray, List.set_cons_zero, List.set_cons_succ]
        refine wpAnyH_take (i := 25) (oi := { dst := some 113, op := Go.Op.binOp Go.BinOp.eql 3 (Go.Operand.tmp 108) (Go.Operand.tmp 112) 3, type := 4, pos := "outright.go:69", after := #[{ on := 20, ground := Go.Ground.data }, { on := 24, ground := Go.Ground.data }, { on := 17, ground := Go.Ground.guard }], guard := some (17, true) }) (v := .bool true) rfl (by kernel_rfl) (by kernel_rfl) (by kernel_rfl) (fun _ _ _ h => h) (Or.inl ⟨by rfl, ?_⟩) hS ?_
        · rintro w ⟨q0, q1⟩
          go_simp
        simp only [Act.put, List.setIfInBounds_toArray, List.set_cons_zero, List.set_cons_succ]
        refine wpAnyH_take (i := 26) (oi := { dst := some 114, op := Go.Op.pick (Go.Operand.tmp 105) (Go.Operand.tmp 113) (Go.Operand.const (Go.Value.bool false)), type := 4, pos := "outright.go:69", after := #[{ on := 17, ground := Go.Ground.data }, { on := 25, ground := Go.Ground.data }], guard := none }) (v := .bool true) rfl (by kernel_rfl) (by kernel_rfl) (by kernel_rfl) (fun _ _ _ h => h) (Or.inl ⟨by rfl, ?_⟩) hS ?_
        · rintro w ⟨q0, q1⟩
          go_simp
        simp only [Act.put, List.setIfInBounds_toArray, List.set_cons_zero, List.set_cons_succ]
        refine wpAnyH_take (i := 27) (oi := { dst := some 115, op := Go.Op.move (Go.Operand.tmp 114), type := 4, pos := "outright.go:69", after := #[{ on := 26, ground := Go.Ground.data }, { on := 23, ground := Go.Ground.chain }], guard := none }) (v := .bool true) rfl (by kernel_rfl) (by kernel_rfl) (by kernel_rfl) (fun _ _ _ h => h) (Or.inl ⟨by rfl, ?_⟩) hS ?_
        · rintro w ⟨q0, q1⟩
          go_simp
        simp only [Act.put, List.setIfInBounds_toArray, List.set_cons_zero, List.set_cons_succ]
        refine wpAnyH_ready (rs := [28]) (by kernel_rfl) (by simp) ?_
        refine AllReadyH.cons (o := { dst := some 116, op := Go.Op.call { callee := Go.Callee.value (Go.Operand.func 19), args := #[], argTypes := #[] }, type := 4, pos := "outright.go:69", after := #[{ on := 27, ground := Go.Ground.chain }, { on := 27, ground := Go.Ground.guard }], guard := some (27, true) }) rfl (fun K hK => ?_) AllReadyH.nil
        go_simp
        refine Calls.mono (started_true _) ?_
        rintro e wi ⟨rfl, hbi⟩
        have U6 : Hid _ := U5.out.go hbi
        clear hbi
        have hS := And.intro (U6.out.cell b (.slice ax nx cx)) (U6.out.cell (b + 1) (.slice ay ny cy))
        go_wp2_with fail
        refine hK.out _ _ hS (fun hHeld => ?_)
        clear hK K hHeld
        refine wpAnyH_take (i := 29) (oi := { dst := some 117, op := Go.Op.pick (Go.Operand.tmp 115) (Go.Operand.tmp 116) (Go.Operand.const (Go.Value.bool false)), type := 4, pos := "outright.go:69", after := #[{ on := 27, ground := Go.Ground.data }, { on := 28, ground := Go.Ground.data }], guard := none }) (v := .bool true) rfl (by kernel_rfl) (by kernel_rfl) (by kernel_rfl) (fun _ _ _ h => h) (Or.inl ⟨by rfl, ?_⟩) hS ?_
        · rintro w ⟨q0, q1⟩
          go_simp
        simp only [Act.put, List.setIfInBounds_toArray, List.set_cons_zero, List.set_cons_succ]
        refine wpAnyH_take (i := 30) (oi := { dst := some 4, op := Go.Op.assign (Go.Operand.tmp 117), type := 4, pos := "outright.go:69", after := #[{ on := 29, ground := Go.Ground.data }, { on := 28, ground := Go.Ground.chain }, { on := 0, ground := Go.Ground.phase }, { on := 1, ground := Go.Ground.phase }, { on := 2, ground := Go.Ground.phase }, { on := 3, ground := Go.Ground.phase }, { on := 4, ground := Go.Ground.phase }, { on := 5, ground := Go.Ground.phase }, { on := 6, ground := Go.Ground.phase }, { on := 7, ground := Go.Ground.phase }, { on := 8, ground := Go.Ground.phase }, { on := 9, ground := Go.Ground.phase }, { on := 10, ground := Go.Ground.phase }, { on := 11, ground := Go.Ground.phase }, { on := 12, ground := Go.Ground.phase }, { on := 13, ground := Go.Ground.phase }, { on := 14, ground := Go.Ground.phase }, { on := 15, ground := Go.Ground.phase }, { on := 16, ground := Go.Ground.phase }, { on := 17, ground := Go.Ground.phase }, { on := 18, ground := Go.Ground.phase }, { on := 19, ground := Go.Ground.phase }, { on := 20, ground := Go.Ground.phase }, { on := 21, ground := Go.Ground.phase }, { on := 22, ground := Go.Ground.phase }, { on := 23, ground := Go.Ground.phase }, { on := 24, ground := Go.Ground.phase }, { on := 25, ground := Go.Ground.phase }, { on := 26, ground := Go.Ground.phase }, { on := 27, ground := Go.Ground.phase }, { on := 28, ground := Go.Ground.phase }, { on := 29, ground := Go.Ground.phase }], guard := none }) (v := .bool true) rfl (by kernel_rfl) (by kernel_rfl) (by kernel_rfl) (fun _ _ _ h => h) (Or.inl ⟨by rfl, ?_⟩) hS ?_
        · rintro w ⟨q0, q1⟩
          go_simp
        simp only [Act.put, List.setIfInBounds_toArray, List.set_cons_zero, List.set_cons_succ]
        refine wpAnyH_done (by kernel_rfl) ?_ _
        go_wp2_with fail
        go_ret
        exact ⟨rfl, U6.out.bel⟩
      · go_simp
        refine Calls.mono (bytes_any _ y _ (U1.out.at (.agg #[.slice ay ny cy]) y) M2.out.fits) ?_
        rintro e we ⟨ge, rfl, hge, hRe, hbe⟩
        have U2 : Hid _ := U1.out.go hbe
        have cvx2 := conv_b (BRow.below RX.out hbe)
        have cvy := conv_b hRe
        clear hge hRe hbe
        have hS := And.intro (U2.out.cell b (.slice ax nx cx)) (U2.out.cell (b + 1) (.slice ay ny cy))
        go_wp2_with fail
        refine hK.out _ _ hS (fun hHeld => ?_)
        clear hK K hHeld
        refine wpAnyH_ready (rs := [3, 6]) (by kernel_rfl) (by simp) ?_
        refine AllReadyH.cons (o := { dst := some 91, op := Go.Op.convert 23 9 (Go.Operand.tmp 90), type := 9, pos := "outright.go:69", after := #[{ on := 2, ground := Go.Ground.data }], guard := none }) rfl (fun K hK => ?_) (AllReadyH.cons (o := { dst := some 94, op := Go.Op.convert 23 9 (Go.Operand.tmp 93), type := 9, pos := "outright.go:69", after := #[{ on := 5, ground := Go.Ground.data }], guard := none }) rfl (fun K hK => ?_) AllReadyH.nil)
        · go_simp
          refine hK.out _ _ hS (fun hHeld => ?_)
          clear hK K hHeld
          refine wpAnyH_ready (rs := [6]) (by kernel_rfl) (by simp) ?_
          refine AllReadyH.cons (o := { dst := some 94, op := Go.Op.convert 23 9 (Go.Operand.tmp 93), type := 9, pos := "outright.go:69", after := #[{ on := 5, ground := Go.Ground.data }], guard := none }) rfl (fun K hK => ?_) AllReadyH.nil
          skip
          go_simp
          refine hK.out _ _ hS (fun hHeld => ?_)
          clear hK K hHeld
          refine wpAnyH_take (i := 7) (oi := { dst := some 95, op := Go.Op.binOp Go.BinOp.eql 9 (Go.Operand.tmp 91) (Go.Operand.tmp 94) 9, type := 4, pos := "outright.go:69", after := #[{ on := 3, ground := Go.Ground.data }, { on := 6, ground := Go.Ground.data }], guard := none }) (v := .bool sm) rfl (by kernel_rfl) (by kernel_rfl) (by kernel_rfl) (fun _ _ _ h => h) (Or.inl ⟨by rfl, ?_⟩) hS ?_
          · rintro w ⟨q0, q1⟩
            go_simp
            exact str_sm HSM.out ⟨byteText_inj, fun e => by rw [e]⟩
          simp only [Act.put, List.setIfInBounds_toArray, List.set_cons_zero, List.set_cons_succ]
          refine wpAnyH_take (i := 8) (oi := { dst := some 96, op := Go.Op.binOp Go.BinOp.eql 4 (Go.Operand.tmp 88) (Go.Operand.tmp 95) 4, type := 4, pos := "outright.go:69", after := #[{ on := 0, ground := Go.Ground.data }, { on := 7, ground := Go.Ground.data }], guard := none }) (v := .bool true) rfl (by kernel_rfl) (by kernel_rfl) (by kernel_rfl) (fun _ _ _ h => h) (Or.inl ⟨by rfl, ?_⟩) hS ?_
          · rintro w ⟨q0, q1⟩
            go_simp
          simp only [Act.put, List.setIfInBounds_toArray, List.set_cons_zero, List.set_cons_succ]
          refine wpAnyH_take (i := 9) (oi := { dst := some 97, op := Go.Op.move (Go.Operand.tmp 96), type := 4, pos := "outright.go:69", after := #[{ on := 8, ground := Go.Ground.data }, { on := 5, ground := Go.Ground.chain }], guard := none }) (v := .bool true) rfl (by kernel_rfl) (by kernel_rfl) (by kernel_rfl) (fun _ _ _ h => h) (Or.inl ⟨by rfl, ?_⟩) hS ?_
          · rintro w ⟨q0, q1⟩
            go_simp
          simp only [Act.put, List.setIfInBounds_toArray, List.set_cons_zero, List.set_cons_succ]
          refine wpAnyH_take (i := 10) (oi := { dst := some 98, op := Go.Op.move (Go.Operand.tmp 11), type := 4, pos := "outright.go:69", after := #[{ on := 9, ground := Go.Ground.guard }], guard := some (9, true) }) (v := .bool sm) rfl (by kernel_rfl) (by kernel_rfl) (by kernel_rfl) (fun _ _ _ h => h) (Or.inl ⟨by rfl, ?_⟩) hS ?_
          · rintro w ⟨q0, q1⟩
            go_simp
          simp only [Act.put, List.setIfInBounds_toArray, List.set_cons_zero, List.set_cons_succ]
          refine wpAnyH_take (i := 11) (oi := { dst := some 99, op := Go.Op.move (Go.Operand.tmp 8), type := 9, pos := "outright.go:69", after := #[{ on := 9, ground := Go.Ground.guard }], guard := some (9, true) }) (v := .string s) rfl (by kernel_rfl) (by kernel_rfl) (by kernel_rfl) (fun _ _ _ h => h) (Or.inl ⟨by rfl, ?_⟩) hS ?_
          · rintro w ⟨q0, q1⟩
            go_simp
          simp only [Act.put, List.setIfInBounds_toArray, List.set_cons_zero, List.set_cons_succ]
          refine wpAnyH_take (i := 12) (oi := { dst := some 100, op := Go.Op.load 27 (Go.Operand.tmp 6), type := 27, pos := "outright.go:69", after := #[{ on := 9, ground := Go.Ground.guard }], guard := some (9, true) }) (v := .agg #[.slice ay ny cy]) rfl (by kernel_rfl) (by kernel_rfl) (by kernel_rfl) (fun _ _ _ h => h) (Or.inl ⟨by rfl, ?_⟩) hS ?_
          · rintro w ⟨q0, q1⟩
            go_simp
          simp only [Act.put, List.setIfInBounds_toArray, List.set_cons_zero, List.set_cons_succ]
          refine wpAnyH_ready (rs := [13]) (by kernel_rfl) (by simp) ?_
          refine AllReadyH.cons (o := { dst := some 101, op := Go.Op.call { callee := Go.Callee.value (Go.Operand.func 28), args := #[Go.Operand.tmp 100], argTypes := #[27] }, type := 9, pos := "outright.go:69", after := #[{ on := 12, ground := Go.Ground.data }, { on := 9, ground := Go.Ground.chain }, { on := 9, ground := Go.Ground.guard }], guard := some (9, true) }) rfl (fun K hK => ?_) AllReadyH.nil
          go_simp
          refine Calls.mono (text_any _ y _ (U2.out.at (.agg #[.slice ay ny cy]) y) M2.out.tx) ?_
          rintro e wf ⟨l, rfl, hl, hbf⟩
          have HT : Hid _ := HS.out.2.2.2.2.2 l hl
          generalize decText y l = s' at HT ⊢
          have U3 : Hid _ := U2.out.go hbf
          clear hbf hl
          have hS := And.intro (U3.out.cell b (.slice ax nx cx)) (U3.out.cell (b + 1) (.slice ay ny cy))
          go_wp2_with fail
          refine hK.out _ _ hS (fun hHeld => ?_)
          clear hK K hHeld
          refine wpAnyH_take (i := 14) (oi := { dst := some 102, op := Go.Op.binOp Go.BinOp.eql 9 (Go.Operand.tmp 99) (Go.Operand.tmp 101) 9, type := 4, pos := "outright.go:69", after := #[{ on := 11, ground := Go.Ground.data }, { on := 13, ground := Go.Ground.data }, { on := 9, ground := Go.Ground.guard }], guard := some (9, true) }) (v := .bool sm) rfl (by kernel_rfl) (by kernel_rfl) (by kernel_rfl) (fun _ _ _ h => h) (Or.inl ⟨by rfl, ?_⟩) hS ?_
          · rintro w ⟨q0, q1⟩
            go_simp
            exact str_sm HSM.out HT.out
          simp only [Act.put, List.setIfInBounds_toArray, List.set_cons_zero, List.set_cons_succ]
          refine wpAnyH_take (i := 15) (oi := { dst := some 103, op := Go.Op.binOp Go.BinOp.eql 4 (Go.Operand.tmp 98) (Go.Operand.tmp 102) 4, type := 4, pos := "outright.go:69", after := #[{ on := 10, ground := Go.Ground.data }, { on := 14, ground := Go.Ground.data }, { on := 9, ground := Go.Ground.guard }], guard := some (9, true) }) (v := .bool true) rfl (by kernel_rfl) (by kernel_rfl) (by kernel_rfl) (fun _ _ _ h => h) (Or.inl ⟨by rfl, ?_⟩) hS ?_
          · rintro w ⟨q0, q1⟩
            go_simp
          simp only [Act.put, List.setIfInBounds_toArray, List.set_cons_zero, List.set_cons_succ]
          refine wpAnyH_take (i := 16) (oi := { dst := some 104, op := Go.Op.pick (Go.Operand.tmp 97) (Go.Operand.tmp 103) (Go.Operand.const (Go.Value.bool false)), type := 4, pos := "outright.go:69", after := #[{ on := 9, ground := Go.Ground.data }, { on := 15, ground := Go.Ground.data }], guard := none }) (v := .bool true) rfl (by kernel_rfl) (by kernel_rfl) (by kernel_rfl) (fun _ _ _ h => h) (Or.inl ⟨by rfl, ?_⟩) hS ?_
          · rintro w ⟨q0, q1⟩
            go_simp
          simp only [Act.put, List.setIfInBounds_toArray, List.set_cons_zero, List.set_cons_succ]
          refine wpAnyH_take (i := 17) (oi := { dst := some 105, op := Go.Op.move (Go.Operand.tmp 104), type := 4, pos := "outright.go:69", after := #[{ on := 16, ground := Go.Ground.data }, { on := 13, ground := Go.Ground.chain }], guard := none }) (v := .bool true) rfl (by kernel_rfl) (by kernel_rfl) (by kernel_rfl) (fun _ _ _ h => h) (Or.inl ⟨by rfl, ?_⟩) hS ?_
          · rintro w ⟨q0, q1⟩
            go_simp
          simp only [Act.put, List.setIfInBounds_toArray, List.set_cons_zero, List.set_cons_succ]
          refine wpAnyH_take (i := 18) (oi := { dst := some 106, op := Go.Op.load 27 (Go.Operand.tmp 5), type := 27, pos := "outright.go:69", after := #[{ on := 17, ground := Go.Ground.guard }], guard := some (17, true) }) (v := .agg #[.slice ax nx cx]) rfl (by kernel_rfl) (by kernel_rfl) (by kernel_rfl) (fun _ _ _ h => h) (Or.inl ⟨by rfl, ?_⟩) hS ?_
          · rintro w ⟨q0, q1⟩
            go_simp
          simp only [Act.put, List.setIfInBounds_toArray, List.set_cons_zero, List.set_cons_succ]
          refine wpAnyH_take (i := 19) (oi := { dst := some 107, op := Go.Op.load 27 (Go.Operand.tmp 6), type := 27, pos := "outright.go:69", after := #[{ on := 17, ground := Go.Ground.guard }], guard := some (17, true) }) (v := .agg #[.slice ay ny cy]) rfl (by kernel_rfl) (by kernel_rfl) (by kernel_rfl) (fun _ _ _ h => h) (Or.inl ⟨by rfl, ?_⟩) hS ?_
          · rintro w ⟨q0, q1⟩
            go_simp
          simp only [Act.put, List.setIfInBounds_toArray, List.set_cons_zero, List.set_cons_succ]
          refine wpAnyH_take (i := 21) (oi := { dst := some 109, op := Go.Op.load 27 (Go.Operand.tmp 6), type := 27, pos := "outright.go:69", after := #[{ on := 17, ground := Go.Ground.guard }], guard := some (17, true) }) (v := .agg #[.slice ay ny cy]) rfl (by kernel_rfl) (by kernel_rfl) (by kernel_rfl) (fun _ _ _ h => h) (Or.inl ⟨by rfl, ?_⟩) hS ?_
          · rintro w ⟨q0, q1⟩
            go_simp
          simp only [Act.put, List.setIfInBounds_toArray, List.set_cons_zero, List.set_cons_succ]
          refine wpAnyH_take (i := 22) (oi := { dst := some 110, op := Go.Op.load 27 (Go.Operand.tmp 5), type := 27, pos := "outright.go:69", after := #[{ on := 17, ground := Go.Ground.guard }], guard := some (17, true) }) (v := .agg #[.slice ax nx cx]) rfl (by kernel_rfl) (by kernel_rfl) (by kernel_rfl) (fun _ _ _ h => h) (Or.inl ⟨by rfl, ?_⟩) hS ?_
          · rintro w ⟨q0, q1⟩
            go_simp
          simp only [Act.put, List.setIfInBounds_toArray, List.set_cons_zero, List.set_cons_succ]
          refine wpAnyH_ready (rs := [20]) (by kernel_rfl) (by simp) ?_
          refine AllReadyH.cons (o := { dst := some 108, op := Go.Op.call { callee := Go.Callee.value (Go.Operand.func 26), args := #[Go.Operand.tmp 106, Go.Operand.tmp 107], argTypes := #[27, 27] }, type := 3, pos := "outright.go:69", after := #[{ on := 18, ground := Go.Ground.data }, { on := 19, ground := Go.Ground.data }, { on := 17, ground := Go.Ground.chain }, { on := 17, ground := Go.Ground.guard }], guard := some (17, true) }) rfl (fun K hK => ?_) AllReadyH.nil
          go_simp
          refine Calls.mono (cmp_any _ _ x y _ (U3.out.at (.agg #[.slice ax nx cx]) x) (U3.out.at (.agg #[.slice ay ny cy]) y) M1.out.1.fits M2.out.fits) ?_
          rintro e wg ⟨rfl, hbg⟩
          have U4 : Hid _ := U3.out.go hbg
          clear hbg
          have hS := And.intro (U4.out.cell b (.slice ax nx cx)) (U4.out.cell (b + 1) (.slice ay ny cy))
          go_wp2_with fail
          refine hK.out _ _ hS (fun hHeld => ?_)
          clear hK K hHeld
          refine wpAnyH_ready (rs := [23]) (by kernel_rfl) (by simp) ?_
          refine AllReadyH.cons (o := { dst := some 111, op := Go.Op.call { callee := Go.Callee.value (Go.Operand.func 26), args := #[Go.Operand.tmp 109, Go.Operand.tmp 110], argTypes := #[27, 27] }, type := 3, pos := "outright.go:69", after := #[{ on := 21, ground := Go.Ground.data }, { on := 22, ground := Go.Ground.data }, { on := 20, ground := Go.Ground.chain }, { on := 17, ground := Go.Ground.guard }], guard := some (17, true) }) rfl (fun K hK => ?_) AllReadyH.nil
          go_simp
          refine Calls.mono (cmp_any _ _ y x _ (U4.out.at (.agg #[.slice ay ny cy]) y) (U4.out.at (.agg #[.slice ax nx cx]) x) M2.out.fits M1.out.1.fits) ?_
          rintro e wh ⟨rfl, hbh⟩
          have U5 : Hid _ := U4.out.go hbh
          clear hbh
          have hS := And.intro (U5.out.cell b (.slice ax nx cx)) (U5.out.cell (b + 1) (.slice ay ny cy))
          go_wp2_with fail
          refine hK.out _ _ hS (fun hHeld => ?_)
          clear hK K hHeld
          refine wpAnyH_take (i := 24) (oi := { dst := some 112, op := Go.Op.unOp Go.UnOp.neg 3 (Go.Operand.tmp 111), type := 3, pos := "outright.go:69", after := #[{ on := 23, ground := Go.Ground.data }, { on := 17, ground := Go.Ground.guard }], guard := some (17, true) }) (v := .int .i64 (cmpI x y)) rfl (by kernel_rfl) (by kernel_rfl) (by kernel_rfl) (fun _ _ _ h => h) (Or.inl ⟨by rfl, ?_⟩) hS ?_
          · rintro w ⟨q0, q1⟩
            go_simp
            exact wrap_neg x y
          simp only [Act.put, List.setIfInBounds_toArray, List.set_cons_zero, List.set_cons_succ]
          refine wpAnyH_take (i := 25) (oi := { dst := some 113, op := Go.Op.binOp Go.BinOp.eql 3 (Go.Operand.tmp 108) (Go.Operand.tmp 112) 3, type := 4, pos := "outright.go:69", after := #[{ on := 20, ground := Go.Ground.data }, { on := 24, ground := Go.Ground.data }, { on := 17, ground := Go.Ground.guard }], guard := some (17, true) }) (v := .bool true) rfl (by kernel_rfl) (by kernel_rfl) (by kernel_rfl) (fun _ _ _ h => h) (Or.inl ⟨by rfl, ?_⟩) hS ?_
          · rintro w ⟨q0, q1⟩
            go_simp
          simp only [Act.put, List.setIfInBounds_toArray, List.set_cons_zero, List.set_cons_succ]
          refine wpAnyH_take (i := 26) (oi := { dst := some 114, op := Go.Op.pick (Go.Operand.tmp 105) (Go.Operand.tmp 113) (Go.Operand.const (Go.Value.bool false)), type := 4, pos := "outright.go:69", after := #[{ on := 17, ground := Go.Ground.data }, { on := 25, ground := Go.Ground.data }], guard := none }) (v := .bool true) rfl (by kernel_rfl) (by kernel_rfl) (by kernel_rfl) (fun _ _ _ h => h) (Or.inl ⟨by rfl, ?_⟩) hS ?_
          · rintro w ⟨q0, q1⟩
            go_simp
          simp only [Act.put, List.setIfInBounds_toArray, List.set_cons_zero, List.set_cons_succ]
          refine wpAnyH_take (i := 27) (oi := { dst := some 115, op := Go.Op.move (Go.Operand.tmp 114), type := 4, pos := "outright.go:69", after := #[{ on := 26, ground := Go.Ground.data }, { on := 23, ground := Go.Ground.chain }], guard := none }) (v := .bool true) rfl (by kernel_rfl) (by kernel_rfl) (by kernel_rfl) (fun _ _ _ h => h) (Or.inl ⟨by rfl, ?_⟩) hS ?_
          · rintro w ⟨q0, q1⟩
            go_simp
          simp only [Act.put, List.setIfInBounds_toArray, List.set_cons_zero, List.set_cons_succ]
          refine wpAnyH_ready (rs := [28]) (by kernel_rfl) (by simp) ?_
          refine AllReadyH.cons (o := { dst := some 116, op := Go.Op.call { callee := Go.Callee.value (Go.Operand.func 19), args := #[], argTypes := #[] }, type := 4, pos := "outright.go:69", after := #[{ on := 27, ground := Go.Ground.chain }, { on := 27, ground := Go.Ground.guard }], guard := some (27, true) }) rfl (fun K hK => ?_) AllReadyH.nil
          go_simp
          refine Calls.mono (started_true _) ?_
          rintro e wi ⟨rfl, hbi⟩
          have U6 : Hid _ := U5.out.go hbi
          clear hbi
          have hS := And.intro (U6.out.cell b (.slice ax nx cx)) (U6.out.cell (b + 1) (.slice ay ny cy))
          go_wp2_with fail
          refine hK.out _ _ hS (fun hHeld => ?_)
          clear hK K hHeld
          refine wpAnyH_take (i := 29) (oi := { dst := some 117, op := Go.Op.pick (Go.Operand.tmp 115) (Go.Operand.tmp 116) (Go.Operand.const (Go.Value.bool false)), type := 4, pos := "outright.go:69", after := #[{ on := 27, ground := Go.Ground.data }, { on := 28, ground := Go.Ground.data }], guard := none }) (v := .bool true) rfl (by kernel_rfl) (by kernel_rfl) (by kernel_rfl) (fun _ _ _ h => h) (Or.inl ⟨by rfl, ?_⟩) hS ?_
          · rintro w ⟨q0, q1⟩
            go_simp
          simp only [Act.put, List.setIfInBounds_toArray, List.set_cons_zero, List.set_cons_succ]
          refine wpAnyH_take (i := 30) (oi := { dst := some 4, op := Go.Op.assign (Go.Operand.tmp 117), type := 4, pos := "outright.go:69", after := #[{ on := 29, ground := Go.Ground.data }, { on := 28, ground := Go.Ground.chain }, { on := 0, ground := Go.Ground.phase }, { on := 1, ground := Go.Ground.phase }, { on := 2, ground := Go.Ground.phase }, { on := 3, ground := Go.Ground.phase }, { on := 4, ground := Go.Ground.phase }, { on := 5, ground := Go.Ground.phase }, { on := 6, ground := Go.Ground.phase }, { on := 7, ground := Go.Ground.phase }, { on := 8, ground := Go.Ground.phase }, { on := 9, ground := Go.Ground.phase }, { on := 10, ground := Go.Ground.phase }, { on := 11, ground := Go.Ground.phase }, { on := 12, ground := Go.Ground.phase }, { on := 13, ground := Go.Ground.phase }, { on := 14, ground := Go.Ground.phase }, { on := 15, ground := Go.Ground.phase }, { on := 16, ground := Go.Ground.phase }, { on := 17, ground := Go.Ground.phase }, { on := 18, ground := Go.Ground.phase }, { on := 19, ground := Go.Ground.phase }, { on := 20, ground := Go.Ground.phase }, { on := 21, ground := Go.Ground.phase }, { on := 22, ground := Go.Ground.phase }, { on := 23, ground := Go.Ground.phase }, { on := 24, ground := Go.Ground.phase }, { on := 25, ground := Go.Ground.phase }, { on := 26, ground := Go.Ground.phase }, { on := 27, ground := Go.Ground.phase }, { on := 28, ground := Go.Ground.phase }, { on := 29, ground := Go.Ground.phase }], guard := none }) (v := .bool true) rfl (by kernel_rfl) (by kernel_rfl) (by kernel_rfl) (fun _ _ _ h => h) (Or.inl ⟨by rfl, ?_⟩) hS ?_
          · rintro w ⟨q0, q1⟩
            go_simp
          simp only [Act.put, List.setIfInBounds_toArray, List.set_cons_zero, List.set_cons_succ]
          refine wpAnyH_done (by kernel_rfl) ?_ _
          go_wp2_with fail
          go_ret
          exact ⟨rfl, U6.out.bel⟩
        · go_simp
          refine hK.out _ _ hS (fun hHeld => ?_)
          clear hK K hHeld
          refine wpAnyH_ready (rs := [3]) (by kernel_rfl) (by simp) ?_
          refine AllReadyH.cons (o := { dst := some 91, op := Go.Op.convert 23 9 (Go.Operand.tmp 90), type := 9, pos := "outright.go:69", after := #[{ on := 2, ground := Go.Ground.data }], guard := none }) rfl (fun K hK => ?_) AllReadyH.nil
          skip
          go_simp
          refine hK.out _ _ hS (fun hHeld => ?_)
          clear hK K hHeld
          refine wpAnyH_take (i := 7) (oi := { dst := some 95, op := Go.Op.binOp Go.BinOp.eql 9 (Go.Operand.tmp 91) (Go.Operand.tmp 94) 9, type := 4, pos := "outright.go:69", after := #[{ on := 3, ground := Go.Ground.data }, { on := 6, ground := Go.Ground.data }], guard := none }) (v := .bool sm) rfl (by kernel_rfl) (by kernel_rfl) (by kernel_rfl) (fun _ _ _ h => h) (Or.inl ⟨by rfl, ?_⟩) hS ?_
          · rintro w ⟨q0, q1⟩
            go_simp
            exact str_sm HSM.out ⟨byteText_inj, fun e => by rw [e]⟩
          simp only [Act.put, List.setIfInBounds_toArray, List.set_cons_zero, List.set_cons_succ]
          refine wpAnyH_take (i := 8) (oi := { dst := some 96, op := Go.Op.binOp Go.BinOp.eql 4 (Go.Operand.tmp 88) (Go.Operand.tmp 95) 4, type := 4, pos := "outright.go:69", after := #[{ on := 0, ground := Go.Ground.data }, { on := 7, ground := Go.Ground.data }], guard := none }) (v := .bool true) rfl (by kernel_rfl) (by kernel_rfl) (by kernel_rfl) (fun _ _ _ h => h) (Or.inl ⟨by rfl, ?_⟩) hS ?_
          · rintro w ⟨q0, q1⟩
            go_simp
          simp only [Act.put, List.setIfInBounds_toArray, List.set_cons_zero, List.set_cons_succ]
          refine wpAnyH_take (i := 9) (oi := { dst := some 97, op := Go.Op.move (Go.Operand.tmp 96), type := 4, pos := "outright.go:69", after := #[{ on := 8, ground := Go.Ground.data }, { on := 5, ground := Go.Ground.chain }], guard := none }) (v := .bool true) rfl (by kernel_rfl) (by kernel_rfl) (by kernel_rfl) (fun _ _ _ h => h) (Or.inl ⟨by rfl, ?_⟩) hS ?_
          · rintro w ⟨q0, q1⟩
            go_simp
          simp only [Act.put, List.setIfInBounds_toArray, List.set_cons_zero, List.set_cons_succ]
          refine wpAnyH_take (i := 10) (oi := { dst := some 98, op := Go.Op.move (Go.Operand.tmp 11), type := 4, pos := "outright.go:69", after := #[{ on := 9, ground := Go.Ground.guard }], guard := some (9, true) }) (v := .bool sm) rfl (by kernel_rfl) (by kernel_rfl) (by kernel_rfl) (fun _ _ _ h => h) (Or.inl ⟨by rfl, ?_⟩) hS ?_
          · rintro w ⟨q0, q1⟩
            go_simp
          simp only [Act.put, List.setIfInBounds_toArray, List.set_cons_zero, List.set_cons_succ]
          refine wpAnyH_take (i := 11) (oi := { dst := some 99, op := Go.Op.move (Go.Operand.tmp 8), type := 9, pos := "outright.go:69", after := #[{ on := 9, ground := Go.Ground.guard }], guard := some (9, true) }) (v := .string s) rfl (by kernel_rfl) (by kernel_rfl) (by kernel_rfl) (fun _ _ _ h => h) (Or.inl ⟨by rfl, ?_⟩) hS ?_
          · rintro w ⟨q0, q1⟩
            go_simp
          simp only [Act.put, List.setIfInBounds_toArray, List.set_cons_zero, List.set_cons_succ]
          refine wpAnyH_take (i := 12) (oi := { dst := some 100, op := Go.Op.load 27 (Go.Operand.tmp 6), type := 27, pos := "outright.go:69", after := #[{ on := 9, ground := Go.Ground.guard }], guard := some (9, true) }) (v := .agg #[.slice ay ny cy]) rfl (by kernel_rfl) (by kernel_rfl) (by kernel_rfl) (fun _ _ _ h => h) (Or.inl ⟨by rfl, ?_⟩) hS ?_
          · rintro w ⟨q0, q1⟩
            go_simp
          simp only [Act.put, List.setIfInBounds_toArray, List.set_cons_zero, List.set_cons_succ]
          refine wpAnyH_ready (rs := [13]) (by kernel_rfl) (by simp) ?_
          refine AllReadyH.cons (o := { dst := some 101, op := Go.Op.call { callee := Go.Callee.value (Go.Operand.func 28), args := #[Go.Operand.tmp 100], argTypes := #[27] }, type := 9, pos := "outright.go:69", after := #[{ on := 12, ground := Go.Ground.data }, { on := 9, ground := Go.Ground.chain }, { on := 9, ground := Go.Ground.guard }], guard := some (9, true) }) rfl (fun K hK => ?_) AllReadyH.nil
          go_simp
          refine Calls.mono (text_any _ y _ (U2.out.at (.agg #[.slice ay ny cy]) y) M2.out.tx) ?_
          rintro e wf ⟨l, rfl, hl, hbf⟩
          have HT : Hid _ := HS.out.2.2.2.2.2 l hl
          generalize decText y l = s' at HT ⊢
          have U3 : Hid _ := U2.out.go hbf
          clear hbf hl
          have hS := And.intro (U3.out.cell b (.slice ax nx cx)) (U3.out.cell (b + 1) (.slice ay ny cy))
          go_wp2_with fail
          refine hK.out _ _ hS (fun hHeld => ?_)
          clear hK K hHeld
          refine wpAnyH_take (i := 14) (oi := { dst := some 102, op := Go.Op.binOp Go.BinOp.eql 9 (Go.Operand.tmp 99) (Go.Operand.tmp 101) 9, type := 4, pos := "outright.go:69", after := #[{ on := 11, ground := Go.Ground.data }, { on := 13, ground := Go.Ground.data }, { on := 9, ground := Go.Ground.guard }], guard := some (9, true) }) (v := .bool sm) rfl (by kernel_rfl) (by kernel_rfl) (by kernel_rfl) (fun _ _ _ h => h) (Or.inl ⟨by rfl, ?_⟩) hS ?_
          · rintro w ⟨q0, q1⟩
            go_simp
            exact str_sm HSM.out HT.out
          simp only [Act.put, List.setIfInBounds_toArray, List.set_cons_zero, List.set_cons_succ]
          refine wpAnyH_take (i := 15) (oi := { dst := some 103, op := Go.Op.binOp Go.BinOp.eql 4 (Go.Operand.tmp 98) (Go.Operand.tmp 102) 4, type := 4, pos := "outright.go:69", after := #[{ on := 10, ground := Go.Ground.data }, { on := 14, ground := Go.Ground.data }, { on := 9, ground := Go.Ground.guard }], guard := some (9, true) }) (v := .bool true) rfl (by kernel_rfl) (by kernel_rfl) (by kernel_rfl) (fun _ _ _ h => h) (Or.inl ⟨by rfl, ?_⟩) hS ?_
          · rintro w ⟨q0, q1⟩
            go_simp
          simp only [Act.put, List.setIfInBounds_toArray, List.set_cons_zero, List.set_cons_succ]
          refine wpAnyH_take (i := 16) (oi := { dst := some 104, op := Go.Op.pick (Go.Operand.tmp 97) (Go.Operand.tmp 103) (Go.Operand.const (Go.Value.bool false)), type := 4, pos := "outright.go:69", after := #[{ on := 9, ground := Go.Ground.data }, { on := 15, ground := Go.Ground.data }], guard := none }) (v := .bool true) rfl (by kernel_rfl) (by kernel_rfl) (by kernel_rfl) (fun _ _ _ h => h) (Or.inl ⟨by rfl, ?_⟩) hS ?_
          · rintro w ⟨q0, q1⟩
            go_simp
          simp only [Act.put, List.setIfInBounds_toArray, List.set_cons_zero, List.set_cons_succ]
          refine wpAnyH_take (i := 17) (oi := { dst := some 105, op := Go.Op.move (Go.Operand.tmp 104), type := 4, pos := "outright.go:69", after := #[{ on := 16, ground := Go.Ground.data }, { on := 13, ground := Go.Ground.chain }], guard := none }) (v := .bool true) rfl (by kernel_rfl) (by kernel_rfl) (by kernel_rfl) (fun _ _ _ h => h) (Or.inl ⟨by rfl, ?_⟩) hS ?_
          · rintro w ⟨q0, q1⟩
            go_simp
          simp only [Act.put, List.setIfInBounds_toArray, List.set_cons_zero, List.set_cons_succ]
          refine wpAnyH_take (i := 18) (oi := { dst := some 106, op := Go.Op.load 27 (Go.Operand.tmp 5), type := 27, pos := "outright.go:69", after := #[{ on := 17, ground := Go.Ground.guard }], guard := some (17, true) }) (v := .agg #[.slice ax nx cx]) rfl (by kernel_rfl) (by kernel_rfl) (by kernel_rfl) (fun _ _ _ h => h) (Or.inl ⟨by rfl, ?_⟩) hS ?_
          · rintro w ⟨q0, q1⟩
            go_simp
          simp only [Act.put, List.setIfInBounds_toArray, List.set_cons_zero, List.set_cons_succ]
          refine wpAnyH_take (i := 19) (oi := { dst := some 107, op := Go.Op.load 27 (Go.Operand.tmp 6), type := 27, pos := "outright.go:69", after := #[{ on := 17, ground := Go.Ground.guard }], guard := some (17, true) }) (v := .agg #[.slice ay ny cy]) rfl (by kernel_rfl) (by kernel_rfl) (by kernel_rfl) (fun _ _ _ h => h) (Or.inl ⟨by rfl, ?_⟩) hS ?_
          · rintro w ⟨q0, q1⟩
            go_simp
          simp only [Act.put, List.setIfInBounds_toArray, List.set_cons_zero, List.set_cons_succ]
          refine wpAnyH_take (i := 21) (oi := { dst := some 109, op := Go.Op.load 27 (Go.Operand.tmp 6), type := 27, pos := "outright.go:69", after := #[{ on := 17, ground := Go.Ground.guard }], guard := some (17, true) }) (v := .agg #[.slice ay ny cy]) rfl (by kernel_rfl) (by kernel_rfl) (by kernel_rfl) (fun _ _ _ h => h) (Or.inl ⟨by rfl, ?_⟩) hS ?_
          · rintro w ⟨q0, q1⟩
            go_simp
          simp only [Act.put, List.setIfInBounds_toArray, List.set_cons_zero, List.set_cons_succ]
          refine wpAnyH_take (i := 22) (oi := { dst := some 110, op := Go.Op.load 27 (Go.Operand.tmp 5), type := 27, pos := "outright.go:69", after := #[{ on := 17, ground := Go.Ground.guard }], guard := some (17, true) }) (v := .agg #[.slice ax nx cx]) rfl (by kernel_rfl) (by kernel_rfl) (by kernel_rfl) (fun _ _ _ h => h) (Or.inl ⟨by rfl, ?_⟩) hS ?_
          · rintro w ⟨q0, q1⟩
            go_simp
          simp only [Act.put, List.setIfInBounds_toArray, List.set_cons_zero, List.set_cons_succ]
          refine wpAnyH_ready (rs := [20]) (by kernel_rfl) (by simp) ?_
          refine AllReadyH.cons (o := { dst := some 108, op := Go.Op.call { callee := Go.Callee.value (Go.Operand.func 26), args := #[Go.Operand.tmp 106, Go.Operand.tmp 107], argTypes := #[27, 27] }, type := 3, pos := "outright.go:69", after := #[{ on := 18, ground := Go.Ground.data }, { on := 19, ground := Go.Ground.data }, { on := 17, ground := Go.Ground.chain }, { on := 17, ground := Go.Ground.guard }], guard := some (17, true) }) rfl (fun K hK => ?_) AllReadyH.nil
          go_simp
          refine Calls.mono (cmp_any _ _ x y _ (U3.out.at (.agg #[.slice ax nx cx]) x) (U3.out.at (.agg #[.slice ay ny cy]) y) M1.out.1.fits M2.out.fits) ?_
          rintro e wg ⟨rfl, hbg⟩
          have U4 : Hid _ := U3.out.go hbg
          clear hbg
          have hS := And.intro (U4.out.cell b (.slice ax nx cx)) (U4.out.cell (b + 1) (.slice ay ny cy))
          go_wp2_with fail
          refine hK.out _ _ hS (fun hHeld => ?_)
          clear hK K hHeld
          refine wpAnyH_ready (rs := [23]) (by kernel_rfl) (by simp) ?_
          refine AllReadyH.cons (o := { dst := some 111, op := Go.Op.call { callee := Go.Callee.value (Go.Operand.func 26), args := #[Go.Operand.tmp 109, Go.Operand.tmp 110], argTypes := #[27, 27] }, type := 3, pos := "outright.go:69", after := #[{ on := 21, ground := Go.Ground.data }, { on := 22, ground := Go.Ground.data }, { on := 20, ground := Go.Ground.chain }, { on := 17, ground := Go.Ground.guard }], guard := some (17, true) }) rfl (fun K hK => ?_) AllReadyH.nil
          go_simp
          refine Calls.mono (cmp_any _ _ y x _ (U4.out.at (.agg #[.slice ay ny cy]) y) (U4.out.at (.agg #[.slice ax nx cx]) x) M2.out.fits M1.out.1.fits) ?_
          rintro e wh ⟨rfl, hbh⟩
          have U5 : Hid _ := U4.out.go hbh
          clear hbh
          have hS := And.intro (U5.out.cell b (.slice ax nx cx)) (U5.out.cell (b + 1) (.slice ay ny cy))
          go_wp2_with fail
          refine hK.out _ _ hS (fun hHeld => ?_)
          clear hK K hHeld
          refine wpAnyH_take (i := 24) (oi := { dst := some 112, op := Go.Op.unOp Go.UnOp.neg 3 (Go.Operand.tmp 111), type := 3, pos := "outright.go:69", after := #[{ on := 23, ground := Go.Ground.data }, { on := 17, ground := Go.Ground.guard }], guard := some (17, true) }) (v := .int .i64 (cmpI x y)) rfl (by kernel_rfl) (by kernel_rfl) (by kernel_rfl) (fun _ _ _ h => h) (Or.inl ⟨by rfl, ?_⟩) hS ?_
          · rintro w ⟨q0, q1⟩
            go_simp
            exact wrap_neg x y
          simp only [Act.put, List.setIfInBounds_toArray, List.set_cons_zero, List.set_cons_succ]
          refine wpAnyH_take (i := 25) (oi := { dst := some 113, op := Go.Op.binOp Go.BinOp.eql 3 (Go.Operand.tmp 108) (Go.Operand.tmp 112) 3, type := 4, pos := "outright.go:69", after := #[{ on := 20, ground := Go.Ground.data }, { on := 24, ground := Go.Ground.data }, { on := 17, ground := Go.Ground.guard }], guard := some (17, true) }) (v := .bool true) rfl (by kernel_rfl) (by kernel_rfl) (by kernel_rfl) (fun _ _ _ h => h) (Or.inl ⟨by rfl, ?_⟩) hS ?_
          · rintro w ⟨q0, q1⟩
            go_simp
          simp only [Act.put, List.setIfInBounds_toArray, List.set_cons_zero, List.set_cons_succ]
          refine wpAnyH_take (i := 26) (oi := { dst := some 114, op := Go.Op.pick (Go.Operand.tmp 105) (Go.Operand.tmp 113) (Go.Operand.const (Go.Value.bool false)), type := 4, pos := "outright.go:69", after := #[{ on := 17, ground := Go.Ground.data }, { on := 25, ground := Go.Ground.data }], guard := none }) (v := .bool true) rfl (by kernel_rfl) (by kernel_rfl) (by kernel_rfl) (fun _ _ _ h => h) (Or.inl ⟨by rfl, ?_⟩) hS ?_
          · rintro w ⟨q0, q1⟩
            go_simp
          simp only [Act.put, List.setIfInBounds_toArray, List.set_cons_zero, List.set_cons_succ]
          refine wpAnyH_take (i := 27) (oi := { dst := some 115, op := Go.Op.move (Go.Operand.tmp 114), type := 4, pos := "outright.go:69", after := #[{ on := 26, ground := Go.Ground.data }, { on := 23, ground := Go.Ground.chain }], guard := none }) (v := .bool true) rfl (by kernel_rfl) (by kernel_rfl) (by kernel_rfl) (fun _ _ _ h => h) (Or.inl ⟨by rfl, ?_⟩) hS ?_
          · rintro w ⟨q0, q1⟩
            go_simp
          simp only [Act.put, List.setIfInBounds_toArray, List.set_cons_zero, List.set_cons_succ]
          refine wpAnyH_ready (rs := [28]) (by kernel_rfl) (by simp) ?_
          refine AllReadyH.cons (o := { dst := some 116, op := Go.Op.call { callee := Go.Callee.value (Go.Operand.func 19), args := #[], argTypes := #[] }, type := 4, pos := "outright.go:69", after := #[{ on := 27, ground := Go.Ground.chain }, { on := 27, ground := Go.Ground.guard }], guard := some (27, true) }) rfl (fun K hK => ?_) AllReadyH.nil
          go_simp
          refine Calls.mono (started_true _) ?_
          rintro e wi ⟨rfl, hbi⟩
          have U6 : Hid _ := U5.out.go hbi
          clear hbi
          have hS := And.intro (U6.out.cell b (.slice ax nx cx)) (U6.out.cell (b + 1) (.slice ay ny cy))
          go_wp2_with fail
          refine hK.out _ _ hS (fun hHeld => ?_)
          clear hK K hHeld
          refine wpAnyH_take (i := 29) (oi := { dst := some 117, op := Go.Op.pick (Go.Operand.tmp 115) (Go.Operand.tmp 116) (Go.Operand.const (Go.Value.bool false)), type := 4, pos := "outright.go:69", after := #[{ on := 27, ground := Go.Ground.data }, { on := 28, ground := Go.Ground.data }], guard := none }) (v := .bool true) rfl (by kernel_rfl) (by kernel_rfl) (by kernel_rfl) (fun _ _ _ h => h) (Or.inl ⟨by rfl, ?_⟩) hS ?_
          · rintro w ⟨q0, q1⟩
            go_simp
          simp only [Act.put, List.setIfInBounds_toArray, List.set_cons_zero, List.set_cons_succ]
          refine wpAnyH_take (i := 30) (oi := { dst := some 4, op := Go.Op.assign (Go.Operand.tmp 117), type := 4, pos := "outright.go:69", after := #[{ on := 29, ground := Go.Ground.data }, { on := 28, ground := Go.Ground.chain }, { on := 0, ground := Go.Ground.phase }, { on := 1, ground := Go.Ground.phase }, { on := 2, ground := Go.Ground.phase }, { on := 3, ground := Go.Ground.phase }, { on := 4, ground := Go.Ground.phase }, { on := 5, ground := Go.Ground.phase }, { on := 6, ground := Go.Ground.phase }, { on := 7, ground := Go.Ground.phase }, { on := 8, ground := Go.Ground.phase }, { on := 9, ground := Go.Ground.phase }, { on := 10, ground := Go.Ground.phase }, { on := 11, ground := Go.Ground.phase }, { on := 12, ground := Go.Ground.phase }, { on := 13, ground := Go.Ground.phase }, { on := 14, ground := Go.Ground.phase }, { on := 15, ground := Go.Ground.phase }, { on := 16, ground := Go.Ground.phase }, { on := 17, ground := Go.Ground.phase }, { on := 18, ground := Go.Ground.phase }, { on := 19, ground := Go.Ground.phase }, { on := 20, ground := Go.Ground.phase }, { on := 21, ground := Go.Ground.phase }, { on := 22, ground := Go.Ground.phase }, { on := 23, ground := Go.Ground.phase }, { on := 24, ground := Go.Ground.phase }, { on := 25, ground := Go.Ground.phase }, { on := 26, ground := Go.Ground.phase }, { on := 27, ground := Go.Ground.phase }, { on := 28, ground := Go.Ground.phase }, { on := 29, ground := Go.Ground.phase }], guard := none }) (v := .bool true) rfl (by kernel_rfl) (by kernel_rfl) (by kernel_rfl) (fun _ _ _ h => h) (Or.inl ⟨by rfl, ?_⟩) hS ?_
          · rintro w ⟨q0, q1⟩
            go_simp
          simp only [Act.put, List.setIfInBounds_toArray, List.set_cons_zero, List.set_cons_succ]
          refine wpAnyH_done (by kernel_rfl) ?_ _
          go_wp2_with fail
          go_ret
          exact ⟨rfl, U6.out.bel⟩
end Go.Proofs.Ytekigmkepfhdhaa
