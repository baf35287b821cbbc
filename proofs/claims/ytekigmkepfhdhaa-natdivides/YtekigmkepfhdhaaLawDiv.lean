/- NatDivides: the walk. -/
import Derived.Test.YtekigmkepfhdhaaLaw
namespace Go.Proofs.Ytekigmkepfhdhaa
open Go.RowKit
set_option maxRecDepth 100000
set_option linter.unusedVariables false
set_option maxHeartbeats 4000000 in
theorem natDivides_true (a0 : Option Addr) (l0 k0 : Nat) (D0 : Nat → Nat) (a1 : Option Addr) (l1 k1 : Nat) (D1 : Nat → Nat) (a2 : Option Addr) (l2 k2 : Nat) (D2 : Nat → Nat) (w : World) (h0 : BSl w a0 l0 k0 D0) (h1 : BSl w a1 l1 k1 D1) (h2 : BSl w a2 l2 k2 D2) :
    Calls Try.prog 5 #[.slice a0 l0 k0, .slice a1 l1 k1, .slice a2 l2 k2] w fun e w' => e = .returned (.bool true) ∧ Below w.heap.size w w' := by
  have HA : Hid (BSl w a0 l0 k0 D0 ∧ BSl w a1 l1 k1 D1 ∧ BSl w a2 l2 k2 D2) := ⟨h0, h1, h2⟩
  clear h0 h1 h2
  go_enter Try.func5, Try.ntmps5
  go_wp2_with fail
  refine (cut_any a0 l0 k0 D0 _ HA.out.1).mono ?_
  rintro e w' ⟨⟨n0, rfl, hb0, hn0⟩, hw'⟩
  rw [hw']
  clear hw' w'
  have X0 : Hid _ := hb0
  clear hb0
  go_wp2_with fail
  refine (fromBytes_any a0 n0 k0 D0 _ X0.out (by omega)).mono ?_
  rintro e w1 ⟨v1, rfl, hv1, hb1⟩
  have M1 : Hid (Mid (BV D0 n0)) := ⟨BV_P X0.out.2.2.1 hn0⟩
  generalize BV D0 n0 = x at hv1 M1
  have X1 : Hid (IsNat w1 v1 x ∧ BSl w1 a1 l1 k1 D1 ∧ BSl w1 a2 l2 k2 D2 ∧ Below _ _ w1) := ⟨hv1, HA.out.2.1.mono hb1, HA.out.2.2.mono hb1, hb1⟩
  obtain ⟨ax, nx, cx, rfl⟩ := hv1.isAgg
  clear hv1 hb1 X0 HA hn0
  go_wp2_with fail
  refine (cut_any a1 l1 k1 D1 _ X1.out.2.1).mono ?_
  rintro e w' ⟨⟨n1, rfl, hb0, hn1⟩, hw'⟩
  rw [hw']
  clear hw' w'
  have X0 : Hid _ := hb0
  clear hb0
  go_wp2_with fail
  refine (fromBytes_any a1 n1 k1 D1 _ X0.out (by omega)).mono ?_
  rintro e w2 ⟨v2, rfl, hv2, hb2⟩
  have M2 : Hid (Mid (BV D1 n1)) := ⟨BV_P X0.out.2.2.1 hn1⟩
  generalize BV D1 n1 = y at hv2 M2
  have X2 : Hid (IsNat w2 (.agg #[.slice ax nx cx]) x ∧ IsNat w2 v2 y ∧ BSl w2 a2 l2 k2 D2 ∧ Below _ _ w2) := ⟨X1.out.1.mono hb2, hv2, X1.out.2.2.1.mono hb2, bel_go X1.out.2.2.2 hb2⟩
  obtain ⟨ay, ny, cy, rfl⟩ := hv2.isAgg
  clear hv2 hb2 X0 X1 hn1
  go_wp2_with fail
  refine (cut_any a2 l2 k2 D2 _ X2.out.2.2.1).mono ?_
  rintro e w' ⟨⟨n2, rfl, hb0, hn2⟩, hw'⟩
  rw [hw']
  clear hw' w'
  have X0 : Hid _ := hb0
  clear hb0
  go_wp2_with fail
  refine (fromBytes_any a2 n2 k2 D2 _ X0.out (by omega)).mono ?_
  rintro e w3 ⟨v3, rfl, hv3, hb3⟩
  have M3 : Hid (Mid (BV D2 n2)) := ⟨BV_P X0.out.2.2.1 hn2⟩
  generalize BV D2 n2 = z at hv3 M3
  have X3 : Hid (IsNat w3 (.agg #[.slice ax nx cx]) x ∧ IsNat w3 (.agg #[.slice ay ny cy]) y ∧ IsNat w3 v3 z ∧ Below _ _ w3) := ⟨X2.out.1.mono hb3, X2.out.2.1.mono hb3, hv3, bel_go X2.out.2.2.2 hb3⟩
  obtain ⟨az, nz, cz, rfl⟩ := hv3.isAgg
  clear hv3 hb3 X0 X2 hn2
  go_wp2_with fail
  have S4 : Hid (St w _ [(.agg #[.slice ax nx cx], x), (.agg #[.slice ay ny cy], y), (.agg #[.slice az nz cz], z)] [(w3.heap.size + 1 + 1, .slice az nz cz), (w3.heap.size + 1, .slice ay ny cy), (w3.heap.size, .slice ax nx cx)]) := (((St.mk (N := [(.agg #[.slice ax nx cx], x), (.agg #[.slice ay ny cy], y), (.agg #[.slice az nz cz], z)]) (C := []) (by simp; exact ⟨X3.out.1, X3.out.2.1, X3.out.2.2.1⟩) (by simp) X3.out.2.2.2).box (.slice ax nx cx) 27 _ rfl).box (.slice ay ny cy) 27 (w3.heap.size + 1) (by simp)).box (.slice az nz cz) 27 (w3.heap.size + 1 + 1) (by simp)
  obtain ⟨w4, hw4⟩ : ∃ w4, w4 = ((w3.alloc (Obj.cells #[Value.slice ax nx cx] 27)).alloc (Obj.cells #[Value.slice ay ny cy] 27)).alloc (Obj.cells #[Value.slice az nz cz] 27) := ⟨_, rfl⟩
  rw [← hw4] at S4 ⊢
  obtain ⟨b, hb⟩ : ∃ b, b = w3.heap.size := ⟨_, rfl⟩
  rw [← hb] at S4 ⊢
  clear hw4 hb X3
  rcases Nat.eq_zero_or_pos y with hy | hy
  · subst hy
    refine (divMod_zero _ _ x _ (S4.out.at (.agg #[.slice ax nx cx]) x) (S4.out.at (.agg #[.slice ay ny cy]) 0)).mono ?_
    rintro e w5 ⟨v5, u5, rfl, hv5, hu5, hb5⟩
    obtain ⟨a5, n5, c5, rfl⟩ := hv5.isAgg
    obtain ⟨a6, n6, c6, rfl⟩ := hu5.isAgg
    have S5 := ((((S4.out.go hb5).nat hv5).nat hu5).box (.slice a5 n5 c5) 27 _ rfl).box (.slice a6 n6 c6) 27 (w5.heap.size + 1) (by simp)
    have S6 : Hid _ := S5
    clear S5 hv5 hu5 hb5 S4
    go_wp2_with fail
    obtain ⟨w6, hw6⟩ : ∃ w6, w6 = (w5.alloc (Obj.cells #[Value.slice a5 n5 c5] 27)).alloc (Obj.cells #[Value.slice a6 n6 c6] 27) := ⟨_, rfl⟩
    rw [← hw6] at S6 ⊢
    obtain ⟨g, hg⟩ : ∃ g, g = w5.heap.size := ⟨_, rfl⟩
    rw [← hg] at S6 ⊢
    clear hw6 hg
    have c1 := S6.out.cell (b + 1) (.slice ay ny cy)
    have c2 := S6.out.cell g (.slice a5 n5 c5)
    have c3 := S6.out.cell (g + 1) (.slice a6 n6 c6)
    refine wp_region_held_drew (S := fun w' => w'.cell? ⟨b + 1, 0, none⟩ = some (.slice ay ny cy)) (by kernel_rfl) c1 (fun hS => ?_)
    refine wpAnyH_take (i := 0) (oi := { dst := some 32, op := Op.move (Operand.tmp 12), type := 4, pos := "outright.go:30", after := #[], guard := none }) (v := .bool false) rfl (by kernel_rfl) (by kernel_rfl) (by kernel_rfl) (fun _ _ _ h => h) (Or.inl ⟨by rfl, ?_⟩) hS ?_
    · intro w hSw
      go_simp
    simp only [Act.put, List.setIfInBounds_toArray, List.set_cons_zero, List.set_cons_succ]
    refine wpAnyH_take (i := 1) (oi := { dst := some 33, op := Op.load 27 (Operand.tmp 8), type := 27, pos := "outright.go:30", after := #[], guard := none }) (v := .agg #[.slice ay ny cy]) rfl (by kernel_rfl) (by kernel_rfl) (by kernel_rfl) (fun _ _ _ h => h) (Or.inl ⟨by rfl, ?_⟩) hS ?_
    · intro w hSw
      go_simp
    simp only [Act.put, List.setIfInBounds_toArray, List.set_cons_zero, List.set_cons_succ]
    refine wpAnyH_ready (rs := [2]) (by kernel_rfl) (by simp) ?_
    refine AllReadyH.cons (o := { dst := some 34, op := Op.call { callee := Callee.value (Operand.func 25), args := #[Operand.tmp 33], argTypes := #[27] }, type := 3, pos := "outright.go:30", after := #[{ on := 1, ground := Ground.data }], guard := none }) rfl (fun K hK => ?_) AllReadyH.nil
    go_simp
    refine Calls.mono (len_any _ 0 _ (S6.out.at (.agg #[.slice ay ny cy]) 0) M2.out.fits) ?_
    rintro e w7 ⟨rfl, hb7⟩
    rw [bitLen_zero]
    have S7 : Hid _ := S6.out.god hb7
    have hS := S7.out.cell (b + 1) (.slice ay ny cy)
    clear hb7
    go_wp2_with fail
    refine hK.out _ _ hS (fun hHeld => ?_)
    clear hK K hHeld
    refine wpAnyH_take (i := 3) (oi := { dst := some 35, op := Op.binOp BinOp.gtr 3 (Operand.tmp 34) (Operand.const (Value.int IntKind.i64 0)) 3, type := 4, pos := "outright.go:30", after := #[{ on := 2, ground := Ground.data }], guard := none }) (v := .bool false) rfl (by kernel_rfl) (by kernel_rfl) (by kernel_rfl) (fun _ _ _ h => h) (Or.inl ⟨by rfl, ?_⟩) hS ?_
    · intro w hSw
      go_simp
    simp only [Act.put, List.setIfInBounds_toArray, List.set_cons_zero, List.set_cons_succ]
    refine wpAnyH_take (i := 4) (oi := { dst := some 36, op := Op.binOp BinOp.neq 4 (Operand.tmp 32) (Operand.tmp 35) 4, type := 4, pos := "outright.go:30", after := #[{ on := 0, ground := Ground.data }, { on := 3, ground := Ground.data }], guard := none }) (v := .bool false) rfl (by kernel_rfl) (by kernel_rfl) (by kernel_rfl) (fun _ _ _ h => h) (Or.inl ⟨by rfl, ?_⟩) hS ?_
    · intro w hSw
      go_simp
    simp only [Act.put, List.setIfInBounds_toArray, List.set_cons_zero, List.set_cons_succ]
    refine wpAnyH_take (i := 5) (oi := { dst := some 37, op := Op.move (Operand.tmp 36), type := 4, pos := "outright.go:30", after := #[{ on := 4, ground := Ground.data }, { on := 2, ground := Ground.chain }], guard := none }) (v := .bool false) rfl (by kernel_rfl) (by kernel_rfl) (by kernel_rfl) (fun _ _ _ h => h) (Or.inl ⟨by rfl, ?_⟩) hS ?_
    · intro w hSw
      go_simp
    simp only [Act.put, List.setIfInBounds_toArray, List.set_cons_zero, List.set_cons_succ]
    refine wpAnyH_take (i := 6) (oi := { dst := some 38, op := Op.move (Operand.tmp 12), type := 4, pos := "outright.go:30", after := #[{ on := 5, ground := Ground.guard }], guard := some (5, false) }) (v := .bool false) rfl (by kernel_rfl) (by kernel_rfl) (by kernel_rfl) (fun _ _ _ h => h) (Or.inl ⟨by rfl, ?_⟩) hS ?_
    · intro w hSw
      go_simp
    simp only [Act.put, List.setIfInBounds_toArray, List.set_cons_zero, List.set_cons_succ]
    refine wpAnyH_take (i := 7) (oi := { dst := some 39, op := Op.move (Operand.tmp 38), type := 4, pos := "outright.go:30", after := #[{ on := 6, ground := Ground.data }, { on := 5, ground := Ground.chain }, { on := 5, ground := Ground.guard }], guard := some (5, false) }) (v := .bool false) rfl (by kernel_rfl) (by kernel_rfl) (by kernel_rfl) (fun _ _ _ h => h) (Or.inl ⟨by rfl, ?_⟩) hS ?_
    · intro w hSw
      go_simp
    simp only [Act.put, List.setIfInBounds_toArray, List.set_cons_zero, List.set_cons_succ]
    refine wpAnyH_take (i := 8) (oi := { dst := some 40, op := Op.load 27 (Operand.tmp 11), type := 27, pos := "outright.go:30", after := #[{ on := 7, ground := Ground.guard }], guard := some (7, true) }) (v := undef) rfl (by kernel_rfl) (by kernel_rfl) (by kernel_rfl) (fun _ _ _ h => h) (Or.inr ⟨by rfl, rfl⟩) hS ?_
    simp only [Act.put, List.setIfInBounds_toArray, List.set_cons_zero, List.set_cons_succ]
    refine wpAnyH_take (i := 9) (oi := { dst := some 41, op := Op.load 27 (Operand.tmp 8), type := 27, pos := "outright.go:30", after := #[{ on := 7, ground := Ground.guard }], guard := some (7, true) }) (v := undef) rfl (by kernel_rfl) (by kernel_rfl) (by kernel_rfl) (fun _ _ _ h => h) (Or.inr ⟨by rfl, rfl⟩) hS ?_
    simp only [Act.put, List.setIfInBounds_toArray, List.set_cons_zero, List.set_cons_succ]
    refine wpAnyH_ready (rs := [10]) (by kernel_rfl) (by simp) ?_
    refine AllReadyH.cons (o := { dst := some 42, op := Op.call { callee := Callee.value (Operand.func 26), args := #[Operand.tmp 40, Operand.tmp 41], argTypes := #[27, 27] }, type := 3, pos := "outright.go:30", after := #[{ on := 8, ground := Ground.data }, { on := 9, ground := Ground.data }, { on := 7, ground := Ground.chain }, { on := 7, ground := Ground.guard }], guard := some (7, true) }) rfl (fun K hK => ?_) AllReadyH.nil
    refine ite_no (fun h => Bool.noConfusion (show false = true from h)) ?_
    refine hK.out _ _ hS (fun hHeld => ?_)
    clear hK K hHeld
    simp only [Act.put, List.setIfInBounds_toArray, List.set_cons_zero, List.set_cons_succ]
    refine wpAnyH_take (i := 11) (oi := { dst := some 43, op := Op.binOp BinOp.geq 3 (Operand.tmp 42) (Operand.const (Value.int IntKind.i64 0)) 3, type := 4, pos := "outright.go:30", after := #[{ on := 10, ground := Ground.data }, { on := 7, ground := Ground.guard }], guard := some (7, true) }) (v := undef) rfl (by kernel_rfl) (by kernel_rfl) (by kernel_rfl) (fun _ _ _ h => h) (Or.inr ⟨by rfl, rfl⟩) hS ?_
    simp only [Act.put, List.setIfInBounds_toArray, List.set_cons_zero, List.set_cons_succ]
    refine wpAnyH_take (i := 12) (oi := { dst := some 44, op := Op.move (Operand.tmp 43), type := 4, pos := "outright.go:30", after := #[{ on := 11, ground := Ground.data }, { on := 10, ground := Ground.chain }, { on := 7, ground := Ground.guard }], guard := some (7, true) }) (v := undef) rfl (by kernel_rfl) (by kernel_rfl) (by kernel_rfl) (fun _ _ _ h => h) (Or.inr ⟨by rfl, rfl⟩) hS ?_
    simp only [Act.put, List.setIfInBounds_toArray, List.set_cons_zero, List.set_cons_succ]
    refine wpAnyH_take (i := 13) (oi := { dst := some 45, op := Op.load 27 (Operand.tmp 10), type := 27, pos := "outright.go:30", after := #[{ on := 12, ground := Ground.guard }], guard := some (12, false) }) (v := undef) rfl (by kernel_rfl) (by kernel_rfl) (by kernel_rfl) (fun _ _ _ h => h) (Or.inr ⟨by rfl, rfl⟩) hS ?_
    simp only [Act.put, List.setIfInBounds_toArray, List.set_cons_zero, List.set_cons_succ]
    refine wpAnyH_take (i := 14) (oi := { dst := some 46, op := Op.load 27 (Operand.tmp 8), type := 27, pos := "outright.go:30", after := #[{ on := 12, ground := Ground.guard }], guard := some (12, false) }) (v := undef) rfl (by kernel_rfl) (by kernel_rfl) (by kernel_rfl) (fun _ _ _ h => h) (Or.inr ⟨by rfl, rfl⟩) hS ?_
    simp only [Act.put, List.setIfInBounds_toArray, List.set_cons_zero, List.set_cons_succ]
    refine wpAnyH_take (i := 16) (oi := { dst := some 48, op := Op.load 27 (Operand.tmp 11), type := 27, pos := "outright.go:30", after := #[{ on := 12, ground := Ground.guard }], guard := some (12, false) }) (v := undef) rfl (by kernel_rfl) (by kernel_rfl) (by kernel_rfl) (fun _ _ _ h => h) (Or.inr ⟨by rfl, rfl⟩) hS ?_
    simp only [Act.put, List.setIfInBounds_toArray, List.set_cons_zero, List.set_cons_succ]
    refine wpAnyH_take (i := 18) (oi := { dst := some 50, op := Op.load 27 (Operand.tmp 7), type := 27, pos := "outright.go:30", after := #[{ on := 12, ground := Ground.guard }], guard := some (12, false) }) (v := undef) rfl (by kernel_rfl) (by kernel_rfl) (by kernel_rfl) (fun _ _ _ h => h) (Or.inr ⟨by rfl, rfl⟩) hS ?_
    simp only [Act.put, List.setIfInBounds_toArray, List.set_cons_zero, List.set_cons_succ]
    refine wpAnyH_ready (rs := [15]) (by kernel_rfl) (by simp) ?_
    refine AllReadyH.cons (o := { dst := some 47, op := Op.call { callee := Callee.value (Operand.func 23), args := #[Operand.tmp 45, Operand.tmp 46], argTypes := #[27, 27] }, type := 27, pos := "outright.go:30", after := #[{ on := 13, ground := Ground.data }, { on := 14, ground := Ground.data }, { on := 12, ground := Ground.chain }, { on := 12, ground := Ground.guard }], guard := some (12, false) }) rfl (fun K hK => ?_) AllReadyH.nil
    refine ite_no (fun h => Bool.noConfusion (show false = true from h)) ?_
    refine hK.out _ _ hS (fun hHeld => ?_)
    clear hK K hHeld
    simp only [Act.put, List.setIfInBounds_toArray, List.set_cons_zero, List.set_cons_succ]
    refine wpAnyH_ready (rs := [17]) (by kernel_rfl) (by simp) ?_
    refine AllReadyH.cons (o := { dst := some 49, op := Op.call { callee := Callee.value (Operand.func 20), args := #[Operand.tmp 47, Operand.tmp 48], argTypes := #[27, 27] }, type := 27, pos := "outright.go:30", after := #[{ on := 15, ground := Ground.data }, { on := 16, ground := Ground.data }, { on := 15, ground := Ground.chain }, { on := 12, ground := Ground.guard }], guard := some (12, false) }) rfl (fun K hK => ?_) AllReadyH.nil
    refine ite_no (fun h => Bool.noConfusion (show false = true from h)) ?_
    refine hK.out _ _ hS (fun hHeld => ?_)
    clear hK K hHeld
    simp only [Act.put, List.setIfInBounds_toArray, List.set_cons_zero, List.set_cons_succ]
    refine wpAnyH_ready (rs := [19]) (by kernel_rfl) (by simp) ?_
    refine AllReadyH.cons (o := { dst := some 51, op := Op.call { callee := Callee.value (Operand.func 22), args := #[Operand.tmp 49, Operand.tmp 50], argTypes := #[27, 27] }, type := 4, pos := "outright.go:30", after := #[{ on := 17, ground := Ground.data }, { on := 18, ground := Ground.data }, { on := 17, ground := Ground.chain }, { on := 12, ground := Ground.guard }], guard := some (12, false) }) rfl (fun K hK => ?_) AllReadyH.nil
    refine ite_no (fun h => Bool.noConfusion (show false = true from h)) ?_
    refine hK.out _ _ hS (fun hHeld => ?_)
    clear hK K hHeld
    simp only [Act.put, List.setIfInBounds_toArray, List.set_cons_zero, List.set_cons_succ]
    refine wpAnyH_take (i := 20) (oi := { dst := some 52, op := Op.unOp UnOp.not 4 (Operand.tmp 51), type := 4, pos := "outright.go:30", after := #[{ on := 19, ground := Ground.data }, { on := 12, ground := Ground.guard }], guard := some (12, false) }) (v := undef) rfl (by kernel_rfl) (by kernel_rfl) (by kernel_rfl) (fun _ _ _ h => h) (Or.inr ⟨by rfl, rfl⟩) hS ?_
    simp only [Act.put, List.setIfInBounds_toArray, List.set_cons_zero, List.set_cons_succ]
    refine wpAnyH_take (i := 21) (oi := { dst := some 53, op := Op.pick (Operand.tmp 44) (Operand.const (Value.bool true)) (Operand.tmp 52), type := 4, pos := "outright.go:30", after := #[{ on := 12, ground := Ground.data }, { on := 20, ground := Ground.data }, { on := 7, ground := Ground.guard }], guard := some (7, true) }) (v := undef) rfl (by kernel_rfl) (by kernel_rfl) (by kernel_rfl) (fun _ _ _ h => h) (Or.inr ⟨by rfl, rfl⟩) hS ?_
    simp only [Act.put, List.setIfInBounds_toArray, List.set_cons_zero, List.set_cons_succ]
    refine wpAnyH_take (i := 22) (oi := { dst := some 54, op := Op.pick (Operand.tmp 39) (Operand.tmp 53) (Operand.const (Value.bool false)), type := 4, pos := "outright.go:30", after := #[{ on := 7, ground := Ground.data }, { on := 21, ground := Ground.data }, { on := 5, ground := Ground.guard }], guard := some (5, false) }) (v := .bool false) rfl (by kernel_rfl) (by kernel_rfl) (by kernel_rfl) (fun _ _ _ h => h) (Or.inl ⟨by rfl, ?_⟩) hS ?_
    · intro w hSw
      go_simp
    simp only [Act.put, List.setIfInBounds_toArray, List.set_cons_zero, List.set_cons_succ]
    refine wpAnyH_take (i := 23) (oi := { dst := some 55, op := Op.pick (Operand.tmp 37) (Operand.const (Value.bool true)) (Operand.tmp 54), type := 4, pos := "outright.go:30", after := #[{ on := 5, ground := Ground.data }, { on := 22, ground := Ground.data }], guard := none }) (v := .bool false) rfl (by kernel_rfl) (by kernel_rfl) (by kernel_rfl) (fun _ _ _ h => h) (Or.inl ⟨by rfl, ?_⟩) hS ?_
    · intro w hSw
      go_simp
    simp only [Act.put, List.setIfInBounds_toArray, List.set_cons_zero, List.set_cons_succ]
    refine wpAnyH_done (by kernel_rfl) ?_ _
    have d2 := S7.out.cell g (.slice a5 n5 c5)
    have d3 := S7.out.cell (g + 1) (.slice a6 n6 c6)
    clear c1 c2 c3 S6
    go_wp2_with fail
    refine (len_any _ 0 _ (S7.out.at (.agg #[.slice a5 n5 c5]) 0) (tx_word (by omega)).fits).mono ?_
    rintro e w14 ⟨rfl, hb14⟩
    rw [bitLen_zero]
    have S14 : Hid _ := S7.out.go hb14
    have d4 := S14.out.cell (g + 1) (.slice a6 n6 c6)
    clear hb14 S7 d2 d3 hS
    go_wp2_with fail
    refine (len_any _ 0 _ (S14.out.at (.agg #[.slice a6 n6 c6]) 0) (tx_word (by omega)).fits).mono ?_
    rintro e w15 ⟨rfl, hb15⟩
    rw [bitLen_zero]
    have S15 : Hid _ := S14.out.go hb15
    clear hb15 S14 d4
    go_wp2_with fail
    refine (started_true _).mono ?_
    rintro e w16 ⟨rfl, hb16⟩
    have S16 : Hid _ := S15.out.go hb16
    clear hb16 S15
    go_wp2_with fail
    go_ret
    exact ⟨rfl, S16.out.bel⟩
  · refine (divMod_any _ _ x y _ (S4.out.at (.agg #[.slice ax nx cx]) x) (S4.out.at (.agg #[.slice ay ny cy]) y) M1.out.small M2.out.small hy (.inl (.inl M2.out.p99))).mono ?_
    rintro e w5 ⟨v5, u5, rfl, hv5, hu5, hb5⟩
    obtain ⟨a5, n5, c5, rfl⟩ := hv5.isAgg
    obtain ⟨a6, n6, c6, rfl⟩ := hu5.isAgg
    have S5 := ((((S4.out.go hb5).nat hv5).nat hu5).box (.slice a5 n5 c5) 27 _ rfl).box (.slice a6 n6 c6) 27 (w5.heap.size + 1) (by simp)
    have S6 : Hid _ := S5
    clear S5 hv5 hu5 hb5 S4
    go_wp2_with fail
    obtain ⟨w6, hw6⟩ : ∃ w6, w6 = (w5.alloc (Obj.cells #[Value.slice a5 n5 c5] 27)).alloc (Obj.cells #[Value.slice a6 n6 c6] 27) := ⟨_, rfl⟩
    rw [← hw6] at S6 ⊢
    obtain ⟨g, hg⟩ : ∃ g, g = w5.heap.size := ⟨_, rfl⟩
    rw [← hg] at S6 ⊢
    clear hw6 hg
    have c0 := S6.out.cell b (.slice ax nx cx)
    have c1 := S6.out.cell (b + 1) (.slice ay ny cy)
    have c2 := S6.out.cell g (.slice a5 n5 c5)
    have c3 := S6.out.cell (g + 1) (.slice a6 n6 c6)
    have hbl : decide (0 < ((bitLen y : Nat) : Int)) = true := decide_eq_true (by have := bitLen_pos hy; omega)
    have hbl2 : decide (0 < bitLen y) = true := decide_eq_true (bitLen_pos hy)
    have hbl3 : 0 < bitLen y := bitLen_pos hy
    have M5 : Hid (Mid (x / y) ∧ Mid (x % y) ∧ x / y * y + x % y = x) := ⟨M1.out.le (Nat.div_le_self _ _), M2.out.le (Nat.le_of_lt (Nat.mod_lt _ hy)), Nat.div_add_mod' _ _⟩
    go_region_held3 (fun w' => w'.cell? ⟨b, 0, none⟩ = some (.slice ax nx cx) ∧ w'.cell? ⟨b + 1, 0, none⟩ = some (.slice ay ny cy) ∧ w'.cell? ⟨g, 0, none⟩ = some (.slice a5 n5 c5) ∧ w'.cell? ⟨g + 1, 0, none⟩ = some (.slice a6 n6 c6)) (first | (simp [go_sem, *]; done) | (trace_state; fail))
      (first
        | (go_at_call 25; refine Calls.mono (len_any _ y _ (S6.out.at (.agg #[.slice ay ny cy]) y) M2.out.fits) ?_; rintro e w7 ⟨rfl, hb7⟩; have S7 : Hid _ := (by first | exact S6.out.go hb7 | exact S6.out.god hb7); have d0 := S7.out.cell b (.slice ax nx cx); have d1 := S7.out.cell (b + 1) (.slice ay ny cy); have d2 := S7.out.cell g (.slice a5 n5 c5); have d3 := S7.out.cell (g + 1) (.slice a6 n6 c6); clear hb7)
        | (go_at_call 26; refine Calls.mono (cmp_any _ _ (x % y) y _ (S7.out.at (.agg #[.slice a6 n6 c6]) (x % y)) (S7.out.at (.agg #[.slice ay ny cy]) y) M5.out.2.1.fits M2.out.fits) ?_; rintro e w8 ⟨rfl, hb8⟩; rw [cmpI_lt (Nat.mod_lt _ hy)]; have S8 : Hid _ := (by first | exact S7.out.go hb8 | exact S7.out.god hb8); have f0 := S8.out.cell b (.slice ax nx cx); have f1 := S8.out.cell (b + 1) (.slice ay ny cy); have f2 := S8.out.cell g (.slice a5 n5 c5); have f3 := S8.out.cell (g + 1) (.slice a6 n6 c6); clear hb8)
        | (go_at_call 23; refine Calls.mono (mul_short _ _ (x / y) y _ (S8.out.at (.agg #[.slice a5 n5 c5]) (x / y)) (S8.out.at (.agg #[.slice ay ny cy]) y) M5.out.1.fits M2.out.fits (.inr M2.out.p99)) ?_; rintro e w9 ⟨v9, rfl, hv9, hb9⟩; have S9 : Hid _ := (by first | exact (S8.out.go hb9).nat hv9 | exact (S8.out.god hb9).nat hv9); have i0 := S9.out.cell b (.slice ax nx cx); have i1 := S9.out.cell (b + 1) (.slice ay ny cy); have i2 := S9.out.cell g (.slice a5 n5 c5); have i3 := S9.out.cell (g + 1) (.slice a6 n6 c6); clear hb9 hv9)
        | (go_at_call 20; refine Calls.mono (add_any _ _ (x / y * y) (x % y) _ (S9.out.at v9 (x / y * y)) (S9.out.at (.agg #[.slice a6 n6 c6]) (x % y)) (M1.out.le (Nat.div_mul_le_self _ _)).fits M5.out.2.1.fits) ?_; rintro e w10 ⟨v10, rfl, hv10, hb10⟩; rw [M5.out.2.2] at hv10; have S10 : Hid _ := (by first | exact (S9.out.go hb10).nat hv10 | exact (S9.out.god hb10).nat hv10); have j0 := S10.out.cell b (.slice ax nx cx); have j1 := S10.out.cell (b + 1) (.slice ay ny cy); have j2 := S10.out.cell g (.slice a5 n5 c5); have j3 := S10.out.cell (g + 1) (.slice a6 n6 c6); clear hb10 hv10)
        | (go_at_call 22; refine Calls.mono (eq_true _ _ x _ (S10.out.at v10 x) (S10.out.at (.agg #[.slice ax nx cx]) x) M1.out.tx) ?_; rintro e w11 ⟨rfl, hb11⟩; have S11 : Hid _ := (by first | exact S10.out.go hb11 | exact S10.out.god hb11); have k0' := S11.out.cell b (.slice ax nx cx); have k1' := S11.out.cell (b + 1) (.slice ay ny cy); have k2' := S11.out.cell g (.slice a5 n5 c5); have k3' := S11.out.cell (g + 1) (.slice a6 n6 c6); clear hb11))
    clear c0 c1 c2 c3 d0 d1 d2 d3 f0 f1 f2 f3 i0 i1 i2 i3 j0 j1 j2 j3 S6 S7 S8 S9 S10
    go_wp2_with fail
    have S12 : Hid (St w w11 [(.agg #[.slice ay ny cy], y), (.agg #[.slice az nz cz], z)] [(b + 1 + 1, .slice az nz cz), (b + 1, .slice ay ny cy)]) := ⟨fun p hp => S11.out.nats p (by simp at hp ⊢; rcases hp with h | h <;> simp [h]), fun p hp => S11.out.cells p (by simp at hp ⊢; rcases hp with h | h <;> simp [h]), S11.out.bel⟩
    clear S11 k0' k1' k2' k3' hbl hbl2 hbl3 M5 M1
    have c1 := S12.out.cell (b + 1) (.slice ay ny cy)
    have c2 := S12.out.cell (b + 1 + 1) (.slice az nz cz)
    have hl0 : b + 1 < w11.heap.size := World.block_lt_of_cell? _ _ c1
    have hl1 : b + 1 + 1 < w11.heap.size := World.block_lt_of_cell? _ _ c2
    have hl2 : b + 1 < w11.heap.size + 1 := by omega
    have hl3 : b + 1 + 1 < w11.heap.size + 1 := by omega
    have hl4 : b + 1 < w11.heap.size + 1 + 1 := by omega
    have hl5 : b + 1 + 1 < w11.heap.size + 1 + 1 := by omega
    have MM : Hid (Tx (y * z)) := tx_of (M2.out.mul M3.out) (by omega)
    go_cut [13, 14, 15] (fun p q ok wx => TwoVars w11 wx (y * z / y) (y * z % y) p q ∧ ok = .bool true)
    case first =>
      go_region_held3 (fun w' => w'.cell? ⟨b + 1, 0, none⟩ = some (.slice ay ny cy) ∧ w'.cell? ⟨b + 1 + 1, 0, none⟩ = some (.slice az nz cz)) (first | (simp [go_sem, *]; done) | (trace_state; fail))
        (first
          | (go_at_call 23; refine Calls.mono (mul_short _ _ y z _ ?_ ?_ M2.out.fits M3.out.fits (.inl M2.out.p99)) ?_; (refine IsNat.mono (S12.out.at (.agg #[.slice ay ny cy]) y) ?_; repeat (first | exact Below.refl _ _ | refine bel_al ?_ | refine bel_dr ?_)); (refine IsNat.mono (S12.out.at (.agg #[.slice az nz cz]) z) ?_; repeat (first | exact Below.refl _ _ | refine bel_al ?_ | refine bel_dr ?_)); rintro e w6 ⟨v6, rfl, hv6, hb6⟩; obtain ⟨a7, n7, c7, rfl⟩ := hv6.isAgg; (first | have ⟨p1, p2, p3, p4, p5, p6, p7, p8, p9⟩ := bel_rules_dr hb6 | have ⟨p1, p2, p3, p4, p5, p6, p7, p8, p9⟩ := bel_rules hb6); have X6 : Hid (IsNat w6 (.agg #[.slice a7 n7 c7]) (y * z)) := hv6; (have B6 : Hid (Below w11.heap.size w11 w6) := bel_go (by repeat (first | exact Below.refl _ _ | refine bel_al ?_ | refine bel_dr ?_)) hb6); have z6 := B6.out.size; have g0 := Nat.lt_of_lt_of_le hl0 z6; have g1 := Nat.lt_of_lt_of_le hl1 z6; (first | have e0 : w11.heap.size < w6.heap.size := lt_al p3 | (have e0 : w11.heap.size < w6.heap.size := lt_al2 p3; have e1 : w11.heap.size + 1 < w6.heap.size := lt_al3 p3) | skip); clear hv6 hb6 z6)
          | (go_at_call 24; refine Calls.mono (divMod_any _ _ (y * z) y _ ?_ ?_ MM.out.small M2.out.small hy (.inl (.inl M2.out.p99))) ?_; (refine IsNat.mono X6.out ?_; repeat (first | exact Below.refl _ _ | refine bel_al ?_ | refine bel_dr ?_)); (refine IsNat.mono (S12.out.at (.agg #[.slice ay ny cy]) y) ?_; repeat (first | exact Below.refl _ _ | exact B6.out | refine bel_al ?_ | refine bel_dr ?_)); rintro e w7 ⟨v7, u7, rfl, hv7, hu7, hb7⟩; obtain ⟨a8, n8, c8, rfl⟩ := hv7.isAgg; obtain ⟨a9, n9, c9, rfl⟩ := hu7.isAgg; (first | have ⟨q1, q2, q3, q4, q5, q6, q7, q8, q9⟩ := bel_rules_dr hb7 | have ⟨q1, q2, q3, q4, q5, q6, q7, q8, q9⟩ := bel_rules hb7); have X7 : Hid (IsNat w7 (.agg #[.slice a8 n8 c8]) (y * z / y) ∧ IsNat w7 (.agg #[.slice a9 n9 c9]) (y * z % y)) := ⟨hv7, hu7⟩; (have B7 : Hid (Below w6.heap.size w6 w7) := bel_go (by repeat (first | exact Below.refl _ _ | refine bel_al ?_ | refine bel_dr ?_)) hb7); have z7 := B7.out.size; have g2 := Nat.lt_of_lt_of_le g0 z7; have g3 := Nat.lt_of_lt_of_le g1 z7; (try have e2 := Nat.lt_of_lt_of_le e0 z7); (try have e3 := Nat.lt_of_lt_of_le e1 z7); (first | have e4 : w6.heap.size < w7.heap.size := lt_al q3 | (have e4 : w6.heap.size < w7.heap.size := lt_al2 q3; have e5 : w6.heap.size + 1 < w7.heap.size := lt_al3 q3) | skip); clear hv7 hu7 hb7 z7))
      all_goals (have y3 := B6.out.size; have y4 := B7.out.size)
      all_goals go_wp2_with fail
      all_goals go_meet
      all_goals go_light
      all_goals clear c1 c2 S12 X6 M2 M3 MM hy
      all_goals (have BB := bel_go B6.out B7.out)
      all_goals (have X8 := X7.out.1)
      all_goals (have X9 := X7.out.2)
      all_goals clear X7 B6 B7
      all_goals refine ⟨⟨_, _, a8, n8, c8, a9, n9, c9, rfl, rfl, ?_, ?_, ?_, ?_, ?_, ?_, ?_⟩, rfl⟩
      all_goals try (simp (config := { maxDischargeDepth := 9 }) [go_sem, *]; done)
      all_goals try (repeat (first | exact BB | refine bel_al ?_ | refine bel_st ?_ (Nat.le_trans ?_ (Nat.le_refl _))))
      all_goals try (repeat (first | exact X8 | exact X9 | refine IsNat.mono ?_ (bel_al (Below.refl _ _)) | refine IsNat.setCell ?_ (no_int_slice (a := none) (n := 0) (c := 0) ?_) _))
      all_goals try omega
      all_goals try (simp (config := { maxDischargeDepth := 9 }) [go_sem, *]; done)
      all_goals (dsimp only; omega)
    case rest =>
      obtain ⟨⟨bp, bq, a8, n8, c8, a9, n9, c9, rfl, rfl, k0', k1', hv7, hu7, hB, lp, lq⟩, rfl⟩ := hcut
      rw [Nat.mul_div_cancel_left _ hy] at hv7
      rw [Nat.mul_mod_right] at hu7
      have d2 := cell_later hB c2
      have S13 : Hid (St w wc [(.agg #[.slice a8 n8 c8], z), (.agg #[.slice a9 n9 c9], 0), (.agg #[.slice az nz cz], z)] [(bq, .slice a9 n9 c9)]) := ⟨by simp; exact ⟨hv7, hu7, (S12.out.at (.agg #[.slice az nz cz]) z).mono hB⟩, by simp; exact k1', bel_go S12.out.bel hB⟩
      clear hv7 hu7 hB lp lq S12 c1 c2 hl0 hl1 hl2 hl3 hl4 hl5 MM M2
      go_wp2_with fail
      refine (eq_true _ _ z _ (S13.out.at (.agg #[.slice a8 n8 c8]) z) (S13.out.at (.agg #[.slice az nz cz]) z) M3.out.tx).mono ?_
      rintro e w14 ⟨rfl, hb14⟩
      have S14 : Hid _ := S13.out.go hb14
      have d3 := S14.out.cell bq (.slice a9 n9 c9)
      clear hb14 S13 k0' k1' d2
      go_wp2_with fail
      refine (len_any _ 0 _ (S14.out.at (.agg #[.slice a9 n9 c9]) 0) (tx_word (by omega)).fits).mono ?_
      rintro e w15 ⟨rfl, hb15⟩
      rw [bitLen_zero]
      have S15 : Hid _ := S14.out.go hb15
      clear hb15 S14 d3
      go_wp2_with fail
      refine (started_true _).mono ?_
      rintro e w16 ⟨rfl, hb16⟩
      have S16 : Hid _ := S15.out.go hb16
      clear hb16 S15
      go_wp2_with fail
      go_ret
      exact ⟨rfl, S16.out.bel⟩
end Go.Proofs.Ytekigmkepfhdhaa
