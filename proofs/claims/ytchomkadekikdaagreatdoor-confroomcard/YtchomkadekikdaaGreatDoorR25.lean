/- Contracts of the program's functions, part 25: own work, joined in build order. -/
import Derived.Test.YtchomkadekikdaaGreatDoorR24
import Derived.Deep.RegionHeld3
namespace Go.Proofs.YtchomkadekikdaaGreatDoor
open Go.RowKit
set_option maxRecDepth 100000
set_option linter.unusedVariables false
theorem NSl.drew1 {w : World} {a : Option Addr} {n cap : Nat} {F : Nat → Nat → Int} (h : NSl w a n cap F) : NSl w.drew a n cap F := ⟨h.le, h.lim, h.wf, h.at'⟩
theorem step_app9 {P : Program} {ops : Array Oper} {o : Oper} {a : Act} {w : World} {K : Act → World → Prop} {Q : Exit → Act → World → Prop} {E : Prop} (hg : o.guard = none) (s x : Operand) (t : TypeId) (hop : o.op = Op.call { callee := Callee.builtin Builtin.append, args := #[s, x], argTypes := #[t, t] }) (sv xv : Value) (hs : a.eval s = sv) (hx : a.eval x = xv) (v' : Value) (w' : World)
    (hrun : (Builtin.append_ #[t, t] o.type #[sv, xv]).run P w = .ok v' w') (hK : K (a.put o.dst v') w') : if Region.wanted o (yielded ops a.tmps) = true then Oper.wp P o a w K Q else E := by
  have hw : Region.wanted o (yielded ops a.tmps) = true := by simp [Region.wanted, hg]
  rw [if_pos hw]
  unfold Oper.wp
  simp [execOp, hop, resolve, invoke, builtin, hs, hx, hrun, Result.andThen]
  exact hK
theorem three_cells (w : World) : ∀ j u, (ndcs [mk9, mk9, mk9])[j]? = some u → (w.alloc (.cells #[.int .i64 (-1), .int .i64 (-2), .int .i64 (-3), .int .i64 (-4), .int .i64 (-1), .int .i64 (-2), .int .i64 (-3), .int .i64 (-4), .int .i64 (-1), .int .i64 (-2), .int .i64 (-3), .int .i64 (-4)] 57)).cell? ((⟨w.heap.size, 0, none⟩ : Addr).add j) = some u := by
  intro j u hj
  have hl : j < 12 := by
    have := (List.getElem?_eq_some_iff.1 hj).1
    simpa [ndcs, ndc] using this
  rw [nr_addr, Nat.zero_add]
  have e : (w.alloc (.cells #[.int .i64 (-1), .int .i64 (-2), .int .i64 (-3), .int .i64 (-4), .int .i64 (-1), .int .i64 (-2), .int .i64 (-3), .int .i64 (-4), .int .i64 (-1), .int .i64 (-2), .int .i64 (-3), .int .i64 (-4)] 57)).cell? ⟨w.heap.size, j, none⟩ = (#[.int .i64 (-1), .int .i64 (-2), .int .i64 (-3), .int .i64 (-4), .int .i64 (-1), .int .i64 (-2), .int .i64 (-3), .int .i64 (-4), .int .i64 (-1), .int .i64 (-2), .int .i64 (-3), .int .i64 (-4)] : Array Value)[j]? := by
    have q := al_at w (.cells #[.int .i64 (-1), .int .i64 (-2), .int .i64 (-3), .int .i64 (-4), .int .i64 (-1), .int .i64 (-2), .int .i64 (-3), .int .i64 (-4), .int .i64 (-1), .int .i64 (-2), .int .i64 (-3), .int .i64 (-4)] 57)
    simp only [World.cell?, q]
    rfl
  rw [e, ← hj]
  match j, hl with
  | 0, _ => rfl
  | 1, _ => rfl
  | 2, _ => rfl
  | 3, _ => rfl
  | 4, _ => rfl
  | 5, _ => rfl
  | 6, _ => rfl
  | 7, _ => rfl
  | 8, _ => rfl
  | 9, _ => rfl
  | 10, _ => rfl
  | 11, _ => rfl
theorem four_mark (w : World) : ∀ j u, (ndcs [mk9, mk9, mk9, mk9])[j]? = some u → (w.alloc (.cells #[.int .i64 (-1), .int .i64 (-2), .int .i64 (-3), .int .i64 (-4), .int .i64 (-1), .int .i64 (-2), .int .i64 (-3), .int .i64 (-4), .int .i64 (-1), .int .i64 (-2), .int .i64 (-3), .int .i64 (-4), .int .i64 (-1), .int .i64 (-2), .int .i64 (-3), .int .i64 (-4)] 57)).cell? ((⟨w.heap.size, 0, none⟩ : Addr).add j) = some u := by
  intro j u hj
  have hl : j < 16 := by
    have := (List.getElem?_eq_some_iff.1 hj).1
    simpa [ndcs, ndc] using this
  rw [nr_addr, Nat.zero_add]
  have e : (w.alloc (.cells #[.int .i64 (-1), .int .i64 (-2), .int .i64 (-3), .int .i64 (-4), .int .i64 (-1), .int .i64 (-2), .int .i64 (-3), .int .i64 (-4), .int .i64 (-1), .int .i64 (-2), .int .i64 (-3), .int .i64 (-4), .int .i64 (-1), .int .i64 (-2), .int .i64 (-3), .int .i64 (-4)] 57)).cell? ⟨w.heap.size, j, none⟩ = (#[.int .i64 (-1), .int .i64 (-2), .int .i64 (-3), .int .i64 (-4), .int .i64 (-1), .int .i64 (-2), .int .i64 (-3), .int .i64 (-4), .int .i64 (-1), .int .i64 (-2), .int .i64 (-3), .int .i64 (-4), .int .i64 (-1), .int .i64 (-2), .int .i64 (-3), .int .i64 (-4)] : Array Value)[j]? := by
    have q := al_at w (.cells #[.int .i64 (-1), .int .i64 (-2), .int .i64 (-3), .int .i64 (-4), .int .i64 (-1), .int .i64 (-2), .int .i64 (-3), .int .i64 (-4), .int .i64 (-1), .int .i64 (-2), .int .i64 (-3), .int .i64 (-4), .int .i64 (-1), .int .i64 (-2), .int .i64 (-3), .int .i64 (-4)] 57)
    simp only [World.cell?, q]
    rfl
  rw [e, ← hj]
  match j, hl with
  | 0, _ => rfl
  | 1, _ => rfl
  | 2, _ => rfl
  | 3, _ => rfl
  | 4, _ => rfl
  | 5, _ => rfl
  | 6, _ => rfl
  | 7, _ => rfl
  | 8, _ => rfl
  | 9, _ => rfl
  | 10, _ => rfl
  | 11, _ => rfl
  | 12, _ => rfl
  | 13, _ => rfl
  | 14, _ => rfl
  | 15, _ => rfl
theorem four_zero (w : World) : ∀ j u, (ndcs [nd0, nd0, nd0, nd0])[j]? = some u → (w.alloc (.cells #[.int .i64 0, .int .i64 0, .int .i64 0, .int .i64 0, .int .i64 0, .int .i64 0, .int .i64 0, .int .i64 0, .int .i64 0, .int .i64 0, .int .i64 0, .int .i64 0, .int .i64 0, .int .i64 0, .int .i64 0, .int .i64 0] 57)).cell? ((⟨w.heap.size, 0, none⟩ : Addr).add j) = some u := by
  intro j u hj
  have hl : j < 16 := by
    have := (List.getElem?_eq_some_iff.1 hj).1
    simpa [ndcs, ndc] using this
  rw [nr_addr, Nat.zero_add]
  have e : (w.alloc (.cells #[.int .i64 0, .int .i64 0, .int .i64 0, .int .i64 0, .int .i64 0, .int .i64 0, .int .i64 0, .int .i64 0, .int .i64 0, .int .i64 0, .int .i64 0, .int .i64 0, .int .i64 0, .int .i64 0, .int .i64 0, .int .i64 0] 57)).cell? ⟨w.heap.size, j, none⟩ = (#[.int .i64 0, .int .i64 0, .int .i64 0, .int .i64 0, .int .i64 0, .int .i64 0, .int .i64 0, .int .i64 0, .int .i64 0, .int .i64 0, .int .i64 0, .int .i64 0, .int .i64 0, .int .i64 0, .int .i64 0, .int .i64 0] : Array Value)[j]? := by
    have q := al_at w (.cells #[.int .i64 0, .int .i64 0, .int .i64 0, .int .i64 0, .int .i64 0, .int .i64 0, .int .i64 0, .int .i64 0, .int .i64 0, .int .i64 0, .int .i64 0, .int .i64 0, .int .i64 0, .int .i64 0, .int .i64 0, .int .i64 0] 57)
    simp only [World.cell?, q]
    rfl
  rw [e, ← hj]
  match j, hl with
  | 0, _ => rfl
  | 1, _ => rfl
  | 2, _ => rfl
  | 3, _ => rfl
  | 4, _ => rfl
  | 5, _ => rfl
  | 6, _ => rfl
  | 7, _ => rfl
  | 8, _ => rfl
  | 9, _ => rfl
  | 10, _ => rfl
  | 11, _ => rfl
  | 12, _ => rfl
  | 13, _ => rfl
  | 14, _ => rfl
  | 15, _ => rfl
theorem all_mk {L : List Nd} {n : Nat} (h : L.length = n) (hm : ∀ i, i < n → L.getD i nd0 = mk9) (i : Nat) (hi : i < n + 4) : (L ++ [mk9, mk9, mk9, mk9]).getD i nd0 = mk9 := by
  by_cases q : i < n
  · rw [List.getD, List.getElem?_append_left (by omega)]
    exact hm i q
  obtain ⟨j, rfl⟩ : ∃ j, i = n + j := ⟨i - n, by omega⟩
  rw [List.getD, List.getElem?_append_right (by omega), h, Nat.add_sub_cancel_left]
  have hj : j < 4 := by omega
  match j, hj with
  | 0, _ => rfl
  | 1, _ => rfl
  | 2, _ => rfl
  | 3, _ => rfl
theorem all_z {L : List Nd} {n : Nat} (h : L.length = n) (i : Nat) (h1 : n ≤ i) (hi : i < n + 4) : (L ++ [nd0, nd0, nd0, nd0]).getD i nd0 = nd0 := by
  obtain ⟨j, rfl⟩ : ∃ j, i = n + j := ⟨i - n, by omega⟩
  rw [List.getD, List.getElem?_append_right (by omega), h, Nat.add_sub_cancel_left]
  have hj : j < 4 := by omega
  match j, hj with
  | 0, _ => rfl
  | 1, _ => rfl
  | 2, _ => rfl
  | 3, _ => rfl
set_option maxHeartbeats 4000000 in
theorem room_any (K R M C Fl A : Int) (a : Option Addr) (n cap : Nat) (G : Nat → Nat → Int) (pw pq pc ps pb : Int) (pr : Nat) (pp pn : Int) (w : World) (h : NSl w a n cap G) (hz : a = none → cap = 0) (hV : Vs9 w) (hp : PIn pw pq pc ps pb pr pp pn) :
    Calls Tryz.prog 6 #[.agg #[.int .i64 K, .int .i64 R, .int .i64 M, .int .i64 C, .int .i64 Fl, .int .i64 A, .slice a n cap], .agg #[.int .i64 pw, .int .i64 pq, .int .i64 pc, .int .i64 ps, .int .i64 pb, .float .f64 pr, .int .i64 pp, .int .i64 pn]] w fun e w' => e = .returned (.bool true) ∧ Below w.heap.size w w' := by
  have HN : Hid _ := h
  have HV : Hid _ := hV
  have HP : Hid _ := hp
  have HZA : Hid _ := hz
  have hl0 : n ≤ 9223372036854775807 := Nat.le_trans h.le h.lim
  have sf := fun (w : World) (a : Addr) (x : Nat) => run_store Tryz.prog w a (.float .f64 x) .plain rfl
  clear h hV hp hz
  go_enter Tryz.func6, Tryz.ntmps6
  by_cases c100 : 100 < n
  · have r0 : decide ((100 : Int) < (n : Int)) = true := decide_eq_true (by omega)
    clear c100
    go_wp2_with fail
    have B0 : Hid (Below w.heap.size w ((w.alloc (.cells #[.int .i64 K, .int .i64 R, .int .i64 M, .int .i64 C, .int .i64 Fl, .int .i64 A, .slice a n cap] 24)).alloc (.cells #[.int .i64 pw, .int .i64 pq, .int .i64 pc, .int .i64 ps, .int .i64 pb, .float .f64 pr, .int .i64 pp, .int .i64 pn] 27))) := bc_al (bc_al (bel_refl w))
    refine (started9_any _ (HV.out.go B0.out)).mono ?_
    rintro e w9 ⟨rfl, hb9⟩
    go_wp2_with fail
    go_ret
    exact ⟨rfl, bc_go B0.out hb9⟩
  have n100 : n ≤ 100 := by omega
  have r0 : decide ((100 : Int) < (n : Int)) = false := decide_eq_false (by omega)
  clear c100
  go_upto_region 6 with fail
  clear r0
  have S0 : Hid _ := (((ce_start w).go (bc_al (o := .cells #[.int .i64 K, .int .i64 R, .int .i64 M, .int .i64 C, .int .i64 Fl, .int .i64 A, .slice a n cap] 24) (bel_refl w))).box8 (.int .i64 pw) (.int .i64 pq) (.int .i64 pc) (.int .i64 ps) (.int .i64 pb) (.float .f64 pr) (.int .i64 pp) (.int .i64 pn) 27 (w.heap.size + 1) (by rw [World.size_alloc])).box4 (.int .i64 (-1)) (.int .i64 (-2)) (.int .i64 (-3)) (.int .i64 (-4)) 57 (w.heap.size + 1 + 1) (by rw [World.size_alloc, World.size_alloc])
  have Z0 : Hid ((((w.alloc (.cells #[.int .i64 K, .int .i64 R, .int .i64 M, .int .i64 C, .int .i64 Fl, .int .i64 A, .slice a n cap] 24)).alloc (.cells #[.int .i64 pw, .int .i64 pq, .int .i64 pc, .int .i64 ps, .int .i64 pb, .float .f64 pr, .int .i64 pp, .int .i64 pn] 27)).alloc (.cells #[.int .i64 (-1), .int .i64 (-2), .int .i64 (-3), .int .i64 (-4)] 57)).heap[w.heap.size]? = some (.cells #[.int .i64 K, .int .i64 R, .int .i64 M, .int .i64 C, .int .i64 Fl, .int .i64 A, .slice a n cap] 24)) := by
    have q := al_at w (.cells #[.int .i64 K, .int .i64 R, .int .i64 M, .int .i64 C, .int .i64 Fl, .int .i64 A, .slice a n cap] 24)
    exact ((bc_al (bc_al (bel_refl (w.alloc (.cells #[.int .i64 K, .int .i64 R, .int .i64 M, .int .i64 C, .int .i64 Fl, .int .i64 A, .slice a n cap] 24))))).block w.heap.size (by rw [World.size_alloc]; omega)).trans q
  obtain ⟨W0, hW0⟩ : ∃ W, W = (((w.alloc (.cells #[.int .i64 K, .int .i64 R, .int .i64 M, .int .i64 C, .int .i64 Fl, .int .i64 A, .slice a n cap] 24)).alloc (.cells #[.int .i64 pw, .int .i64 pq, .int .i64 pc, .int .i64 ps, .int .i64 pb, .float .f64 pr, .int .i64 pp, .int .i64 pn] 27)).alloc (.cells #[.int .i64 (-1), .int .i64 (-2), .int .i64 (-3), .int .i64 (-4)] 57)) := ⟨_, rfl⟩
  obtain ⟨gm, egm⟩ : ∃ g, g = w.heap.size + 1 + 1 := ⟨_, rfl⟩
  obtain ⟨gp, egp⟩ : ∃ g, g = w.heap.size + 1 := ⟨_, rfl⟩
  obtain ⟨gc, egc⟩ : ∃ g, g = w.heap.size := ⟨_, rfl⟩
  have hsz0 : W0.heap.size = w.heap.size + 1 + 1 + 1 := by rw [hW0, World.size_alloc, World.size_alloc, World.size_alloc]
  have HG : Hid (w.heap.size ≤ gc ∧ gc + 1 = gp ∧ gp + 1 = gm ∧ gm + 1 = W0.heap.size) := ⟨by omega, by omega, by omega, by omega⟩
  rw [← hW0, ← egm, ← egp] at S0
  rw [← hW0, ← egc] at Z0
  rw [← hW0, ← egm, ← egp, ← egc]
  clear hW0 egm egp egc hsz0
  obtain ⟨vz, hvz⟩ : ∃ v, v = Value.slice none 0 0 := ⟨_, rfl⟩
  rw [← hvz]
  have HVZ : Hid _ := hvz
  clear hvz
  have HN0 : Hid (NSl W0 a n cap G) := HN.out.go S0.out.bel
  go_cut [7] from 33 to 41 (fun s7 wx => Hid (Nr W0.heap.size wx s7 (lstG G n ++ [mk9, mk9, mk9]) ∧ Below W0.heap.size W0 wx))
  case first =>
    have xc : W0.cell? ⟨gc, 6, none⟩ = some (.slice a n cap) := by have q := Z0.out; simp [World.cell?, q]
    have hza := HZA.out
    have xm0 := S0.out.cel gm 0 (.int .i64 (-1))
    have xm1 := S0.out.cel gm 1 (.int .i64 (-2))
    have xm2 := S0.out.cel gm 2 (.int .i64 (-3))
    have xm3 := S0.out.cel gm 3 (.int .i64 (-4))
    have lgc : gc < W0.heap.size := World.block_lt_of_cell? _ _ xc
    have lgm : gm < W0.heap.size := World.block_lt_of_cell? _ _ xm0
    refine wp_region_held_drew (S := fun w9 => w9.cell? ⟨gc, 6, none⟩ = some (.slice a n cap) ∧ w9.cell? ⟨gm, 0, none⟩ = some (.int .i64 (-1)) ∧ w9.cell? ⟨gm, 1, none⟩ = some (.int .i64 (-2)) ∧ w9.cell? ⟨gm, 2, none⟩ = some (.int .i64 (-3)) ∧ w9.cell? ⟨gm, 3, none⟩ = some (.int .i64 (-4))) (by kernel_rfl) ⟨xc, xm0, xm1, xm2, xm3⟩ (fun hHeld => ?_)
    refine wpAnyH_take (i := 0) (v := vz) rfl (by kernel_rfl) (by kernel_rfl) (by kernel_rfl) (fun _ _ _ h => h) (Or.inl ⟨by rfl, ?_⟩) (by assumption) ?_
    · intro w hSw
      obtain ⟨g0, g1, g2, g3, g4⟩ := hSw
      go_simp
    refine wpAnyH_take (i := 1) (v := .pointer (some ⟨gc, 6, none⟩)) rfl (by kernel_rfl) (by kernel_rfl) (by kernel_rfl) (fun _ _ _ h => h) (Or.inl ⟨by rfl, ?_⟩) (by assumption) ?_
    · intro w hSw
      obtain ⟨g0, g1, g2, g3, g4⟩ := hSw
      go_simp
    refine wpAnyH_take (i := 2) (v := .slice a n cap) rfl (by kernel_rfl) (by kernel_rfl) (by kernel_rfl) (fun _ _ _ h => h) (Or.inl ⟨by rfl, ?_⟩) (by assumption) ?_
    · intro w hSw
      obtain ⟨g0, g1, g2, g3, g4⟩ := hSw
      go_simp
    refine wpAnyH_take (i := 4) (v := .agg #[.int .i64 (-1), .int .i64 (-2), .int .i64 (-3), .int .i64 (-4)]) rfl (by kernel_rfl) (by kernel_rfl) (by kernel_rfl) (fun _ _ _ h => h) (Or.inl ⟨by rfl, ?_⟩) (by assumption) ?_
    · intro w hSw
      obtain ⟨g0, g1, g2, g3, g4⟩ := hSw
      go_simp
    refine wpAnyH_take (i := 5) (v := .agg #[.int .i64 (-1), .int .i64 (-2), .int .i64 (-3), .int .i64 (-4)]) rfl (by kernel_rfl) (by kernel_rfl) (by kernel_rfl) (fun _ _ _ h => h) (Or.inl ⟨by rfl, ?_⟩) (by assumption) ?_
    · intro w hSw
      obtain ⟨g0, g1, g2, g3, g4⟩ := hSw
      go_simp
    refine wpAnyH_take (i := 6) (v := .agg #[.int .i64 (-1), .int .i64 (-2), .int .i64 (-3), .int .i64 (-4)]) rfl (by kernel_rfl) (by kernel_rfl) (by kernel_rfl) (fun _ _ _ h => h) (Or.inl ⟨by rfl, ?_⟩) (by assumption) ?_
    · intro w hSw
      obtain ⟨g0, g1, g2, g3, g4⟩ := hSw
      go_simp
    refine wpAnyH_ready (rs := [3, 7]) (by kernel_rfl) (by simp) ?_
    refine AllReadyH.cons rfl (fun K9 hK9 => ?_) (AllReadyH.cons rfl (fun K9 hK9 => ?_) AllReadyH.nil)
    · obtain ⟨v3, w3, hr3, n3, k3, o3⟩ := app_in W0.drew 22 W0.heap.size a n cap G (HN0.out.drew1) hza (by omega) (Nat.le_refl _)
      rw [← HVZ.out] at hr3
      have b3 : Below W0.heap.size W0 w3 := ⟨k3.os, k3.tape, k3.output, k3.size, fun i hi => k3.block i hi (by simp)⟩
      have q3 : ∀ b i v, b < W0.heap.size → W0.cell? ⟨b, i, none⟩ = some v → w3.cell? ⟨b, i, none⟩ = some v := fun b i v hb hv => bc_cell b3 hv
      refine step_app9 rfl (.tmp 33) (.tmp 35) 22 rfl vz (.slice a n cap) rfl rfl v3 w3 hr3 ?_
      refine hK9.out _ _ ⟨q3 gc 6 _ lgc xc, q3 gm 0 _ lgm xm0, q3 gm 1 _ lgm xm1, q3 gm 2 _ lgm xm2, q3 gm 3 _ lgm xm3⟩ (fun hHeld => ?_)
      clear hK9 K9
      refine wpAnyH_ready (rs := [7]) (by kernel_rfl) (by simp) ?_
      refine AllReadyH.cons rfl (fun K9 hK9 => ?_) AllReadyH.nil
      go_simp
      have b4 : Below W0.heap.size W0 (w3.alloc (.cells #[.int .i64 (-1), .int .i64 (-2), .int .i64 (-3), .int .i64 (-4), .int .i64 (-1), .int .i64 (-2), .int .i64 (-3), .int .i64 (-4), .int .i64 (-1), .int .i64 (-2), .int .i64 (-3), .int .i64 (-4)] 57)) := bc_al b3
      have q4 : ∀ b i v, b < W0.heap.size → W0.cell? ⟨b, i, none⟩ = some v → (w3.alloc (.cells #[.int .i64 (-1), .int .i64 (-2), .int .i64 (-3), .int .i64 (-4), .int .i64 (-1), .int .i64 (-2), .int .i64 (-3), .int .i64 (-4), .int .i64 (-1), .int .i64 (-2), .int .i64 (-3), .int .i64 (-4)] 57)).cell? ⟨b, i, none⟩ = some v := fun b i v hb hv => bc_cell b4 hv
      refine hK9.out _ _ ⟨q4 gc 6 _ lgc xc, q4 gm 0 _ lgm xm0, q4 gm 1 _ lgm xm1, q4 gm 2 _ lgm xm2, q4 gm 3 _ lgm xm3⟩ (fun hHeld => ?_)
      clear hK9 K9
      refine wpAnyH_ready (rs := [8]) (by kernel_rfl) (by simp) ?_
      refine AllReadyH.cons rfl (fun K9 hK9 => ?_) AllReadyH.nil
      obtain ⟨v8, w8, hr8, n8, k8, _⟩ := app_run (w3.alloc (.cells #[.int .i64 (-1), .int .i64 (-2), .int .i64 (-3), .int .i64 (-4), .int .i64 (-1), .int .i64 (-2), .int .i64 (-3), .int .i64 (-4), .int .i64 (-1), .int .i64 (-2), .int .i64 (-3), .int .i64 (-4)] 57)) 22 W0.heap.size v3 (lstG G n) (Nr.go n3 (fun k hk => (bc_al (bel_refl w3)).block k (n3.lt hk))) ⟨w3.heap.size, 0, none⟩ 3 [mk9, mk9, mk9] (three_cells w3) (by rw [lstG_len]; simp; omega) (by rw [World.size_alloc]; have := b3.size; omega)
      have hr8' : Sem.run Tryz.prog (Builtin.append_ #[22, 22] 22 #[v3, .slice (some ⟨w3.heap.size, 0, none⟩) 3 3]) (w3.alloc (.cells #[.int .i64 (-1), .int .i64 (-2), .int .i64 (-3), .int .i64 (-4), .int .i64 (-1), .int .i64 (-2), .int .i64 (-3), .int .i64 (-4), .int .i64 (-1), .int .i64 (-2), .int .i64 (-3), .int .i64 (-4)] 57)) = .ok v8 w8 := hr8
      have b8 : Below W0.heap.size W0 w8 := by
        refine ⟨k8.os.trans b4.os, k8.tape.trans b4.tape, k8.output.trans b4.output, Nat.le_trans b4.size k8.size, fun i hi => (k8.block i (Nat.lt_of_lt_of_le hi b4.size) (fun e => ?_)).trans (b4.block i hi)⟩
        have := (n3.own e.symm).1
        omega
      have q8 : ∀ b i v, b < W0.heap.size → W0.cell? ⟨b, i, none⟩ = some v → w8.cell? ⟨b, i, none⟩ = some v := fun b i v hb hv => bc_cell b8 hv
      have HR8 : Hid (Nr W0.heap.size w8 v8 (lstG G n ++ [mk9, mk9, mk9]) ∧ Below W0.heap.size W0 w8) := ⟨n8, b8⟩
      refine step_app9 rfl (.tmp 36) (.tmp 40) 22 rfl v3 (.slice (some ⟨w3.heap.size, 0, none⟩) 3 3) rfl rfl v8 w8 hr8' ?_
      refine hK9.out _ _ ⟨q8 gc 6 _ lgc xc, q8 gm 0 _ lgm xm0, q8 gm 1 _ lgm xm1, q8 gm 2 _ lgm xm2, q8 gm 3 _ lgm xm3⟩ (fun hHeld => ?_)
      clear hK9 K9
      refine wpAnyH_take (i := 9) (v := v8) rfl (by kernel_rfl) (by kernel_rfl) (by kernel_rfl) (fun _ _ _ h => h) (Or.inl ⟨by rfl, ?_⟩) (by assumption) ?_
      · intro w hSw
        go_simp
      refine wpAnyH_done (by kernel_rfl) ?_ _
      go_wp2_with fail
      go_meet
      case rel => exact HR8
    go_simp
    have b3 : Below W0.heap.size W0 ((W0.alloc (.cells #[.int .i64 (-1), .int .i64 (-2), .int .i64 (-3), .int .i64 (-4), .int .i64 (-1), .int .i64 (-2), .int .i64 (-3), .int .i64 (-4), .int .i64 (-1), .int .i64 (-2), .int .i64 (-3), .int .i64 (-4)] 57)).drew) := bc_drew (bc_al (bel_refl W0)) 1
    have q3 : ∀ b i v, b < W0.heap.size → W0.cell? ⟨b, i, none⟩ = some v → ((W0.alloc (.cells #[.int .i64 (-1), .int .i64 (-2), .int .i64 (-3), .int .i64 (-4), .int .i64 (-1), .int .i64 (-2), .int .i64 (-3), .int .i64 (-4), .int .i64 (-1), .int .i64 (-2), .int .i64 (-3), .int .i64 (-4)] 57)).drew).cell? ⟨b, i, none⟩ = some v := fun b i v hb hv => bc_cell b3 hv
    refine hK9.out _ _ ⟨q3 gc 6 _ lgc xc, q3 gm 0 _ lgm xm0, q3 gm 1 _ lgm xm1, q3 gm 2 _ lgm xm2, q3 gm 3 _ lgm xm3⟩ (fun hHeld => ?_)
    clear hK9 K9
    refine wpAnyH_ready (rs := [3]) (by kernel_rfl) (by simp) ?_
    refine AllReadyH.cons rfl (fun K9 hK9 => ?_) AllReadyH.nil
    obtain ⟨v4, w4, hr4, n4, k4, o4⟩ := app_in ((W0.alloc (.cells #[.int .i64 (-1), .int .i64 (-2), .int .i64 (-3), .int .i64 (-4), .int .i64 (-1), .int .i64 (-2), .int .i64 (-3), .int .i64 (-4), .int .i64 (-1), .int .i64 (-2), .int .i64 (-3), .int .i64 (-4)] 57)).drew) 22 ((W0.alloc (.cells #[.int .i64 (-1), .int .i64 (-2), .int .i64 (-3), .int .i64 (-4), .int .i64 (-1), .int .i64 (-2), .int .i64 (-3), .int .i64 (-4), .int .i64 (-1), .int .i64 (-2), .int .i64 (-3), .int .i64 (-4)] 57)).drew).heap.size a n cap G (HN0.out.go b3) hza (by omega) (Nat.le_refl _)
    rw [← HVZ.out] at hr4
    have b4' : Below ((W0.alloc (.cells #[.int .i64 (-1), .int .i64 (-2), .int .i64 (-3), .int .i64 (-4), .int .i64 (-1), .int .i64 (-2), .int .i64 (-3), .int .i64 (-4), .int .i64 (-1), .int .i64 (-2), .int .i64 (-3), .int .i64 (-4)] 57)).drew).heap.size ((W0.alloc (.cells #[.int .i64 (-1), .int .i64 (-2), .int .i64 (-3), .int .i64 (-4), .int .i64 (-1), .int .i64 (-2), .int .i64 (-3), .int .i64 (-4), .int .i64 (-1), .int .i64 (-2), .int .i64 (-3), .int .i64 (-4)] 57)).drew) w4 := ⟨k4.os, k4.tape, k4.output, k4.size, fun i hi => k4.block i hi (by simp)⟩
    have b4 : Below W0.heap.size W0 w4 := bc_go b3 b4'
    have q4 : ∀ b i v, b < W0.heap.size → W0.cell? ⟨b, i, none⟩ = some v → w4.cell? ⟨b, i, none⟩ = some v := fun b i v hb hv => bc_cell b4 hv
    refine step_app9 rfl (.tmp 33) (.tmp 35) 22 rfl vz (.slice a n cap) rfl rfl v4 w4 hr4 ?_
    refine hK9.out _ _ ⟨q4 gc 6 _ lgc xc, q4 gm 0 _ lgm xm0, q4 gm 1 _ lgm xm1, q4 gm 2 _ lgm xm2, q4 gm 3 _ lgm xm3⟩ (fun hHeld => ?_)
    clear hK9 K9
    refine wpAnyH_ready (rs := [8]) (by kernel_rfl) (by simp) ?_
    refine AllReadyH.cons rfl (fun K9 hK9 => ?_) AllReadyH.nil
    have n4' : Nr W0.heap.size w4 v4 (lstG G n) := Nr.weak n4 b3.size
    obtain ⟨v8, w8, hr8, n8, k8, _⟩ := app_run w4 22 W0.heap.size v4 (lstG G n) n4' ⟨W0.heap.size, 0, none⟩ 3 [mk9, mk9, mk9] (fun j u hj => bc_cell b4' (three_cells W0 j u hj)) (by rw [lstG_len]; simp; omega) b4.size
    have hr8' : Sem.run Tryz.prog (Builtin.append_ #[22, 22] 22 #[v4, .slice (some ⟨W0.heap.size, 0, none⟩) 3 3]) w4 = .ok v8 w8 := hr8
    have b8 : Below W0.heap.size W0 w8 := by
      refine ⟨k8.os.trans b4.os, k8.tape.trans b4.tape, k8.output.trans b4.output, Nat.le_trans b4.size k8.size, fun i hi => (k8.block i (Nat.lt_of_lt_of_le hi b4.size) (fun e => ?_)).trans (b4.block i hi)⟩
      have := (n4'.own e.symm).1
      omega
    have q8 : ∀ b i v, b < W0.heap.size → W0.cell? ⟨b, i, none⟩ = some v → w8.cell? ⟨b, i, none⟩ = some v := fun b i v hb hv => bc_cell b8 hv
    have HR8 : Hid (Nr W0.heap.size w8 v8 (lstG G n ++ [mk9, mk9, mk9]) ∧ Below W0.heap.size W0 w8) := ⟨n8, b8⟩
    refine step_app9 rfl (.tmp 36) (.tmp 40) 22 rfl v4 (.slice (some ⟨W0.heap.size, 0, none⟩) 3 3) rfl rfl v8 w8 hr8' ?_
    refine hK9.out _ _ ⟨q8 gc 6 _ lgc xc, q8 gm 0 _ lgm xm0, q8 gm 1 _ lgm xm1, q8 gm 2 _ lgm xm2, q8 gm 3 _ lgm xm3⟩ (fun hHeld => ?_)
    clear hK9 K9
    refine wpAnyH_take (i := 9) (v := v8) rfl (by kernel_rfl) (by kernel_rfl) (by kernel_rfl) (fun _ _ _ h => h) (Or.inl ⟨by rfl, ?_⟩) (by assumption) ?_
    · intro w hSw
      go_simp
    refine wpAnyH_done (by kernel_rfl) ?_ _
    go_wp2_with fail
    go_meet
    case rel => exact HR8
  case rest =>
    obtain ⟨n7, b7⟩ := hcut.out
    clear hcut
    have hlen : (lstG G n ++ [mk9, mk9, mk9]).length = n + 3 := by rw [List.length_append, lstG_len]; rfl
    obtain ⟨aw, cw, e7, hsl7, _⟩ := Nr.sl n7
    rw [hlen] at e7 hsl7
    obtain ⟨gb, ea, hgb, lgb, hcells⟩ := hsl7 (by omega)
    subst ea
    subst e7
    have hcap := Nr.cap n7
    have HNC : Hid (NSl wc (some ⟨gb, 0, none⟩) n cw G) := ⟨by omega, by omega, HN.out.wf, .inr ⟨gb, 0, rfl, fun i j hi hj => by
      obtain ⟨c0, c1, c2, c3⟩ := hcells i (by omega)
      rw [lst_app_at G n i _ hi] at c0 c1 c2 c3
      rw [Nat.zero_add]
      match j, hj with
      | 0, _ => exact c0
      | 1, _ => exact c1
      | 2, _ => exact c2
      | 3, _ => exact c3⟩⟩
    have MC : Hid (Mks wc gb n) := fun j hj => by
      have q := hcells (n + j) (by omega)
      rw [lst_app_mk G n j hj] at q
      exact q
    have S1 : Hid _ := S0.out.go b7
    have Z1 : Hid (wc.heap[gc]? = some (.cells #[.int .i64 K, .int .i64 R, .int .i64 M, .int .i64 C, .int .i64 Fl, .int .i64 A, .slice a n cap] 24)) := (b7.block gc (by have := HG.out; omega)).trans Z0.out
    have HGB : Hid (W0.heap.size ≤ gb ∧ gb < wc.heap.size ∧ W0.heap.size ≤ wc.heap.size) := ⟨hgb, lgb, b7.size⟩
    have B1 : Hid (Bx1 wc wc gc 24 #[.int .i64 K, .int .i64 R, .int .i64 M, .int .i64 C, .int .i64 Fl, .int .i64 A, .slice a n cap]) := ⟨Z1.out, fun _ _ => rfl, rfl, rfl, rfl, rfl⟩
    have hsl := slice_nh gb cw (n + 3) n (by omega)
    have lgc : gc < wc.heap.size := by have := HG.out; have := b7.size; omega
    have hZ := Z1.out
    have x0 : wc.cell? ⟨gc, 0, none⟩ = some (.int .i64 K) := by simp [World.cell?, hZ]
    have x1 : wc.cell? ⟨gc, 1, none⟩ = some (.int .i64 R) := by simp [World.cell?, hZ]
    have x2 : wc.cell? ⟨gc, 2, none⟩ = some (.int .i64 M) := by simp [World.cell?, hZ]
    have x3 : wc.cell? ⟨gc, 3, none⟩ = some (.int .i64 C) := by simp [World.cell?, hZ]
    have x4 : wc.cell? ⟨gc, 4, none⟩ = some (.int .i64 Fl) := by simp [World.cell?, hZ]
    have x5 : wc.cell? ⟨gc, 5, none⟩ = some (.int .i64 A) := by simp [World.cell?, hZ]
    have x6 : wc.cell? ⟨gc, 6, none⟩ = some (.slice a n cap) := by simp [World.cell?, hZ]
    have fz : wc.frozen? ⟨gc, 6, none⟩ = false := by simp [World.frozen?, hZ]
    obtain ⟨g8, eg8⟩ : ∃ g, g = wc.heap.size := ⟨_, rfl⟩
    have HG8 : Hid _ := eg8
    clear hZ n7 b7 hlen hsl7 hcells hcap hgb lgb eg8 HN0
    go_wp2_with fail
    refine calls_as (fun W => ∃ W1, Bx1 wc W1 gc 24 #[.int .i64 K, .int .i64 R, .int .i64 M, .int .i64 C, .int .i64 Fl, .int .i64 A, .slice (some ⟨gb, 0, none⟩) n cw] ∧ W = W1.alloc (.cells #[.int .i64 K, .int .i64 R, .int .i64 M, .int .i64 C, .int .i64 Fl, .int .i64 A, .slice a n cap] 24)) ⟨_, B1.out.set 6 (.slice (some ⟨gb, 0, none⟩) n cw), rfl⟩ ?_
    rintro W2 ⟨W1, B2, hW2⟩
    rw [← HG8.out]
    have hlc := HGB.out
    have hgg := HG.out
    have e8 := HG8.out
    have S2 : Hid _ := ((Ce.ot S1.out B2 (by omega) (by simp; omega)).add7 B2.hc).box7 (.int .i64 K) (.int .i64 R) (.int .i64 M) (.int .i64 C) (.int .i64 Fl) (.int .i64 A) (.slice a n cap) 24 g8 (by rw [B2.size]; exact e8)
    rw [← hW2] at S2
    have HNC2 : Hid (NSl W2 (some ⟨gb, 0, none⟩) n cw G) := ⟨HNC.out.le, HNC.out.lim, HNC.out.wf, HNC.out.at'.imp id (by
      rintro ⟨b, o, e, hc⟩
      cases e
      exact ⟨gb, 0, rfl, fun i j hi hj => by rw [hW2]; exact bc_cell (bc_al (bel_refl W1)) ((World.cell?_of_block (w := wc) (B2.ot gb (by omega))).trans (hc i j hi hj))⟩)⟩
    have MC2 : Hid (Mks W2 gb n) := fun j hj => by
      have hk : ∀ i v, wc.cell? ⟨gb, i, none⟩ = some v → W2.cell? ⟨gb, i, none⟩ = some v := fun i v hv => by rw [hW2]; exact bc_cell (bc_al (bel_refl W1)) ((World.cell?_of_block (w := wc) (B2.ot gb (by omega))).trans hv)
      obtain ⟨c0, c1, c2, c3⟩ := MC.out j hj
      exact ⟨hk _ _ c0, hk _ _ c1, hk _ _ c2, hk _ _ c3⟩
    have HGS : Hid (w.heap.size ≤ gc ∧ gc < gp ∧ gp < gm ∧ gm < gb ∧ gb < g8 ∧ g8 < W2.heap.size) := ⟨by omega, by omega, by omega, by omega, by omega, by rw [hW2, World.size_alloc, B2.size]; omega⟩
    clear hW2 B2 B1 S1 S0 Z1 Z0 HNC MC lgc fz hsl hlc hgg e8 HG8 HG HGB
    clear x0 x1 x2 x3 x4 x5 x6
    obtain ⟨ce, hce⟩ : ∃ x, checkE K R M C Fl A G n = x := ⟨_, rfl⟩
    obtain ⟨us, hus⟩ : ∃ x, priS K R M C Fl A G n = x := ⟨_, rfl⟩
    obtain ⟨fe, hfe⟩ : ∃ x, flowE K R M C Fl A G n pw pq pc ps pb pr pp pn = x := ⟨_, rfl⟩
    have HCE : Hid _ := hce
    have HUS : Hid _ := hus
    have HFE : Hid _ := hfe
    clear hce hus hfe
    have HUZ : Hid (us.size ≤ 9223372036854775807) := by
      show _ ≤ _
      rw [← HUS.out]
      unfold priS
      split
      · rename_i q
        exact confS_sz K R M C Fl A G n q HN.out.wf
      decide
    refine (print_any K R M C Fl A (some ⟨gb, 0, none⟩) n cw G _ HNC2.out (HV.out.go S2.out.bel)).mono ?_
    rintro e w3 ⟨rfl, hb3⟩
    rw [HCE.out, HUS.out]
    have S3 : Hid _ := S2.out.go hb3
    have HNC3 : Hid _ := HNC2.out.go hb3
    have MC3 : Hid (Mks w3 gb n) := Mks.go MC2.out hb3
    clear hb3 S2 HNC2 MC2
    have x0 := S3.out.cel gc 0 (.int .i64 K)
    have x1 := S3.out.cel gc 1 (.int .i64 R)
    have x2 := S3.out.cel gc 2 (.int .i64 M)
    have x3 := S3.out.cel gc 3 (.int .i64 C)
    have x4 := S3.out.cel gc 4 (.int .i64 Fl)
    have x5 := S3.out.cel gc 5 (.int .i64 A)
    have x6 := S3.out.cel gc 6 (.slice (some ⟨gb, 0, none⟩) n cw)
    have y0 := S3.out.cel gp 0 (.int .i64 pw)
    have y1 := S3.out.cel gp 1 (.int .i64 pq)
    have y2 := S3.out.cel gp 2 (.int .i64 pc)
    have y3 := S3.out.cel gp 3 (.int .i64 ps)
    have y4 := S3.out.cel gp 4 (.int .i64 pb)
    have y5 := S3.out.cel gp 5 (.float .f64 pr)
    have y6 := S3.out.cel gp 6 (.int .i64 pp)
    have y7 := S3.out.cel gp 7 (.int .i64 pn)
    go_wp2_with fail
    refine (printFlow_any K R M C Fl A (some ⟨gb, 0, none⟩) n cw G pw pq pc ps pb pr pp pn _ HNC3.out (HV.out.go S3.out.bel).tab (HV.out.go S3.out.bel).pow HP.out.u (set5 HP.out.w0 HP.out.w1 HP.out.w2 HP.out.w3 HP.out.w4) (set2 HP.out.w5 HP.out.w6)).mono ?_
    rintro e w4 ⟨xs, rfl, hb4, hz0, hz1⟩
    rw [HFE.out] at hz0 hz1
    rw [HFE.out]
    have HX0 : Hid _ := hz0
    have HX1 : Hid _ := hz1
    have HXZ : Hid (xs.size ≤ 9223372036854775807) := by
      show _ ≤ _
      by_cases q : fe = 0
      · obtain ⟨kk, ll, hkk, hll, hxe⟩ := hz1 q
        rw [hxe]
        exact flowS_sz K R M C Fl A G n pw pq pc ps pb pr pp pn _ _ HP.out.u (HFE.out.trans q) HP.out.w6 hkk hll
      rw [hz0 q]
      decide
    have S4 : Hid _ := S3.out.go hb4
    have HNC4 : Hid _ := HNC3.out.go hb4
    have MC4 : Hid (Mks w4 gb n) := Mks.go MC3.out hb4
    clear hb4 S3 HNC3 MC3 hz0 hz1
    clear x0 x1 x2 x3 x4 x5 x6
    clear y0 y1 y2 y3 y4 y5 y6 y7
    go_wp2_with fail
    refine (cparse_any us _ HUZ.out (HV.out.go S4.out.bel).ev (HV.out.go S4.out.bel).kn).mono ?_
    rintro e w5 ⟨va, rfl, hNA, hb5⟩
    obtain ⟨aa, ca, eva, _, _⟩ := Nr.sl hNA
    subst eva
    obtain ⟨k0, hk0⟩ : ∃ x, prI us 0 = x := ⟨_, rfl⟩
    obtain ⟨k1, hk1⟩ : ∃ x, prI us 1 = x := ⟨_, rfl⟩
    obtain ⟨k2, hk2⟩ : ∃ x, prI us 2 = x := ⟨_, rfl⟩
    obtain ⟨k3, hk3⟩ : ∃ x, prI us 3 = x := ⟨_, rfl⟩
    obtain ⟨k4, hk4⟩ : ∃ x, prI us 4 = x := ⟨_, rfl⟩
    obtain ⟨k5, hk5⟩ : ∃ x, prI us 5 = x := ⟨_, rfl⟩
    obtain ⟨pe, hpe⟩ : ∃ x, prE us = x := ⟨_, rfl⟩
    obtain ⟨na, hna⟩ : ∃ x, (prN us).length = x := ⟨_, rfl⟩
    obtain ⟨LN, hLN⟩ : ∃ x, prN us = x := ⟨_, rfl⟩
    have HPR : Hid (prE us = pe ∧ prI us 0 = k0 ∧ prI us 1 = k1 ∧ prI us 2 = k2 ∧ prI us 3 = k3 ∧ prI us 4 = k4 ∧ prI us 5 = k5 ∧ (prN us).length = na ∧ prN us = LN) := ⟨hpe, hk0, hk1, hk2, hk3, hk4, hk5, hna, hLN⟩
    rw [hk0, hk1, hk2, hk3, hk4, hk5, hpe, hna]
    rw [hna, hLN] at hNA
    have T5 : Hid _ := (S4.out.go hb5).box7 (.int .i64 k0) (.int .i64 k1) (.int .i64 k2) (.int .i64 k3) (.int .i64 k4) (.int .i64 k5) (.slice aa na ca) 24 _ rfl
    have HNA5 : Hid (Nr w4.heap.size (w5.alloc (.cells #[.int .i64 k0, .int .i64 k1, .int .i64 k2, .int .i64 k3, .int .i64 k4, .int .i64 k5, .slice aa na ca] 24)) (.slice aa na ca) LN) := hNA.down (bc_al (bel_refl w5))
    have HNC5 : Hid _ := HNC4.out.go (bc_go hb5 (bc_al (o := .cells #[.int .i64 k0, .int .i64 k1, .int .i64 k2, .int .i64 k3, .int .i64 k4, .int .i64 k5, .slice aa na ca] 24) (bel_refl w5)))
    have MC5 : Hid (Mks (w5.alloc (.cells #[.int .i64 k0, .int .i64 k1, .int .i64 k2, .int .i64 k3, .int .i64 k4, .int .i64 k5, .slice aa na ca] 24)) gb n) := Mks.go MC4.out (bc_go hb5 (bc_al (o := .cells #[.int .i64 k0, .int .i64 k1, .int .i64 k2, .int .i64 k3, .int .i64 k4, .int .i64 k5, .slice aa na ca] 24) (bel_refl w5)))
    obtain ⟨g13, eg13⟩ : ∃ g, g = w5.heap.size := ⟨_, rfl⟩
    have HAO : Hid (∀ k, (Value.slice aa na ca).ownBlock = some k → w4.heap.size ≤ k ∧ k < g13) := fun k hk => ⟨(hNA.own hk).1, by rw [eg13]; exact hNA.lt hk⟩
    have HG13 : Hid (w4.heap.size ≤ g13) := by show _ ≤ _; rw [eg13]; exact hb5.size
    have hs4 : g8 < w4.heap.size := S4.out.lt g8 0 (.int .i64 K)
    have H48 : Hid (g8 < w4.heap.size) := hs4
    obtain ⟨wA, hwA⟩ : ∃ W, W = w5.alloc (.cells #[.int .i64 k0, .int .i64 k1, .int .i64 k2, .int .i64 k3, .int .i64 k4, .int .i64 k5, .slice aa na ca] 24) := ⟨_, rfl⟩
    rw [← eg13] at T5
    rw [← hwA] at T5 HNA5 HNC5 MC5
    clear hNA hb5 S4 HNC4 MC4 hk0 hk1 hk2 hk3 hk4 hk5 hpe hna hLN hs4
    go_wp2_with fail
    rw [← hwA, ← eg13]
    have HG13b : Hid (g13 < wA.heap.size) := by show _ < _; rw [hwA, World.size_alloc]; omega
    clear hwA eg13
    refine (cparse_any us _ HUZ.out (HV.out.go T5.out.bel).ev (HV.out.go T5.out.bel).kn).mono ?_
    rintro e w6 ⟨vb, rfl, hNB, hb6⟩
    obtain ⟨ab, cb, evb, _, _⟩ := Nr.sl hNB
    subst evb
    obtain ⟨z0, z1, z2, z3, z4, z5, z6, z7, z8⟩ := HPR.out
    rw [z0, z1, z2, z3, z4, z5, z6, z7]
    rw [z7, z8] at hNB
    have T6 : Hid _ := (T5.out.go hb6).box7 (.int .i64 k0) (.int .i64 k1) (.int .i64 k2) (.int .i64 k3) (.int .i64 k4) (.int .i64 k5) (.slice ab na cb) 24 _ rfl
    have HNB6 : Hid (Nr wA.heap.size (w6.alloc (.cells #[.int .i64 k0, .int .i64 k1, .int .i64 k2, .int .i64 k3, .int .i64 k4, .int .i64 k5, .slice ab na cb] 24)) (.slice ab na cb) LN) := hNB.down (bc_al (bel_refl w6))
    have HNA6 : Hid (Nr w4.heap.size (w6.alloc (.cells #[.int .i64 k0, .int .i64 k1, .int .i64 k2, .int .i64 k3, .int .i64 k4, .int .i64 k5, .slice ab na cb] 24)) (.slice aa na ca) LN) := Nr.down HNA5.out (bc_go hb6 (bc_al (o := .cells #[.int .i64 k0, .int .i64 k1, .int .i64 k2, .int .i64 k3, .int .i64 k4, .int .i64 k5, .slice ab na cb] 24) (bel_refl w6)))
    have HNC6 : Hid _ := HNC5.out.go (bc_go hb6 (bc_al (o := .cells #[.int .i64 k0, .int .i64 k1, .int .i64 k2, .int .i64 k3, .int .i64 k4, .int .i64 k5, .slice ab na cb] 24) (bel_refl w6)))
    have MC6 : Hid (Mks (w6.alloc (.cells #[.int .i64 k0, .int .i64 k1, .int .i64 k2, .int .i64 k3, .int .i64 k4, .int .i64 k5, .slice ab na cb] 24)) gb n) := Mks.go MC5.out (bc_go hb6 (bc_al (o := .cells #[.int .i64 k0, .int .i64 k1, .int .i64 k2, .int .i64 k3, .int .i64 k4, .int .i64 k5, .slice ab na cb] 24) (bel_refl w6)))
    obtain ⟨g15, eg15⟩ : ∃ g, g = w6.heap.size := ⟨_, rfl⟩
    have HBO : Hid (∀ k, (Value.slice ab na cb).ownBlock = some k → wA.heap.size ≤ k ∧ k < g15) := fun k hk => ⟨(hNB.own hk).1, by rw [eg15]; exact hNB.lt hk⟩
    have HG15 : Hid (wA.heap.size ≤ g15) := by show _ ≤ _; rw [eg15]; exact hb6.size
    obtain ⟨wB, hwB⟩ : ∃ W, W = w6.alloc (.cells #[.int .i64 k0, .int .i64 k1, .int .i64 k2, .int .i64 k3, .int .i64 k4, .int .i64 k5, .slice ab na cb] 24) := ⟨_, rfl⟩
    rw [← eg15] at T6
    rw [← hwB] at T6 HNB6 HNA6 HNC6 MC6
    have HG15b : Hid (g15 < wB.heap.size) := by show _ < _; rw [hwB, World.size_alloc]; omega
    obtain ⟨E, hE⟩ : ∃ E, pfE (checkE K R M C Fl A G n) (fun b0 b1 b2 b3 b4 bu b5 b6 => flowE K R M C Fl A G n b0 b1 b2 b3 b4 bu b5 b6) xs = E := ⟨_, rfl⟩
    have HE : Hid _ := hE
    clear hNB hb6 T5 HNA5 HNC5 MC5 z0 z1 z2 z3 z4 z5 z6 z7 z8 hE
    go_wp2_with (refine (id ?_ : wpList Tryz.prog _ _ (⟨some 69, _, _, _, _, _⟩ :: _) _ _); rw [← hwB, ← eg15]; clear hwB eg15; refine hold9 ?_)
    intro _
    have x0 := T6.out.cel gc 0 (.int .i64 K)
    have x1 := T6.out.cel gc 1 (.int .i64 R)
    have x2 := T6.out.cel gc 2 (.int .i64 M)
    have x3 := T6.out.cel gc 3 (.int .i64 C)
    have x4 := T6.out.cel gc 4 (.int .i64 Fl)
    have x5 := T6.out.cel gc 5 (.int .i64 A)
    have x6 := T6.out.cel gc 6 (.slice (some ⟨gb, 0, none⟩) n cw)
    go_wp2_with fail
    refine (parseFlow_any K R M C Fl A (some ⟨gb, 0, none⟩) n cw G xs E _ HNC6.out HXZ.out (HV.out.go T6.out.bel).ev (HV.out.go T6.out.bel).kn (HV.out.go T6.out.bel).tab HE.out).mono ?_
    rintro e w7 ⟨rfl, hb7⟩
    obtain ⟨q0, hq0⟩ : ∃ x, pfV E xs 0 = x := ⟨_, rfl⟩
    obtain ⟨q1, hq1⟩ : ∃ x, pfV E xs 1 = x := ⟨_, rfl⟩
    obtain ⟨q2, hq2⟩ : ∃ x, pfV E xs 2 = x := ⟨_, rfl⟩
    obtain ⟨q3, hq3⟩ : ∃ x, pfV E xs 3 = x := ⟨_, rfl⟩
    obtain ⟨q4, hq4⟩ : ∃ x, pfV E xs 4 = x := ⟨_, rfl⟩
    obtain ⟨q5, hq5⟩ : ∃ x, pfV E xs 5 = x := ⟨_, rfl⟩
    obtain ⟨q6, hq6⟩ : ∃ x, pfV E xs 6 = x := ⟨_, rfl⟩
    obtain ⟨qu, hqu⟩ : ∃ x, pfU E xs = x := ⟨_, rfl⟩
    have HQ6 : Hid _ := hq6
    rw [hq0, hq1, hq2, hq3, hq4, hq5, hq6, hqu]
    have T7 : Hid _ := (T6.out.go hb7).box8 (.int .i64 q0) (.int .i64 q1) (.int .i64 q2) (.int .i64 q3) (.int .i64 q4) (.float .f64 qu) (.int .i64 q5) (.int .i64 q6) 27 _ rfl
    have HNB7 : Hid (Nr wA.heap.size (w7.alloc (.cells #[.int .i64 q0, .int .i64 q1, .int .i64 q2, .int .i64 q3, .int .i64 q4, .float .f64 qu, .int .i64 q5, .int .i64 q6] 27)) (.slice ab na cb) LN) := Nr.down HNB6.out (bc_go hb7 (bc_al (o := .cells #[.int .i64 q0, .int .i64 q1, .int .i64 q2, .int .i64 q3, .int .i64 q4, .float .f64 qu, .int .i64 q5, .int .i64 q6] 27) (bel_refl w7)))
    have HNA7 : Hid (Nr w4.heap.size (w7.alloc (.cells #[.int .i64 q0, .int .i64 q1, .int .i64 q2, .int .i64 q3, .int .i64 q4, .float .f64 qu, .int .i64 q5, .int .i64 q6] 27)) (.slice aa na ca) LN) := Nr.down HNA6.out (bc_go hb7 (bc_al (o := .cells #[.int .i64 q0, .int .i64 q1, .int .i64 q2, .int .i64 q3, .int .i64 q4, .float .f64 qu, .int .i64 q5, .int .i64 q6] 27) (bel_refl w7)))
    have HNC7 : Hid _ := HNC6.out.go (bc_go hb7 (bc_al (o := .cells #[.int .i64 q0, .int .i64 q1, .int .i64 q2, .int .i64 q3, .int .i64 q4, .float .f64 qu, .int .i64 q5, .int .i64 q6] 27) (bel_refl w7)))
    have MC7 : Hid (Mks (w7.alloc (.cells #[.int .i64 q0, .int .i64 q1, .int .i64 q2, .int .i64 q3, .int .i64 q4, .float .f64 qu, .int .i64 q5, .int .i64 q6] 27)) gb n) := Mks.go MC6.out (bc_go hb7 (bc_al (o := .cells #[.int .i64 q0, .int .i64 q1, .int .i64 q2, .int .i64 q3, .int .i64 q4, .float .f64 qu, .int .i64 q5, .int .i64 q6] 27) (bel_refl w7)))
    obtain ⟨g17, eg17⟩ : ∃ g, g = w7.heap.size := ⟨_, rfl⟩
    have HG17 : Hid (wB.heap.size ≤ g17) := by show _ ≤ _; rw [eg17]; exact hb7.size
    obtain ⟨wQ, hwQ⟩ : ∃ W, W = w7.alloc (.cells #[.int .i64 q0, .int .i64 q1, .int .i64 q2, .int .i64 q3, .int .i64 q4, .float .f64 qu, .int .i64 q5, .int .i64 q6] 27) := ⟨_, rfl⟩
    rw [← eg17] at T7
    rw [← hwQ] at T7 HNB7 HNA7 HNC7 MC7
    have HG17b : Hid (g17 < wQ.heap.size) := by show _ < _; rw [hwQ, World.size_alloc]; omega
    clear hb7 T6 HNB6 HNA6 HNC6 MC6 hq0 hq1 hq2 hq3 hq4 hq5 hq6 hqu
    clear x0 x1 x2 x3 x4 x5 x6
    go_upto_region 14 with fail
    rw [← hwQ, ← eg17]
    clear hwQ eg17
    have SM : Hid (∀ W, Below wQ.heap.size wQ W → Calls Tryz.prog 23 #[.agg #[.int .i64 K, .int .i64 R, .int .i64 M, .int .i64 C, .int .i64 Fl, .int .i64 A, .slice (some ⟨gb, 0, none⟩) n cw], .agg #[.int .i64 K, .int .i64 R, .int .i64 M, .int .i64 C, .int .i64 Fl, .int .i64 A, .slice a n cap]] W fun e w' => e = .returned (.bool true) ∧ Below W.heap.size W w') := fun W hW => by
      classical
      exact same_any K R M C Fl A (some ⟨gb, 0, none⟩) n cw G K R M C Fl A a n cap G true W (HNC7.out.go hW) (HN.out.go (bc_go T7.out.bel hW)) (decide_eq_true ⟨rfl, rfl, rfl, rfl, rfl, rfl, rfl, fun _ _ _ _ => rfl⟩)
    have x0 := fun p : BW wQ => p.cel (T7.out.cel gc 0 (.int .i64 K))
    have x1 := fun p : BW wQ => p.cel (T7.out.cel gc 1 (.int .i64 R))
    have x2 := fun p : BW wQ => p.cel (T7.out.cel gc 2 (.int .i64 M))
    have x3 := fun p : BW wQ => p.cel (T7.out.cel gc 3 (.int .i64 C))
    have x4 := fun p : BW wQ => p.cel (T7.out.cel gc 4 (.int .i64 Fl))
    have x5 := fun p : BW wQ => p.cel (T7.out.cel gc 5 (.int .i64 A))
    have x6 := fun p : BW wQ => p.cel (T7.out.cel gc 6 (.slice (some ⟨gb, 0, none⟩) n cw))
    have y0 := fun p : BW wQ => p.cel (T7.out.cel g8 0 (.int .i64 K))
    have y1 := fun p : BW wQ => p.cel (T7.out.cel g8 1 (.int .i64 R))
    have y2 := fun p : BW wQ => p.cel (T7.out.cel g8 2 (.int .i64 M))
    have y3 := fun p : BW wQ => p.cel (T7.out.cel g8 3 (.int .i64 C))
    have y4 := fun p : BW wQ => p.cel (T7.out.cel g8 4 (.int .i64 Fl))
    have y5 := fun p : BW wQ => p.cel (T7.out.cel g8 5 (.int .i64 A))
    have y6 := fun p : BW wQ => p.cel (T7.out.cel g8 6 (.slice a n cap))
    have z0 := fun p : BW wQ => p.cel (T7.out.cel gm 0 (.int .i64 (-1)))
    have z1 := fun p : BW wQ => p.cel (T7.out.cel gm 1 (.int .i64 (-2)))
    have z2 := fun p : BW wQ => p.cel (T7.out.cel gm 2 (.int .i64 (-3)))
    have z3 := fun p : BW wQ => p.cel (T7.out.cel gm 3 (.int .i64 (-4)))
    obtain ⟨ma0, ma1, ma2, ma3⟩ := MC7.out 0 (by omega)
    obtain ⟨mb0, mb1, mb2, mb3⟩ := MC7.out 1 (by omega)
    obtain ⟨mc0, mc1, mc2, mc3⟩ := MC7.out 2 (by omega)
    simp only [Nat.add_zero] at ma0 ma1 ma2 ma3
    have ma0p := fun p : BW wQ => p.cel ma0
    clear ma0
    have ma1p := fun p : BW wQ => p.cel ma1
    clear ma1
    have ma2p := fun p : BW wQ => p.cel ma2
    clear ma2
    have ma3p := fun p : BW wQ => p.cel ma3
    clear ma3
    have mb0p := fun p : BW wQ => p.cel mb0
    clear mb0
    have mb1p := fun p : BW wQ => p.cel mb1
    clear mb1
    have mb2p := fun p : BW wQ => p.cel mb2
    clear mb2
    have mb3p := fun p : BW wQ => p.cel mb3
    clear mb3
    have mc0p := fun p : BW wQ => p.cel mc0
    clear mc0
    have mc1p := fun p : BW wQ => p.cel mc1
    clear mc1
    have mc2p := fun p : BW wQ => p.cel mc2
    clear mc2
    have mc3p := fun p : BW wQ => p.cel mc3
    clear mc3
    have j0 : (n : Int) < (n : Int) + 3 := by omega
    have j1 : (n : Int) + 1 < (n : Int) + 3 := by omega
    have j2 : (n : Int) + 2 < (n : Int) + 3 := by omega
    have t1 : ((n : Int) + 1).toNat = n + 1 := by omega
    have t2 : ((n : Int) + 2).toNat = n + 2 := by omega
    have wr1 : IntKind.i64.wrap ((n : Int) + 1) = (n : Int) + 1 := by rw [IntKind.wrap_i64]; omega
    have wr2 : IntKind.i64.wrap ((n : Int) + 2) = (n : Int) + 2 := by rw [IntKind.wrap_i64]; omega
    have j3 : (0 : Int) ≤ (n : Int) + 1 := by omega
    have j4 : (0 : Int) ≤ (n : Int) + 2 := by omega
    haveI hne : Nonempty (BW wQ) := ⟨⟨wQ, bel_refl wQ⟩⟩
    refine wp_region_quiet_bel (by kernel_rfl) (by kernel_rfl) ?_
    repeat (quiet_step (first
      | (go_at_call 23; exact calls_bel (SM.out _ (BW.bel _)))))
    refine wpQuiet_nil ?_
    intro w8 hw9
    obtain ⟨p9, hp9⟩ := hw9
    have hb8 := p9.bel
    rw [← hp9] at hb8
    clear hp9 p9 hne SM j0 j1 j2 j3 j4 t1 t2 wr1 wr2
    have T8 : Hid _ := T7.out.go hb8
    have HNA8 : Hid (Nr w4.heap.size w8 (.slice aa na ca) LN) := Nr.down HNA7.out hb8
    have HNB8 : Hid (Nr wA.heap.size w8 (.slice ab na cb) LN) := Nr.down HNB7.out hb8
    have HSZ8 : Hid (g17 < w8.heap.size) := Nat.lt_of_lt_of_le HG17b.out hb8.size
    clear hb8 T7 HNA7 HNB7 HNC7 MC7
    clear x0 x1 x2 x3 x4 x5 x6
    clear y0 y1 y2 y3 y4 y5 y6
    clear z0 z1 z2 z3
    clear ma0p ma1p ma2p ma3p mb0p mb1p mb2p mb3p mc0p mc1p mc2p mc3p
    go_wp2_with fail
    refine (num9_any ce _).mono ?_
    rintro e w9 ⟨rfl, hq⟩
    rw [hq]
    clear hq w9
    by_cases c0 : ce = 0
    · subst c0
      have HUC : us = confS K R M C Fl A G n := by rw [← HUS.out]; unfold priS; rw [if_pos HCE.out]
      have hbk := pr_back K R M C Fl A G n HCE.out HN.out.wf
      rw [← HUC] at hbk
      obtain ⟨z0, z1, z2, z3, z4, z5, z6, zn, zg⟩ := hbk
      obtain ⟨r0, r1, r2, r3, r4, r5, r6, r7, r8⟩ := HPR.out
      rw [z0] at r0; rw [z1] at r1; rw [z2] at r2; rw [z3] at r3; rw [z4] at r4; rw [z5] at r5; rw [z6] at r6; rw [zn] at r7
      rw [r8] at zg zn
      have HLG : Hid (∀ i j, i < n → j < 4 → gOf LN i j = G i j) := zg
      have HLL : Hid (LN.length = n) := zn
      subst r0 r1 r2 r3 r4 r5 r6 r7
      clear HUC z0 z1 z2 z3 z4 z5 z6 zn zg r8
      have HLI : Hid (∀ x ∈ LN, NdIn x) := by have q := prN_in us; rw [HPR.out.2.2.2.2.2.2.2.2] at q; exact q
      go_upto_region 18 with fail
      go_cut [151] from 115 to 151 (fun s151 wx => s151 = .bool false ∧ Hid (Below w8.heap.size w8 wx))
      case first =>
        have HSA : Hid (NSl w8 aa n ca (gOf LN)) := (nsl_nr HNA8.out HLI.out).2
        have HSB : Hid (NSl w8 ab n cb (gOf LN)) := (nsl_nr HNB8.out HLI.out).2
        have SA : Hid (∀ W, Below w8.heap.size w8 W → Calls Tryz.prog 23 #[.agg #[.int .i64 K, .int .i64 R, .int .i64 M, .int .i64 C, .int .i64 Fl, .int .i64 A, .slice aa n ca], .agg #[.int .i64 K, .int .i64 R, .int .i64 M, .int .i64 C, .int .i64 Fl, .int .i64 A, .slice a n cap]] W fun e w' => e = .returned (.bool true) ∧ Below W.heap.size W w') := fun W hW => by
          classical
          exact same_any K R M C Fl A aa n ca (gOf LN) K R M C Fl A a n cap G true W (HSA.out.go hW) (HN.out.go (bc_go T8.out.bel hW)) (decide_eq_true ⟨rfl, rfl, rfl, rfl, rfl, rfl, rfl, HLG.out⟩)
        have SB : Hid (∀ W, Below w8.heap.size w8 W → Calls Tryz.prog 23 #[.agg #[.int .i64 K, .int .i64 R, .int .i64 M, .int .i64 C, .int .i64 Fl, .int .i64 A, .slice ab n cb], .agg #[.int .i64 K, .int .i64 R, .int .i64 M, .int .i64 C, .int .i64 Fl, .int .i64 A, .slice a n cap]] W fun e w' => e = .returned (.bool true) ∧ Below W.heap.size W w') := fun W hW => by
          classical
          exact same_any K R M C Fl A ab n cb (gOf LN) K R M C Fl A a n cap G true W (HSB.out.go hW) (HN.out.go (bc_go T8.out.bel hW)) (decide_eq_true ⟨rfl, rfl, rfl, rfl, rfl, rfl, rfl, HLG.out⟩)
        have x0 := T8.out.cel g13 0 (.int .i64 K)
        have x1 := T8.out.cel g13 1 (.int .i64 R)
        have x2 := T8.out.cel g13 2 (.int .i64 M)
        have x3 := T8.out.cel g13 3 (.int .i64 C)
        have x4 := T8.out.cel g13 4 (.int .i64 Fl)
        have x5 := T8.out.cel g13 5 (.int .i64 A)
        have x6 := T8.out.cel g13 6 (.slice aa n ca)
        have y0 := T8.out.cel g8 0 (.int .i64 K)
        have y1 := T8.out.cel g8 1 (.int .i64 R)
        have y2 := T8.out.cel g8 2 (.int .i64 M)
        have y3 := T8.out.cel g8 3 (.int .i64 C)
        have y4 := T8.out.cel g8 4 (.int .i64 Fl)
        have y5 := T8.out.cel g8 5 (.int .i64 A)
        have y6 := T8.out.cel g8 6 (.slice a n cap)
        go_wp2_with fail
        refine (num9_any 0 _).mono ?_
        rintro e w9 ⟨rfl, hq⟩
        rw [hq]
        clear hq w9
        go_wp2_with fail
        refine (num9_any 0 _).mono ?_
        rintro e w9 ⟨rfl, hq⟩
        rw [hq]
        clear hq w9
        go_wp2_with fail
        refine (SA.out _ (bel_refl _)).mono ?_
        rintro e w9 ⟨rfl, hb9⟩
        have T9 : Hid _ := T8.out.go hb9
        have B9 : Hid _ := hb9
        clear hb9
        clear x0 x1 x2 x3 x4 x5 x6
        clear y0 y1 y2 y3 y4 y5 y6
        have x0 := T9.out.cel g15 0 (.int .i64 K)
        have x1 := T9.out.cel g15 1 (.int .i64 R)
        have x2 := T9.out.cel g15 2 (.int .i64 M)
        have x3 := T9.out.cel g15 3 (.int .i64 C)
        have x4 := T9.out.cel g15 4 (.int .i64 Fl)
        have x5 := T9.out.cel g15 5 (.int .i64 A)
        have x6 := T9.out.cel g15 6 (.slice ab n cb)
        have y0 := T9.out.cel g8 0 (.int .i64 K)
        have y1 := T9.out.cel g8 1 (.int .i64 R)
        have y2 := T9.out.cel g8 2 (.int .i64 M)
        have y3 := T9.out.cel g8 3 (.int .i64 C)
        have y4 := T9.out.cel g8 4 (.int .i64 Fl)
        have y5 := T9.out.cel g8 5 (.int .i64 A)
        have y6 := T9.out.cel g8 6 (.slice a n cap)
        go_wp2_with fail
        refine (SB.out _ B9.out).mono ?_
        rintro e w10 ⟨rfl, hb10⟩
        have T10 : Hid _ := T9.out.go hb10
        have B10 : Hid (Below w8.heap.size w8 w10) := bc_go B9.out hb10
        clear hb10
        clear x0 x1 x2 x3 x4 x5 x6
        clear y0 y1 y2 y3 y4 y5 y6
        go_wp2_with fail
        refine (num9_any fe _).mono ?_
        rintro e w11 ⟨rfl, hq⟩
        rw [hq]
        clear hq w11
        by_cases cf : fe = 0
        · subst cf
          obtain ⟨kk, ll, hkk, hll, hxe⟩ := HX1.out rfl
          obtain ⟨o0, _, _, _, _, _, _, _, o8⟩ := pf_back K R M C Fl A G n pw pq pc ps pb pr pp pn kk ll xs HP.out.u HFE.out HP.out.w6 hkk hll hxe
          have eE : E = 0 := by rw [← HE.out]; exact o0
          subst eE
          have e6 : q6 = pn := by rw [← HQ6.out]; exact o8
          subst e6
          have y7 := T10.out.cel g17 7 (.int .i64 q6)
          have x7 := T10.out.cel gp 7 (.int .i64 q6)
          clear o0 o8 hkk hll hxe
          go_wp2_with fail
          refine (num9_any 0 _).mono ?_
          rintro e w11 ⟨rfl, hq⟩
          rw [hq]
          clear hq w11
          go_wp2_with fail
          go_meet
          case rel => exact ⟨rfl, B10⟩
        have d0 : (fe == 0) = false := by simpa using cf
        go_wp2_with fail
        go_meet
        case rel => exact ⟨rfl, B10⟩
      case rest =>
        obtain ⟨e151, hcb⟩ := hcut
        subst e151
        have T9 : Hid _ := T8.out.go hcb.out
        have HNA9 : Hid (Nr w4.heap.size wc (.slice aa n ca) LN) := Nr.down HNA8.out hcb.out
        have HNB9 : Hid (Nr wA.heap.size wc (.slice ab n cb) LN) := Nr.down HNB8.out hcb.out
        have HOR : Hid (w.heap.size ≤ gc ∧ gc < gp ∧ gp < gm ∧ gm < g8 ∧ g8 < w4.heap.size ∧ w4.heap.size ≤ g13 ∧ g13 < wA.heap.size ∧ wA.heap.size ≤ g15 ∧ g15 < wB.heap.size ∧ wB.heap.size ≤ g17 ∧ g17 < wc.heap.size) := ⟨HGS.out.1, HGS.out.2.1, HGS.out.2.2.1, by have := HGS.out; omega, H48.out, HG13.out, HG13b.out, HG15.out, HG15b.out, HG17.out, Nat.lt_of_lt_of_le HSZ8.out hcb.out.size⟩
        have HNS : Hid (¬ (fun k => (Value.slice aa n ca).ownBlock = some k ∨ (Value.slice ab n cb).ownBlock = some k ∨ wc.heap.size ≤ k) gc ∧ ¬ (fun k => (Value.slice aa n ca).ownBlock = some k ∨ (Value.slice ab n cb).ownBlock = some k ∨ wc.heap.size ≤ k) gp ∧ ¬ (fun k => (Value.slice aa n ca).ownBlock = some k ∨ (Value.slice ab n cb).ownBlock = some k ∨ wc.heap.size ≤ k) gm ∧ ¬ (fun k => (Value.slice aa n ca).ownBlock = some k ∨ (Value.slice ab n cb).ownBlock = some k ∨ wc.heap.size ≤ k) g8 ∧ ¬ (fun k => (Value.slice aa n ca).ownBlock = some k ∨ (Value.slice ab n cb).ownBlock = some k ∨ wc.heap.size ≤ k) g15 ∧ ¬ (fun k => (Value.slice aa n ca).ownBlock = some k ∨ (Value.slice ab n cb).ownBlock = some k ∨ wc.heap.size ≤ k) g13 ∧ ¬ (fun k => (Value.slice aa n ca).ownBlock = some k ∨ (Value.slice ab n cb).ownBlock = some k ∨ wc.heap.size ≤ k) g17) := by
          have hor := HOR.out
          have key : ∀ q, q < wc.heap.size → (∀ k, (Value.slice aa n ca).ownBlock = some k → q ≠ k) → (∀ k, (Value.slice ab n cb).ownBlock = some k → q ≠ k) → ¬ (fun k => (Value.slice aa n ca).ownBlock = some k ∨ (Value.slice ab n cb).ownBlock = some k ∨ wc.heap.size ≤ k) q := fun q h1 h2 h3 h4 => by
            rcases h4 with z | z | z
            · exact h2 q z rfl
            · exact h3 q z rfl
            omega
          refine ⟨key gc (by omega) (fun k hk => ?_) (fun k hk => ?_), key gp (by omega) (fun k hk => ?_) (fun k hk => ?_), key gm (by omega) (fun k hk => ?_) (fun k hk => ?_), key g8 (by omega) (fun k hk => ?_) (fun k hk => ?_), key g15 (by omega) (fun k hk => ?_) (fun k hk => ?_), key g13 (by omega) (fun k hk => ?_) (fun k hk => ?_), key g17 (by omega) (fun k hk => ?_) (fun k hk => ?_)⟩
          all_goals first | (have := HAO.out k hk; omega) | (have := HBO.out k hk; omega)
        have HSW : Hid (∀ k, (fun k => (Value.slice aa n ca).ownBlock = some k ∨ (Value.slice ab n cb).ownBlock = some k ∨ wc.heap.size ≤ k) k → w.heap.size ≤ k) := fun k hk => by
          have hor := HOR.out
          rcases hk with z | z | z
          · have := HAO.out k z; omega
          · have := HBO.out k z; omega
          omega
        clear hcb T8 HNA8 HNB8
        go_wp2_with fail
        go_loopw [19] (fun t wr => ∃ k : Nat, k ≤ n ∧ t = .int .i64 (k : Int) ∧ Hid (Ky wc wr (fun k => (Value.slice aa n ca).ownBlock = some k ∨ (Value.slice ab n cb).ownBlock = some k ∨ wc.heap.size ≤ k)) ∧ Hid (∃ L, Nr w4.heap.size wr (.slice aa n ca) L ∧ L.length = n ∧ ∀ i, i < k → L.getD i nd0 = mk9) ∧ Hid (Nr wA.heap.size wr (.slice ab n cb) LN)) (fun t _ => n - (intOf t).toNat)
        case atStart => exact ⟨0, by omega, rfl, ky_refl wc _, ⟨LN, HNA9.out, HLL.out, fun i hi => by omega⟩, HNB9⟩
        case round =>
          obtain ⟨k, hk, rfl, KY, HL, HNBr⟩ := hrel
          by_cases ek : k = n
          · have ek2 := ek.symm
            clear ek
            subst ek2
            have s6 := KY.out.cel HNS.out.2.2.2.2.2.1 (T9.out.cel g13 6 (.slice aa n ca))
            have z0 := KY.out.cel HNS.out.2.2.1 (T9.out.cel gm 0 (.int .i64 (-1)))
            have z1 := KY.out.cel HNS.out.2.2.1 (T9.out.cel gm 1 (.int .i64 (-2)))
            have z2 := KY.out.cel HNS.out.2.2.1 (T9.out.cel gm 2 (.int .i64 (-3)))
            have z3 := KY.out.cel HNS.out.2.2.1 (T9.out.cel gm 3 (.int .i64 (-4)))
            obtain ⟨L, hNL, hLn, hLm⟩ := HL.out
            have HLn : Hid (L.length = n ∧ ∀ i, i < n → L.getD i nd0 = mk9) := ⟨hLn, hLm⟩
            have KY1w : Hid (wc.heap.size ≤ wr.heap.size) := KY.out.size
            go_wp2_with (refine (id ?_ : wpList Tryz.prog _ _ (⟨some 169, _, _, _, _, _⟩ :: _) _ _); refine wp_appN2 rfl (.tmp 163) (.tmp 168) rfl w4.heap.size (.slice aa n ca) L rfl (Nr.down hNL (bc_al (bel_refl wr))) ⟨wr.heap.size, 0, none⟩ 4 4 [mk9, mk9, mk9, mk9] rfl rfl (four_mark wr) (by rw [HLn.out.1]; simp; omega) (by rw [World.size_alloc]; have := KY.out.size; have := HOR.out; omega) ?_)
            intro v1 w1 hN1 hG1 hO1
            have HN1 : Hid (Nr w4.heap.size w1 v1 (L ++ [mk9, mk9, mk9, mk9])) := hN1.out
            have HO1 : Hid (v1.ownBlock = (Value.slice aa n ca).ownBlock ∨ v1.ownBlock = some wr.heap.size.succ) := by
              rcases hO1.out with q | q
              · exact .inl q
              exact .inr q
            have KY2 : Hid (Ky wc w1 (fun k => (Value.slice aa n ca).ownBlock = some k ∨ (Value.slice ab n cb).ownBlock = some k ∨ wc.heap.size ≤ k)) := (KY.out.trans (Ky.of_below (bc_al (o := .cells #[.int .i64 (-1), .int .i64 (-2), .int .i64 (-3), .int .i64 (-4), .int .i64 (-1), .int .i64 (-2), .int .i64 (-3), .int .i64 (-4), .int .i64 (-1), .int .i64 (-2), .int .i64 (-3), .int .i64 (-4), .int .i64 (-1), .int .i64 (-2), .int .i64 (-3), .int .i64 (-4)] 57) (bel_refl wr)))).trans (Ky.of_grown hG1.out (fun g hg => .inl hg))
            have HNB2 : Hid (Nr wA.heap.size w1 (.slice ab n cb) LN) := (Nr.down HNBr.out (bc_al (o := .cells #[.int .i64 (-1), .int .i64 (-2), .int .i64 (-3), .int .i64 (-4), .int .i64 (-1), .int .i64 (-2), .int .i64 (-3), .int .i64 (-4), .int .i64 (-1), .int .i64 (-2), .int .i64 (-3), .int .i64 (-4), .int .i64 (-1), .int .i64 (-2), .int .i64 (-3), .int .i64 (-4)] 57) (bel_refl wr))).go (fun q hq => hG1.out.block q (Nat.lt_of_lt_of_le (HNBr.out.lt hq) (by rw [World.size_alloc]; omega)) (fun e => by
              have h1 := HBO.out q hq
              have h2 := HAO.out q e.symm
              have := HOR.out
              omega))
            clear s6 z0 z1 z2 z3 hN1 hG1 hO1 hNL hLn hLm HL KY HNBr
            go_wp2_with fail
            go_loopw [21] (fun t wr => ∃ k d : Nat, k ≤ n ∧ t = .int .i64 (k : Int) ∧ wr = w1.drewN d) (fun t _ => n - (intOf t).toNat)
            case atStart => exact ⟨0, 0, by omega, rfl, rfl⟩
            case round =>
              obtain ⟨k, d, hk, rfl, rfl⟩ := hrel
              by_cases ek : k = n
              · have ek2 := ek.symm
                clear ek
                subst ek2
                have HNB3 : Hid (Nr wA.heap.size (w1.drewN d) (.slice ab n cb) LN) := HNB2.out
                have KY3 : Hid (Ky wc (w1.drewN d) (fun k => (Value.slice aa n ca).ownBlock = some k ∨ (Value.slice ab n cb).ownBlock = some k ∨ wc.heap.size ≤ k)) := ⟨KY2.out.os, KY2.out.tape, KY2.out.output, KY2.out.size, KY2.out.block⟩
                obtain ⟨w1d, hw1d⟩ : ∃ W, W = w1.drewN d := ⟨_, rfl⟩
                have HN1d : Hid (Nr w4.heap.size w1d v1 (L ++ [mk9, mk9, mk9, mk9])) := by rw [hw1d]; exact HN1.out
                rw [← hw1d] at HNB3 KY3
                rw [← hw1d]
                clear hw1d
                have s6 := KY3.out.cel HNS.out.2.2.2.2.1 (T9.out.cel g15 6 (.slice ab n cb))
                have lg15 : g15 < w1d.heap.size := World.block_lt_of_cell? _ _ s6
                go_wp2_with (refine (id ?_ : wpList Tryz.prog _ _ (⟨some 193, _, _, _, _, _⟩ :: _) _ _); refine wp_appN2 rfl (.tmp 187) (.tmp 192) rfl wA.heap.size (.slice ab n cb) LN rfl (Nr.down HNB3.out (bc_al (bel_refl w1d))) ⟨w1d.heap.size, 0, none⟩ 4 4 [nd0, nd0, nd0, nd0] rfl rfl (four_zero w1d) (by rw [HLL.out]; simp; omega) (by rw [World.size_alloc]; have := KY3.out.size; have := HOR.out; omega) ?_)
                intro v2 w2 hN2 hG2 hO2
                have HN2 : Hid _ := hN2.out
                have KY4 : Hid (Ky wc w2 (fun k => (Value.slice aa n ca).ownBlock = some k ∨ (Value.slice ab n cb).ownBlock = some k ∨ wc.heap.size ≤ k)) := (KY3.out.trans (Ky.of_below (bc_al (o := .cells #[.int .i64 0, .int .i64 0, .int .i64 0, .int .i64 0, .int .i64 0, .int .i64 0, .int .i64 0, .int .i64 0, .int .i64 0, .int .i64 0, .int .i64 0, .int .i64 0, .int .i64 0, .int .i64 0, .int .i64 0, .int .i64 0] 57) (bel_refl w1d)))).trans (Ky.of_grown hG2.out (fun g hg => .inr (.inl hg)))
                have HN1e : Hid (Nr w4.heap.size w2 v1 (L ++ [mk9, mk9, mk9, mk9])) := (Nr.down HN1d.out (bc_al (o := .cells #[.int .i64 0, .int .i64 0, .int .i64 0, .int .i64 0, .int .i64 0, .int .i64 0, .int .i64 0, .int .i64 0, .int .i64 0, .int .i64 0, .int .i64 0, .int .i64 0, .int .i64 0, .int .i64 0, .int .i64 0, .int .i64 0] 57) (bel_refl w1d))).go (fun q hq => hG2.out.block q (Nat.lt_of_lt_of_le (HN1d.out.lt hq) (by rw [World.size_alloc]; omega)) (fun e => by
                  have h1 := HBO.out q e.symm
                  rcases HO1.out with z | z
                  · rw [hq] at z
                    have h2 := HAO.out q z.symm
                    have := HOR.out
                    omega
                  rw [hq] at z
                  have h3 := Option.some.inj z
                  have := HOR.out
                  have := KY1w.out
                  omega))
                have hl1 : (L ++ [mk9, mk9, mk9, mk9]).length = n + 4 := by rw [List.length_append, HLn.out.1]; rfl
                have hl2 : (LN ++ [nd0, nd0, nd0, nd0]).length = n + 4 := by rw [List.length_append, HLL.out]; rfl
                obtain ⟨a1, c1, e1, hs1, _⟩ := Nr.sl HN1e.out
                obtain ⟨a2, c2, e2, hs2, _⟩ := Nr.sl HN2.out
                rw [hl1] at e1 hs1
                rw [hl2] at e2 hs2
                obtain ⟨g1, ea1, _, _, hc1⟩ := hs1 (by omega)
                obtain ⟨g2, ea2, _, _, hc2⟩ := hs2 (by omega)
                subst ea1 ea2
                subst e1 e2
                have HC1 : Hid (∀ i, i < n + 4 → w2.cell? ⟨g1, i * 4, none⟩ = some (.int .i64 (-1)) ∧ w2.cell? ⟨g1, i * 4 + 1, none⟩ = some (.int .i64 (-2)) ∧ w2.cell? ⟨g1, i * 4 + 2, none⟩ = some (.int .i64 (-3)) ∧ w2.cell? ⟨g1, i * 4 + 3, none⟩ = some (.int .i64 (-4))) := fun i hi => by
                  have q := hc1 i hi
                  rw [all_mk HLn.out.1 HLn.out.2 i hi] at q
                  exact q
                have HC2 : Hid (∀ i, n ≤ i → i < n + 4 → w2.cell? ⟨g2, i * 4, none⟩ = some (.int .i64 0) ∧ w2.cell? ⟨g2, i * 4 + 1, none⟩ = some (.int .i64 0) ∧ w2.cell? ⟨g2, i * 4 + 2, none⟩ = some (.int .i64 0) ∧ w2.cell? ⟨g2, i * 4 + 3, none⟩ = some (.int .i64 0)) := fun i h1 hi => by
                  have q := hc2 i hi
                  rw [all_z HLL.out i h1 hi] at q
                  exact q
                have HM2 : Hid (w2.cell? ⟨gm, 0, none⟩ = some (.int .i64 (-1)) ∧ w2.cell? ⟨gm, 1, none⟩ = some (.int .i64 (-2)) ∧ w2.cell? ⟨gm, 2, none⟩ = some (.int .i64 (-3)) ∧ w2.cell? ⟨gm, 3, none⟩ = some (.int .i64 (-4))) := ⟨KY4.out.cel HNS.out.2.2.1 (T9.out.cel gm 0 (.int .i64 (-1))), KY4.out.cel HNS.out.2.2.1 (T9.out.cel gm 1 (.int .i64 (-2))), KY4.out.cel HNS.out.2.2.1 (T9.out.cel gm 2 (.int .i64 (-3))), KY4.out.cel HNS.out.2.2.1 (T9.out.cel gm 3 (.int .i64 (-4)))⟩
                clear hs1 hs2 hc1 hc2 hl1 hl2 s6 lg15 hN2 hG2 hO2
                go_wp2_with fail
                go_loopw [23] (fun t wr => ∃ k d : Nat, k ≤ n + 4 ∧ t = .int .i64 (k : Int) ∧ wr = w2.drewN d) (fun t _ => n + 4 - (intOf t).toNat)
                case atStart => exact ⟨0, 0, by omega, rfl, rfl⟩
                case round =>
                  obtain ⟨k, d, hk, rfl, rfl⟩ := hrel
                  by_cases ek : k = n + 4
                  · subst ek
                    have r3 : decide (((n + 4 : Nat) : Int) < ((n + 4 : Nat) : Int)) = false := by simp
                    obtain ⟨w20, hw20⟩ : ∃ W, W = w2.drewN d := ⟨_, rfl⟩
                    have KY5 : Hid (Ky wc w20 (fun k => (Value.slice aa n ca).ownBlock = some k ∨ (Value.slice ab n cb).ownBlock = some k ∨ wc.heap.size ≤ k)) := by rw [hw20]; exact ⟨KY4.out.os, KY4.out.tape, KY4.out.output, KY4.out.size, KY4.out.block⟩
                    have T20 : Hid _ := KY5.out.ce T9.out HSW.out (by
                      intro p hp
                      obtain ⟨n1, n2, n3, n4, n5, n6, n7⟩ := HNS.out
                      repeat (rcases List.mem_cons.1 hp with rfl | hp; first | exact n1 | exact n2 | exact n3 | exact n4 | exact n5 | exact n6 | exact n7)
                      cases hp)
                    rw [← hw20]
                    clear hw20
                    go_wp2_with fail
                    refine (cparse_any us _ HUZ.out (HV.out.go T20.out.bel).ev (HV.out.go T20.out.bel).kn).mono ?_
                    rintro e w21 ⟨vd, rfl, hND, hb21⟩
                    obtain ⟨ad, cd, evd, _, _⟩ := Nr.sl hND
                    subst evd
                    have hnd := nsl_nr hND (prN_in us)
                    obtain ⟨z0, z1, z2, z3, z4, z5, z6, z7, z8⟩ := HPR.out
                    rw [z0, z1, z2, z3, z4, z5, z6, z7]
                    rw [z7, z8] at hnd
                    have HND : Hid (NSl w21 ad n cd (gOf LN)) := hnd.2
                    clear hND hnd z0 z1 z2 z3 z4 z5 z6 z7 z8
                    have T21 : Hid _ := (T20.out.go hb21).box7 (.int .i64 K) (.int .i64 R) (.int .i64 M) (.int .i64 C) (.int .i64 Fl) (.int .i64 A) (.slice ad n cd) 24 _ rfl
                    have HND2 : Hid _ := HND.out.go (bc_al (o := .cells #[.int .i64 K, .int .i64 R, .int .i64 M, .int .i64 C, .int .i64 Fl, .int .i64 A, .slice ad n cd] 24) (bel_refl w21))
                    obtain ⟨g24, eg24⟩ : ∃ g, g = w21.heap.size := ⟨_, rfl⟩
                    obtain ⟨w22, hw22⟩ : ∃ W, W = w21.alloc (.cells #[.int .i64 K, .int .i64 R, .int .i64 M, .int .i64 C, .int .i64 Fl, .int .i64 A, .slice ad n cd] 24) := ⟨_, rfl⟩
                    rw [← eg24] at T21
                    rw [← hw22] at T21 HND2
                    clear hb21 T20 HND
                    go_wp2_with fail
                    rw [← hw22, ← eg24]
                    clear hw22 eg24
                    refine (num9_any 0 _).mono ?_
                    rintro e w9 ⟨rfl, hq⟩
                    rw [hq]
                    clear hq w9
                    have x0 := T21.out.cel g24 0 (.int .i64 K)
                    have x1 := T21.out.cel g24 1 (.int .i64 R)
                    have x2 := T21.out.cel g24 2 (.int .i64 M)
                    have x3 := T21.out.cel g24 3 (.int .i64 C)
                    have x4 := T21.out.cel g24 4 (.int .i64 Fl)
                    have x5 := T21.out.cel g24 5 (.int .i64 A)
                    have x6 := T21.out.cel g24 6 (.slice ad n cd)
                    have y0 := T21.out.cel g8 0 (.int .i64 K)
                    have y1 := T21.out.cel g8 1 (.int .i64 R)
                    have y2 := T21.out.cel g8 2 (.int .i64 M)
                    have y3 := T21.out.cel g8 3 (.int .i64 C)
                    have y4 := T21.out.cel g8 4 (.int .i64 Fl)
                    have y5 := T21.out.cel g8 5 (.int .i64 A)
                    have y6 := T21.out.cel g8 6 (.slice a n cap)
                    have SD : Hid (∀ W, Below w22.heap.size w22 W → Calls Tryz.prog 23 #[.agg #[.int .i64 K, .int .i64 R, .int .i64 M, .int .i64 C, .int .i64 Fl, .int .i64 A, .slice ad n cd], .agg #[.int .i64 K, .int .i64 R, .int .i64 M, .int .i64 C, .int .i64 Fl, .int .i64 A, .slice a n cap]] W fun e w' => e = .returned (.bool true) ∧ Below W.heap.size W w') := fun W hW => by
                      classical
                      exact same_any K R M C Fl A ad n cd (gOf LN) K R M C Fl A a n cap G true W (HND2.out.go hW) (HN.out.go (bc_go T21.out.bel hW)) (decide_eq_true ⟨rfl, rfl, rfl, rfl, rfl, rfl, rfl, HLG.out⟩)
                    go_wp2_with fail
                    refine (SD.out _ (bel_refl _)).mono ?_
                    rintro e w23 ⟨rfl, hb23⟩
                    have W23 : Hid _ := bc_go T21.out.bel hb23
                    clear hb23
                    clear x0 x1 x2 x3 x4 x5 x6
                    clear y0 y1 y2 y3 y4 y5 y6
                    go_wp2_with fail
                    refine (started9_any _ (HV.out.go W23.out)).mono ?_
                    rintro e w24 ⟨rfl, hb24⟩
                    go_wp2_with fail
                    go_ret
                    exact ⟨rfl, bc_go W23.out hb24⟩
                  have lk : k < n + 4 := by omega
                  have u0 := (HC1.out k lk).1
                  have u1 := (HC1.out k lk).2.1
                  have u2 := (HC1.out k lk).2.2.1
                  have u3 := (HC1.out k lk).2.2.2
                  obtain ⟨z0, z1, z2, z3⟩ := HM2.out
                  by_cases kn : k < n
                  · have r4 : ¬ n ≤ k := by omega
                    have r5 : decide ((n : Int) ≤ (k : Int)) = false := decide_eq_false (by omega)
                    go_wp2_with fail
                    go_quiet (fail)
                    go_wp2_with fail
                    go_roundw
                    case rel => exact ⟨k + 1, _, by omega, by go_num, rfl⟩
                    case measure => simp [intOf]; omega
                  have r4 : n ≤ k := by omega
                  have r5 : decide ((n : Int) ≤ (k : Int)) = true := decide_eq_true (by omega)
                  obtain ⟨v0, v1', v2', v3'⟩ := HC2.out k r4 lk
                  go_wp2_with fail
                  go_quiet (fail)
                  go_wp2_with fail
                  go_roundw
                  case rel => exact ⟨k + 1, _, by omega, by go_num, rfl⟩
                  case measure => simp [intOf]; omega
              have lk : k < n := by omega
              have hwas := HN.out.go (KY2.out.below T9.out.bel HSW.out)
              obtain ⟨ba, oa, ea, hca⟩ := hwas.at (by omega)
              obtain ⟨ab', cb', eb, hsb, _⟩ := Nr.sl HNB2.out
              rw [HLL.out] at eb hsb
              obtain ⟨gbb, eab, _, _, hcb⟩ := hsb (by omega)
              have ea' : a = some ⟨ba, oa, none⟩ := ea
              have eb' : ab = some ⟨gbb, 0, none⟩ := by cases eb; exact eab
              subst ea'
              subst eb'
              obtain ⟨v0, v1', v2', v3'⟩ := hcb k lk
              have gk := fun j hj => HLG.out k j lk hj
              have gk0 := gk 0 (by omega)
              have gk1 := gk 1 (by omega)
              have gk2 := gk 2 (by omega)
              have gk3 := gk 3 (by omega)
              simp only [gOf] at gk0 gk1 gk2 gk3
              rw [gk0] at v0
              rw [gk1] at v1'
              rw [gk2] at v2'
              rw [gk3] at v3'
              have u0 : w1.cell? ⟨ba, oa + k * 4, none⟩ = some (.int .i64 (G k 0)) := by simpa using hca k 0 lk (by omega)
              have u1 := hca k 1 lk (by omega)
              have u2 := hca k 2 lk (by omega)
              have u3 := hca k 3 lk (by omega)
              have s6 := KY2.out.cel HNS.out.2.2.2.2.1 (T9.out.cel g15 6 (.slice (some ⟨gbb, 0, none⟩) n cb))
              have s8 := KY2.out.cel HNS.out.2.2.2.1 (T9.out.cel g8 6 (.slice (some ⟨ba, oa, none⟩) n cap))
              clear gk gk0 gk1 gk2 gk3 hcb hca hsb eb hwas eab ea
              go_wp2_with fail
              go_quiet (fail)
              go_wp2_with fail
              go_roundw
              case rel => exact ⟨k + 1, _, by omega, by go_num, rfl⟩
              case measure => simp [intOf]; omega
          have lk : k < n := by omega
          obtain ⟨L, hNL, hLn, hLm⟩ := HL.out
          obtain ⟨aa', ca', ea, hsa, _⟩ := Nr.sl hNL
          rw [hLn] at ea hsa
          obtain ⟨ga, eaa, _, _, hca⟩ := hsa (by omega)
          have eb' : aa = some ⟨ga, 0, none⟩ := by cases ea; exact eaa
          subst eb'
          obtain ⟨v0, v1', v2', v3'⟩ := hca k lk
          have f0 := hNL.soft rfl (k * 4)
          have f1 := hNL.soft rfl (k * 4 + 1)
          have f2 := hNL.soft rfl (k * 4 + 2)
          have f3 := hNL.soft rfl (k * 4 + 3)
          have s6 := KY.out.cel HNS.out.2.2.2.2.2.1 (T9.out.cel g13 6 (.slice (some ⟨ga, 0, none⟩) n ca))
          have z0 := KY.out.cel HNS.out.2.2.1 (T9.out.cel gm 0 (.int .i64 (-1)))
          have z1 := KY.out.cel HNS.out.2.2.1 (T9.out.cel gm 1 (.int .i64 (-2)))
          have z2 := KY.out.cel HNS.out.2.2.1 (T9.out.cel gm 2 (.int .i64 (-3)))
          have z3 := KY.out.cel HNS.out.2.2.1 (T9.out.cel gm 3 (.int .i64 (-4)))
          have KYn : Hid (Ky wc ((((wr.setCell ⟨ga, k * 4, none⟩ (.int .i64 (-1))).setCell ⟨ga, k * 4 + 1, none⟩ (.int .i64 (-2))).setCell ⟨ga, k * 4 + 2, none⟩ (.int .i64 (-3))).setCell ⟨ga, k * 4 + 3, none⟩ (.int .i64 (-4))) (fun k => (Value.slice (some ⟨ga, 0, none⟩) n ca).ownBlock = some k ∨ (Value.slice ab n cb).ownBlock = some k ∨ wc.heap.size ≤ k)) := (((KY.out.set (.inl rfl) _).set (.inl rfl) _).set (.inl rfl) _).set (.inl rfl) _
          have HLx : Hid (∃ L, Nr w4.heap.size ((((wr.setCell ⟨ga, k * 4, none⟩ (.int .i64 (-1))).setCell ⟨ga, k * 4 + 1, none⟩ (.int .i64 (-2))).setCell ⟨ga, k * 4 + 2, none⟩ (.int .i64 (-3))).setCell ⟨ga, k * 4 + 3, none⟩ (.int .i64 (-4))) (.slice (some ⟨ga, 0, none⟩) n ca) L ∧ L.length = n ∧ ∀ i, i < k + 1 → L.getD i nd0 = mk9) := ⟨L.set k mk9, hNL.set rfl k (by omega) mk9, by rw [List.length_set]; exact hLn, fun i hi => by
            by_cases e : i = k
            · subst e
              rw [List.getD, List.getElem?_set_self (by omega)]
              rfl
            rw [List.getD, List.getElem?_set_ne (by omega)]
            exact hLm i (by omega)⟩
          have HNBx : Hid (Nr wA.heap.size ((((wr.setCell ⟨ga, k * 4, none⟩ (.int .i64 (-1))).setCell ⟨ga, k * 4 + 1, none⟩ (.int .i64 (-2))).setCell ⟨ga, k * 4 + 2, none⟩ (.int .i64 (-3))).setCell ⟨ga, k * 4 + 3, none⟩ (.int .i64 (-4))) (.slice ab n cb) LN) := HNBr.out.go fun q hq => by
            have h1 := HBO.out q hq
            have h2 := HAO.out ga rfl
            have hne : q ≠ ga := by have := HOR.out; omega
            exact (Below.heap_setCell _ _ _ _ hne).trans ((Below.heap_setCell _ _ _ _ hne).trans ((Below.heap_setCell _ _ _ _ hne).trans (Below.heap_setCell _ _ _ _ hne)))
          have ngm : ¬ gm = ga := by have h2 := HAO.out ga rfl; have := HOR.out; omega
          have ng13 : ¬ g13 = ga := by have h2 := HAO.out ga rfl; omega
          clear hca hsa ea eaa hLm hLn hNL
          go_wp2_with fail
          go_roundw
          case rel => exact ⟨k + 1, by omega, by go_num, KYn, HLx, HNBx⟩
          case measure => simp [intOf]; omega
    have d0 : (ce != 0) = true := by simpa using c0
    have efe : fe = ce := by rw [← HFE.out]; unfold flowE; rw [HCE.out, if_pos c0]
    subst efe
    clear c0
    go_wp2_with fail
    refine (num9_any fe _).mono ?_
    rintro e w9 ⟨rfl, hq⟩
    rw [hq]
    clear hq w9
    go_wp2_with fail
    refine (num9_any fe _).mono ?_
    rintro e w9 ⟨rfl, hq⟩
    rw [hq]
    clear hq w9
    go_wp2_with fail
    refine (started9_any _ (HV.out.go T8.out.bel)).mono ?_
    rintro e w9 ⟨rfl, hb9⟩
    go_wp2_with fail
    go_ret
    exact ⟨rfl, bc_go T8.out.bel hb9⟩
end Go.Proofs.YtchomkadekikdaaGreatDoor
