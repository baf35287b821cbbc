/- Contracts of the program's functions, part 14: own work, joined in build order. -/
import Derived.Test.YtcndbmccediknaaJ13
import Derived.Deep.RegionLaw
namespace Go.Proofs.Ytcndbmccediknaa
open Go.RowKit
set_option maxRecDepth 100000
set_option linter.unusedVariables false
theorem wpList_appP {w : World} {ops : Array Oper} {rest : List Oper} {o : Oper} {a : Act} {Q : Exit → Act → World → Prop} (hgd : o.guard = none) (s x : Operand)
    (ho : o.op = .call { callee := .builtin .append, args := #[s, x], argTypes := #[33, 33] })
    (base : Nat) (v : Value) (L M : List Pk) (hs : a.eval s = v) (hown : Ow base w v L) (ad : Option Addr) (c : Nat) (hx : a.eval x = .slice ad M.length c) (hM : 0 < M.length → ∃ g o, ad = some ⟨g, o, none⟩ ∧ ∀ i, i < M.length → ∀ j, j < 6 → w.cell? ⟨g, o + i * 6 + j, none⟩ = some (encPk (M.getD i Pk.zero) j)) (hlim : L.length + M.length ≤ 1000000) (hb : base ≤ w.heap.size) (hv : v = .slice none 0 0 ∨ 0 < M.length)
    (h : ∀ v' w', Ow base w' v' (L ++ M) → w.grownBy w' v.ownBlock → (v'.ownBlock = v.ownBlock ∨ v'.ownBlock = some w.heap.size) → wpList Try.prog ops Q rest (a.put o.dst v') w') :
    wpList Try.prog ops Q (o :: rest) a w := by
  refine wpList_plain hgd fun K hK => ?_
  obtain ⟨v', w', hr, h2, h3, h5⟩ := appP_run w o.type base v L M hown ad c hM hlim hb hv
  unfold Oper.wp execOp
  simp only [ho, resolve, invoke, builtin, Sem.run_bind, Sem.run_pure, Result.andThen_ok, List.map_toArray, List.map_cons, List.map_nil, hs, hx, hr]
  exact hK _ _ (h v' w' h2 h3 h5)
theorem Ow.lsl {W : World} {v : Value} {L : List Pk} {base : Nat} (h : Ow base W v L) {d : Nat} {s : Sd} (hm : ∀ k, base ≤ k → ¬ Mine d s k) : Lsl W d s v L := by
  have hw := h
  obtain ⟨h1, h2⟩ := h
  rcases h2 with ⟨rfl, h0⟩ | ⟨g, cap, cur, rfl, hg, hb, hn, hmx, hsz, ht⟩
  · obtain rfl : L = [] := List.eq_nil_of_length_eq_zero h0
    exact Lsl.nil _ _ _
  refine ⟨some ⟨g, 0, none⟩, cap, rfl, hn, fun _ => ⟨g, 0, rfl, hm g hg, ⟨cur, hb⟩, fun i hi j hj => ?_⟩⟩
  have := World.ownsRow.cells hw (g := g) rfl (i * 6 + j) _ (flatP_at L i j hi hj)
  rw [addr_add] at this
  rw [show 0 + i * 6 + j = 0 + (i * 6 + j) by omega]
  exact this
theorem Ow.below {W W' : World} {v : Value} {L : List Pk} {base : Nat} (h : Ow base W v L) (hb : Below W.heap.size W W') : Ow base W' v L := ownsRow_below h hb
theorem below_grown {B : Nat} {w w' : World} {row : Option Nat} (h : w.grownBy w' row) (hB : B ≤ w.heap.size) (hr : ∀ k, row = some k → B ≤ k) : Below B w w' :=
  ⟨h.os, h.tape, h.output, h.size, fun k hk => h.block k (by omega) fun e => by have := hr k e.symm; omega⟩
theorem own_ge {base : Nat} {W : World} {v : Value} {L : List Pk} (h : Ow base W v L) : ∀ k, v.ownBlock = some k → base ≤ k := by
  intro k e
  rcases h.2 with ⟨rfl, _⟩ | ⟨g, cap, cur, rfl, hg, _⟩
  · simp [Value.ownBlock] at e
  simp [Value.ownBlock] at e
  omega
theorem app_one (w : World) (ty : TypeId) (base : Nat) (v : Value) (L : List Pk) (p : Pk) (hown : Ow base w v L) (hlim : L.length + 1 ≤ 1000000) (hb : base ≤ w.heap.size) :
    ∃ v' w', (Builtin.append_ #[33, 33] ty #[v, .slice (some ⟨w.heap.size, 0, none⟩) 1 1]).run Try.prog (w.alloc (.cells #[.int .i64 p.slot, .int .i64 p.gen, .int .i64 p.id, .int .i64 p.size, .int .i64 p.seq, .int .i64 p.came] 49)) = .ok v' w' ∧ Ow base w' v' (L ++ [p]) ∧ Below base w w' := by
  have B0 : Below w.heap.size w (w.alloc (.cells #[.int .i64 p.slot, .int .i64 p.gen, .int .i64 p.id, .int .i64 p.size, .int .i64 p.seq, .int .i64 p.came] 49)) := (Below.refl _ _).alloc (Nat.le_refl _) _
  have hn : (w.alloc (.cells #[.int .i64 p.slot, .int .i64 p.gen, .int .i64 p.id, .int .i64 p.size, .int .i64 p.seq, .int .i64 p.came] 49)).heap[w.heap.size]? = some (.cells #[.int .i64 p.slot, .int .i64 p.gen, .int .i64 p.id, .int .i64 p.size, .int .i64 p.seq, .int .i64 p.came] 49) := (MapKept.heap_alloc _ _).1
  obtain ⟨v', w', r1, r2, r3, r4⟩ := appP_run _ ty base v L [p] (hown.below B0) (some ⟨w.heap.size, 0, none⟩) 1 (fun _ => ⟨w.heap.size, 0, rfl, fun i hi j hj => by
    have hi0 : i = 0 := by simp at hi; exact hi
    subst hi0
    have hj6 : j = 0 ∨ j = 1 ∨ j = 2 ∨ j = 3 ∨ j = 4 ∨ j = 5 := by omega
    rcases hj6 with rfl | rfl | rfl | rfl | rfl | rfl <;> (unfold World.cell?; simp only [Nat.zero_mul, Nat.zero_add, Nat.add_zero]; rw [hn]; rfl)⟩) (by simpa using hlim) (by have := B0.size; omega) (.inr (by simp))
  refine ⟨v', w', r1, r2, (B0.mono hb).trans (below_grown r3 (by have := B0.size; omega) (own_ge hown))⟩
theorem step_appR {P : Program} {ops : Array Oper} {o : Oper} {a : Act} {w : World} {K : Act → World → Prop} {Q : Exit → Act → World → Prop} {E : Prop} (hg : o.guard = none) (s x : Operand) (t : TypeId) (hop : o.op = Op.call { callee := Callee.builtin Builtin.append, args := #[s, x], argTypes := #[t, t] }) (sv xv : Value) (hs : a.eval s = sv) (hx : a.eval x = xv) (v' : Value) (w' : World)
    (hrun : (Builtin.append_ #[t, t] o.type #[sv, xv]).run P w = .ok v' w') (hK : K (a.put o.dst v') w') : if Region.wanted o (yielded ops a.tmps) = true then Oper.wp P o a w K Q else E := by
  have hw : Region.wanted o (yielded ops a.tmps) = true := by simp [Region.wanted, hg]
  rw [if_pos hw]
  unfold Oper.wp
  simp [execOp, hop, resolve, invoke, builtin, hs, hx, hrun, Result.andThen]
  exact hK
theorem Ow.form {base : Nat} {W : World} {v : Value} {L : List Pk} (h : Ow base W v L) : ∃ a n c, v = .slice a n c := by
  rcases h.2 with ⟨rfl, _⟩ | ⟨g, cap, cur, rfl, _⟩
  · exact ⟨_, _, _, rfl⟩
  exact ⟨_, _, _, rfl⟩
set_option maxHeartbeats 8000000 in
theorem mv_admit {m : Int} {n : Nat} {x : Wv} {s : Sd} {P : Nat → List Pk} {c : Nat → Nat} (b : Nat) (kd fl sz : Int) (f : Nat) (hf : f < 4) (hfl : fl % 4 = (f : Int)) (k1 : ¬ kd = 1) (k2 : ¬ kd = 2) (k3 : ¬ kd = 3) (w : World) (hI : Iv m n x s P c) (h : WS w b x s P) (hm : m ≤ 1024) (hn : n ≤ 100000) (hsz : szOf sz ≤ m) (M : Int) (hM : M = if x.most < szOf sz then szOf sz else x.most) :
    Calls Try.prog 9 #[.pointer (some ⟨b, 0, none⟩), .agg #[.int .i64 kd, .int .i64 fl, .int .i64 sz]] w fun e w' => e = .returned (.bool true) ∧ Mvd b m n x s P c M (Ev0 f x P) w w' := by
  have HMX : Hid (M = if x.most < szOf sz then szOf sz else x.most) := hM
  clear hM
  have hq : 0 ≤ x.seq ∧ x.seq ≤ 4611686018427387904 := by have := hI.sq; omega
  have hlen : Hid ((P f).length ≤ 100000) := by
    have := hI.lb f hf
    show _ ≤ _
    omega
  have HI : Hid (Iv m n x s P c ∧ m ≤ 1024 ∧ n ≤ 100000 ∧ 1 ≤ sz % 1024 + 1 ∧ sz % 1024 + 1 ≤ m) := ⟨hI, hm, hn, (szOf_le sz).1, hsz⟩
  clear hI hm hn hsz
  obtain ⟨W, hW⟩ : ∃ W, W = w.alloc (.cells #[.int .i64 kd, .int .i64 fl, .int .i64 sz] 28) := ⟨_, rfl⟩
  obtain ⟨v, ev⟩ : ∃ v, v = w.heap.size := ⟨_, rfl⟩
  have B0 : Below w.heap.size w W := by rw [hW]; exact (Below.refl _ _).alloc (Nat.le_refl _) _
  have hB : W.heap[v]? = some (.cells #[.int .i64 kd, .int .i64 fl, .int .i64 sz] 28) := by rw [hW, ev]; exact (MapKept.heap_alloc _ _).1
  have D0 : WF b x.d s w x s P W := h.wf.below B0
  have v0 : (w.alloc (.cells #[.int .i64 kd, .int .i64 fl, .int .i64 sz] 28)).cell? ⟨v, 0, none⟩ = some (.int .i64 kd) := by rw [← hW]; simp [World.cell?, hB]
  have v1 : (w.alloc (.cells #[.int .i64 kd, .int .i64 fl, .int .i64 sz] 28)).cell? ⟨v, 1, none⟩ = some (.int .i64 fl) := by rw [← hW]; simp [World.cell?, hB]
  rw [ev] at v0 v1
  obtain ⟨sq, esq⟩ : ∃ sq, sq = x.seq := ⟨_, rfl⟩
  have c17 : (w.alloc (.cells #[.int .i64 kd, .int .i64 fl, .int .i64 sz] 28)).cell? ⟨b, 17, none⟩ = some (.int .i64 sq) := by rw [← hW, esq]; exact D0.ws.wr.c17
  have z17 : (w.alloc (.cells #[.int .i64 kd, .int .i64 fl, .int .i64 sz] 28)).frozen? ⟨b, 17, none⟩ = false := by rw [← hW]; exact World.rowIs.frozen D0.ws.wr _
  have wq : IntKind.i64.wrap (sq + 1) = sq + 1 := by rw [IntKind.wrap_i64]; omega
  have hff : bits .and .i64 fl 3 = (f : Int) := by rw [i64_and3]; exact hfl
  have hss : bits .and .i64 sz 1023 = sz % 1024 := i64_and1023 sz
  have wz : IntKind.i64.wrap (sz % 1024 + 1) = sz % 1024 + 1 := by rw [IntKind.wrap_i64]; omega
  have hf4 : (f : Int) < 4 := by omega
  obtain ⟨W1, hW1⟩ : ∃ W1, W1 = W.setCell ⟨b, 17, none⟩ (.int .i64 (sq + 1)) := ⟨_, rfl⟩
  have D1 : WF b x.d s w { x with seq := sq + 1 } s P W1 := by rw [hW1]; exact D0.setSeq (sq + 1)
  have hvb : ¬ v = b := by
    have := World.rowIs.lt h.wr
    omega
  have hB1 : W1.heap[v]? = some (.cells #[.int .i64 kd, .int .i64 fl, .int .i64 sz] 28) := by rw [hW1]; exact (Below.heap_setCell _ _ _ v hvb).trans hB
  obtain ⟨x1, ex1⟩ : ∃ x1 : Wv, x1 = { x with seq := sq + 1 } := ⟨_, rfl⟩
  have es1 : x1.seq = sq + 1 := by rw [ex1]
  have HX1 : Hid (x1.Gen = x.Gen ∧ x1.Q = x.Q ∧ x1.seq = x.seq + 1 ∧ x1.told = x.told ∧ x1.Sent = x.Sent ∧ sq = x.seq ∧ x1.most = x.most) := by rw [ex1, ← esq]; exact ⟨rfl, rfl, rfl, rfl, rfl, rfl, rfl⟩
  have K1 : Kj b v x s P kd fl sz w W1 x1 := ⟨by rw [ex1]; exact D1, hB1⟩
  have HW : Hid (w.alloc (.cells #[.int .i64 kd, .int .i64 fl, .int .i64 sz] 28) = W ∧ w.heap.size = v ∧ W.setCell ⟨b, 17, none⟩ (.int .i64 (sq + 1)) = W1) := ⟨hW.symm, ev.symm, hW1.symm⟩
  have HA : Hid (∀ w1, Kj b v x s P kd fl sz w w1 x1 → ∀ o, (w1.alloc o).cell? ⟨b, 17, none⟩ = some (.int .i64 (sq + 1)) ∧ (w1.alloc o).cell? ⟨v, 2, none⟩ = some (.int .i64 sz)) := fun w1 h1 o => by
    have := (h1.below ((Below.refl _ _).alloc (Nat.le_refl _) o)).cells
    rw [es1] at this
    exact ⟨this.1, this.2.1⟩
  have HN : Hid (∀ w1, Hid (Kj b v x s P kd fl sz w w1 x1) → Calls Try.prog 12 #[.pointer (some ⟨b, 0, none⟩), .int .i64 (f : Int)] w1 fun e w' => e = .returned (.agg #[.int .i64 (f : Int), .int .i64 (x1.Gen f)]) ∧ Hid (Kj b v x s P kd fl sz w w' x1 ∧ Below w1.heap.size w1 w') ∧ w'.cell? ⟨b, 17, none⟩ = some (.int .i64 (sq + 1)) ∧ w'.cell? ⟨v, 2, none⟩ = some (.int .i64 sz) ∧ (∀ o, (w'.alloc o).cell? ⟨b, 17, none⟩ = some (.int .i64 (sq + 1)) ∧ (w'.alloc o).cell? ⟨v, 2, none⟩ = some (.int .i64 sz)) ∧ b < w'.heap.size ∧ v < w'.heap.size) := fun w1 h1 => by
    refine (whandle_any b x1 f hf w1 h1.out.1.ws.wr).mono ?_
    rintro e w' ⟨rfl, hb⟩
    have h2 := h1.out.below hb
    have h3 := h2.cells
    rw [es1] at h3
    exact ⟨rfl, ⟨h2, hb⟩, h3.1, h3.2.1, fun o => HA.out w' h2 o, h3.2.2.1, h3.2.2.2⟩
  have HK1 : Hid (∀ nd, Hid (Kj b v x s P kd fl sz w (W1.drewN nd) x1)) := fun nd => K1.below (bel_drewN (Below.refl _ _) nd)
  obtain ⟨u, eu⟩ : ∃ u, u = W1.heap.size := ⟨_, rfl⟩
  have HN2 : Hid (∀ nd, Calls Try.prog 12 #[.pointer (some ⟨b, 0, none⟩), .int .i64 (f : Int)] ((W1.drewN nd).alloc (.cells #[.int .i64 0, .int .i64 0, .int .i64 0, .int .i64 0, .int .i64 0, .int .i64 0] 49)) fun e w' => e = .returned (.agg #[.int .i64 (f : Int), .int .i64 (x1.Gen f)]) ∧ Hid (Kj b v x s P kd fl sz w w' x1 ∧ w'.heap[W1.heap.size]? = some (.cells #[.int .i64 0, .int .i64 0, .int .i64 0, .int .i64 0, .int .i64 0, .int .i64 0] 49) ∧ Below W1.heap.size W1 w') ∧ w'.cell? ⟨b, 17, none⟩ = some (.int .i64 (sq + 1)) ∧ w'.cell? ⟨v, 2, none⟩ = some (.int .i64 sz) ∧ w'.cell? ⟨W1.heap.size, 0, none⟩ = some (.int .i64 0) ∧ w'.cell? ⟨W1.heap.size, 1, none⟩ = some (.int .i64 0) ∧ w'.cell? ⟨W1.heap.size, 2, none⟩ = some (.int .i64 0) ∧ w'.cell? ⟨W1.heap.size, 3, none⟩ = some (.int .i64 0) ∧ w'.cell? ⟨W1.heap.size, 4, none⟩ = some (.int .i64 0) ∧ w'.cell? ⟨W1.heap.size, 5, none⟩ = some (.int .i64 0) ∧ w'.frozen? ⟨W1.heap.size, 0, none⟩ = false ∧ w'.frozen? ⟨W1.heap.size, 1, none⟩ = false ∧ w'.frozen? ⟨W1.heap.size, 2, none⟩ = false ∧ w'.frozen? ⟨W1.heap.size, 3, none⟩ = false ∧ w'.frozen? ⟨W1.heap.size, 4, none⟩ = false ∧ w'.frozen? ⟨W1.heap.size, 5, none⟩ = false ∧ ¬ W1.heap.size = b ∧ ¬ W1.heap.size = v ∧ ¬ b = W1.heap.size ∧ ¬ v = W1.heap.size) := fun nd => by
    have h0 : Kj b v x s P kd fl sz w ((W1.drewN nd).alloc (.cells #[.int .i64 0, .int .i64 0, .int .i64 0, .int .i64 0, .int .i64 0, .int .i64 0] 49)) x1 := (HK1.out nd).out.below ((Below.refl _ _).alloc (Nat.le_refl _) _)
    refine (HN.out _ h0).mono ?_
    rintro e w' ⟨rfl, h1, h2, h3, h4⟩
    have hbx : ((W1.drewN nd).alloc (.cells #[.int .i64 0, .int .i64 0, .int .i64 0, .int .i64 0, .int .i64 0, .int .i64 0] 49)).heap[W1.heap.size]? = some (.cells #[.int .i64 0, .int .i64 0, .int .i64 0, .int .i64 0, .int .i64 0, .int .i64 0] 49) := by
      have := (MapKept.heap_alloc (W1.drewN nd) (.cells #[.int .i64 0, .int .i64 0, .int .i64 0, .int .i64 0, .int .i64 0, .int .i64 0] 49)).1
      simpa using this
    have := (h1.out.2.block _ (Array.getElem?_eq_some_iff.1 hbx).1).trans hbx
    have kb := K1.cells.2.2.1
    have kv := K1.cells.2.2.2
    have hbel : Below W1.heap.size W1 w' := by
      have e1 : Below W1.heap.size W1 (W1.drewN nd) := bel_drewN (Below.refl _ _) nd
      have e2 := e1.alloc e1.size (.cells #[.int .i64 0, .int .i64 0, .int .i64 0, .int .i64 0, .int .i64 0, .int .i64 0] 49)
      exact e2.trans (h1.out.2.mono e2.size)
    exact ⟨rfl, ⟨h1.out.1, this, hbel⟩, h2, h3, by simp [World.cell?, this], by simp [World.cell?, this], by simp [World.cell?, this], by simp [World.cell?, this], by simp [World.cell?, this], by simp [World.cell?, this], by simp [World.frozen?, this], by simp [World.frozen?, this], by simp [World.frozen?, this], by simp [World.frozen?, this], by simp [World.frozen?, this], by simp [World.frozen?, this], by omega, by omega, by omega, by omega⟩
  have y1 : W1.cell? ⟨b, 17, none⟩ = some (.int .i64 (sq + 1)) ∧ W1.cell? ⟨v, 2, none⟩ = some (.int .i64 sz) := by
    have := K1.cells
    rw [es1] at this
    exact ⟨this.1, this.2.1⟩
  obtain ⟨y17, y2⟩ := y1
  have y3 : ∀ nd o, ((W1.drewN nd).alloc o).cell? ⟨b, 17, none⟩ = some (.int .i64 (sq + 1)) ∧ ((W1.drewN nd).alloc o).cell? ⟨v, 2, none⟩ = some (.int .i64 sz) := fun nd o => HA.out _ (HK1.out nd).out o
  replace K1 : Hid (Kj b v x s P kd fl sz w W1 x1) := K1
  clear h hfl B0 hB D0 hW ev hW1 D1 hB1 hvb esq hq es1 ex1 HA
  go_enter Try.func9, Try.ntmps9
  go_wp2_with fail
  rw [HW.out.1, HW.out.2.1, HW.out.2.2]
  clear v0 v1 c17 z17
  rename_i hz
  go_region_held3 (fun w9 => w9.cell? ⟨b, 17, none⟩ = some (.int .i64 (sq + 1)) ∧ w9.cell? ⟨v, 2, none⟩ = some (.int .i64 sz)) (first | (simp [go_sem, *]; done) | (go_keep; done) | (trace_state; fail))
    (first
      | (go_at_call 12; refine Calls.mono (HN2.out _) ?_; rintro e w1 ⟨rfl, hw1, hc1, hc2, g0, g1, g2, g3, g4, g5, z0, z1, z2, z3, z4, z5, n1, n2, n3, n4⟩)
      | (go_at_call 12; refine Calls.mono (HN.out _ (HK1.out _)) ?_; rintro e w1 ⟨rfl, hw1, hc1, hc2, hc3, hc4, hc5⟩))
  all_goals
    refine hz _ _ ?_
    clear hz HN HN2
    first
      | (have HJ : Hid (Jx b x s P w x1 f (sz % 1024 + 1) (sq + 1) W1.heap.size _) := ⟨K1.out.1.below (six_below W1.heap.size (f : Int) (x1.Gen f) 0 (sz % 1024 + 1) (sq + 1) 0 hw1.out.2.2 (Nat.le_refl _)), six_cells _ _ _ _ _ _ _ _ hw1.out.2.1, (by
          have hfr := K1.out.1.ws.ds.fresh (Nat.le_refl _)
          rw [K1.out.1.dd] at hfr
          exact hfr), n1⟩
         obtain ⟨W3, eW3⟩ : ∃ W3, W3 = ((((((w1.setCell ⟨W1.heap.size, 0, none⟩ (.int .i64 (f : Int))).setCell ⟨W1.heap.size, 1, none⟩ (.int .i64 (x1.Gen f))).setCell ⟨W1.heap.size, 2, none⟩ (.int .i64 0)).setCell ⟨W1.heap.size, 3, none⟩ (.int .i64 (sz % 1024 + 1))).setCell ⟨W1.heap.size, 4, none⟩ (.int .i64 (sq + 1))).setCell ⟨W1.heap.size, 5, none⟩ (.int .i64 0)) := ⟨_, rfl⟩
         rw [← eW3] at HJ ⊢
         clear eW3
         clear g0 g1 g2 g3 g4 g5 z0 z1 z2 z3 z4 z5 n1 n2 n3 n4 hw1
         generalize W1.heap.size = u3 at HJ ⊢)
      | (have HJ : Hid (Jx b x s P w x1 f (sz % 1024 + 1) (sq + 1) w1.heap.size (w1.alloc (.cells #[.int .i64 (f : Int), .int .i64 (x1.Gen f), .int .i64 0, .int .i64 (sz % 1024 + 1), .int .i64 (sq + 1), .int .i64 0] 49))) := by
          have D := hw1.out.1.1
          have hl := World.rowIs.lt D.ws.wr
          have hfr := D.ws.ds.fresh (Nat.le_refl _)
          rw [D.dd] at hfr
          exact ⟨D.below ((Below.refl _ _).alloc (Nat.le_refl _) _), (MapKept.heap_alloc _ _).1, hfr, by omega⟩
         generalize w1.alloc (.cells #[.int .i64 (f : Int), .int .i64 (x1.Gen f), .int .i64 0, .int .i64 (sz % 1024 + 1), .int .i64 (sq + 1), .int .i64 0] 49) = W3 at HJ ⊢
         generalize w1.heap.size = u3 at HJ ⊢)
    obtain ⟨z, ez⟩ : ∃ z, z = sz % 1024 + 1 := ⟨_, rfl⟩
    obtain ⟨mo, emo⟩ : ∃ mo, mo = x1.most := ⟨_, rfl⟩
    have c19 : W3.cell? ⟨b, 19, none⟩ = some (.int .i64 mo) := by rw [emo]; exact HJ.out.1.ws.wr.c19
    have z19 : W3.frozen? ⟨b, 19, none⟩ = false := World.rowIs.frozen HJ.out.1.ws.wr _
    have t3 : W3.cell? ⟨u3, 3, none⟩ = some (.int .i64 z) := by rw [ez]; simp [World.cell?, HJ.out.2.1]
    have HMO : Hid (mo = x1.most ∧ z = sz % 1024 + 1) := ⟨emo, ez⟩
    clear HK1 y17 y2 y3 ez emo
    go_wp2_with fail
    go_region
    obtain ⟨mm, emm⟩ : ∃ mm, mm = if mo < z then z else mo := ⟨_, rfl⟩
    rw [← emm]
    obtain ⟨W4, eW4⟩ : ∃ W4, W4 = (W3.setCell ⟨b, 19, none⟩ (.int .i64 mm)).drew := ⟨_, rfl⟩
    rw [← eW4]
    have HJ4 : Hid (Jx b x s P w { x1 with most := mm } f (sz % 1024 + 1) (sq + 1) u3 W4) := by
      rw [eW4]
      exact ⟨(HJ.out.1.setMost mm).drew, (Below.heap_setCell _ _ _ u3 HJ.out.2.2.2).trans HJ.out.2.1, HJ.out.2.2.1, HJ.out.2.2.2⟩
    have HMM : Hid (mm = M) := by
      have h7 := HX1.out.2.2.2.2.2.2
      have h8 := HMO.out
      show mm = _
      rw [HMX.out, emm, h8.1, h8.2, h7]
      rfl
    clear HJ eW4 emm c19 z19 t3
    obtain ⟨la, lc, e1, e2, e3⟩ := HJ4.out.1.ws.ls f hf
    have cl : W4.cell? ⟨b, 5 + f, none⟩ = some (.slice la (P f).length lc) := by rw [HJ4.out.1.ws.wr.cL hf, e1]
    go_wp2_with (refine (id ?_ : wpList Try.prog _ _ (⟨some 252, _, _, _, _, _⟩ :: _) _ _); refine wpList_appP rfl (.tmp 245) (.tmp 251) rfl W4.heap.size (.slice none 0 0) [] (P f) rfl (Ow.nil _ _) la lc rfl (fun h0 => by
      obtain ⟨g, o, f1, _, _, f4⟩ := e3 h0
      exact ⟨g, o, f1, f4⟩) (by have := hlen.out; simp; omega) (Nat.le_refl _) (.inl rfl) ?_; intro v5 W5 r2 r3 r4)
    have B45 : Below W4.heap.size W4 W5 := below_grown r3 (Nat.le_refl _) (fun k e => by cases e)
    have HJ5 : Hid (Jx b x s P w { x1 with most := mm } f (sz % 1024 + 1) (sq + 1) u3 W5 ∧ Ow W4.heap.size W5 v5 (P f) ∧ Below W4.heap.size W4 W5) :=
      ⟨⟨HJ4.out.1.below B45, (B45.block u3 (Array.getElem?_eq_some_iff.1 HJ4.out.2.1).1).trans HJ4.out.2.1, HJ4.out.2.2⟩, r2, B45⟩
    obtain ⟨pk, epk⟩ : ∃ pk : Pk, pk = ⟨(f : Int), x1.Gen f, 0, sz % 1024 + 1, sq + 1, 0⟩ := ⟨_, rfl⟩
    obtain ⟨v6, W6, hR, HF⟩ : ∃ v6 W6, (Builtin.append_ #[33, 33] 33 #[v5, .slice (some ⟨W5.heap.size, 0, none⟩) 1 1]).run Try.prog (W5.drew.alloc (.cells #[.int .i64 (f : Int), .int .i64 (x1.Gen f), .int .i64 0, .int .i64 (sz % 1024 + 1), .int .i64 (sq + 1), .int .i64 0] 49)) = .ok v6 W6 ∧ Hid (Ow W4.heap.size W6 v6 (P f ++ [pk]) ∧ Below W4.heap.size W5 W6) := by
      have b5 : Below W5.heap.size W5 W5.drew := bel_drew (Below.refl _ _)
      obtain ⟨v', w', q1, q2, q3⟩ := app_one W5.drew 33 W4.heap.size v5 (P f) pk (HJ5.out.2.1.below b5) (by have := hlen.out; omega) (by have := b5.size; have := HJ5.out.2.2.size; omega)
      rw [epk] at q1
      exact ⟨v', w', q1, q2, (b5.mono HJ5.out.2.2.size).trans q3⟩
    obtain ⟨va, vn, vc, rfl⟩ := HF.out.1.form
    have HJ6 : Hid (WF b x.d s w { x1 with most := mm } s P W6) := HJ4.out.1.below (HJ5.out.2.2.trans HF.out.2)
    have zX : W6.frozen? ⟨b, 5 + f, none⟩ = false := World.rowIs.frozen HJ6.out.ws.wr _
    obtain ⟨cX, kX⟩ : ∃ c, W6.cell? ⟨b, 5 + f, none⟩ = some c := ⟨_, HJ6.out.ws.wr.cL hf⟩
    have d0 : W5.cell? ⟨u3, 0, none⟩ = some (.int .i64 (f : Int)) := by simp [World.cell?, HJ5.out.1.2.1]
    have d1 : W5.cell? ⟨u3, 1, none⟩ = some (.int .i64 (x1.Gen f)) := by simp [World.cell?, HJ5.out.1.2.1]
    have d2 : W5.cell? ⟨u3, 2, none⟩ = some (.int .i64 0) := by simp [World.cell?, HJ5.out.1.2.1]
    have d3 : W5.cell? ⟨u3, 3, none⟩ = some (.int .i64 (sz % 1024 + 1)) := by simp [World.cell?, HJ5.out.1.2.1]
    have d4 : W5.cell? ⟨u3, 4, none⟩ = some (.int .i64 (sq + 1)) := by simp [World.cell?, HJ5.out.1.2.1]
    have d5 : W5.cell? ⟨u3, 5, none⟩ = some (.int .i64 0) := by simp [World.cell?, HJ5.out.1.2.1]
    clear r2 r3 r4 e1 e2 e3 cl B45
    go_wp2_with fail
    go_region_law (refine step_appR rfl (.tmp 255) (.tmp 257) 33 rfl _ _ rfl rfl (.slice va vn vc) W6 (by exact hR) ?_)
    all_goals
      obtain ⟨W8, eW8⟩ : ∃ W8, W8 = W6.setCell ⟨b, 5 + f, none⟩ (.slice va vn vc) := ⟨_, rfl⟩
      have hnm : ∀ k, W4.heap.size ≤ k → ¬ Mine x.d s k := fun k hk => by
        have hfr := HJ4.out.1.ws.ds.fresh hk
        rw [HJ4.out.1.dd] at hfr
        exact hfr
      have D8 : WF b x.d s w { x1 with most := mm, L := updN x1.L f (.slice va vn vc) } s (updN P f (P f ++ [pk])) W8 := by
        rw [eW8]
        exact HJ6.out.setL hf (.slice va vn vc) (P f ++ [pk]) (HF.out.1.lsl fun k hk => by rw [HJ6.out.dd]; exact hnm k hk)
      have hu3 : W8.heap[u3]? = some (.cells #[.int .i64 (f : Int), .int .i64 (x1.Gen f), .int .i64 0, .int .i64 (sz % 1024 + 1), .int .i64 (sq + 1), .int .i64 0] 49) := by
        rw [eW8]
        exact (Below.heap_setCell _ _ _ u3 HJ5.out.1.2.2.2).trans (((HF.out.2.block u3 (by
          have := (Array.getElem?_eq_some_iff.1 HJ4.out.2.1).1
          exact this))).trans HJ5.out.1.2.1)
      have HA8 : Hid (∀ nd, Calls Try.prog 16 #[.pointer (some ⟨x.d, 0, none⟩), .agg #[.int .i64 (f : Int), .int .i64 (x1.Gen f), .int .i64 0, .int .i64 (sz % 1024 + 1), .int .i64 (sq + 1), .int .i64 0]] (W8.drewN nd) fun e w' => e = .returned (.int .i64 0) ∧ Hid (Mvd b m n x s P c M (Ev0 f x P) w w')) := fun nd => by
        obtain ⟨hI, hm, hn, z1, z2⟩ := HI.out
        obtain ⟨k1', k2', k3', k4', k5', k6', _⟩ := HX1.out
        have := admit_iv (x' := { x1 with most := mm, L := updN x1.L f (.slice va vn vc) }) b hI hm hn hf (p := pk) (by rw [epk]) (by rw [epk]; show x1.Gen f = _; rw [k1']) (by rw [epk]; exact ⟨z1, z2⟩) (by rw [epk]; show sq + 1 = _; rw [k6']) (by rw [epk]) (D8.drewN nd) k1' k2' k3' k4' k5'
        rw [epk] at this
        rw [← HMM.out]
        exact this
      have e0 : W8.cell? ⟨b, 0, none⟩ = some (.pointer (some ⟨x.d, 0, none⟩)) := by
        have := D8.ws.wr.cd
        rw [D8.dd] at this
        exact this
      have e1 : W8.cell? ⟨u3, 0, none⟩ = some (.int .i64 (f : Int)) := by simp [World.cell?, hu3]
      have e2 : W8.cell? ⟨u3, 1, none⟩ = some (.int .i64 (x1.Gen f)) := by simp [World.cell?, hu3]
      have e3 : W8.cell? ⟨u3, 2, none⟩ = some (.int .i64 0) := by simp [World.cell?, hu3]
      have e4 : W8.cell? ⟨u3, 3, none⟩ = some (.int .i64 (sz % 1024 + 1)) := by simp [World.cell?, hu3]
      have e5 : W8.cell? ⟨u3, 4, none⟩ = some (.int .i64 (sq + 1)) := by simp [World.cell?, hu3]
      have e6 : W8.cell? ⟨u3, 5, none⟩ = some (.int .i64 0) := by simp [World.cell?, hu3]
      rw [← eW8]
      clear eW8 D8 hu3 hR zX kX d0 d1 d2 d3 d4 d5 hnm HJ4 HJ5 HJ6 HF
      go_wp2_with fail
      rename_i hz3
      go_region_with (first | (go_at_call 16; refine Calls.mono (HA8.out _) ?_; rintro e w10 ⟨rfl, hw10⟩))
      all_goals
        try refine hz3 _ _ ?_
        clear HA8 e0 e1 e2 e3 e4 e5 e6
        go_wp2_with fail
        exact bodyPost_ret (v := .bool true) (by simp [results, Try.results9, go_sem]) rfl ⟨rfl, hw10.out⟩
end Go.Proofs.Ytcndbmccediknaa
namespace Go.Proofs.Ytcndbmccediknaa
set_option maxRecDepth 100000
set_option linter.unusedVariables false
structure Opn (k : Nat) (x : Wv) (s : Sd) (c : Nat → Nat) : Prop where
  op : ∀ f : Nat, f < k → s.F (f : Int) = some (c f)
  no : ∀ f : Nat, k ≤ f → s.F (f : Int) = none
  ij : ∀ f g, f < k → g < k → c f = c g → f = g
  qe : ∀ f, f < k → s.Q (c f) = []
  Y : ∀ f, f < k → (s.Y (c f)).gen = 1 ∧ (s.Y (c f)).weight = 1 ∧ (s.Y (c f)).quantum = x.Q f ∧ (s.Y (c f)).bytes = 0 ∧ (s.Y (c f)).kept = 0
  qr : ∀ f, f < k → 1 ≤ x.Q f ∧ x.Q f ≤ 1000 ∧ x.Gen f = 1
  R : s.R = []
  ct : s.x.count = 0
  wt : s.x.weight = (k : Int)
  nn : s.nn = k
  sq : s.x.seq = 0 ∧ s.x.came = 0
  xs : x.seq = 0 ∧ x.told = 0 ∧ ∀ f, x.Sent f = 0
  mz : x.most = 0
  tn : s.x.turn = false
theorem Opn.join {k : Nat} {x x' : Wv} {s : Sd} {c : Nat → Nat} (h : Opn k x s c) {b' q : Nat} (hb' : ∀ j d, s.F j = some d → d ≠ b') {qv : Int} (hq : 1 ≤ qv ∧ qv ≤ 1000) (e1 : x'.Q = updN x.Q k qv) (e2 : x'.Gen = updN x.Gen k 1) (e3 : x'.seq = x.seq) (e4 : x'.told = x.told) (e5 : x'.Sent = x.Sent) (e6 : x'.most = x.most) :
    Opn (k + 1) x' { s.joined (k : Int) b' ⟨(k : Int), 1, 1, qOf qv, q, 0, 0⟩ with x := { s.x with weight := s.x.weight + 1 } } (updN c k b') := by
  have CU : ∀ g, g ≠ k → updN c k b' g = c g := fun g hg => updN_ne _ _ hg
  have CF : updN c k b' k = b' := updN_eq _ _ _
  have BN : ∀ g, g < k → c g ≠ b' := fun g hg => hb' _ _ (h.op g hg)
  generalize hs2 : ({ s.joined (k : Int) b' ⟨(k : Int), 1, 1, qOf qv, q, 0, 0⟩ with x := { s.x with weight := s.x.weight + 1 } } : Sd) = s2
  have YB : s2.Y b' = ⟨(k : Int), 1, 1, qOf qv, q, 0, 0⟩ := by rw [← hs2]; exact updN_eq _ _ _
  have Y2 : ∀ b, b ≠ b' → s2.Y b = s.Y b := fun b hb => by rw [← hs2]; exact updN_ne _ _ hb
  have QB : s2.Q b' = [] := by rw [← hs2]; exact updN_eq _ _ _
  have Q2 : ∀ b, b ≠ b' → s2.Q b = s.Q b := fun b hb => by rw [← hs2]; exact updN_ne _ _ hb
  have R2 : s2.R = s.R := by rw [← hs2]; rfl
  have F2 : s2.F = updI s.F (k : Int) (some b') := by rw [← hs2]; rfl
  have n2 : s2.nn = s.nn + 1 := by rw [← hs2]; rfl
  have w2 : s2.x.weight = s.x.weight + 1 := by rw [← hs2]
  have c2 : s2.x.count = s.x.count := by rw [← hs2]
  have q2 : s2.x.seq = s.x.seq := by rw [← hs2]
  have m2 : s2.x.came = s.x.came := by rw [← hs2]
  have t2 : s2.x.turn = s.x.turn := by rw [← hs2]
  clear hs2
  refine ⟨fun g hg => ?_, fun g hg => ?_, fun a b ha hb e => ?_, fun g hg => ?_, fun g hg => ?_, fun g hg => ?_, by rw [R2, h.R], by rw [c2, h.ct], by rw [w2, h.wt]; omega, by rw [n2, h.nn], by rw [q2, m2]; exact h.sq, by rw [e3, e4, e5]; exact h.xs, by rw [e6]; exact h.mz, by rw [t2]; exact h.tn⟩
  · rw [F2]
    unfold updI
    by_cases e : g = k
    · subst e; rw [if_pos rfl, CF]
    rw [if_neg (by omega), CU g e]; exact h.op g (by omega)
  · rw [F2]
    unfold updI
    rw [if_neg (by omega)]
    exact h.no g (by omega)
  · by_cases e1 : a = k
    · by_cases e2 : b = k
      · omega
      rw [e1, CF, CU b e2] at e
      exact absurd e.symm (BN b (by omega))
    by_cases e2 : b = k
    · rw [e2, CF, CU a e1] at e
      exact absurd e (BN a (by omega))
    rw [CU a e1, CU b e2] at e
    exact h.ij a b (by omega) (by omega) e
  · by_cases e : g = k
    · subst e; rw [CF, QB]
    rw [CU g e, Q2 _ (BN g (by omega))]; exact h.qe g (by omega)
  · rw [e1]
    by_cases e : g = k
    · subst e
      rw [CF, YB, updN_eq]
      refine ⟨rfl, rfl, ?_, rfl, rfl⟩
      show qOf qv = qv
      unfold qOf
      omega
    rw [CU g e, Y2 _ (BN g (by omega)), updN_ne _ _ e]; exact h.Y g (by omega)
  rw [e1, e2]
  by_cases e : g = k
  · subst e; rw [updN_eq, updN_eq]; exact ⟨hq.1, hq.2, rfl⟩
  rw [updN_ne _ _ e, updN_ne _ _ e]; exact h.qr g (by omega)
theorem Opn.iv {x : Wv} {s : Sd} {c : Nat → Nat} (h : Opn 4 x s c) (m : Int) (P : Nat → List Pk) (hP : ∀ f, f < 4 → P f = []) : Iv m 0 x s P c := by
  have hR : ∀ b, b ∉ s.R := fun b hb => by rw [h.R] at hb; simp at hb
  have hl : lens P = 0 := by
    unfold lens
    rw [hP 0 (by omega), hP 1 (by omega), hP 2 (by omega), hP 3 (by omega)]
    rfl
  refine ⟨h.op, h.ij, fun f hf => by rw [h.qe f hf, hP f hf], fun f hf => by rw [(h.Y f hf).1, (h.qr f hf).2.2], fun f hf => by rw [(h.qr f hf).2.2]; omega, fun f hf p hp => by rw [hP f hf] at hp; simp at hp, fun f hf => ⟨(h.Y f hf).2.2.1, (h.qr f hf).1, (h.qr f hf).2.1⟩, ?_, fun b hb => absurd hb (hR b), fun f hf => ⟨fun a => absurd a (hR _), fun a => absurd (hP f hf) a⟩, fun f hf _ => (h.Y f hf).2.2.2.2, by rw [h.ct, hl]; rfl, fun f hf => by rw [(h.Y f hf).2.2.2.1, hP f hf]; rfl, fun f hf => (h.Y f hf).2.1, by rw [h.wt]; rfl, by rw [h.nn]; omega, by rw [h.sq.1, h.xs.1]; omega, h.sq.2, fun f hf => by rw [h.xs.2.2 f]; omega, by rw [h.xs.2.1]; omega, fun f hf => by rw [hP f hf]; simp, by rw [h.R]; simp⟩
  exact ⟨by rw [h.R]; exact List.nodup_nil, fun b hb => absurd hb (hR b), fun b hb => absurd hb (hR b), fun b hb => absurd hb (hR b), fun b hb => absurd hb (hR b), fun b hb => absurd hb (hR b), fun i hi => by rw [h.R] at hi; simp at hi, fun e => by rw [h.tn] at e; cases e⟩
end Go.Proofs.Ytcndbmccediknaa
namespace Go.Proofs.Ytcndbmccediknaa
open Go.RowKit
set_option maxRecDepth 100000
set_option linter.unusedVariables false
theorem WF.setQ {b d : Nat} {s : Sd} {w : World} {x1 : Wv} {s1 : Sd} {P1 : Nat → List Pk} {w1 : World} (h : WF b d s w x1 s1 P1 w1) {f : Nat} (hf : f < 4) (v : Int) : WF b d s w { x1 with Q := updN x1.Q f v } s1 P1 (w1.setCell ⟨b, 1 + f, none⟩ (.int .i64 v)) := by
  refine h.set (1 + f) _ { x1 with Q := updN x1.Q f v } (fun j hj => ?_) rfl _ (fun g hg => .inl ⟨rfl, rfl⟩)
  show _ = Wv.cell { x1 with Q := updN x1.Q f v } j
  unfold Wv.cell
  by_cases e : j = 1 + f
  · subst e
    rw [if_pos rfl, if_neg (by omega), if_pos (by omega), show 1 + f - 1 = f by omega]
    show _ = Value.int .i64 (updN x1.Q f v f)
    rw [updN_eq]
  rw [if_neg e]
  by_cases e3 : 1 ≤ j ∧ j < 5
  · rw [if_neg (by omega), if_pos e3.2, if_neg (by omega), if_pos e3.2]
    show _ = Value.int .i64 (updN x1.Q f v (j - 1))
    rw [updN_ne _ _ (by omega)]
  repeat' first | rfl | (split <;> try rfl) | omega
theorem wr_new {w : World} (d : Nat) : Wr (w.alloc (.cells #[.pointer (some ⟨d, 0, none⟩), .int .i64 0, .int .i64 0, .int .i64 0, .int .i64 0, .slice none 0 0, .slice none 0 0, .slice none 0 0, .slice none 0 0, .int .i64 0, .int .i64 0, .int .i64 0, .int .i64 0, .int .i64 0, .int .i64 0, .int .i64 0, .int .i64 0, .int .i64 0, .int .i64 0, .int .i64 0, .int .i64 0, .int .i64 0, .int .i64 0, .int .i64 0] 36)) w.heap.size ⟨d, fun _ => 0, fun _ => .slice none 0 0, fun _ => 0, fun _ => 0, 0, 0, 0, fun _ => 0⟩ := by
  refine ⟨_, (MapKept.heap_alloc _ _).1, rfl, fun i hi => ?_⟩
  have h24 : i = 0 ∨ i = 1 ∨ i = 2 ∨ i = 3 ∨ i = 4 ∨ i = 5 ∨ i = 6 ∨ i = 7 ∨ i = 8 ∨ i = 9 ∨ i = 10 ∨ i = 11 ∨ i = 12 ∨ i = 13 ∨ i = 14 ∨ i = 15 ∨ i = 16 ∨ i = 17 ∨ i = 18 ∨ i = 19 ∨ i = 20 ∨ i = 21 ∨ i = 22 ∨ i = 23 := by omega
  rcases h24 with rfl | rfl | rfl | rfl | rfl | rfl | rfl | rfl | rfl | rfl | rfl | rfl | rfl | rfl | rfl | rfl | rfl | rfl | rfl | rfl | rfl | rfl | rfl | rfl <;> rfl
structure Oq (w W0 : World) (v b d : Nat) (s0 : Sd) (Q : Nat → Int) : Prop where
  ws : WS W0 b ⟨d, fun _ => 0, fun _ => .slice none 0 0, fun _ => 0, fun _ => 0, 0, 0, 0, fun _ => 0⟩ s0 (fun _ => [])
  new : New0 s0
  q : W0.heap[v]? = some (.cells #[.int .i64 (Q 0), .int .i64 (Q 1), .int .i64 (Q 2), .int .i64 (Q 3)] 22)
  vb : v ≠ b
  vm : ¬ Mine d s0 v
  mn : ∀ k, Mine d s0 k → w.heap.size ≤ k
  bb : w.heap.size ≤ b
  bel : Below w.heap.size w W0
section
variable {w W0 : World} {v b d : Nat} {s0 : Sd} {Q : Nat → Int} {x : Wv} {s : Sd} {P : Nat → List Pk} {w1 : World}
theorem Oq.below (h : Oq w W0 v b d s0 Q) (k : WF b d s0 W0 x s P w1) : Below w.heap.size w w1 :=
  ⟨k.fb.os.trans h.bel.os, k.fb.tape.trans h.bel.tape, k.fb.output.trans h.bel.output, Nat.le_trans h.bel.size k.fb.size,
   fun i hi => (k.fb.block i (Nat.lt_of_lt_of_le hi h.bel.size) (fun e => by have := h.bb; omega) (fun e => by have := h.mn i e; omega)).trans (h.bel.block i hi)⟩
theorem Oq.cell (h : Oq w W0 v b d s0 Q) (k : WF b d s0 W0 x s P w1) {f : Nat} (hf : f < 4) : w1.cell? ⟨v, f, none⟩ = some (.int .i64 (Q f)) := by
  have hb := (k.fb.block v (Array.getElem?_eq_some_iff.1 h.q).1 h.vb h.vm).trans h.q
  have h4 : f = 0 ∨ f = 1 ∨ f = 2 ∨ f = 3 := by omega
  rcases h4 with rfl | rfl | rfl | rfl <;> simp [World.cell?, hb]
theorem Oq.mine (h : Oq w W0 v b d s0 Q) (k : WF b d s0 W0 x s P w1) (j : Nat) (hj : Mine d s j) : w.heap.size ≤ j := by
  rcases k.fb.mine j hj with e | e
  · exact h.mn j e
  have := h.bel.size; omega
theorem Oq.on (h : Oq w W0 v b d s0 Q) : Opn 0 ⟨d, fun _ => 0, fun _ => .slice none 0 0, fun _ => 0, fun _ => 0, 0, 0, 0, fun _ => 0⟩ s0 (fun _ => 0) :=
  ⟨fun f hf => by omega, fun f _ => by rw [h.new.F], fun f g hf => by omega, fun f hf => by omega, fun f hf => by omega, fun f hf => by omega, h.new.R, h.new.ct, h.new.wt, h.new.nn, ⟨h.new.sq, h.new.cm⟩, ⟨rfl, rfl, fun _ => rfl⟩, rfl, h.new.tn⟩
theorem Oq.of {w1 : World} {d : Nat} {s0 : Sd} (Q : Nat → Int) (hD : DS w1 d s0) (hN : New0 s0) (hb : Below (w.alloc (.cells #[.int .i64 (Q 0), .int .i64 (Q 1), .int .i64 (Q 2), .int .i64 (Q 3)] 22)).heap.size (w.alloc (.cells #[.int .i64 (Q 0), .int .i64 (Q 1), .int .i64 (Q 2), .int .i64 (Q 3)] 22)) w1) (hm : ∀ k, Mine d s0 k → (w.alloc (.cells #[.int .i64 (Q 0), .int .i64 (Q 1), .int .i64 (Q 2), .int .i64 (Q 3)] 22)).heap.size ≤ k) :
    Oq w (w1.alloc (.cells #[.pointer (some ⟨d, 0, none⟩), .int .i64 0, .int .i64 0, .int .i64 0, .int .i64 0, .slice none 0 0, .slice none 0 0, .slice none 0 0, .slice none 0 0, .int .i64 0, .int .i64 0, .int .i64 0, .int .i64 0, .int .i64 0, .int .i64 0, .int .i64 0, .int .i64 0, .int .i64 0, .int .i64 0, .int .i64 0, .int .i64 0, .int .i64 0, .int .i64 0, .int .i64 0] 36)) w.heap.size w1.heap.size d s0 Q := by
  obtain ⟨Wq, eq⟩ : ∃ Wq, Wq = w.alloc (.cells #[.int .i64 (Q 0), .int .i64 (Q 1), .int .i64 (Q 2), .int .i64 (Q 3)] 22) := ⟨_, rfl⟩
  have hq : Wq.heap[w.heap.size]? = some (.cells #[.int .i64 (Q 0), .int .i64 (Q 1), .int .i64 (Q 2), .int .i64 (Q 3)] 22) := by rw [eq]; exact (MapKept.heap_alloc _ _).1
  have B0 : Below w.heap.size w Wq := by rw [eq]; exact (Below.refl _ _).alloc (Nat.le_refl _) _
  have hz := (Array.getElem?_eq_some_iff.1 hq).1
  rw [← eq] at hb hm
  have hws := wr_new (w := w1) d
  generalize hW : w1.alloc (.cells #[.pointer (some ⟨d, 0, none⟩), .int .i64 0, .int .i64 0, .int .i64 0, .int .i64 0, .slice none 0 0, .slice none 0 0, .slice none 0 0, .slice none 0 0, .int .i64 0, .int .i64 0, .int .i64 0, .int .i64 0, .int .i64 0, .int .i64 0, .int .i64 0, .int .i64 0, .int .i64 0, .int .i64 0, .int .i64 0, .int .i64 0, .int .i64 0, .int .i64 0, .int .i64 0] 36) = W0 at *
  have B1 : Below w1.heap.size w1 W0 := by rw [← hW]; exact (Below.refl _ _).alloc (Nat.le_refl _) _
  have hs := hb.size
  refine ⟨⟨hws, (hD.df.below B1).1, fun f _ => Lsl.nil _ _ _⟩, hN, ?_, by omega, fun e => by have := hm _ e; omega, fun k e => by have := hm k e; omega, by omega, (B0.trans (hb.mono (by omega))).trans (B1.mono (by omega))⟩
  exact (B1.block _ (by omega)).trans ((hb.block _ hz).trans hq)
end
theorem op_join {b d : Nat} {s0 : Sd} {W0 : World} {k : Nat} {x x9 : Wv} {s : Sd} {c : Nat → Nat} {W9 : World} {qv : Int} (hk : k < 4) (on : Opn k x s c) (h : WF b d s0 W0 x9 s (fun _ => []) W9) (hq : 1 ≤ qv ∧ qv ≤ 1000) (e1 : x9.Q = updN x.Q k qv) (e2 : x9.Gen = updN x.Gen k 1) (e3 : x9.seq = x.seq) (e4 : x9.told = x.told) (e5 : x9.Sent = x.Sent) (e6 : x9.most = x.most) :
    Hid (∀ nd, Calls Try.prog 12 #[.pointer (some ⟨b, 0, none⟩), .int .i64 (k : Int)] (W9.drewN nd) fun e w' => e = .returned (.agg #[.int .i64 (k : Int), .int .i64 1]) ∧ Hid (WF b d s0 W0 x9 s (fun _ => []) w') ∧ w'.cell? ⟨b, 0, none⟩ = some (.pointer (some ⟨d, 0, none⟩)) ∧ w'.cell? ⟨b, 1 + k, none⟩ = some (.int .i64 qv)) ∧
    Hid (∀ w1, Hid (WF b d s0 W0 x9 s (fun _ => []) w1) → Calls Try.prog 15 #[.pointer (some ⟨d, 0, none⟩), .agg #[.int .i64 (k : Int), .int .i64 1], .agg #[.int .i64 1, .int .i64 qv, .int .i64 0, .int .i64 0, .int .i64 0, .float .f64 0, .int .i64 0, .int .i64 0], .int .i64 0] w1 fun e w' => e = .returned (.int .i64 0) ∧ Hid (∃ (x' : Wv) (s' : Sd) (c' : Nat → Nat), WF b d s0 W0 x' s' (fun _ => []) w' ∧ Opn (k + 1) x' s' c') ∧ w'.cell? ⟨b, 0, none⟩ = some (.pointer (some ⟨d, 0, none⟩)) ∧ w'.cell? ⟨b, 1 + k, none⟩ = some (.int .i64 qv)) := by
  have eq9 : x9.Q k = qv := by rw [e1]; exact updN_eq _ _ _
  have eg9 : x9.Gen k = 1 := by rw [e2]; exact updN_eq _ _ _
  constructor
  · refine fun nd => ?_
    have D5 := h.drewN nd
    refine (whandle_any b x9 k hk (W9.drewN nd) D5.ws.wr).mono ?_
    rintro e w' ⟨rfl, hb⟩
    have D6 := D5.below hb
    have cd := D6.ws.wr.cd
    have cQ := D6.ws.wr.cQ hk
    rw [D6.dd] at cd
    rw [eq9] at cQ
    exact ⟨by rw [eg9], D6, cd, cQ⟩
  refine fun w1 h1 => ?_
  have hds : DS w1 d s := by have := h1.out.ws.ds; rw [h1.out.dd] at this; exact this
  have hnn := on.nn
  have hwt := on.wt
  refine (joinD_any d s (k : Int) 1 1 qv 0 0 0 0 0 0 0 w1 hds (by omega) (by omega) (on.no k (by omega)) (by omega) (by omega) (by omega)).mono ?_
  rintro e w' ⟨rfl, b', q, hb1, hb2, X⟩
  have D6 := h1.out.go X
  have cd := D6.ws.wr.cd
  have cQ := D6.ws.wr.cQ hk
  rw [D6.dd] at cd
  rw [eq9] at cQ
  refine ⟨rfl, ⟨x9, _, updN c k b', D6, on.join (fun j c hj e => ?_) hq e1 e2 e3 e4 e5 e6⟩, cd, cQ⟩
  have := hds.bl hj
  omega
set_option maxHeartbeats 4000000 in
theorem open_any (Q : Nat → Int) (w : World) :
    Calls Try.prog 7 #[.agg #[.int .i64 (Q 0), .int .i64 (Q 1), .int .i64 (Q 2), .int .i64 (Q 3)]] w fun e w' => ∃ b x s c, e = .returned (.pointer (some ⟨b, 0, none⟩)) ∧ Opn 4 x s c ∧ WS w' b x s (fun _ => []) ∧ Below w.heap.size w w' ∧ w.heap.size ≤ b ∧ ∀ k, Mine x.d s k → w.heap.size ≤ k := by
  go_enter Try.func7, Try.ntmps7
  go_wp2_with fail
  refine (newD_ds _).mono ?_
  rintro e w1 ⟨d, s0, rfl, hD0, hN, hb0, hm⟩
  have HO := Oq.of Q hD0 hN hb0 hm
  obtain ⟨W0, hW0⟩ : ∃ W0, W0 = w1.alloc (.cells #[.pointer (some ⟨d, 0, none⟩), .int .i64 0, .int .i64 0, .int .i64 0, .int .i64 0, .slice none 0 0, .slice none 0 0, .slice none 0 0, .slice none 0 0, .int .i64 0, .int .i64 0, .int .i64 0, .int .i64 0, .int .i64 0, .int .i64 0, .int .i64 0, .int .i64 0, .int .i64 0, .int .i64 0, .int .i64 0, .int .i64 0, .int .i64 0, .int .i64 0, .int .i64 0] 36) := ⟨_, rfl⟩
  obtain ⟨b, eb⟩ : ∃ b, b = w1.heap.size := ⟨_, rfl⟩
  obtain ⟨v, ev⟩ : ∃ v, v = w.heap.size := ⟨_, rfl⟩
  rw [← hW0, ← eb, ← ev] at HO
  replace HO : Hid (Oq w W0 v b d s0 Q) := HO
  have HW : Hid (w1.alloc (.cells #[.pointer (some ⟨d, 0, none⟩), .int .i64 0, .int .i64 0, .int .i64 0, .int .i64 0, .slice none 0 0, .slice none 0 0, .slice none 0 0, .slice none 0 0, .int .i64 0, .int .i64 0, .int .i64 0, .int .i64 0, .int .i64 0, .int .i64 0, .int .i64 0, .int .i64 0, .int .i64 0, .int .i64 0, .int .i64 0, .int .i64 0, .int .i64 0, .int .i64 0, .int .i64 0] 36) = W0 ∧ w1.heap.size = b ∧ w.heap.size = v) := ⟨hW0.symm, eb.symm, ev.symm⟩
  clear hD0 hN hb0 hm hW0 eb ev
  go_wp2_with fail
  rw [HW.out.1, HW.out.2.1, HW.out.2.2]
  go_loopw [4] (fun q4 wr => ∃ (k : Nat) (x : Wv) (s : Sd) (c : Nat → Nat), q4 = .int .i64 (k : Int) ∧ k ≤ 4 ∧ Hid (WF b d s0 W0 x s (fun _ => []) wr ∧ Opn k x s c)) (fun q4 _ => 4 - (intOf q4).toNat)
  case atStart => exact ⟨0, _, s0, fun _ => 0, rfl, by omega, HO.out.ws.wf, HO.out.on⟩
  case round =>
    obtain ⟨k, x, s, c, rfl, hk, hI⟩ := hrel
    by_cases hk4 : k < 4
    · have hkl : (k : Int) < 4 := by omega
      obtain ⟨qk, eqk⟩ : ∃ qk, qk = Q k := ⟨_, rfl⟩
      have cq : wr.cell? ⟨v, k, none⟩ = some (.int .i64 qk) := by rw [eqk]; exact HO.out.cell hI.out.1 hk4
      obtain ⟨r, er⟩ : ∃ r, r = qk % 1099511627776 := ⟨_, rfl⟩
      obtain ⟨r2, er2⟩ : ∃ r2, r2 = r % 1000 := ⟨_, rfl⟩
      have b1 : bits .and .i64 qk 1099511627775 = r := by rw [er]; exact i64_and40 _
      have b2 : r.tmod 1000 = r2 := by rw [er2]; exact Int.tmod_eq_emod_of_nonneg (by omega)
      have b3 : IntKind.i64.wrap r2 = r2 := by rw [IntKind.wrap_i64]; omega
      have b4 : IntKind.i64.wrap (r2 + 1) = r2 + 1 := by rw [IntKind.wrap_i64]; omega
      have k1 : IntKind.i64.wrap ((k : Int) + 1) = (k : Int) + 1 := by rw [IntKind.wrap_i64]; omega
      have z1 : wr.frozen? ⟨b, 1 + k, none⟩ = false := World.rowIs.frozen hI.out.1.ws.wr _
      have cQ : wr.cell? ⟨b, 1 + k, none⟩ = some (.int .i64 (x.Q k)) := hI.out.1.ws.wr.cQ hk4
      have HR : Hid (1 ≤ r2 + 1 ∧ r2 + 1 ≤ 1000) := by show _ ∧ _; omega
      have hvb : ¬ v = b := HO.out.vb
      have EQ : Hid (qk = Q k ∧ r = qk % 1099511627776 ∧ r2 = r % 1000) := ⟨eqk, er, er2⟩
      have z9 : wr.frozen? ⟨b, 9 + k, none⟩ = false := World.rowIs.frozen hI.out.1.ws.wr _
      have c9 : wr.cell? ⟨b, 9 + k, none⟩ = some (.int .i64 (x.Gen k)) := hI.out.1.ws.wr.cG hk4
      clear er er2 eqk
      obtain ⟨qv, eqv⟩ : ∃ qv, qv = if qk < 0 then 1 else r2 + 1 := ⟨_, rfl⟩
      have hqv : 1 ≤ qv ∧ qv ≤ 1000 := by
        have := HR.out
        rw [eqv]
        split <;> omega
      have hQV : Hid (qv = if qk < 0 then 1 else r2 + 1) := eqv
      clear eqv
      by_cases hq : qk < 0
      all_goals
        go_wp2_with fail
        go_region
        go_wp2_with fail
        first
          | (obtain ⟨W9, eW9⟩ : ∃ W9, W9 = (((wr.setCell ⟨b, 1 + k, none⟩ (.int .i64 (r2 + 1))).setCell ⟨b, 1 + k, none⟩ (.int .i64 1)).setCell ⟨b, 9 + k, none⟩ (.int .i64 1)).drew := ⟨_, rfl⟩
             rw [← eW9]
             have hqe : qv = 1 := by have := hQV.out; rw [if_pos hq] at this; exact this
             have D9 : WF b d s0 W0 { x with Q := updN (updN x.Q k (r2 + 1)) k qv, Gen := updN x.Gen k 1 } s (fun _ => []) W9 := by
               rw [eW9, hqe]
               exact (((hI.out.1.setQ hk4 (r2 + 1)).setQ hk4 1).setGen hk4 1).drew
             have hQ9 : updN (updN x.Q k (r2 + 1)) k qv = updN x.Q k qv := by
               funext g
               by_cases e : g = k
               · subst e; rw [updN_eq, updN_eq]
               rw [updN_ne _ _ e, updN_ne _ _ e, updN_ne _ _ e])
          | (obtain ⟨W9, eW9⟩ : ∃ W9, W9 = ((wr.setCell ⟨b, 1 + k, none⟩ (.int .i64 (r2 + 1))).setCell ⟨b, 9 + k, none⟩ (.int .i64 1)).drew := ⟨_, rfl⟩
             rw [← eW9]
             have hqe : qv = r2 + 1 := by have := hQV.out; rw [if_neg (by omega)] at this; exact this
             have D9 : WF b d s0 W0 { x with Q := updN x.Q k qv, Gen := updN x.Gen k 1 } s (fun _ => []) W9 := by
               rw [eW9, hqe]
               exact ((hI.out.1.setQ hk4 (r2 + 1)).setGen hk4 1).drew
             have hQ9 : updN x.Q k qv = updN x.Q k qv := rfl)
        obtain ⟨HN, HJ⟩ := op_join hk4 hI.out.2 D9 hqv hQ9 rfl rfl rfl rfl rfl
        have e0 : W9.cell? ⟨b, 0, none⟩ = some (.pointer (some ⟨d, 0, none⟩)) := by
          have := D9.ws.wr.cd
          rw [D9.dd] at this
          exact this
        have e1 : W9.cell? ⟨b, 1 + k, none⟩ = some (.int .i64 qv) := by
          have := D9.ws.wr.cQ hk4
          rw [this]
          exact congrArg some (congrArg (Value.int .i64) (updN_eq _ _ _))
        clear eW9 D9 hQ9 cq cQ z1 c9 z9 hqe
        go_wp2_with fail
        rename_i hz
        go_region_held3 (fun w9 => w9.cell? ⟨b, 0, none⟩ = some (.pointer (some ⟨d, 0, none⟩)) ∧ w9.cell? ⟨b, 1 + k, none⟩ = some (.int .i64 qv)) (first | (simp [go_sem, *]; done) | (trace_state; fail))
          (first
            | (go_at_call 12; refine Calls.mono (HN.out _) ?_; rintro e w5 ⟨rfl, hw5, hc5, hd5⟩)
            | (go_at_call 15; refine Calls.mono (HJ.out _ (by assumption)) ?_; rintro e w6 ⟨rfl, hw6, hc6, hd6⟩))
        all_goals
          try refine hz _ _ ?_
          clear HN HJ e0 e1
          go_wp2_with fail
          go_roundw
          case rel =>
            obtain ⟨x', s', c', h1, h2⟩ := hw6.out
            exact ⟨k + 1, x', s', c', by go_num, by omega, h1, h2⟩
          case measure => simp [intOf]; omega
    have hk4' : k = 4 := by omega
    subst hk4'
    go_wp2_with fail
    exact bodyPost_ret (v := .pointer (some ⟨b, 0, none⟩)) (by simp [results, Try.results7, go_sem]) rfl ⟨b, x, s, c, rfl, hI.out.2, hI.out.1.ws, HO.out.below hI.out.1, by have := HO.out.bb; exact this, fun j hj => HO.out.mine hI.out.1 j (by rw [← hI.out.1.dd]; exact hj)⟩
end Go.Proofs.Ytcndbmccediknaa
namespace Go.Proofs.Ytcndbmccediknaa
set_option maxRecDepth 100000
set_option linter.unusedVariables false
end Go.Proofs.Ytcndbmccediknaa
namespace Go.Proofs.Ytcndbmccediknaa
open Go.RowKit
set_option maxRecDepth 100000
set_option linter.unusedVariables false
def Ev (kd : Int) (f : Nat) (x : Wv) (P : Nat → List Pk) : Wv → Sd → (Nat → List Pk) → (Nat → Nat) → Prop :=
  if kd = 1 then Ev1 x P else if kd = 2 ∨ kd = 3 then Ev2 x P else Ev0 f x P
theorem mv_any {m : Int} {n : Nat} {x : Wv} {s : Sd} {P : Nat → List Pk} {c : Nat → Nat} (b : Nat) (kd fl sz : Int) (w : World) (h : Iv m n x s P c) (hw : WS w b x s P) (hm : m ≤ 1024) (hn : n ≤ 100000) (hsz : ¬ kd = 1 → ¬ kd = 2 → ¬ kd = 3 → szOf sz ≤ m) :
    Calls Try.prog 9 #[.pointer (some ⟨b, 0, none⟩), .agg #[.int .i64 kd, .int .i64 fl, .int .i64 sz]] w fun e w' => e = .returned (.bool true) ∧ Mvd b m n x s P c (mostOf x.most kd sz) (Ev kd (fl % 4).toNat x P) w w' := by
  have hf : (fl % 4).toNat < 4 := by omega
  have hfl : fl % 4 = ((fl % 4).toNat : Int) := by omega
  by_cases k1 : kd = 1
  · subst k1
    rw [show mostOf x.most 1 sz = x.most from if_pos (.inl rfl), show Ev 1 (fl % 4).toNat x P = Ev1 x P from if_pos rfl]
    exact mv_next b fl sz w h hw hm hn
  by_cases k2 : kd = 2
  · subst k2
    rw [show mostOf x.most 2 sz = x.most from if_pos (.inr (.inl rfl)), show Ev 2 (fl % 4).toNat x P = Ev2 x P from (if_neg (by decide)).trans (if_pos (.inl rfl))]
    exact mv_evict b fl sz _ hf hfl w h hw hm hn
  by_cases k3 : kd = 3
  · subst k3
    rw [show mostOf x.most 3 sz = x.most from if_pos (.inr (.inr rfl)), show Ev 3 (fl % 4).toNat x P = Ev2 x P from (if_neg (by decide)).trans (if_pos (.inr rfl))]
    exact mv_leave b fl sz _ hf hfl w h hw hm hn
  rw [show mostOf x.most kd sz = (if x.most < szOf sz then szOf sz else x.most) from if_neg (by rintro (e | e | e) <;> contradiction), show Ev kd (fl % 4).toNat x P = Ev0 (fl % 4).toNat x P from (if_neg k1).trans (if_neg (by rintro (e | e) <;> contradiction))]
  exact mv_admit b kd fl sz _ hf hfl k1 k2 k3 w h hw hm hn (hsz k1 k2 k3) _ rfl
section
variable {w0 : World} {b lg og : Nat} {x : Wv} {s : Sd} {P : Nat → List Pk} {le : Nat → Int} {on : Nat → Bool} {wr : World}
end
def MvIn (w : World) (a : Option Addr) (n : Nat) (F : Nat → Nat → Int) : Prop :=
  n = 0 ∨ ∃ g o, a = some ⟨g, o, none⟩ ∧ ∀ i, i < n → ∀ j, j < 3 → w.cell? ⟨g, o + i * 3 + j, none⟩ = some (.int .i64 (F i j))
theorem MvIn.at {w w' : World} {a : Option Addr} {n : Nat} {F : Nat → Nat → Int} (h : MvIn w a n F) (hb : Below w.heap.size w w') {i : Nat} (hi : i < n) : ∃ g o, a = some ⟨g, o, none⟩ ∧ w'.cell? ⟨g, o + i * 3, none⟩ = some (.int .i64 (F i 0)) ∧ w'.cell? ⟨g, o + i * 3 + 1, none⟩ = some (.int .i64 (F i 1)) ∧ w'.cell? ⟨g, o + i * 3 + 2, none⟩ = some (.int .i64 (F i 2)) := by
  rcases h with e | ⟨g, o, e, h⟩
  · omega
  exact ⟨g, o, e, cell_later hb (h i hi 0 (by omega)), cell_later hb (h i hi 1 (by omega)), cell_later hb (h i hi 2 (by omega))⟩
end Go.Proofs.Ytcndbmccediknaa
namespace Go.Proofs.Ytcndbmccediknaa
set_option maxRecDepth 100000
set_option linter.unusedVariables false
theorem Iv.mono {m m' : Int} {n : Nat} {x : Wv} {s : Sd} {P : Nat → List Pk} {c : Nat → Nat} (h : Iv m n x s P c) (hm : m ≤ m') : Iv m' n x s P c :=
  { h with kp := h.kp.mono hm }
theorem Iv.deficit {m : Int} {n : Nat} {x : Wv} {s : Sd} {P : Nat → List Pk} {c : Nat → Nat} (I : Iv m n x s P c) (hm : 0 ≤ m) {f : Nat} (hf : f < 4) :
    0 ≤ s.deficit (c f) ∧ s.deficit (c f) < x.Q f + m + 1 ∧ (P f = [] → s.deficit (c f) = 0) ∧ (P f ≠ [] → ¬ s.holds (c f) → s.deficit (c f) < ((P f).headD Pk.zero).size) := by
  have hq := I.qn f hf
  by_cases hP : P f = []
  · have hni : c f ∉ s.R := fun e => (I.ri f hf).1 e hP
    have hd : s.deficit (c f) = 0 := by
      unfold Sd.deficit
      rw [if_neg]
      · exact I.ko f hf hP
      rintro ⟨e1, e2⟩
      have h0 := I.kp.tr e1
      exact hni (by rw [← e2]; exact getD_mem h0)
    rw [hd]
    exact ⟨by omega, by omega, fun _ => rfl, fun e => absurd hP e⟩
  have hi : c f ∈ s.R := (I.ri f hf).2 hP
  have h1 := I.kp.hi _ hi
  have h2 := I.kp.lo _ hi
  rw [hq.1] at h2
  unfold Sd.deficit Sd.holds
  by_cases hh : s.x.turn = true ∧ s.nth 0 = c f
  · rw [if_pos hh, hq.1]
    exact ⟨by omega, by omega, fun e => absurd e hP, fun _ e => absurd hh e⟩
  rw [if_neg hh]
  obtain ⟨i, hil, hic⟩ := at_mem hi
  have hic' : s.R.getD i 0 = c f := hic
  have ho := I.kp.own i hil (by
    rcases Nat.eq_zero_or_pos i with e | e
    · right
      cases e3 : s.x.turn with
      | false => rfl
      | true =>
        refine absurd ⟨e3, ?_⟩ hh
        subst e
        exact hic'
    exact .inl e)
  rw [hic', I.qe f hf] at ho
  have hs := I.kp.size hi
  rw [I.qe f hf] at hs
  exact ⟨ho.1, by omega, fun e => absurd e hP, fun _ _ => ho.2⟩
def SQ (x : Wv) (P : Nat → List Pk) : Prop := ∀ f, f < 4 → (P f).Pairwise (fun a b => a.seq < b.seq) ∧ ∀ p, p ∈ P f → p.seq ≤ x.seq
theorem SQ.ev {kd : Int} {f : Nat} {x x' : Wv} {s' : Sd} {P P' : Nat → List Pk} {c' : Nat → Nat} (h : SQ x P) (he : Ev kd f x P x' s' P' c') : SQ x' P' := by
  unfold Ev at he
  split at he
  · obtain ⟨e1, ⟨_, e2, _⟩ | ⟨g, p, xs, hg, e2, e3, _⟩⟩ := he
    · intro h' hh
      rw [e1, e2]
      exact h h' hh
    intro i hi
    rw [e1, e3]
    by_cases e : i = g
    · subst e
      rw [updN_eq]
      obtain ⟨h1, h2⟩ := h i hi
      rw [e2] at h1 h2
      exact ⟨(List.pairwise_cons.1 h1).2, fun q hq => h2 q (List.mem_cons_of_mem _ hq)⟩
    rw [updN_ne _ _ e]
    exact h i hi
  split at he
  · obtain ⟨e1, e2⟩ := he
    intro i hi
    rw [e1]
    exact ⟨(h i hi).1.sublist (e2 i hi), fun q hq => (h i hi).2 q ((e2 i hi).subset hq)⟩
  obtain ⟨e1, _, pk, e3, e4⟩ := he
  intro i hi
  rw [e1, e4]
  by_cases e : i = f
  · subst e
    rw [updN_eq]
    obtain ⟨h1, h2⟩ := h i hi
    refine ⟨List.pairwise_append.2 ⟨h1, List.pairwise_singleton _ _, fun a ha b hb => ?_⟩, fun q hq => ?_⟩
    · rw [List.mem_singleton.1 hb, e3]
      have := h2 a ha
      omega
    rcases List.mem_append.1 hq with hq | hq
    · have := h2 q hq
      omega
    rw [List.mem_singleton.1 hq, e3]
    exact Int.le_refl _
  rw [updN_ne _ _ e]
  exact ⟨(h i hi).1, fun q hq => by have := (h i hi).2 q hq; omega⟩
theorem Iv.tw_hi {m : Int} {n : Nat} {x : Wv} {s : Sd} {P : Nat → List Pk} {c : Nat → Nat} (h : Iv m n x s P c) (hm : m ≤ 1024) {f g : Nat} (hf : f < 4) (hg : g < 4) (pf : P f ≠ []) (pg : P g ≠ []) :
    tw s.R s.Y (c f) (c g) ≤ 2 * (x.Q f * x.Q g) + x.Q f * 1024 := by
  have qf := h.qn f hf
  have qg := h.qn g hg
  have lof := h.kp.lo _ ((h.ri f hf).2 pf)
  have hig := h.kp.hi _ ((h.ri g hg).2 pg)
  rw [qf.1] at lof
  unfold tw
  rw [qf.1, qg.1]
  have h1 : x.Q f * (s.Y (c g)).kept ≤ x.Q f * 1024 := Int.mul_le_mul_of_nonneg_left (by omega) (by omega)
  have h2 : x.Q g * (-(x.Q f)) ≤ x.Q g * (s.Y (c f)).kept := Int.mul_le_mul_of_nonneg_left lof (by omega)
  rw [Int.mul_neg, Int.mul_comm (x.Q g) (x.Q f)] at h2
  have h3 : 0 ≤ x.Q f * x.Q g := Int.mul_nonneg (by omega) (by omega)
  split <;> omega
theorem Iv.tw_lo {m : Int} {n : Nat} {x : Wv} {s : Sd} {P : Nat → List Pk} {c : Nat → Nat} (h : Iv m n x s P c) {f g : Nat} (hf : f < 4) (hg : g < 4) {p : Pk} {xs : List Pk} (pf : P f = p :: xs) (pg : P g ≠ []) (hh : ¬ s.holds (c f)) :
    -(x.Q g * p.size) - x.Q f * x.Q g ≤ tw s.R s.Y (c f) (c g) := by
  have qf := h.qn f hf
  have qg := h.qn g hg
  have mf := (h.ri f hf).2 (by rw [pf]; simp)
  have log := h.kp.lo _ ((h.ri g hg).2 pg)
  rw [qg.1] at log
  obtain ⟨i, hil, hic⟩ := at_mem mf
  have ho := h.kp.own i hil (by
    rcases Nat.eq_zero_or_pos i with e | e
    · right
      cases e3 : s.x.turn with
      | false => rfl
      | true =>
        refine absurd ⟨e3, ?_⟩ hh
        subst e
        exact hic
    exact .inl e)
  rw [hic, h.qe f hf, pf] at ho
  simp only [List.headD_cons] at ho
  unfold tw
  rw [qf.1, qg.1]
  have h1 : x.Q f * (-(x.Q g)) ≤ x.Q f * (s.Y (c g)).kept := Int.mul_le_mul_of_nonneg_left log (by omega)
  have h2 : x.Q g * (s.Y (c f)).kept ≤ x.Q g * p.size := Int.mul_le_mul_of_nonneg_left (by omega) (by omega)
  rw [Int.mul_neg] at h1
  have h3 : 0 ≤ x.Q f * x.Q g := Int.mul_nonneg (by omega) (by omega)
  split <;> omega
structure Wi (f : Nat) (p : Pk) (xs : List Pk) (k : Int) (fr : Nat → Int) (x : Wv) (s : Sd) (P : Nat → List Pk) (c : Nat → Nat) : Prop where
  hd : P f = p :: xs
  sf : x.Sent f = fr f
  dt : ∀ g, g < 4 → g ≠ f → P g ≠ [] → Dt x s c f g + (fr f * x.Q g - fr g * x.Q f) ≤ 2 * (x.Q f * x.Q g) + x.Q f * 1024
  ne : ∀ g, g < 4 → g ≠ f → P g = [] → x.Sent g = fr g
  bd : ∀ g, g < 4 → g ≠ f → x.Sent g - fr g < k * x.Q g + 65536
theorem Wi.start {m : Int} {n : Nat} {x : Wv} {s : Sd} {P : Nat → List Pk} {c : Nat → Nat} (I : Iv m n x s P c) (hm : m ≤ 1024) {f : Nat} (hf : f < 4) {p : Pk} {xs : List Pk} (hP : P f = p :: xs) {k : Int} (hk : 0 ≤ k) : Wi f p xs k x.Sent x s P c := by
  refine ⟨hP, rfl, fun g hg hgf pg => ?_, fun g _ _ _ => rfl, fun g hg _ => ?_⟩
  · have := I.tw_hi hm hf hg (by rw [hP]; simp) pg
    unfold Dt
    omega
  have h1 := I.qn g hg
  have : 0 ≤ k * x.Q g := Int.mul_nonneg hk (by omega)
  omega
theorem Wi.admit {m : Int} {n : Nat} {x x' : Wv} {s s' : Sd} {P P' : Nat → List Pk} {c c' : Nat → Nat} {f : Nat} {p : Pk} {xs : List Pk} {k : Int} {fr : Nat → Int} (h : Wi f p xs k fr x s P c) (I' : Iv m n x' s' P' c') (hm : m ≤ 1024) (S : Stay x s P c x' s' P' c') (hQ : x'.Q = x.Q) (hf : f < 4) {g : Nat} (hg : g < 4) (hgf : g ≠ f) (he : Ev0 g x P x' s' P' c') : Wi f p xs k fr x' s' P' c' := by
  obtain ⟨_, e2, pk, _, e4⟩ := he
  have pf : P' f = p :: xs := by rw [e4, updN_ne _ _ (Ne.symm hgf)]; exact h.hd
  have pf0 : P f ≠ [] := by rw [h.hd]; simp
  have pf1 : P' f ≠ [] := by rw [pf]; simp
  refine ⟨pf, by rw [e2]; exact h.sf, fun i hi hif pi => ?_, fun i hi hif pi => ?_, fun i hi hif => by rw [e2, hQ]; exact h.bd i hi hif⟩
  · by_cases e : P i = []
    · have e5 := h.ne i hi hif e
      have := I'.tw_hi hm hf hi pf1 pi
      unfold Dt
      rw [e2, e5, h.sf]
      omega
    rw [S f i hf hi (Ne.symm hif) pf0 e pf1 pi, hQ]
    exact h.dt i hi hif e
  have e : P i = [] := by
    rw [e4] at pi
    by_cases e : i = g
    · subst e
      rw [updN_eq] at pi
      simp at pi
    rw [updN_ne _ _ e] at pi
    exact pi
  rw [e2]
  exact h.ne i hi hif e
theorem Wi.next {m : Int} {n : Nat} {x x' : Wv} {s s' : Sd} {P P' : Nat → List Pk} {c c' : Nat → Nat} {f : Nat} {p : Pk} {xs : List Pk} {k : Int} {fr : Nat → Int} (h : Wi f p xs k fr x s P c) (I' : Iv m n x' s' P' c') (S : Stay x s P c x' s' P' c') (hQ : x'.Q = x.Q) (hf : f < 4) (hk : p.size ≤ k * x.Q f) (h2 : ∀ g, g < 4 → g ≠ f → 2 ≤ (P g).length) (he : Ev1 x P x' s' P' c') :
    (∀ g, g < 4 → g ≠ f → x'.Sent g - fr g < k * x'.Q g + 65536) ∧ (Wi f p xs k fr x' s' P' c' ∨ P' f = xs) := by
  obtain ⟨_, ⟨e1, _, _⟩ | ⟨g, q, ys, hg, e2, e3, e4, e5⟩⟩ := he
  · have := e1 f hf
    rw [h.hd] at this
    cases this
  by_cases hgf : g = f
  · subst hgf
    rw [h.hd] at e2
    injection e2 with e6 e7
    refine ⟨fun i hi hif => ?_, .inr (by rw [e3, updN_eq]; exact e7.symm)⟩
    rw [e4, updN_ne _ _ hif, hQ]
    exact h.bd i hi hif
  have pf : P' f = p :: xs := by rw [e3, updN_ne _ _ (Ne.symm hgf)]; exact h.hd
  have pf0 : P f ≠ [] := by rw [h.hd]; simp
  have pf1 : P' f ≠ [] := by rw [pf]; simp
  have p0 : ∀ i, i < 4 → i ≠ f → P i ≠ [] := fun i hi hif e => by
    have := h2 i hi hif
    rw [e] at this
    simp at this
  have p1 : ∀ i, i < 4 → i ≠ f → P' i ≠ [] := fun i hi hif e => by
    rw [e3] at e
    by_cases ei : i = g
    · subst ei
      rw [updN_eq] at e
      have := h2 i hi hif
      rw [e2, e] at this
      simp at this
    rw [updN_ne _ _ ei] at e
    exact p0 i hi hif e
  have sf : x'.Sent f = fr f := by rw [e4, updN_ne _ _ (Ne.symm hgf)]; exact h.sf
  have dt : ∀ i, i < 4 → i ≠ f → Dt x' s' c' f i + (fr f * x'.Q i - fr i * x'.Q f) ≤ 2 * (x'.Q f * x'.Q i) + x'.Q f * 1024 := fun i hi hif => by
    rw [S f i hf hi (Ne.symm hif) pf0 (p0 i hi hif) pf1 (p1 i hi hif), hQ]
    exact h.dt i hi hif (p0 i hi hif)
  have bd : ∀ i, i < 4 → i ≠ f → x'.Sent i - fr i < k * x'.Q i + 65536 := fun i hi hif => by
    have d := dt i hi hif
    have t := I'.tw_lo hf hi pf (p1 i hi hif) (e5 f hf (Ne.symm hgf))
    have qf := (I'.qn f hf).2
    have qi := (I'.qn i hi).2
    unfold Dt at d
    rw [sf] at d
    have hL : x'.Q i * p.size ≤ x'.Q i * (k * x'.Q f) := Int.mul_le_mul_of_nonneg_left (by rw [hQ]; exact hk) (by omega)
    have e6 : x'.Q i * (k * x'.Q f) = (k * x'.Q i) * x'.Q f := by rw [Int.mul_comm k (x'.Q f), ← Int.mul_assoc, Int.mul_comm (x'.Q i * x'.Q f) k, ← Int.mul_assoc]
    rw [e6] at hL
    have e7 : (x'.Sent i - fr i) * x'.Q f ≤ (3 * x'.Q i + 1024 + k * x'.Q i) * x'.Q f := by
      rw [Int.sub_mul, Int.add_mul, Int.add_mul, Int.mul_assoc, Int.mul_comm (x'.Q i) (x'.Q f), Int.mul_comm 1024 (x'.Q f)]
      omega
    have e8 := Int.le_of_mul_le_mul_right e7 (by omega)
    omega
  exact ⟨bd, .inl ⟨pf, sf, fun i hi hif _ => dt i hi hif, fun i hi hif e => absurd e (p1 i hi hif), bd⟩⟩
end Go.Proofs.Ytcndbmccediknaa
namespace Go.Proofs.Ytcndbmccediknaa
open Go.RowKit Go.Shelf
set_option maxRecDepth 100000
set_option linter.unusedVariables false
attribute [local go_sem] Oper.semAt_some
end Go.Proofs.Ytcndbmccediknaa
