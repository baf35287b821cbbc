/- Contracts of the program's functions, part 6: own work, joined in build order. -/
import Derived.Test.YtdobjanhmllloaaDoorJ5
import Derived.Deep.RegionLaw
import Derived.Laws.AppendOwnNone
import Derived.OrdersIn
import Derived.Deep.LoopGhost
import Derived.WalkKit
import Derived.Test.YtdobjanhmllloaaDoorRows
import Derived.RangeFuncNested
import Derived.RangeFuncCalls
namespace Go.Proofs.YtdobjanhmllloaaDoor
open Go.RowKit
set_option maxRecDepth 100000
set_option linter.unusedVariables false
theorem then6_as {K : Act → World → Prop} {Q : Exit → Act → World → Prop} {x : Exit} {ac : Act} {W : World} (P : World → Prop) (hP : P W) (h : ∀ W', P W' → Exit.then K Q x ac W') : Exit.then K Q x ac W := h W hP
theorem ax_at (w : World) (o : Obj) : (w.alloc o).heap[w.heap.size]? = some o := Array.getElem?_push_size
theorem cell_blk {W W' : World} {g i : Nat} {v : Value} (h : W.cell? ⟨g, i, none⟩ = some v) (hk : W'.heap[g]? = W.heap[g]?) : W'.cell? ⟨g, i, none⟩ = some v := by
  simp only [World.cell?] at h ⊢
  rw [hk]
  exact h
def vacT (T : Nat → Int × Bool × Int) (last : Int) (i : Nat) : Bool := !(T i).2.1 && decide ((T i).1 < last)
def fstV (T : Nat → Int × Bool × Int) (last : Int) : Nat → Nat → Nat
  | 0, i => i
  | m + 1, i => if vacT T last i then i else fstV T last m (i + 1)
def putK (T : Nat → Int × Bool × Int) (n : Nat) (last : Int) : Nat := fstV T last n 0
def putT6 (T : Nat → Int × Bool × Int) (n : Nat) (last v : Int) : Nat → Int × Bool × Int := if putK T n last < n then updT T (putK T n last) ((T (putK T n last)).1 + 1, true, v) else T
def putS6 (T : Nat → Int × Bool × Int) (n : Nat) (last : Int) : Int := if putK T n last < n then (putK T n last : Int) else 0
def putG6 (T : Nat → Int × Bool × Int) (n : Nat) (last : Int) : Int := if putK T n last < n then (T (putK T n last)).1 + 1 else 0
def putE6 (T : Nat → Int × Bool × Int) (n : Nat) (last : Int) : Int := if putK T n last < n then 0 else 61
structure Lk (w wr : World) (gw b n cap : Nat) (T : Nat → Int × Bool × Int) (last : Int) (gH : Nat) (i : Nat) : Prop where
  bel : Below w.heap.size w wr
  dr : Dr wr b n T
  c0 : wr.cell? ⟨gw, 0, none⟩ = some (.slice (some ⟨b, 0, none⟩) n cap)
  c1 : wr.cell? ⟨gw, 1, none⟩ = some (.int .i64 last)
  hh : wr.heap[gH]? = some (.cells #[.int .i64 0, .int .i64 0] 38)
  eq : putK T n last = fstV T last (n - i) i
theorem Lk.drew {w wr : World} {gw b n cap : Nat} {T : Nat → Int × Bool × Int} {last : Int} {gH i : Nat} (h : Lk w wr gw b n cap T last gH i) (q : Nat) : Lk w (wr.drewN q) gw b n cap T last gH i := ⟨bx_drew h.bel q, h.dr.drew q, h.c0, h.c1, h.hh, h.eq⟩
theorem Lk.next {w wr : World} {gw b n cap : Nat} {T : Nat → Int × Bool × Int} {last : Int} {gH i : Nat} (h : Lk w wr gw b n cap T last gH i) (hi : i < n) (hv : vacT T last i = false) : Lk w wr gw b n cap T last gH (i + 1) := by
  refine ⟨h.bel, h.dr, h.c0, h.c1, h.hh, ?_⟩
  rw [h.eq]
  obtain ⟨m, hm⟩ : ∃ m, n - i = m + 1 := ⟨n - i - 1, by omega⟩
  rw [hm, fstV, hv, show n - (i + 1) = m by omega]
  rfl
theorem Lk.here {w wr : World} {gw b n cap : Nat} {T : Nat → Int × Bool × Int} {last : Int} {gH i : Nat} (h : Lk w wr gw b n cap T last gH i) (hi : i < n) (hv : vacT T last i = true) : putK T n last = i := by
  rw [h.eq]
  obtain ⟨m, hm⟩ : ∃ m, n - i = m + 1 := ⟨n - i - 1, by omega⟩
  rw [hm, fstV, hv]
  rfl
set_option maxHeartbeats 2000000 in
theorem rput6_any (gw b n cap : Nat) (T : Nat → Int × Bool × Int) (last v : Int) (w : World) (h : Dr w b n T) (h0 : w.cell? ⟨gw, 0, none⟩ = some (.slice (some ⟨b, 0, none⟩) n cap)) (h1 : w.cell? ⟨gw, 1, none⟩ = some (.int .i64 last)) (hgb : gw ≠ b) (hn : n ≤ 65536) (hl : last ≤ 2147483647) (hT : ∀ i, i < n → -9223372036854775808 ≤ (T i).1) :
    Calls Tryd.prog 9 #[.pointer (some ⟨gw, 0, none⟩), .int .i64 v] w fun e w' => e = .returned (.tuple #[.agg #[.int .i64 (putS6 T n last), .int .i64 (putG6 T n last)], .int .i64 (putE6 T n last)]) ∧ Dr w' b n (putT6 T n last v) ∧ Od b w w' := by
  have LW : Hid (b < w.heap.size ∧ gw < w.heap.size) := ⟨h.lt, World.block_lt_of_cell? _ _ h0⟩
  have HGB : Hid _ := hgb
  have HT : Hid _ := hT
  obtain ⟨gH, egH⟩ : ∃ g, g = w.heap.size := ⟨_, rfl⟩
  have BB : Below w.heap.size w (w.alloc (.cells #[.int .i64 0, .int .i64 0] 38)) := bx_al (Below.refl _ _)
  have S0 : Hid (Lk w (w.alloc (.cells #[.int .i64 0, .int .i64 0] 38)) gw b n cap T last gH 0) := ⟨BB, h.go BB, bx_cell BB h0, bx_cell BB h1, by rw [egH]; exact ax_at _ _, by rw [putK, Nat.sub_zero]⟩
  have EGH : Hid _ := egH
  clear h h0 h1 hgb hT BB
  go_enter Tryd.func9, Tryd.ntmps9
  go_wp2_with fail
  rw [← egH]
  clear egH
  go_loopw [6] (fun t6 wr => ∃ i : Nat, i ≤ n ∧ t6 = .int .i64 (i : Int) ∧ Hid (Lk w wr gw b n cap T last gH i)) (fun t6 _ => n + 1 - (intOf t6).toNat)
  case atStart => exact ⟨0, by omega, rfl, S0⟩
  case round =>
    obtain ⟨i, hi, rfl, HH⟩ := hrel
    clear S0
    have y0 := HH.out.c0
    have y1 := HH.out.c1
    by_cases q : i < n
    · have r0 : decide ((i : Int) < (n : Int)) = true := decide_eq_true (by omega)
      have r1 : (i : Int) < (n : Int) := by omega
      obtain ⟨x0, x1, x2⟩ := HH.out.dr.cell q
      have HV : Hid (vacT T last i = (!(T i).2.1 && decide ((T i).1 < last))) := rfl
      have HG := HT.out i q
      have HTI : Hid (∃ x, T i = x) := ⟨_, rfl⟩
      obtain ⟨⟨p, z, r⟩, hTi⟩ := HTI.out
      rw [hTi] at x0 x1 x2 HV HG
      dsimp only at x0 x1 x2 HV HG
      have HTi : Hid _ := hTi
      clear hTi HTI
      cases z with
      | true =>
        go_upto_region 4 with fail
        go_quiet (fail)
        go_wp2_with fail
        go_roundw
        case rel => exact ⟨i + 1, by omega, by go_num, (HH.out.drew _).next q (by rw [HV.out]; rfl)⟩
        case measure => simp [intOf] <;> omega
      | false =>
        by_cases pl : p < last
        · have d3 : decide (p < last) = true := decide_eq_true pl
          have f0 := HH.out.dr.fr (i * 3)
          have f1 := HH.out.dr.fr (i * 3 + 1)
          have f2 := HH.out.dr.fr (i * 3 + 2)
          have HK : Hid (putK T n last = i) := HH.out.here q (by rw [HV.out, d3]; rfl)
          have wp : wrap64 (p + 1) = p + 1 := IntWalk.wrap64_in _ ⟨by omega, by omega⟩
          go_upto_region 4 with fail
          go_quiet (fail)
          go_upto_region 5 with fail
          go_region
          refine then6_as (fun W => Dr W b n (updT T i (p + 1, true, v)) ∧ Od b w W ∧ W.cell? ⟨gw, 0, none⟩ = some (.slice (some ⟨b, 0, none⟩) n cap) ∧ W.heap[gH]? = some (.cells #[.int .i64 0, .int .i64 0] 38)) ⟨(HH.out.dr.put q (p + 1) true v).drew _, ((((Od.of HH.out.bel).set _ _).set _ _).set _ _).drew _, cell_blk HH.out.c0 ?_, Eq.trans ?_ HH.out.hh⟩ ?_
          · exact (Below.heap_setCell _ _ _ _ HGB.out).trans ((Below.heap_setCell _ _ _ _ HGB.out).trans (Below.heap_setCell _ _ _ _ HGB.out))
          · have e : gH ≠ b := by have := LW.out.1; have := EGH.out; omega
            exact (Below.heap_setCell _ _ _ _ e).trans ((Below.heap_setCell _ _ _ _ e).trans (Below.heap_setCell _ _ _ _ e))
          rintro W ⟨hD, hO, z0, hh⟩
          obtain ⟨k0, _, _⟩ := hD.cell q
          rw [upd_at] at k0
          dsimp only at k0
          have g0 : W.cell? ⟨gH, 0, none⟩ = some (.int .i64 0) := by simp only [World.cell?, hh]; rfl
          have g1 : W.cell? ⟨gH, 1, none⟩ = some (.int .i64 0) := by simp only [World.cell?, hh]; rfl
          have e0 : W.frozen? ⟨gH, 0, none⟩ = false := by simp [World.frozen?, hh]
          have e1 : W.frozen? ⟨gH, 1, none⟩ = false := by simp [World.frozen?, hh]
          have D5 : Hid _ := hD
          have O5 : Hid _ := hO
          clear hD hO hh x0 x1 x2 f0 f1 f2 y0 y1
          go_wp2_with fail
          have eb : b ≠ gH := by have := LW.out.1; have := EGH.out; omega
          refine bodyPost_ret (v := .tuple #[.agg #[.int .i64 (i : Int), .int .i64 (p + 1)], .int .i64 0]) (by simp [results, Tryd.results9, go_sem, g0, g1]) rfl ⟨?_, ?_, ?_⟩
          · unfold putS6 putG6 putE6
            rw [HK.out, if_pos q, if_pos q, if_pos q, HTi.out]
          · unfold putT6
            rw [HK.out, if_pos q, HTi.out]
            exact D5.out.kept ((Below.heap_setCell _ _ _ _ eb).trans (Below.heap_setCell _ _ _ _ eb))
          exact ⟨O5.out.os, O5.out.tape, O5.out.output, by simpa [World.setCell] using O5.out.size, fun k hk hne => (Below.heap_setCell _ _ _ _ (by show k ≠ gH; have := EGH.out; omega)).trans ((Below.heap_setCell _ _ _ _ (by show k ≠ gH; have := EGH.out; omega)).trans (O5.out.block k hk hne))⟩
        have d3 : decide (p < last) = false := decide_eq_false pl
        go_upto_region 4 with fail
        go_quiet (fail)
        go_wp2_with fail
        go_roundw
        case rel => exact ⟨i + 1, by omega, by go_num, (HH.out.drew _).next q (by rw [HV.out, d3]; rfl)⟩
        case measure => simp [intOf] <;> omega
    have r0 : decide (i < n) = false := decide_eq_false q
    have HK : Hid (¬ putK T n last < n) := by
      have e := HH.out.eq
      rw [show n - i = 0 by omega, fstV] at e
      show ¬ _
      omega
    have hh := HH.out.hh
    have g0 : wr.cell? ⟨gH, 0, none⟩ = some (.int .i64 0) := by simp only [World.cell?, hh]; rfl
    have g1 : wr.cell? ⟨gH, 1, none⟩ = some (.int .i64 0) := by simp only [World.cell?, hh]; rfl
    have e0 : wr.frozen? ⟨gH, 0, none⟩ = false := by simp [World.frozen?, hh]
    have e1 : wr.frozen? ⟨gH, 1, none⟩ = false := by simp [World.frozen?, hh]
    clear hh q
    go_wp2_with fail
    have eb : b ≠ gH := by have := LW.out.1; have := EGH.out; omega
    refine bodyPost_ret (v := .tuple #[.agg #[.int .i64 0, .int .i64 0], .int .i64 61]) (by simp [results, Tryd.results9, go_sem, g0, g1]) rfl ⟨?_, ?_, ?_⟩
    · unfold putS6 putG6 putE6
      rw [if_neg HK.out, if_neg HK.out, if_neg HK.out]
    · unfold putT6
      rw [if_neg HK.out]
      exact HH.out.dr.kept ((Below.heap_setCell _ _ _ _ eb).trans (Below.heap_setCell _ _ _ _ eb))
    exact ⟨HH.out.bel.os, HH.out.bel.tape, HH.out.bel.output, by simpa [World.setCell] using HH.out.bel.size, fun k hk hne => (Below.heap_setCell _ _ _ _ (by show k ≠ gH; have := EGH.out; omega)).trans ((Below.heap_setCell _ _ _ _ (by show k ≠ gH; have := EGH.out; omega)).trans (HH.out.bel.block k hk))⟩
abbrev Pr6 := Int × Int × Int
def pcs (x : Pr6) : List Value := [.int .i64 x.1, .int .i64 x.2.1, .int .i64 x.2.2]
def pcss (L : List Pr6) : List Value := L.flatMap pcs
theorem pcss_app (L M : List Pr6) : pcss (L ++ M) = pcss L ++ pcss M := by simp [pcss]
def Pw (base : Nat) (W : World) (v : Value) (L : List Pr6) : Prop := W.ownsRow base 58 3 v L.length (pcss L)
theorem Pw.nil (base : Nat) (W : World) : Pw base W (.slice none 0 0) [] := ⟨rfl, .inl ⟨rfl, rfl⟩⟩
theorem Pw.own {base : Nat} {W : World} {v : Value} {L : List Pr6} (h : Pw base W v L) {k : Nat} (hk : v.ownBlock = some k) : base ≤ k ∧ ∃ cs, W.heap[k]? = some (.cells cs 58) := by
  rcases h.2 with ⟨e, _⟩ | ⟨g, cap', cur, e, hb', hg, _⟩
  · rw [e] at hk
    cases hk
  rw [e] at hk
  cases hk
  exact ⟨hb', cur, hg⟩
theorem Pw.kept {base : Nat} {W W' : World} {v : Value} {L : List Pr6} (h : Pw base W v L) (hk : ∀ k, v.ownBlock = some k → W'.heap[k]? = W.heap[k]?) : Pw base W' v L := by
  refine ⟨h.1, h.2.imp id ?_⟩
  rintro ⟨g, cap, cur, e, hb, hg, rest⟩
  exact ⟨g, cap, cur, e, hb, (hk g (by rw [e]; rfl)).trans hg, rest⟩
theorem Pw.below {base : Nat} {W W' : World} {v : Value} {L : List Pr6} (h : Pw base W v L) (hB : Below W.heap.size W W') : Pw base W' v L := h.kept fun k hk => by
  obtain ⟨_, cs, e⟩ := h.own hk
  exact hB.block _ (Array.getElem?_eq_some_iff.1 e).1
theorem Tryd.infoP6 : (Tryd.prog.info? 58).map (fun i => (i.zero, i.size, i.bytes)) = some (some (.agg #[.int .i64 0, .int .i64 0, .int .i64 0]), 3, 24) := by kernel_rfl
theorem ax_add (b o j : Nat) : (⟨b, o, none⟩ : Addr).add j = ⟨b, o + j, none⟩ := by unfold Addr.add; split <;> simp_all
theorem app_run6 (w : World) (ty : TypeId) (base : Nat) (v : Value) (xs : List Pr6) (hown : Pw base w v xs) (g : Nat) (y : Pr6) (h0 : w.cell? ⟨g, 0, none⟩ = some (.int .i64 y.1)) (h1 : w.cell? ⟨g, 1, none⟩ = some (.int .i64 y.2.1)) (h2 : w.cell? ⟨g, 2, none⟩ = some (.int .i64 y.2.2)) (hlim : xs.length ≤ 1000000) (hb : base ≤ w.heap.size) :
    ∃ v' w', (Builtin.append_ #[55, 55] ty #[v, .slice (some ⟨g, 0, none⟩) 1 1]).run Tryd.prog w = .ok v' w' ∧ Pw base w' v' (xs ++ [y]) ∧ w.grownBy w' v.ownBlock := by
  obtain ⟨i, hi, hz, hsz, hby⟩ := info_parts Tryd.infoP6
  obtain ⟨v', w', r1, r2, r3, _, _⟩ := run_append_own_at (P := Tryd.prog) w base 55 ty 58 i _ 3 24 Tryd.underlying55 hi hz hsz hby rfl (by omega) v _ _ hown ⟨g, 0, none⟩ 1 1 (pcss [y]) rfl (fun j u hj => by
    rw [ax_add, Nat.zero_add]
    match j, hj with
    | 0, hj => cases hj; exact h0
    | 1, hj => cases hj; exact h1
    | 2, hj => cases hj; exact h2
    | j + 3, hj => simp [pcss, pcs] at hj) (fun u' hu' => by
    simp [pcss, pcs] at hu'
    rcases hu' with rfl | rfl | rfl <;> rfl) (by simp only [maxLen]; omega) (by omega) hb
  refine ⟨v', w', r1, ?_, r3⟩
  show World.ownsRow _ _ _ _ _ _ _
  rw [List.length_append, pcss_app]
  exact r2
theorem step_app6 {P : Program} {ops : Array Oper} {o : Oper} {a : Act} {w : World} {K : Act → World → Prop} {Q : Exit → Act → World → Prop} {E : Prop} (hg : o.guard = none) (s x : Operand) (t : TypeId) (hop : o.op = Op.call { callee := Callee.builtin Builtin.append, args := #[s, x], argTypes := #[t, t] }) (sv xv : Value) (hs : a.eval s = sv) (hx : a.eval x = xv) (v' : Value) (w' : World)
    (hrun : (Builtin.append_ #[t, t] o.type #[sv, xv]).run P w = .ok v' w') (hK : K (a.put o.dst v') w') : if Region.wanted o (yielded ops a.tmps) = true then Oper.wp P o a w K Q else E := by
  have hw : Region.wanted o (yielded ops a.tmps) = true := by simp [Region.wanted, hg]
  rw [if_pos hw]
  unfold Oper.wp
  simp [execOp, hop, resolve, invoke, builtin, hs, hx, hrun, Result.andThen]
  exact hK
def allL (T : Nat → Int × Bool × Int) : Nat → List Pr6
  | 0 => []
  | m + 1 => allL T m ++ if (T m).2.1 then [((m : Int), (T m).1, (T m).2.2)] else []
theorem allL_len (T : Nat → Int × Bool × Int) : ∀ m, (allL T m).length ≤ m
  | 0 => Nat.le_refl _
  | m + 1 => by
    have := allL_len T m
    rw [allL, List.length_append]
    split <;> simp <;> omega
structure Al (w wr : World) (b n cap : Nat) (T : Nat → Int × Bool × Int) (last : Int) (v : Value) (i : Nat) : Prop where
  bel : Below w.heap.size w wr
  dr : Dr wr b n T
  row : Pw w.heap.size wr v (allL T i)
  bx : wr.heap[w.heap.size]? = some (.cells #[.slice (some ⟨b, 0, none⟩) n cap, .int .i64 last] 30)
set_option maxHeartbeats 2000000 in
theorem rall6_any (b n cap : Nat) (T : Nat → Int × Bool × Int) (last : Int) (w : World) (h : Dr w b n T) (hn : n ≤ 65536) :
    Calls Tryd.prog 18 #[.agg #[.slice (some ⟨b, 0, none⟩) n cap, .int .i64 last]] w fun e w' => ∃ v, e = .returned v ∧ Pw w.heap.size w' v (allL T n) ∧ Below w.heap.size w w' := by
  have LB : Hid (b < w.heap.size) := h.lt
  have BB : Below w.heap.size w (w.alloc (.cells #[.slice (some ⟨b, 0, none⟩) n cap, .int .i64 last] 30)) := bx_al (Below.refl _ _)
  have S0 : Hid (Al w (w.alloc (.cells #[.slice (some ⟨b, 0, none⟩) n cap, .int .i64 last] 30)) b n cap T last (.slice none 0 0) 0) := ⟨BB, h.go BB, Pw.nil _ _, ax_at _ _⟩
  clear h BB
  go_enter Tryd.func18, Tryd.ntmps18
  go_wp2_with fail
  go_loopw [3, 4] (fun t3 t4 wr => ∃ i : Nat, i ≤ n ∧ t4 = .int .i64 (i : Int) ∧ Hid (Al w wr b n cap T last t3 i)) (fun _ t4 _ => n + 1 - (intOf t4).toNat)
  case atStart => exact ⟨0, by omega, rfl, S0⟩
  case round =>
    obtain ⟨i, hi, rfl, HH⟩ := hrel
    clear S0
    have hbx := HH.out.bx
    have y0 : wr.cell? ⟨w.heap.size, 0, none⟩ = some (.slice (some ⟨b, 0, none⟩) n cap) := by simp only [World.cell?, hbx]; rfl
    clear hbx
    by_cases q : i < n
    · have r0 : decide ((i : Int) < (n : Int)) = true := decide_eq_true (by omega)
      have r1 : (i : Int) < (n : Int) := by omega
      obtain ⟨x0, x1, x2⟩ := HH.out.dr.cell q
      have HA : Hid (allL T (i + 1) = allL T i ++ if (T i).2.1 then [((i : Int), (T i).1, (T i).2.2)] else []) := rfl
      obtain ⟨⟨p, z, r⟩, hTi⟩ : ∃ x, T i = x := ⟨_, rfl⟩
      rw [hTi] at x0 x1 x2 HA
      dsimp only at x0 x1 x2 HA
      clear hTi
      cases z with
      | false =>
        have HA2 : Hid (allL T (i + 1) = allL T i) := HA.out.trans (List.append_nil _)
        clear HA
        go_wp2_with fail
        go_roundw
        case rel => exact ⟨i + 1, by omega, by go_num, HH.out.bel, HH.out.dr, by rw [HA2.out]; exact HH.out.row, HH.out.bx⟩
        case measure => simp [intOf] <;> omega
      | true =>
        have HA2 : Hid (allL T (i + 1) = allL T i ++ [((i : Int), p, r)]) := HA.out
        clear HA
        have LL := allL_len T i
        have BM : Hid (Below wr.heap.size wr (wr.alloc (.cells #[.int .i64 (i : Int), .int .i64 p, .int .i64 r] 58)).drew) := bx_drew (bx_al (Below.refl _ _)) 1
        have hat := ax_at wr (.cells #[.int .i64 (i : Int), .int .i64 p, .int .i64 r] 58)
        obtain ⟨v', Wa, hr, hP, hG⟩ := app_run6 (wr.alloc (.cells #[.int .i64 (i : Int), .int .i64 p, .int .i64 r] 58)).drew 55 w.heap.size u3 (allL T i) (HH.out.row.below BM.out) wr.heap.size ((i : Int), p, r) (by show World.cell? (wr.alloc _) _ = _; simp only [World.cell?, hat]; rfl) (by show World.cell? (wr.alloc _) _ = _; simp only [World.cell?, hat]; rfl) (by show World.cell? (wr.alloc _) _ = _; simp only [World.cell?, hat]; rfl) (by omega) (by have := HH.out.bel.size; have := BM.out.size; omega)
        have HP : Hid _ := hP
        have szm := BM.out.size
        have szr := HH.out.bel.size
        have hw := (Array.getElem?_eq_some_iff.1 HH.out.bx).1
        have B5 : Hid (Below w.heap.size w Wa) := (bx_go HH.out.bel BM.out).grown hG (by omega) fun k hk => (HH.out.row.own hk).1
        have D5 : Hid (Dr Wa b n T) := HH.out.dr.kept ((hG.block b (by have := LB.out; omega) (fun e => by have := (HH.out.row.own e.symm).1; have := LB.out; omega)).trans (BM.out.block b (by have := LB.out; omega)))
        have X5 : Hid (Wa.heap[w.heap.size]? = some (.cells #[.slice (some ⟨b, 0, none⟩) n cap, .int .i64 last] 30)) := (hG.block _ (by omega) (fun e => by
          obtain ⟨_, cs, e2⟩ := HH.out.row.own e.symm
          rw [HH.out.bx] at e2
          injection e2 with e2
          injection e2 with _ e3 _
          exact absurd e3 (by decide))).trans ((BM.out.block _ hw).trans HH.out.bx)
        clear hG hat hP szm szr hw
        go_upto_region 6 with fail
        go_region_law (refine step_app6 rfl (.tmp 18) (.tmp 34) 55 rfl _ _ rfl rfl _ Wa hr ?_)
        all_goals (
          go_wp2_with fail
          go_roundw
          case rel => exact ⟨i + 1, by omega, by go_num, B5.out, D5.out, by rw [HA2.out]; exact HP.out, X5.out⟩
          case measure => simp [intOf] <;> omega)
    have r0 : decide (i < n) = false := decide_eq_false q
    have en : i = n := by omega
    subst en
    clear q
    go_wp2_with fail
    go_ret
    exact ⟨_, rfl, HH.out.row, HH.out.bel⟩
def updB (L : Nat → Bool) (i : Nat) : Nat → Bool := fun j => if j = i then true else L j
def updV (vs : Nat → Value) (i : Nat) (v : Value) : Nat → Value := fun j => if j = i then v else vs j
structure Fr (ops : Array Oper) (a0 : Act) (L : Nat → Bool) (vs : Nat → Value) (a : Act) : Prop where
  size : a.tmps.size = a0.tmps.size
  defers : a.defers = a0.defers
  out : ∀ t, (∀ (j : Nat) o, ops[j]? = some o → L j = true → o.dst ≠ some t) → a.tmps.getD t undef = a0.tmps.getD t undef
  inn : ∀ (j : Nat) o t, ops[j]? = some o → L j = true → o.dst = some t → a.tmps.getD t undef = vs j
structure Good (ops : Array Oper) (a0 : Act) : Prop where
  once : ∀ (i j : Nat) oi oj t, ops[i]? = some oi → ops[j]? = some oj → oi.dst = some t → oj.dst = some t → i = j
  lt : ∀ (i : Nat) oi t, ops[i]? = some oi → oi.dst = some t → t < a0.tmps.size
theorem put_getD_same (a : Act) (t : Nat) (v : Value) (h : t < a.tmps.size) : (a.put (some t) v).tmps.getD t undef = v := by
  simp [Act.put, h]
theorem put_getD_other (a : Act) (d : Option Nat) (t : Nat) (v : Value) (h : d ≠ some t) : (a.put d v).tmps.getD t undef = a.tmps.getD t undef := by
  cases d with
  | none => rfl
  | some d =>
    have hne : d ≠ t := fun e => h (by rw [e])
    simp [Act.put, Array.getElem?_setIfInBounds_ne hne]
theorem put_size (a : Act) (d : Option Nat) (v : Value) : (a.put d v).tmps.size = a.tmps.size := by cases d <;> simp [Act.put]
theorem put_defers' (a : Act) (d : Option Nat) (v : Value) : (a.put d v).defers = a.defers := by cases d <;> rfl
theorem Fr.step {ops : Array Oper} {a0 a : Act} {L : Nat → Bool} {vs : Nat → Value} (h : Fr ops a0 L vs a) (hg : Good ops a0) {i : Nat} {o : Oper} (hi : ops[i]? = some o) (hL : L i = false) (v : Value) :
    Fr ops a0 (updB L i) (updV vs i v) (a.put o.dst v) := by
  refine ⟨by rw [put_size, h.size], by rw [put_defers', h.defers], fun t ht => ?_, fun j oj t hj hLj ht => ?_⟩
  · have h1 : o.dst ≠ some t := ht i o hi (by simp [updB])
    rw [put_getD_other _ _ _ _ h1]
    refine h.out t fun j oj hj hLj => ?_
    have := ht j oj hj (by unfold updB; split <;> simp_all)
    exact this
  by_cases e : j = i
  · subst e
    rw [hi] at hj
    cases hj
    rw [ht]
    have := hg.lt j o t hi ht
    rw [put_getD_same _ _ _ (by rw [h.size]; exact this)]
    simp [updV]
  have h1 : o.dst ≠ some t := fun e2 => e (hg.once j i oj o t hj hi ht e2)
  rw [put_getD_other _ _ _ _ h1, h.inn j oj t hj (by simpa [updB, e] using hLj) ht]
  simp [updV, e]
def Owes (F : Fence) (n : Nat) (P : Program) (ops : Array Oper) (Q : Exit → Act → World → Prop) (a0 : Act) (J : (Nat → Bool) → (Nat → Value) → World → Prop) (i : Nat) (o : Oper) : Prop :=
  ∀ L vs a w, J L vs w → Fr ops a0 L vs a → (∀ e ∈ o.after, Region.binds .any e = true → L e.on = true) → L i = false →
    if Region.wanted o (yielded ops a.tmps) then o.wpIn F n P a w (fun a' w' => ∃ v, a' = a.put o.dst v ∧ J (updB L i) (updV vs i v) w') Q else (∀ f, o.about P w a.eval = some f → F.fn f) ∧ J (updB L i) (updV vs i undef) w
def OwesAll (Φ : Nat → Oper → Prop) : Nat → List Oper → Prop
  | _, [] => True
  | k, o :: l => Φ k o ∧ OwesAll Φ (k + 1) l
theorem OwesAll.at {Φ : Nat → Oper → Prop} : ∀ {k : Nat} {l : List Oper}, OwesAll Φ k l → ∀ i o, l[i]? = some o → Φ (k + i) o
  | k, [], _, i, o, h => by simp at h
  | k, x :: l, h, i, o, hi => by
    cases i with
    | zero => simp at hi; subst hi; exact h.1
    | succ i =>
      have := OwesAll.at h.2 i o (by simpa using hi)
      rw [show k + (i + 1) = k + 1 + i by omega]
      exact this
def left (n : Nat) (L : Nat → Bool) : Nat := ((List.range n).filter fun i => !L i).length
theorem left_upd {n : Nat} {L : Nat → Bool} {i : Nat} (hi : i < n) (h : L i = false) : left n (updB L i) + 1 = left n L := by
  unfold left
  induction n with
  | zero => omega
  | succ n ih =>
    rw [List.range_succ, List.filter_append, List.filter_append, List.length_append, List.length_append]
    by_cases e : i = n
    · subst e
      have h1 : ((List.range i).filter fun j => !updB L i j) = (List.range i).filter fun j => !L j := List.filter_congr fun j hj => by
        have : j ≠ i := by have := List.mem_range.1 hj; omega
        simp [updB, this]
      rw [h1]
      simp [updB, h]
    have h2 := ih (by omega)
    have h3 : ([n].filter fun j => !updB L i j) = [n].filter fun j => !L j := by simp [updB, Ne.symm e, List.filter_cons]
    rw [h3]
    omega
theorem wpAnyIn_inv {F : Fence} {n : Nat} {P : Program} {ops : Array Oper} {Q : Exit → Act → World → Prop} {a0 : Act} {J : (Nat → Bool) → (Nat → Value) → World → Prop} (hg : Good ops a0) (hback : ∀ (i : Nat) o, ops[i]? = some o → ∀ e ∈ o.after, Region.binds .any e = true → e.on < i)
    (hop : ∀ (i : Nat) o, ops[i]? = some o → Owes F n P ops Q a0 J i o) (hfin : ∀ L vs a w, (∀ i, i < ops.size → L i = true) → Fr ops a0 L vs a → J L vs w → Q .normal a w) :
    ∀ (fuel : Nat) (listed : Array Bool) (L : Nat → Bool) (vs : Nat → Value) (a : Act) (w : World), listed.size = ops.size → (∀ i, i < ops.size → listed.getD i true = L i) → left ops.size L = fuel → Fr ops a0 L vs a → J L vs w → wpAnyIn F n P .any ops Q fuel listed a w
  | fuel, listed, L, vs, a, w, hsz, hL, hf, hF, hJ => by
    have hall : left ops.size L = 0 → ∀ i, i < ops.size → L i = true := fun h0 i hi => by
      cases hLi : L i
      · have := left_upd hi hLi
        omega
      rfl
    have hnone : left ops.size L ≠ 0 → Region.ready .any ops listed ≠ [] := fun hne hr => by
      have hex : ∃ i, i < ops.size ∧ L i = false := by
        rcases Classical.em (∃ i, i < ops.size ∧ L i = false) with h | h
        · exact h
        exfalso
        apply hne
        unfold left
        rw [List.length_eq_zero_iff, List.filter_eq_nil_iff]
        intro i hi
        have := List.mem_range.1 hi
        cases hLi : L i
        · exact absurd ⟨i, this, hLi⟩ h
        simp
      obtain ⟨i, hi, hmin⟩ := exists_least hex
      have ho : ops[i]? = some (ops[i]'hi.1) := Array.getElem?_eq_getElem hi.1
      have hmem : i ∈ Region.ready .any ops listed := mem_ready.2 ⟨(hL i hi.1).trans hi.2, _, ho, fun e he hb => by
        have hlt := hback i _ ho e he hb
        have h1 : L e.on = true := by
          cases hLe : L e.on
          · have := hmin e.on ⟨by omega, hLe⟩
            omega
          rfl
        have h2 := hL e.on (by omega)
        rw [h1] at h2
        have h3 : e.on < listed.size := by omega
        simpa [h3] using h2⟩
      rw [hr] at hmem
      cases hmem
    match fuel with
    | 0 =>
      refine ⟨?_, hfin L vs a w (hall hf) hF hJ⟩
      refine List.eq_nil_iff_forall_not_mem.2 fun i hi => ?_
      obtain ⟨h1, o, ho, _⟩ := mem_ready.1 hi
      have hlt : i < ops.size := (Array.getElem?_eq_some_iff.1 ho).1
      rw [hL i hlt, hall hf i hlt] at h1
      cases h1
    | fuel + 1 =>
      refine ⟨fun hr => absurd hr (hnone (by omega)), fun i hi => ?_⟩
      obtain ⟨h1, o, ho, hedges⟩ := mem_ready.1 hi
      have hlt : i < ops.size := (Array.getElem?_eq_some_iff.1 ho).1
      have hLi : L i = false := (hL i hlt).symm.trans h1
      have hP : ∀ e ∈ o.after, Region.binds .any e = true → L e.on = true := fun e he hb => by
        have h2 := hedges e he hb
        have h3 := hback i o ho e he hb
        have h4 : e.on < listed.size := by omega
        rw [← hL e.on (by omega)]
        simpa [h4] using h2
      have key := hop i o ho L vs a w hJ hF hP hLi
      have go : ∀ v w', J (updB L i) (updV vs i v) w' → wpAnyIn F n P .any ops Q fuel (listed.setIfInBounds i true) (a.put o.dst v) w' := fun v w' hJ' =>
        wpAnyIn_inv hg hback hop hfin fuel _ (updB L i) (updV vs i v) _ w' (by simpa using hsz) (fun j hj => by
          by_cases e : j = i
          · subst e
            have : j < listed.size := by omega
            simp [updB, this]
          rw [getD_set_ne true (Ne.symm e), hL j hj]
          simp [updB, e]) (by have := left_upd hlt hLi; omega) (hF.step hg ho hLi v) hJ'
      unfold wpOpIn
      simp only [ho]
      split
      · rename_i hw
        rw [if_pos hw] at key
        exact Oper.wpIn_mono (fun a' w' ⟨v, e, hj⟩ => by subst e; exact go v w' hj) key
      rename_i hw
      rw [if_neg hw] at key
      exact ⟨key.1, go undef w key.2⟩
def putL : List Oper → (Nat → Value) → Nat → Act → Act
  | [], _, _, a => a
  | o :: l, vs, k, a => putL l vs (k + 1) (a.put o.dst (vs k))
theorem Fr.congr {ops : Array Oper} {a0 a : Act} {L L' : Nat → Bool} {vs vs' : Nat → Value} (h : Fr ops a0 L vs a) (hL : ∀ j, L j = L' j) (hv : ∀ j, vs j = vs' j) : Fr ops a0 L' vs' a := by
  rw [← show L = L' from funext hL, ← show vs = vs' from funext hv]
  exact h
theorem putL_fr {ops : Array Oper} {a0 : Act} {vs : Nat → Value} (hg : Good ops a0) : ∀ (l : List Oper) (k : Nat) (b : Act), ops.toList.drop k = l → Fr ops a0 (fun j => decide (j < k)) vs b → ∃ m, ops.size ≤ m ∧ Fr ops a0 (fun j => decide (j < m)) vs (putL l vs k b)
  | [], k, b, hl, h => ⟨k, by have := List.drop_eq_nil_iff.1 hl; simpa using this, h⟩
  | o :: l, k, b, hl, h => by
    have hk : ops[k]? = some o := by
      have : (ops.toList.drop k)[0]? = some o := by rw [hl]; rfl
      simpa using this
    have hl2 : ops.toList.drop (k + 1) = l := by
      have : (ops.toList.drop k).drop 1 = l := by rw [hl]; rfl
      simpa [List.drop_drop, Nat.add_comm] using this
    have h2 := (h.step hg hk (by simp) (vs k)).congr (L' := fun j => decide (j < k + 1)) (vs' := vs) (fun j => by unfold updB; by_cases e : j = k <;> simp [e] <;> omega) (fun j => by unfold updV; split <;> simp_all)
    exact putL_fr hg l (k + 1) _ hl2 h2
theorem Fr.start (ops : Array Oper) (a0 : Act) (vs : Nat → Value) : Fr ops a0 (fun _ => false) vs a0 := ⟨rfl, rfl, fun _ _ => rfl, fun _ _ _ _ h => by cases h⟩
theorem Fr.ext {ops : Array Oper} {a0 a b : Act} {L L' : Nat → Bool} {vs : Nat → Value} (h : Fr ops a0 L vs a) (k : Fr ops a0 L' vs b) (hL : ∀ i, i < ops.size → L i = true) (hL' : ∀ i, i < ops.size → L' i = true) : a = b := by
  have key : ∀ t, a.tmps.getD t undef = b.tmps.getD t undef := fun t => by
    rcases Classical.em (∃ (j : Nat) (o : Oper), ops[j]? = some o ∧ o.dst = some t) with ⟨j, o, hj, ht⟩ | hne
    · have hlt : j < ops.size := (Array.getElem?_eq_some_iff.1 hj).1
      rw [h.inn j o t hj (hL j hlt) ht, k.inn j o t hj (hL' j hlt) ht]
    rw [h.out t fun j o hj _ ht => hne ⟨j, o, hj, ht⟩, k.out t fun j o hj _ ht => hne ⟨j, o, hj, ht⟩]
  obtain ⟨at', ad⟩ := a
  obtain ⟨bt, bd⟩ := b
  have hs : at'.size = bt.size := h.size.trans k.size.symm
  have hd : ad = bd := h.defers.trans k.defers.symm
  have ht : at' = bt := Array.ext hs fun i h1 h2 => by
    have := key i
    simpa [h1, h2] using this
  rw [hd, ht]
theorem Fr.all {ops : Array Oper} {a0 a : Act} {L : Nat → Bool} {vs : Nat → Value} (hg : Good ops a0) (h : Fr ops a0 L vs a) (hL : ∀ i, i < ops.size → L i = true) : a = putL ops.toList vs 0 a0 := by
  obtain ⟨m, hm, hF⟩ := putL_fr (vs := vs) hg ops.toList 0 a0 rfl ((Fr.start ops a0 vs).congr (fun j => by simp) (fun _ => rfl))
  exact h.ext hF hL fun i hi => by simp; omega
def goodB (l : List Oper) (n : Nat) : Bool :=
  (l.filterMap (·.dst)).all (fun t => decide (t < n)) && ((List.range l.length).all fun i => (List.range l.length).all fun j => i == j || (match (l[i]?).bind (·.dst), (l[j]?).bind (·.dst) with | some t, some u => t != u | _, _ => true)) &&
  ((List.range l.length).all fun i => ((l[i]?).map fun o => o.after.toList.all fun e => !Region.binds .any e || decide (e.on < i)).getD true)
theorem good_of {ops : Array Oper} {a0 : Act} (h : goodB ops.toList a0.tmps.size = true) : Good ops a0 ∧ ∀ (i : Nat) o, ops[i]? = some o → ∀ e ∈ o.after, Region.binds .any e = true → e.on < i := by
  unfold goodB at h
  rw [Bool.and_eq_true, Bool.and_eq_true] at h
  obtain ⟨⟨h1, h2⟩, h3⟩ := h
  refine ⟨⟨fun i j oi oj t hi hj hti htj => ?_, fun i oi t hi ht => ?_⟩, fun i o hi e he hb => ?_⟩
  · have li : i < ops.toList.length := by have := (Array.getElem?_eq_some_iff.1 hi).1; simpa using this
    have lj : j < ops.toList.length := by have := (Array.getElem?_eq_some_iff.1 hj).1; simpa using this
    have := List.all_eq_true.1 (List.all_eq_true.1 h2 i (List.mem_range.2 li)) j (List.mem_range.2 lj)
    have ei : ops.toList[i]? = some oi := by simpa using hi
    have ej : ops.toList[j]? = some oj := by simpa using hj
    rw [ei, ej] at this
    simpa [hti, htj] using this
  · have := List.all_eq_true.1 h1 t (List.mem_filterMap.2 ⟨oi, by have := Array.mem_of_getElem? hi; simpa using this, ht⟩)
    simpa using this
  have li : i < ops.toList.length := by have := (Array.getElem?_eq_some_iff.1 hi).1; simpa using this
  have h4 := List.all_eq_true.1 h3 i (List.mem_range.2 li)
  have ei : ops.toList[i]? = some o := by simpa using hi
  rw [ei] at h4
  simp only [Option.map_some, Option.getD_some] at h4
  have := List.all_eq_true.1 h4 e (by simpa using he)
  simpa [hb] using this
theorem wpIn_region_inv {F : Fence} {nF : Nat} {P : Program} {id : Nat} {ops : Array Oper} {Q : Exit → Act → World → Prop} {a0 : Act} {w : World} (J : (Nat → Bool) → (Nat → Value) → World → Prop) (n : Nat) (hm : P.follows .mixedOrders = true) (hn : a0.tmps.size = n) (hg : goodB ops.toList n = true)
    (h0 : J (fun _ => false) (fun _ => undef) w.drew) (hop : goodB ops.toList n = true → a0.tmps.size = n → OwesAll (Owes F nF P ops Q a0 J) 0 ops.toList) (hfin : ∀ L vs w', (∀ i, i < ops.size → L i = true) → J L vs w' → Q .normal (putL ops.toList vs 0 a0) w') :
    (Code.region id ops true).wpIn F nF P Q a0 w := by
  subst hn
  obtain ⟨g1, g2⟩ := good_of hg
  refine wpIn_region_any hm (wpAnyIn_inv g1 g2 (fun i o hi => ?_) (fun L vs a w' hL hF hJ => ?_) ops.size _ (fun _ => false) (fun _ => undef) a0 _ (by simp) (fun i hi => by simp [hi]) ?_ (Fr.start _ _ _) h0)
  · have := (hop hg rfl).at i o (by simpa using hi)
    rw [Nat.zero_add] at this
    exact this
  · rw [hF.all g1 hL]
    exact hfin L vs w' hL hJ
  unfold left
  rw [List.filter_eq_self.2 (by simp)]
  simp
end Go.Proofs.YtdobjanhmllloaaDoor
namespace Go.Proofs.YtdobjanhmllloaaDoor
open Go.RowKit
set_option maxRecDepth 100000
set_option linter.unusedVariables false
theorem run_valF {P : Program} {l n : Nat} {ops : Array Oper} {Q : Exit → Act → World → Prop} {K : Act → World → Prop} {o : Oper} {a : Act} {w w' : World} {X : Prop} {v : Value} (hw : Region.wanted o (yielded ops a.tmps) = true) (hnd : ∀ c, o.op ≠ .defer c) (hr : (execOp a.eval o).run P w = .ok (.value v) w') (h : K (a.put o.dst v) w') : if Region.wanted o (yielded ops a.tmps) then o.wpIn (Fence.wide.inRound l) n P a w K Q else X := by
  rw [if_pos hw]
  refine ⟨fun _ _ => trivial, ?_⟩
  show o.uponIn _ n P a K Q ((Oper.semAt (some l) a.eval o).run P w)
  rw [Oper.semAt_some l _ _ hnd, hr]
  exact h
theorem run_roundF {P : Program} {l n : Nat} {ops : Array Oper} {Q : Exit → Act → World → Prop} {K : Act → World → Prop} {o : Oper} {a : Act} {w : World} {X : Prop} {l' : Nat} {f : FuncId} {tmps : Array Value} {assign body : Code} {R : Ending → World → Prop} (hw : Region.wanted o (yielded ops a.tmps) = true) (hnd : ∀ c, o.op ≠ .defer c) (hr : (execOp a.eval o).run P w = .ok (.round l' f tmps assign body) w) (hc : RoundIn (Fence.wide.inRound l) (n - 1) P l' f tmps assign body w R) (h : ∀ e w', R e w' → ∃ v, e = .returned v ∧ K (a.put o.dst v) w') : if Region.wanted o (yielded ops a.tmps) then o.wpIn (Fence.wide.inRound l) n P a w K Q else X := by
  rw [if_pos hw]
  refine ⟨fun _ _ => trivial, ?_⟩
  show o.uponIn _ n P a K Q ((Oper.semAt (some l) a.eval o).run P w)
  rw [Oper.semAt_some l _ _ hnd, hr]
  refine ⟨fun h => (by cases h), ?_⟩
  refine RoundIn.mono hc fun e w'' he => ?_
  obtain ⟨v, rfl, hk⟩ := h e w'' he
  exact hk
theorem Fr.slot {ops : Array Oper} {a0 a : Act} {L : Nat → Bool} {vs : Nat → Value} (h : Fr ops a0 L vs a) (j t : Nat) (hd : (ops[j]?).bind (·.dst) = some t) (hL : L j = true) : (a.tmps[t]?).getD undef = vs j := by
  cases ho : ops[j]? with
  | none => rw [ho] at hd; cases hd
  | some o =>
    rw [ho] at hd
    have := h.inn j o t ho hL hd
    simpa using this
theorem Fr.old {ops : Array Oper} {a0 a : Act} {L : Nat → Bool} {vs : Nat → Value} (h : Fr ops a0 L vs a) (t : Nat) (hd : ops.toList.all (fun o => o.dst != some t) = true) : (a.tmps[t]?).getD undef = a0.eval (.tmp t) := by
  have e : (a.tmps[t]?).getD undef = a.tmps.getD t undef := by simp
  rw [e]
  refine h.out t fun j o ho _ e => ?_
  have := List.all_eq_true.1 hd o (by have := Array.mem_of_getElem? ho; simpa using this)
  rw [e] at this
  simp at this
theorem updB_ne {L : Nat → Bool} {i j : Nat} (h : j ≠ i) : updB L i j = L j := by simp [updB, h]
theorem updB_eq {L : Nat → Bool} {i : Nat} : updB L i i = true := by simp [updB]
theorem updV_ne {vs : Nat → Value} {i j : Nat} {v : Value} (h : j ≠ i) : updV vs i v j = vs j := by simp [updV, h]
theorem updV_eq {vs : Nat → Value} {i : Nat} {v : Value} : updV vs i v i = v := by simp [updV]
theorem wanted_of {o : Oper} {ops : Array Oper} {a : Act} {j t : Nat} {b : Bool} (hg : o.guard = some (j, b)) (hd : (ops[j]?).bind (·.dst) = some t) (hv : (a.tmps[t]?).getD undef = .bool b) : Region.wanted o (yielded ops a.tmps) = true := by
  unfold Region.wanted
  rw [hg]
  show (yielded ops a.tmps j == some b) = true
  unfold yielded
  rw [hd]
  show ((match a.tmps[t]? with | some (.bool b) => some b | _ => none) == some b) = true
  cases e : a.tmps[t]? with
  | none => rw [e] at hv; cases hv
  | some v =>
    rw [e] at hv
    cases hv
    simp
structure Jq (W : World) (cs : List Value) (L : Nat → Bool) (vs : Nat → Value) (w' : World) : Prop where
  eq : w' = W
  val : ∀ j, L j = true → vs j = cs.getD j undef
theorem Jq.start (W : World) (cs : List Value) : Jq W cs (fun _ => false) (fun _ => undef) W := ⟨rfl, fun _ h => by cases h⟩
theorem Jq.step {W : World} {cs : List Value} {L : Nat → Bool} {vs : Nat → Value} {w' : World} (h : Jq W cs L vs w') {j : Nat} {v : Value} (hv : v = cs.getD j undef) : Jq W cs (updB L j) (updV vs j v) w' := by
  refine ⟨h.eq, fun i hi => ?_⟩
  by_cases e : i = j
  · subst e
    rw [updV_eq]
    exact hv
  rw [updV_ne e]
  rw [updB_ne e] at hi
  exact h.val i hi
structure Jy (W : World) (cs : List Value) (m : Nat) (dps : List (Nat × Nat)) (D : Bool → World → Prop) (L : Nat → Bool) (vs : Nat → Value) (w' : World) : Prop where
  val : ∀ j, j < m → L j = true → vs j = cs.getD j undef
  dep : ∀ p ∈ dps, L p.1 = true → L p.2 = true
  bef : L m = false → w' = W ∧ L (m + 1) = false
  aft : L m = true → (∀ j, j < m → L j = true) ∧ ∃ b, vs m = .bool b ∧ D b w' ∧ (L (m + 1) = true → vs (m + 1) = .bool (!b))
section
variable {W : World} {cs : List Value} {m : Nat} {dps : List (Nat × Nat)} {D : Bool → World → Prop} {L : Nat → Bool} {vs : Nat → Value} {w' : World}
theorem Jy.start : Jy W cs m dps D (fun _ => false) (fun _ => undef) W := ⟨fun _ _ h => (by cases h), fun _ _ h => (by cases h), fun _ => ⟨rfl, rfl⟩, fun h => (by cases h)⟩
theorem Jy.ahead (h : Jy W cs m dps D L vs w') {j : Nat} (hj : j < m) (hL : L j = false) : L m = false ∧ w' = W := by
  cases e : L m with
  | false => exact ⟨rfl, (h.bef e).1⟩
  | true =>
    have := (h.aft e).1 j hj
    rw [hL] at this
    cases this
theorem Jy.early (h : Jy W cs m dps D L vs w') {j : Nat} (hj : j < m) (hL : L j = false) {v : Value} (hv : v = cs.getD j undef) (hd : ∀ p ∈ dps, p.1 = j → L p.2 = true ∧ p.2 ≠ j) : Jy W cs m dps D (updB L j) (updV vs j v) w' := by
  obtain ⟨h0, h1⟩ := h.ahead hj hL
  refine ⟨fun i hi hLi => ?_, fun p hp hLp => ?_, fun _ => ⟨h1, ?_⟩, fun hm => ?_⟩
  · by_cases e : i = j
    · subst e
      rw [updV_eq]
      exact hv
    rw [updV_ne e]
    rw [updB_ne e] at hLi
    exact h.val i hi hLi
  · by_cases e : p.1 = j
    · obtain ⟨h2, h3⟩ := hd p hp e
      rw [updB_ne h3]
      exact h2
    rw [updB_ne e] at hLp
    have := h.dep p hp hLp
    unfold updB
    split
    · rfl
    exact this
  · rw [updB_ne (by omega)]
    exact (h.bef h0).2
  rw [updB_ne (by omega), h0] at hm
  cases hm
theorem Jy.call (h : Jy W cs m dps D L vs w') (hL : L m = false) (hA : ∀ j, j < m → L j = true) (hd : ∀ p ∈ dps, p.1 ≠ m) (hd2 : ∀ p ∈ dps, p.2 ≠ m) {b : Bool} {w1 : World} (hD : D b w1) : Jy W cs m dps D (updB L m) (updV vs m (.bool b)) w1 := by
  refine ⟨fun i hi hLi => ?_, fun p hp hLp => ?_, fun hm => ?_, fun _ => ⟨fun j hj => ?_, b, updV_eq, hD, fun hm => ?_⟩⟩
  · rw [updV_ne (by omega)]
    rw [updB_ne (by omega)] at hLi
    exact h.val i hi hLi
  · rw [updB_ne (hd p hp)] at hLp
    rw [updB_ne (hd2 p hp)]
    exact h.dep p hp hLp
  · rw [updB_eq] at hm
    cases hm
  · rw [updB_ne (by omega)]
    exact hA j hj
  rw [updB_ne (by omega), (h.bef hL).2] at hm
  cases hm
theorem Jy.last (h : Jy W cs m dps D L vs w') (hm : L m = true) : ∃ b, vs m = .bool b ∧ ((∀ p ∈ dps, p.1 < m ∧ p.2 < m) → Jy W cs m dps D (updB L (m + 1)) (updV vs (m + 1) (.bool (!b))) w') := by
  obtain ⟨h1, b, h2, h3, _⟩ := h.aft hm
  refine ⟨b, h2, fun hd => ⟨fun i hi hLi => ?_, fun p hp hLp => ?_, fun hn => ?_, fun _ => ⟨fun j hj => ?_, b, ?_, h3, fun _ => updV_eq⟩⟩⟩
  · rw [updV_ne (by omega)]
    rw [updB_ne (by omega)] at hLi
    exact h.val i hi hLi
  · have := hd p hp
    rw [updB_ne (by omega)] at hLp
    rw [updB_ne (by omega)]
    exact h.dep p hp hLp
  · rw [updB_ne (by omega), hm] at hn
    cases hn
  · rw [updB_ne (by omega)]
    exact h1 j hj
  rw [updV_ne (by omega)]
  exact h2
end
end Go.Proofs.YtdobjanhmllloaaDoor
namespace Go.Proofs.YtdobjanhmllloaaDoor
open Go.RowKit
set_option maxRecDepth 100000
set_option linter.unusedVariables false
theorem Tryd.infoS6 : (Tryd.prog.info? 92).map (fun i => (i.zero, i.size, i.bytes)) = some (some (.agg #[.int .i64 0, .bool false, .int .i64 0]), 3, 24) := by kernel_rfl
theorem makeS6_at (L : Int) (n : Nat) (hL : L = n) (hm : n ≤ 1000000000) (w : World) :
    (Instr.makeSlice 28 (.int .i64 L) (.int .i64 L)).run Tryd.prog w = .ok (.slice (some ⟨w.heap.size, 0, none⟩) n n) (w.alloc (.cells (madeCells #[.int .i64 0, .bool false, .int .i64 0] (n * 3)) 92)) := by
  obtain ⟨i, hi, hz, hs, hb⟩ := info_parts Tryd.infoS6
  subst hL
  rw [run_make w 28 92 i (.agg #[.int .i64 0, .bool false, .int .i64 0]) Tryd.underlying28 hi hz .i64 .i64 n n (by omega) (by omega) (by rw [hb]; omega) (by omega), hs]
  simp [Value.cells]
theorem Dr.start (w : World) (n : Nat) : Dr (w.alloc (.cells (madeCells #[.int .i64 0, .bool false, .int .i64 0] (n * 3)) 92)) w.heap.size n (fun _ => (0, false, 0)) := by
  refine ⟨_, ax_at _ _, size_madeCells _ _, fun i hi => ?_⟩
  have key : ∀ j, j < 3 → (madeCells #[Value.int .i64 0, .bool false, .int .i64 0] (n * 3))[i * 3 + j]? = some ((#[Value.int .i64 0, .bool false, .int .i64 0] : Array Value)[j]!) := fun j hj => by
    unfold madeCells
    rw [Array.getElem?_map, Array.getElem?_eq_getElem (show i * 3 + j < (Array.range (n * 3)).size by rw [Array.size_range]; omega), Array.getElem_range]
    show some ((#[Value.int .i64 0, .bool false, .int .i64 0] : Array Value)[(i * 3 + j) % 3]!) = _
    rw [show (i * 3 + j) % 3 = j by omega]
  exact ⟨key 0 (by omega), key 1 (by omega), key 2 (by omega)⟩
def newOk6 (n last : Int) : Prop := 1 ≤ n ∧ n ≤ 65536 ∧ 1 ≤ last ∧ last ≤ 2147483647
set_option maxHeartbeats 1000000 in
theorem rnew6_no (n last : Int) (w : World) (h : ¬ newOk6 n last) :
    Calls Tryd.prog 6 #[.int .i64 n, .int .i64 last] w fun e w' => e = .returned (.tuple #[.agg #[.slice none 0 0, .int .i64 0], .int .i64 1]) ∧ Below w.heap.size w w' := by
  unfold newOk6 at h
  by_cases c1 : n < 1
  · clear h
    go_enter Tryd.func6, Tryd.ntmps6
    go_wp2_with fail
    exact bodyPost_ret (v := .tuple #[.agg #[.slice none 0 0, .int .i64 0], .int .i64 1]) (by simp [results, Tryd.results6, go_sem]) rfl ⟨rfl, bx_al (Below.refl _ _)⟩
  have d1 : decide (n < 1) = false := decide_eq_false c1
  by_cases c2 : 65536 < n
  · clear h
    go_enter Tryd.func6, Tryd.ntmps6
    go_wp2_with fail
    exact bodyPost_ret (v := .tuple #[.agg #[.slice none 0 0, .int .i64 0], .int .i64 1]) (by simp [results, Tryd.results6, go_sem]) rfl ⟨rfl, bx_al (Below.refl _ _)⟩
  have d2 : decide (65536 < n) = false := decide_eq_false c2
  by_cases c3 : last < 1
  · clear h
    go_enter Tryd.func6, Tryd.ntmps6
    go_wp2_with fail
    exact bodyPost_ret (v := .tuple #[.agg #[.slice none 0 0, .int .i64 0], .int .i64 1]) (by simp [results, Tryd.results6, go_sem]) rfl ⟨rfl, bx_al (Below.refl _ _)⟩
  have d3 : decide (last < 1) = false := decide_eq_false c3
  have d4 : 2147483647 < last := by omega
  clear h
  go_enter Tryd.func6, Tryd.ntmps6
  go_wp2_with fail
  exact bodyPost_ret (v := .tuple #[.agg #[.slice none 0 0, .int .i64 0], .int .i64 1]) (by simp [results, Tryd.results6, go_sem]) rfl ⟨rfl, bx_al (Below.refl _ _)⟩
set_option maxHeartbeats 1000000 in
theorem rnew6_yes (n : Nat) (last : Int) (w : World) (h : newOk6 (n : Int) last) :
    Calls Tryd.prog 6 #[.int .i64 (n : Int), .int .i64 last] w fun e w' => ∃ b, e = .returned (.tuple #[.agg #[.slice (some ⟨b, 0, none⟩) n n, .int .i64 last], .int .i64 0]) ∧ Dr w' b n (fun _ => (0, false, 0)) ∧ w.heap.size ≤ b ∧ Below w.heap.size w w' := by
  obtain ⟨h1, h2, h3, h4⟩ := h
  have d1 : decide ((n : Int) < 1) = false := decide_eq_false (by omega)
  have d2 : decide ((65536 : Int) < (n : Int)) = false := decide_eq_false (by omega)
  have d3 : decide (last < 1) = false := decide_eq_false (by omega)
  have d4 : decide ((2147483647 : Int) < last) = false := decide_eq_false (by omega)
  have mk := fun w => makeS6_at (n : Int) n rfl (by omega) w
  go_enter Tryd.func6, Tryd.ntmps6
  go_wp2_with fail
  refine bodyPost_ret (v := .tuple #[.agg #[.slice (some ⟨w.heap.size + 1, 0, none⟩) n n, .int .i64 last], .int .i64 0]) (by simp [results, Tryd.results6, go_sem]) rfl ⟨w.heap.size + 1, rfl, ?_, by omega, ?_⟩
  · have q := Dr.start (w.alloc (.cells #[.slice (some ⟨w.heap.size + 1, 0, none⟩) n n, .int .i64 last] 30)) n
    rw [World.size_alloc] at q
    exact q
  exact bx_al (bx_al (Below.refl _ _))
def p60 : Pr6 := (0, 0, 0)
theorem pcss_at (L : List Pr6) (i : Nat) (hi : i < L.length) : (pcss L)[i * 3]? = some (.int .i64 (L.getD i p60).1) ∧ (pcss L)[i * 3 + 1]? = some (.int .i64 (L.getD i p60).2.1) ∧ (pcss L)[i * 3 + 2]? = some (.int .i64 (L.getD i p60).2.2) := by
  induction L generalizing i with
  | nil => simp at hi
  | cons x L ih =>
    have e : pcss (x :: L) = [.int .i64 x.1, .int .i64 x.2.1, .int .i64 x.2.2] ++ pcss L := rfl
    rw [e]
    rcases i with _ | i
    · simp
    have h := ih i (by simpa using hi)
    have r : ∀ j, ([Value.int .i64 x.1, Value.int .i64 x.2.1, Value.int .i64 x.2.2] ++ pcss L)[(i + 1) * 3 + j]? = (pcss L)[i * 3 + j]? := fun j => by
      rw [List.getElem?_append_right (by simp; omega)]
      congr 1
      simp
      omega
    have r0 := r 0
    simp only [Nat.add_zero] at r0
    rw [r0, r 1, r 2]
    exact h
theorem Pw.sl {base : Nat} {W : World} {v : Value} {L : List Pr6} (h : Pw base W v L) : ∃ a cap, v = .slice a L.length cap ∧ L.length ≤ cap ∧ cap ≤ 9223372036854775807 ∧ (0 < L.length → ∃ g, a = some ⟨g, 0, none⟩ ∧ base ≤ g ∧ g < W.heap.size ∧ ∀ i, i < L.length → W.cell? ⟨g, i * 3, none⟩ = some (.int .i64 (L.getD i p60).1) ∧ W.cell? ⟨g, i * 3 + 1, none⟩ = some (.int .i64 (L.getD i p60).2.1) ∧ W.cell? ⟨g, i * 3 + 2, none⟩ = some (.int .i64 (L.getD i p60).2.2)) := by
  rcases h.2 with ⟨e, e0⟩ | ⟨g, cap, cur, e, hb', hg, h1, h2, h3, h4⟩
  · exact ⟨none, 0, by rw [e]; congr 1; omega, by omega, by omega, fun h => by omega⟩
  refine ⟨_, cap, e, h1, by simp only [maxLen] at h2; omega, fun _ => ⟨g, rfl, hb', (Array.getElem?_eq_some_iff.1 hg).1, fun i hi => ?_⟩⟩
  have key : ∀ j v, j < L.length * 3 → (pcss L)[j]? = some v → W.cell? ⟨g, j, none⟩ = some v := fun j v hj hv => by
    have q4 := congrArg (fun l => l[j]?) h4
    rw [List.getElem?_take_of_lt hj, Array.getElem?_toList, hv] at q4
    simp [World.cell?, hg, q4]
  obtain ⟨t0, t1, t2⟩ := pcss_at L i hi
  exact ⟨key _ _ (by omega) t0, key _ _ (by omega) t1, key _ _ (by omega) t2⟩
set_option maxHeartbeats 1000000 in
theorem lsame6_true (base base2 : Nat) (v u : Value) (L : List Pr6) (w : World) (h : Pw base w v L) (k : Pw base2 w u L) :
    Calls Tryd.prog 19 #[v, u] w fun e w' => e = .returned (.bool true) ∧ Below w.heap.size w w' := by
  obtain ⟨a, cap, rfl, hc1, hc2, hc⟩ := h.sl
  obtain ⟨a', cap', rfl, kc1, kc2, kc⟩ := k.sl
  have HC : Hid _ := hc
  have KC : Hid _ := kc
  obtain ⟨m, hm⟩ : ∃ m, L.length = m := ⟨_, rfl⟩
  have HM : Hid _ := hm
  rw [hm] at hc1 kc1
  rw [hm]
  clear h k hc kc hm
  go_enter Tryd.func19, Tryd.ntmps19
  go_wp2_with fail
  go_loopw [5] (fun t5 wr => ∃ i d : Nat, i ≤ m ∧ t5 = .int .i64 (i : Int) ∧ wr = w.drewN d) (fun t5 _ => m + 1 - (intOf t5).toNat)
  case atStart => exact ⟨0, 0, by omega, rfl, rfl⟩
  case round =>
    obtain ⟨i, d, hi, rfl, rfl⟩ := hrel
    by_cases q : i < m
    · have r0 : decide ((i : Int) < (m : Int)) = true := decide_eq_true (by omega)
      have r1 : (i : Int) < (m : Int) := by omega
      obtain ⟨g, rfl, _, _, hx⟩ := HC.out (by have := HM.out; omega)
      obtain ⟨g', rfl, _, _, hy⟩ := KC.out (by have := HM.out; omega)
      obtain ⟨x0, x1, x2⟩ := hx i (by have := HM.out; omega)
      obtain ⟨y0, y1, y2⟩ := hy i (by have := HM.out; omega)
      obtain ⟨p, hp⟩ : ∃ p, L.getD i p60 = p := ⟨_, rfl⟩
      rw [hp] at x0 x1 x2 y0 y1 y2
      clear hp hx hy
      go_wp2_with fail
      go_quiet (fail)
      go_wp2_with fail
      go_roundw
      case rel => exact ⟨i + 1, _, by omega, by go_num, rfl⟩
      case measure => simp [intOf] <;> omega
    have r0 : decide (i < m) = false := decide_eq_false q
    clear q
    go_wp2_with fail
    go_ret
    exact ⟨rfl, bx_drew (Below.refl _ _) d⟩
end Go.Proofs.YtdobjanhmllloaaDoor
