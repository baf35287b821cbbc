/- Contracts of the program's functions, part 49: own work, joined in build order. -/
import Derived.Test.YtjnfcihichaonaaJ48
namespace Go.Proofs.Ytjnfcihichaonaa
open Go.RowKit Go.Sort
set_option maxRecDepth 100000
set_option linter.unusedVariables false
theorem Try.infoB : (Try.prog.info? 4).map (fun i => (i.zero, i.size, i.bytes)) = some (some (.bool false), 1, 1) := by kernel_rfl
theorem makeB_at (L C : Int) (n m : Nat) (hL : L = n) (hC : C = m) (hnm : n ≤ m) (hm : m ≤ 1099511627776) (w : World) :
    (Instr.makeSlice 47 (.int .i64 L) (.int .i64 C)).run Try.prog w = .ok (.slice (some ⟨w.heap.size, 0, none⟩) n m) (w.alloc (.cells (madeCells #[(.bool false)] m) 4)) := by
  obtain ⟨i, hi, hz, hs, hb⟩ := info_parts Try.infoB
  subst hL hC
  rw [run_make w 47 4 i (.bool false) Try.underlying47 hi hz .i64 .i64 n m (by omega) (by omega) (by rw [hb]; omega) (by omega), hs]
  simp [Value.cells]
/-- Between two calls. -/
structure So (W0 W : World) (xb hb ob : Nat) (md : Int) (tur : Bool) (c n : Nat) (pu : Int) (Q : Int → Int → Int → Prop) : Prop where
  pair : W.heap[xb]? = some (.cells #[.pointer (some ⟨hb, 0, none⟩), .pointer (some ⟨ob, 0, none⟩)] 26)
  hp : ∃ N T, N ≤ 20 * c ∧ Hp W0.heap.size W hb ob (.slice none 0 0) 0 md tur 0 N n pu T ∧ ∀ i k v, T i = some (k, v) → Q i k v
  bel : Below W0.heap.size W0 W
  ge : W0.heap.size ≤ xb ∧ W0.heap.size ≤ ob
theorem oth_bool (cs : Array Value) : Oth (.cells cs 4) := ⟨cs, _, _, rfl, by decide, by decide, by decide, by decide⟩
theorem oth_thing (cs : Array Value) : Oth (.cells cs 49) := ⟨cs, _, _, rfl, by decide, by decide, by decide, by decide⟩
/-- What the law keeps beside. -/
structure Sb (W : World) (sb wb n : Nat) (sn : Nat → Bool) (wi wk wv : Int) : Prop where
  seen : W.rowIs sb 4 (n + 1) (fun j => .bool (sn j))
  was : W.rowIs wb 49 3 (fun j => if j = 0 then .int .i64 wi else if j = 1 then .int .i64 wk else .int .i64 wv)
theorem Sb.fr {base : Nat} {W W' : World} {sb wb n : Nat} {sn : Nat → Bool} {wi wk wv : Int} (h : Sb W sb wb n sn wi wk wv) (hF : Fr base W W') : Sb W' sb wb n sn wi wk wv := by
  obtain ⟨cs, e, _⟩ := h.seen
  obtain ⟨cs', e', _⟩ := h.was
  exact ⟨h.seen.of_block ((hF.oth _ _ e (oth_bool _)).trans e.symm), h.was.of_block ((hF.oth _ _ e' (oth_thing _)).trans e'.symm)⟩
theorem Sb.mono {W W' : World} {sb wb n : Nat} {sn : Nat → Bool} {wi wk wv : Int} (h : Sb W sb wb n sn wi wk wv) (hB : Below W.heap.size W W') : Sb W' sb wb n sn wi wk wv :=
  ⟨h.seen.of_block (hB.block _ h.seen.lt), h.was.of_block (hB.block _ h.was.lt)⟩
section
variable {W0 W : World} {xb hb ob : Nat} {md : Int} {tur : Bool} {c n : Nat} {pu : Int} {Q : Int → Int → Int → Prop}
theorem So.cells (h : So W0 W xb hb ob md tur c n pu Q) : W.cell? ⟨xb, 0, none⟩ = some (.pointer (some ⟨hb, 0, none⟩)) ∧ W.cell? ⟨xb, 1, none⟩ = some (.pointer (some ⟨ob, 0, none⟩)) ∧ xb < W.heap.size ∧ ob < W.heap.size ∧ W.cell? ⟨ob, 0, none⟩ = some (.slice none 0 0) ∧ W.cell? ⟨ob, 1, none⟩ = some (.int .i64 0) ∧ W.cell? ⟨ob, 2, none⟩ = some (.int .i64 md) ∧ W.cell? ⟨ob, 3, none⟩ = some (.bool tur) ∧ 0 ≤ md ∧ md ≤ 12 := by
  obtain ⟨N, T, h1, h2, h3⟩ := h.hp
  obtain ⟨q0, q1, q2, q3, _, _⟩ := h2.od.cells
  exact ⟨by simp [World.cell?, h.pair], by simp [World.cell?, h.pair], (Array.getElem?_eq_some_iff.1 h.pair).1, h2.od.lt, q0, q1, q2, q3, h2.od.mod0, h2.od.mod1⟩
theorem So.mono {W' : World} (h : So W0 W xb hb ob md tur c n pu Q) (hB : Below W.heap.size W W') : So W0 W' xb hb ob md tur c n pu Q := by
  obtain ⟨N, T, h1, h2, h3⟩ := h.hp
  exact ⟨(hB.block _ (Array.getElem?_eq_some_iff.1 h.pair).1).trans h.pair, ⟨N, T, h1, h2.keep hB, h3⟩, h.bel.trans (hB.mono h.bel.size), h.ge⟩
theorem So.weak {Q' : Int → Int → Int → Prop} (h : So W0 W xb hb ob md tur c n pu Q) (hq : ∀ i k v, Q i k v → Q' i k v) : So W0 W xb hb ob md tur c n pu Q' := by
  obtain ⟨N, T, h1, h2, h3⟩ := h.hp
  exact ⟨h.pair, ⟨N, T, h1, h2, fun i k v e => hq _ _ _ (h3 i k v e)⟩, h.bel, h.ge⟩
/-- A block of another kind is written. -/
theorem So.set {b i : Nat} {v : Value} {t : TypeId} {f : Nat → Value} {m : Nat} (h : So W0 W xb hb ob md tur c n pu Q) (hr : W.rowIs b t m f) (ht : ∀ cs, Oth (.cells cs t)) (hb' : W0.heap.size ≤ b) (hne : xb ≠ b) : So W0 (W.setCell ⟨b, i, none⟩ v) xb hb ob md tur c n pu Q := by
  obtain ⟨N, T, h1, h2, h3⟩ := h.hp
  obtain ⟨cs, e, _⟩ := hr
  refine ⟨(Below.heap_setCell _ _ _ xb hne).trans h.pair, ⟨N, T, h1, h2.other (fun k o e2 ho => (Below.heap_setCell _ _ _ k fun e3 => ?_).trans e2) (by simpa using h2.le), h3⟩, h.bel.setCell hb' _, h.ge⟩
  have e4 : k = b := e3
  rw [e4, e] at e2
  cases e2
  exact ho (ht _)
theorem So.push (h : So W0 W xb hb ob md tur c n pu Q) (k v : Int) (hn : n < 200) (hpu : pu < 200) (hc : c ≤ 1000) (hk : -9223372036854775808 ≤ k ∧ k ≤ 9223372036854775807) (hQ : Q (pu + 1) k v) :
    Calls Try.prog 13 #[.pointer (some ⟨hb, 0, none⟩), .int .i64 k, .int .i64 v] W fun e w' => e = .returned (.int .i64 (pu + 1)) ∧ So W0 w' xb hb ob md tur (c + 1) (n + 1) (pu + 1) Q ∧ Below W0.heap.size W w' := by
  obtain ⟨N, T, h1, h2, h3⟩ := h.hp
  refine (h2.push k v (by omega) (by omega) (by omega) hk.1 hk.2).mono ?_
  rintro e w' ⟨rfl, M, q1, q2, q3, q4⟩
  have := pow_9 q3 (by omega)
  refine ⟨rfl, ⟨q4.oth _ _ h.pair (oth_pair _), ⟨M, _, by omega, q1, fun i k v e => ?_⟩, h.bel.trans q4.bel, h.ge⟩, q4.bel⟩
  unfold updT at e
  split at e
  · rename_i e2
    cases e
    rw [e2]
    exact hQ
  · exact h3 _ _ _ e
theorem So.pop (h : So W0 W xb hb ob md tur c (n + 1) pu Q) (hn : n < 200) (hc : c ≤ 1000) :
    Calls Try.prog 19 #[.pointer (some ⟨hb, 0, none⟩)] W fun e w' => ∃ i k v, e = .returned (.tuple #[.int .i64 i, .int .i64 k, .int .i64 v, .bool true]) ∧ Q i k v ∧ (1 ≤ i ∧ i ≤ pu) ∧ (-9223372036854775808 ≤ k ∧ k ≤ 9223372036854775807) ∧ So W0 w' xb hb ob md tur (c + 1) n pu (fun j l u => Q j l u ∧ j ≠ i ∧ leT md tur i k j l) ∧ Fr W0.heap.size W w' := by
  obtain ⟨N, T, h1, h2, h3⟩ := h.hp
  refine (h2.popMin (by omega)).mono ?_
  rintro e w' ⟨i, k, v, M, rfl, q1, q2, q3, q4, q5, q6⟩
  have := pow_18 q4 (by omega)
  have hr := h2.range q1
  refine ⟨i, k, v, rfl, h3 _ _ _ q1, ⟨hr.1, hr.2.1⟩, hr.2.2, ⟨q5.oth _ _ h.pair (oth_pair _), ⟨M, _, by omega, q2, fun j l u e => ?_⟩, h.bel.trans q5.bel, h.ge⟩, q5⟩
  unfold updT at e
  split at e
  · cases e
  · rename_i hne
    have := q6 rfl j l u e
    simp at this
    exact ⟨h3 _ _ _ e, hne, this⟩
end
/-- .. they are numbered from 1 on. -/
theorem So.ranged {W0 W : World} {xb hb ob : Nat} {md : Int} {tur : Bool} {c n : Nat} {pu : Int} {Q : Int → Int → Int → Prop} (h : So W0 W xb hb ob md tur c n pu Q) : So W0 W xb hb ob md tur c n pu (fun i k v => Q i k v ∧ 1 ≤ i) := by
  obtain ⟨N, T, h1, h2, h3⟩ := h.hp
  exact ⟨h.pair, ⟨N, T, h1, h2, fun i k v e => ⟨h3 i k v e, (h2.range e).1⟩⟩, h.bel, h.ge⟩
/-- What the things are. -/
def Ky (xs : Nat → Int) (j l u : Int) : Prop := l = xs (j - 1).toNat ∧ u = 2 * (j - 1)
set_option maxHeartbeats 4000000 in
theorem sorts_any (W0 : World) (mod : Int) (tur : Bool) (a1 a2 : Option Addr) (L1 c1 L2 c2 : Nat) (xs : Nat → Int) (ys : Nat → Bool) (hk : ISl W0 a1 L1 c1 xs) (hw : BSl W0 a2 L2 c2 ys) (h1 : -9223372036854775808 ≤ mod) (h2 : mod ≤ 9223372036854775807) :
    Calls Try.prog 5 #[.int .i64 mod, .bool tur, .slice a1 L1 c1, .slice a2 L2 c2] W0 fun e w' => e = .returned (.bool true) ∧ Below W0.heap.size W0 w' := by
  have HK : Hid (ISl W0 a1 L1 c1 xs ∧ BSl W0 a2 L2 c2 ys) := ⟨hk, hw⟩
  have l1 := hk.lim
  have l1' := hk.le
  have l2 := hw.lim
  have l2' := hw.le
  obtain ⟨n, en⟩ : ∃ n, n = min L1 200 := ⟨_, rfl⟩
  have n1 : n ≤ L1 := by omega
  have n2 : n ≤ 200 := by omega
  have mn : (if (200 : Int) < (L1 : Int) then (200 : Int) else (L1 : Int)) = (n : Int) := by split <;> omega
  have MD : Hid _ := made_hp mod tur 0 W0 h1 h2 (by omega) (by omega)
  clear hk hw en
  go_enter Try.func5, Try.ntmps5
  go_wp2_with fail
  refine Calls.mono MD.out ?_
  rintro e w1 ⟨hb, ob, md, rfl, hp1, hmd, B1⟩
  obtain ⟨W2, hW2⟩ : ∃ W2, W2 = w1.alloc (.cells #[.pointer (some ⟨hb, 0, none⟩), .pointer (some ⟨ob, 0, none⟩)] 26) := ⟨_, rfl⟩
  obtain ⟨xb, exb⟩ : ∃ xb, xb = w1.heap.size := ⟨_, rfl⟩
  have M0 : Hid (So W0 W2 xb hb ob md tur 0 0 ((0 : Nat) : Int) (Ky xs)) := by
    have hob : W0.heap.size ≤ ob := by
      obtain ⟨_, _, _, _, _, _, _, _, h9, _⟩ := hp1.ex
      exact h9.ge.2.1
    refine ⟨by rw [hW2, exb]; exact (MapKept.heap_alloc _ _).1, ⟨0, _, by omega, by rw [hW2]; exact hp1.keep ((Below.refl _ _).alloc (Nat.le_refl _) _), fun i k v e => (by cases e)⟩, by rw [hW2]; exact B1.alloc B1.size _, ⟨by rw [exb]; exact B1.size, hob⟩⟩
  have HW2 : Hid (w1.alloc (.cells #[.pointer (some ⟨hb, 0, none⟩), .pointer (some ⟨ob, 0, none⟩)] 26) = W2 ∧ w1.heap.size = xb) := ⟨hW2.symm, exb.symm⟩
  clear hp1 hmd B1 MD hW2 exb
  go_wp2_with fail
  rw [HW2.out.1, HW2.out.2]
  go_wp2_with fail
  obtain ⟨d0, d1, _⟩ := M0.out.cells
  go_wp2_with fail
  go_loopw [11] (fun t wr => ∃ (i : Nat), i ≤ n ∧ t = .int .i64 (i : Int) ∧ Hid (So W0 wr xb hb ob md tur i i ((i : Nat) : Int) (Ky xs))) (fun t _ => n - (intOf t).toNat)
  case atStart => exact ⟨0, by omega, rfl, M0⟩
  case round =>
    clear M0 d0 d1
    obtain ⟨i, hin, rfl, hS⟩ := hrel
    by_cases hi : i < n
    · obtain ⟨b, o, rfl, hcell⟩ := HK.out.1.at hS.out.bel (by omega)
      have ck := hcell i (by omega)
      have hr := HK.out.1.wf i (by omega)
      have lb : b < W0.heap.size := by
        obtain ⟨b', o', e', hc'⟩ := HK.out.1.at (Below.refl _ _) (by omega)
        cases e'
        exact World.block_lt_of_cell? _ _ (hc' i (by omega))
      obtain ⟨k, ek⟩ : ∃ k, k = xs i := ⟨_, rfl⟩
      rw [← ek] at ck hr
      obtain ⟨c0, c1', _⟩ := hS.out.cells
      have w2 : IntKind.i64.wrap (2 * (i : Int)) = 2 * (i : Int) := by rw [IntKind.wrap_i64]; omega
      have w5 : IntKind.i64.wrap ((i : Int) + 1) = (i : Int) + 1 := by rw [IntKind.wrap_i64]; omega
      have PU : Hid (∀ W, W = wr ∨ W = wr.drew → Calls Try.prog 13 #[.pointer (some ⟨hb, 0, none⟩), .int .i64 k, .int .i64 (2 * (i : Int))] W fun e w' => e = .returned (.int .i64 ((i : Int) + 1)) ∧ So W0 w' xb hb ob md tur (i + 1) (i + 1) ((i : Int) + 1) (Ky xs) ∧ Below W0.heap.size W w') := fun W hW => (hS.out.mono (W' := W) (by rcases hW with rfl | rfl; exact Below.refl _ _; exact bel_drew (Below.refl _ _))).push k _ (by omega) (by omega) (by omega) hr ⟨by rw [ek]; congr 1; omega, by omega⟩
      have hL : i < L1 := by omega
      have hL' : (i : Int) < (L1 : Int) := by omega
      clear hS hcell ek hr
      go_wp2_with fail
      rename_i hz
      go_region_held3 (fun w9 => w9.cell? ⟨xb, 0, none⟩ = some (.pointer (some ⟨hb, 0, none⟩)) ∧ w9.cell? ⟨b, o + i, none⟩ = some (.int .i64 k)) (first | (simp [go_sem, *]; done) | (trace_state; fail))
        (first
          | (go_at_call 13; refine Calls.mono (PU.out _ (by first | exact .inl rfl | exact .inr rfl)) ?_; rintro e w8 ⟨rfl, hM, hF⟩; obtain ⟨y0, y1, _⟩ := hM.cells; have yk : w8.cell? ⟨b, o + i, none⟩ = some (.int .i64 k) := (by rw [hF.cell lb]; exact ck); have HM : Hid _ := hM; clear hM))
      refine hz _ _ ?_
      have MX : Hid (So W0 w8 xb hb ob md tur (i + 1) (i + 1) ((i + 1 : Nat) : Int) (Ky xs)) := by
        have e2 : ((i + 1 : Nat) : Int) = (i : Int) + 1 := by omega
        rw [e2]; exact HM.out
      clear HM PU ck c0 c1' y0 y1 yk hF
      go_wp2_with fail
      go_roundw
      case rel => exact ⟨i + 1, by omega, by go_num, MX⟩
      case measure => simp [intOf]; omega
    · obtain rfl : n = i := by omega
      clear hi
      have mk := makeB_at ((n : Int) + 1) ((n : Int) + 1) (n + 1) (n + 1) (by omega) (by omega) (Nat.le_refl _) (by omega)
      have w5 : IntKind.i64.wrap ((n : Int) + 1) = (n : Int) + 1 := by rw [IntKind.wrap_i64]; omega
      obtain ⟨W3, hW3⟩ : ∃ W3, W3 = wr.alloc (.cells (madeCells #[(.bool false)] (n + 1)) 4) := ⟨_, rfl⟩
      obtain ⟨sb, esb⟩ : ∃ sb, sb = wr.heap.size := ⟨_, rfl⟩
      have mk' : (Instr.makeSlice 47 (.int .i64 ((n : Int) + 1)) (.int .i64 ((n : Int) + 1))).run Try.prog wr = .ok (.slice (some ⟨sb, 0, none⟩) (n + 1) (n + 1)) W3 := by rw [hW3, esb]; exact mk wr
      obtain ⟨W4, hW4⟩ : ∃ W4, W4 = W3.alloc (.cells #[.int .i64 0, .int .i64 0, .int .i64 0] 49) := ⟨_, rfl⟩
      obtain ⟨wb, ewb⟩ : ∃ wb, wb = W3.heap.size := ⟨_, rfl⟩
      obtain ⟨sn0, esn0⟩ : ∃ sn0 : Nat → Bool, sn0 = fun _ => false := ⟨_, rfl⟩
      have M4 : Hid (So W0 W4 xb hb ob md tur (n + 0) n (n : Int) (fun j l u => Ky xs j l u ∧ sn0 j.toNat = false ∧ (0 < 0 → leT md tur 0 0 j l)) ∧ Sb W4 sb wb n sn0 0 0 0 ∧ xb < sb ∧ xb < wb ∧ sb ≠ wb ∧ W0.heap.size ≤ sb ∧ W0.heap.size ≤ wb) := by
        have q1 := hS.out.cells.2.2.1
        have q2 := hS.out.bel.size
        have q3 : W3.heap.size = wr.heap.size + 1 := by rw [hW3]; simp
        have q4 : W4.heap.size = wr.heap.size + 2 := by rw [hW4]; simp; omega
        refine ⟨((hS.out.mono (W' := W4) (by rw [hW4, hW3]; exact ((Below.refl _ _).alloc (Nat.le_refl _) _).alloc (by simp) _)).weak fun j l u h => ⟨h, by rw [esn0], fun e => by omega⟩), ⟨?_, ?_⟩, by omega, by omega, by omega, by omega, by omega⟩
        · refine World.rowIs.of_block (w := W3) ?_ (by rw [hW4]; exact Below.heap_alloc _ _ _ (by omega))
          rw [hW3, esb]
          exact (World.rowIs_made wr (.bool false) (n + 1) _).congr fun j hj => (by rw [esn0])
        · rw [hW4, ewb]
          refine World.rowIs_alloc W3 #[.int .i64 0, .int .i64 0, .int .i64 0] _ _ fun i hi => ?_
          have hi' : i < 3 := hi
          match i, hi' with
          | 0, _ => rfl
          | 1, _ => rfl
          | 2, _ => rfl
      have HW4 : Hid (W3.alloc (.cells #[.int .i64 0, .int .i64 0, .int .i64 0] 49) = W4 ∧ W3.heap.size = wb) := ⟨hW4.symm, ewb.symm⟩
      clear hS mk hW3 esb hW4 ewb esn0
      go_wp2_with fail
      rw [HW4.out.1, HW4.out.2]
      go_wp2_with fail
      go_loopw [14] (fun t wr2 => ∃ (i m : Nat) (sn : Nat → Bool) (wi wk wv : Int), m + i = n ∧ t = .int .i64 (i : Int) ∧ -9223372036854775808 ≤ wk ∧ wk ≤ 9223372036854775807 ∧ Hid (So W0 wr2 xb hb ob md tur (n + i) m (n : Int) (fun j l u => Ky xs j l u ∧ sn j.toNat = false ∧ (0 < i → leT md tur wi wk j l)) ∧ Sb wr2 sb wb n sn wi wk wv ∧ xb < sb ∧ xb < wb ∧ sb ≠ wb ∧ W0.heap.size ≤ sb ∧ W0.heap.size ≤ wb)) (fun t _ => n - (intOf t).toNat)
      case atStart => exact ⟨0, n, sn0, 0, 0, 0, by omega, rfl, by omega, by omega, M4⟩
      case round =>
        clear M4 HW4 HW2 mk' w5
        obtain ⟨i, m1, sn, wi, wk, wv, em, rfl, wk1, wk2, hS⟩ := hrel
        by_cases hi : i < n
        · obtain ⟨m, rfl⟩ : ∃ m, m1 = m + 1 := ⟨m1 - 1, by omega⟩
          have w5 : IntKind.i64.wrap ((i : Int) + 1) = (i : Int) + 1 := by rw [IntKind.wrap_i64]; omega
          obtain ⟨c0, c1', _⟩ := hS.out.1.cells
          have PO : Hid _ := hS.out.1.pop (by omega) (by omega)
          go_wp2_with fail
          refine Calls.mono PO.out ?_
          rintro e W2 ⟨j, k, v, rfl, ⟨⟨ek, ev⟩, esn, hle⟩, ⟨hj1, hj2⟩, ⟨hk1, hk2⟩, hM, hF⟩
          obtain ⟨q, rfl⟩ : ∃ q : Nat, j = (q : Int) := ⟨j.toNat, by omega⟩
          obtain ⟨p, ep⟩ : ∃ p, q = p + 1 := ⟨q - 1, by omega⟩
          rw [Int.toNat_natCast] at esn
          rw [show ((q : Int) - 1).toNat = p by omega] at ek
          have ev' : v = 2 * (p : Int) := by rw [ev]; omega
          obtain ⟨b, o, rfl, hcell⟩ := HK.out.1.at hM.bel (by omega)
          have ck := hcell p (by omega)
          rw [← ek] at ck
          subst ev'
          clear ev ek
          have S2 := hS.out.2.1.fr hF
          have cs := S2.seen.cell (i := q) (by omega)
          have zs := S2.seen.frozen q
          rw [esn] at cs
          have w6 : IntKind.i64.wrap ((q : Int) - 1) = (p : Int) := by rw [IntKind.wrap_i64]; omega
          have w7 : IntKind.i64.wrap (2 * (p : Int)) = 2 * (p : Int) := by rw [IntKind.wrap_i64]; omega
          have hpL : p < L1 := by omega
          have hqn : q < n + 1 := by omega
          have hq1 : decide ((q : Int) < 1) = false := decide_eq_false (by omega)
          have hq2 : decide ((n : Int) < (q : Int)) = false := decide_eq_false (by omega)
          obtain ⟨W3, hW3⟩ : ∃ W3, W3 = W2.setCell ⟨sb, q, none⟩ (.bool true) := ⟨_, rfl⟩
          obtain ⟨sn', esn'⟩ : ∃ sn' : Nat → Bool, sn' = fun j => if j = q then true else sn j := ⟨_, rfl⟩
          have HN : Hid (So W0 W3 xb hb ob md tur (n + i + 1) m (n : Int) (fun j l u => Ky xs j l u ∧ sn' j.toNat = false ∧ leT md tur q k j l) ∧ Sb W3 sb wb n sn' wi wk wv ∧ xb < sb ∧ xb < wb ∧ sb ≠ wb ∧ W0.heap.size ≤ sb ∧ W0.heap.size ≤ wb) := by
            obtain ⟨_, _, a1, a2, a3, a4, a5⟩ := hS.out
            refine ⟨?_, ⟨?_, ?_⟩, a1, a2, a3, a4, a5⟩
            · rw [hW3]
              refine (hM.ranged.set (i := q) (v := .bool true) S2.seen oth_bool a4 (by omega)).weak ?_
              rintro j l u ⟨⟨⟨g1, g2, g3⟩, g4, g5⟩, g6⟩
              refine ⟨g1, ?_, g5⟩
              rw [esn']
              show (if j.toNat = q then true else sn j.toNat) = false
              rw [if_neg (by omega)]
              exact g2
            · rw [hW3]
              refine (S2.seen.set q (.bool true)).congr fun j hj => ?_
              rw [esn']
              show (if j = q then Value.bool true else Value.bool (sn j)) = Value.bool (if j = q then true else sn j)
              split <;> rfl
            · rw [hW3]
              exact S2.was.setOther (fun e => a3 e.symm) _
          have HW3 : Hid (W2.setCell ⟨sb, q, none⟩ (.bool true) = W3) := hW3.symm
          have HS : Hid (0 < i → leT md tur wi wk q k) := hle
          clear hS hM hF S2 PO hW3 hle hcell esn ep c0 c1' esn'
          go_wp2_with fail
          rw [HW3.out]
          clear cs zs ck w6 w7 hq1 hq2
          by_cases hi0 : i = 0
          · have hgt : decide ((0 : Int) < (i : Int)) = false := decide_eq_false (by omega)
            have hgt2 : decide (0 < i) = false := decide_eq_false (by omega)
            clear hi0
            go_wp2_with fail
            go_quiet (fail)
            obtain ⟨W4, hW4⟩ : ∃ W4, W4 = (W3.drewN nq) := ⟨_, rfl⟩
            have HM : Hid (So W0 W4 xb hb ob md tur (n + i + 1) m (n : Int) (fun j l u => Ky xs j l u ∧ sn' j.toNat = false ∧ leT md tur q k j l) ∧ Sb W4 sb wb n sn' wi wk wv) := by rw [hW4]; exact ⟨HN.out.1.mono (bel_drewN (Below.refl _ _) _), HN.out.2.1.mono (bel_drewN (Below.refl _ _) _)⟩
            rw [← hW4]
            clear hW4
            have z0 := HM.out.2.was.frozen 0
            have z1 := HM.out.2.was.frozen 1
            have z2 := HM.out.2.was.frozen 2
            have v0 := HM.out.2.was.cell (i := 0) (by omega)
            have v1 := HM.out.2.was.cell (i := 1) (by omega)
            have v2 := HM.out.2.was.cell (i := 2) (by omega)
            obtain ⟨W5, hW5⟩ : ∃ W5, W5 = ((W4.setCell ⟨wb, 0, none⟩ (.int .i64 (q : Int))).setCell ⟨wb, 1, none⟩ (.int .i64 k)).setCell ⟨wb, 2, none⟩ (.int .i64 (2 * (p : Int))) := ⟨_, rfl⟩
            have HO : Hid (So W0 W5 xb hb ob md tur (n + (i + 1)) m (n : Int) (fun j l u => Ky xs j l u ∧ sn' j.toNat = false ∧ (0 < i + 1 → leT md tur q k j l)) ∧ Sb W5 sb wb n sn' q k (2 * (p : Int)) ∧ xb < sb ∧ xb < wb ∧ sb ≠ wb ∧ W0.heap.size ≤ sb ∧ W0.heap.size ≤ wb) := by
              obtain ⟨_, _, a1, a2, a3, a4, a5⟩ := HN.out
              have r0 := HM.out.2.was
              have r1 := r0.set 0 (.int .i64 (q : Int))
              have r2 := r1.set 1 (.int .i64 k)
              refine ⟨?_, ⟨?_, ?_⟩, a1, a2, a3, a4, a5⟩
              · rw [hW5]
                exact (((HM.out.1.set r0 oth_thing a5 (by omega)).set r1 oth_thing a5 (by omega)).set r2 oth_thing a5 (by omega)).weak fun j l u h => ⟨h.1, h.2.1, fun _ => h.2.2⟩
              · rw [hW5]
                exact ((HM.out.2.seen.setOther a3 _).setOther a3 _).setOther a3 _
              · rw [hW5]
                refine (r2.set 2 (.int .i64 (2 * (p : Int)))).congr fun j hj => ?_
                match j, hj with
                | 0, _ => rfl
                | 1, _ => rfl
                | 2, _ => rfl
            have HW5 : Hid (((W4.setCell ⟨wb, 0, none⟩ (.int .i64 (q : Int))).setCell ⟨wb, 1, none⟩ (.int .i64 k)).setCell ⟨wb, 2, none⟩ (.int .i64 (2 * (p : Int))) = W5) := hW5.symm
            clear HM hW5 HN
            go_wp2_with fail
            rw [HW5.out]
            go_roundw
            case rel => exact ⟨i + 1, m, _, _, _, _, by omega, by go_num, hk1, hk2, HO⟩
            case measure => simp [intOf]; omega
          · have hle := HS.out (by omega)
            have hgt : decide ((0 : Int) < (i : Int)) = true := decide_eq_true (by omega)
            have hgt2 : decide (0 < i) = true := decide_eq_true (by omega)
            obtain ⟨_, d1, lx, lo', q0', q1', q2', q3', m0, m1⟩ := HN.out.1.cells
            have g1 : ∀ n os, (grow (W3.drewN n) os).cell? ⟨xb, 1, none⟩ = some (.pointer (some ⟨ob, 0, none⟩)) := fun n os => cell_grown lx d1 n os
            have q0 : ∀ n os, (grow (W3.drewN n) os).cell? ⟨ob, 0, none⟩ = some (.slice none 0 0) := fun n os => cell_grown lo' q0' n os
            have q1 : ∀ n os, (grow (W3.drewN n) os).cell? ⟨ob, 1, none⟩ = some (.int .i64 0) := fun n os => cell_grown lo' q1' n os
            have q2 : ∀ n os, (grow (W3.drewN n) os).cell? ⟨ob, 2, none⟩ = some (.int .i64 md) := fun n os => cell_grown lo' q2' n os
            have q3 : ∀ n os, (grow (W3.drewN n) os).cell? ⟨ob, 3, none⟩ = some (.bool tur) := fun n os => cell_grown lo' q3' n os
            have gw0 : ∀ n os, (grow (W3.drewN n) os).cell? ⟨wb, 0, none⟩ = some (.int .i64 wi) := fun n os => cell_grown HN.out.2.1.was.lt (HN.out.2.1.was.cell (i := 0) (by omega)) n os
            have gw1 : ∀ n os, (grow (W3.drewN n) os).cell? ⟨wb, 1, none⟩ = some (.int .i64 wk) := fun n os => cell_grown HN.out.2.1.was.lt (HN.out.2.1.was.cell (i := 1) (by omega)) n os
            have AH : Hid (∀ x y n os, -9223372036854775808 ≤ x → x ≤ 9223372036854775807 → -9223372036854775808 ≤ y → y ≤ 9223372036854775807 → Calls Try.prog 20 #[.agg #[.slice none 0 0, .int .i64 0, .int .i64 md, .bool tur], .int .i64 x, .int .i64 y] (grow (W3.drewN n) os) fun e w'' => e = .returned (.bool (decide (rk md tur x < rk md tur y))) ∧ ∃ p : GrownBy, w'' = grow (W3.drewN p.n) p.os) := fun x y n os a1 a2 a3 a4 => Calls.grown_of (ahead_is (.slice none 0 0) ⟨_, _, _, rfl⟩ 0 md tur x y _ m0 m1 a1 a2 a3 a4)
            have mixed : Try.prog.follows .mixedOrders = true := by kernel_rfl
            clear d1 lx lo' q0' q1' q2' q3' m0 m1 hi0
            unfold leT at hle
            have dA : decide (rk md tur k < rk md tur wk) = false := decide_eq_false (by omega)
            by_cases hlt : rk md tur wk < rk md tur k
            · have dB : decide (rk md tur wk < rk md tur k) = true := decide_eq_true hlt
              clear hlt hle
              go_wp2_with fail
              go_quiet_grown (first | (go_at_call 20; exact AH.out _ _ _ _ (by assumption) (by assumption) (by assumption) (by assumption)))
              obtain ⟨W4, hW4⟩ : ∃ W4, W4 = (grow (W3.drewN nq) osq) := ⟨_, rfl⟩
              have HM : Hid (So W0 W4 xb hb ob md tur (n + i + 1) m (n : Int) (fun j l u => Ky xs j l u ∧ sn' j.toNat = false ∧ leT md tur q k j l) ∧ Sb W4 sb wb n sn' wi wk wv) := by rw [hW4]; exact ⟨HN.out.1.mono (bel_grow _ _ _), HN.out.2.1.mono (bel_grow _ _ _)⟩
              rw [← hW4]
              clear hW4 g1 q0 q1 q2 q3 gw0 gw1 AH
              have z0 := HM.out.2.was.frozen 0
              have z1 := HM.out.2.was.frozen 1
              have z2 := HM.out.2.was.frozen 2
              have v0 := HM.out.2.was.cell (i := 0) (by omega)
              have v1 := HM.out.2.was.cell (i := 1) (by omega)
              have v2 := HM.out.2.was.cell (i := 2) (by omega)
              obtain ⟨W5, hW5⟩ : ∃ W5, W5 = ((W4.setCell ⟨wb, 0, none⟩ (.int .i64 (q : Int))).setCell ⟨wb, 1, none⟩ (.int .i64 k)).setCell ⟨wb, 2, none⟩ (.int .i64 (2 * (p : Int))) := ⟨_, rfl⟩
              have HO : Hid (So W0 W5 xb hb ob md tur (n + (i + 1)) m (n : Int) (fun j l u => Ky xs j l u ∧ sn' j.toNat = false ∧ (0 < i + 1 → leT md tur q k j l)) ∧ Sb W5 sb wb n sn' q k (2 * (p : Int)) ∧ xb < sb ∧ xb < wb ∧ sb ≠ wb ∧ W0.heap.size ≤ sb ∧ W0.heap.size ≤ wb) := by
                obtain ⟨_, _, a1, a2, a3, a4, a5⟩ := HN.out
                have r0 := HM.out.2.was
                have r1 := r0.set 0 (.int .i64 (q : Int))
                have r2 := r1.set 1 (.int .i64 k)
                refine ⟨?_, ⟨?_, ?_⟩, a1, a2, a3, a4, a5⟩
                · rw [hW5]
                  exact (((HM.out.1.set r0 oth_thing a5 (by omega)).set r1 oth_thing a5 (by omega)).set r2 oth_thing a5 (by omega)).weak fun j l u h => ⟨h.1, h.2.1, fun _ => h.2.2⟩
                · rw [hW5]
                  exact ((HM.out.2.seen.setOther a3 _).setOther a3 _).setOther a3 _
                · rw [hW5]
                  refine (r2.set 2 (.int .i64 (2 * (p : Int)))).congr fun j hj => ?_
                  match j, hj with
                  | 0, _ => rfl
                  | 1, _ => rfl
                  | 2, _ => rfl
              have HW5 : Hid (((W4.setCell ⟨wb, 0, none⟩ (.int .i64 (q : Int))).setCell ⟨wb, 1, none⟩ (.int .i64 k)).setCell ⟨wb, 2, none⟩ (.int .i64 (2 * (p : Int))) = W5) := hW5.symm
              clear HM hW5 HN
              go_wp2_with fail
              rw [HW5.out]
              go_roundw
              case rel => exact ⟨i + 1, m, _, _, _, _, by omega, by go_num, hk1, hk2, HO⟩
              case measure => simp [intOf]; omega
            · have dB : decide (rk md tur wk < rk md tur k) = false := decide_eq_false hlt
              have hfi : decide ((q : Int) < wi) = false := decide_eq_false (by omega)
              clear hlt hle
              go_wp2_with fail
              go_quiet_grown (first | (go_at_call 20; exact AH.out _ _ _ _ (by assumption) (by assumption) (by assumption) (by assumption)))
              obtain ⟨W4, hW4⟩ : ∃ W4, W4 = (grow (W3.drewN nq) osq) := ⟨_, rfl⟩
              have HM : Hid (So W0 W4 xb hb ob md tur (n + i + 1) m (n : Int) (fun j l u => Ky xs j l u ∧ sn' j.toNat = false ∧ leT md tur q k j l) ∧ Sb W4 sb wb n sn' wi wk wv) := by rw [hW4]; exact ⟨HN.out.1.mono (bel_grow _ _ _), HN.out.2.1.mono (bel_grow _ _ _)⟩
              rw [← hW4]
              clear hW4 g1 q0 q1 q2 q3 gw0 gw1 AH
              have z0 := HM.out.2.was.frozen 0
              have z1 := HM.out.2.was.frozen 1
              have z2 := HM.out.2.was.frozen 2
              have v0 := HM.out.2.was.cell (i := 0) (by omega)
              have v1 := HM.out.2.was.cell (i := 1) (by omega)
              have v2 := HM.out.2.was.cell (i := 2) (by omega)
              obtain ⟨W5, hW5⟩ : ∃ W5, W5 = ((W4.setCell ⟨wb, 0, none⟩ (.int .i64 (q : Int))).setCell ⟨wb, 1, none⟩ (.int .i64 k)).setCell ⟨wb, 2, none⟩ (.int .i64 (2 * (p : Int))) := ⟨_, rfl⟩
              have HO : Hid (So W0 W5 xb hb ob md tur (n + (i + 1)) m (n : Int) (fun j l u => Ky xs j l u ∧ sn' j.toNat = false ∧ (0 < i + 1 → leT md tur q k j l)) ∧ Sb W5 sb wb n sn' q k (2 * (p : Int)) ∧ xb < sb ∧ xb < wb ∧ sb ≠ wb ∧ W0.heap.size ≤ sb ∧ W0.heap.size ≤ wb) := by
                obtain ⟨_, _, a1, a2, a3, a4, a5⟩ := HN.out
                have r0 := HM.out.2.was
                have r1 := r0.set 0 (.int .i64 (q : Int))
                have r2 := r1.set 1 (.int .i64 k)
                refine ⟨?_, ⟨?_, ?_⟩, a1, a2, a3, a4, a5⟩
                · rw [hW5]
                  exact (((HM.out.1.set r0 oth_thing a5 (by omega)).set r1 oth_thing a5 (by omega)).set r2 oth_thing a5 (by omega)).weak fun j l u h => ⟨h.1, h.2.1, fun _ => h.2.2⟩
                · rw [hW5]
                  exact ((HM.out.2.seen.setOther a3 _).setOther a3 _).setOther a3 _
                · rw [hW5]
                  refine (r2.set 2 (.int .i64 (2 * (p : Int)))).congr fun j hj => ?_
                  match j, hj with
                  | 0, _ => rfl
                  | 1, _ => rfl
                  | 2, _ => rfl
              have HW5 : Hid (((W4.setCell ⟨wb, 0, none⟩ (.int .i64 (q : Int))).setCell ⟨wb, 1, none⟩ (.int .i64 k)).setCell ⟨wb, 2, none⟩ (.int .i64 (2 * (p : Int))) = W5) := hW5.symm
              clear HM hW5 HN
              go_wp2_with fail
              rw [HW5.out]
              go_roundw
              case rel => exact ⟨i + 1, m, _, _, _, _, by omega, by go_num, hk1, hk2, HO⟩
              case measure => simp [intOf]; omega
        · obtain rfl : n = i := by omega
          obtain rfl : m1 = 0 := by omega
          have HS : Hid (So W0 wr xb hb ob md tur (n + n) 0 (n : Int) (fun _ _ _ => True)) := hS.out.1.weak fun _ _ _ _ => trivial
          obtain ⟨c0, c1', _⟩ := HS.out.cells
          have PM : Hid (Calls Try.prog 21 #[.pointer (some ⟨hb, 0, none⟩)] wr fun e w' => e = .returned (.tuple #[.int .i64 0, .int .i64 0, .int .i64 0, .bool false]) ∧ ∃ m, w' = wr.drewN m) := by
            obtain ⟨N, T, g1, g2, g3⟩ := HS.out.hp
            exact g2.noMax
          clear hS em hi
          go_wp2_with (first | (go_at_call 21; refine Calls.mono PM.out ?_; rintro e w8 ⟨rfl, m, rfl⟩))
          obtain ⟨W8, hW8⟩ : ∃ W8, W8 = wr.drewN m := ⟨_, rfl⟩
          have H8 : Hid (So W0 W8 xb hb ob md tur (n + n) 0 (n : Int) (fun _ _ _ => True)) := by rw [hW8]; exact HS.out.mono (bel_drewN (Below.refl _ _) _)
          obtain ⟨e0, e1, _⟩ := H8.out.cells
          have LN : Hid (Calls Try.prog 17 #[.pointer (some ⟨hb, 0, none⟩)] W8 fun e w' => e = .returned (.int .i64 0) ∧ w' = W8) := by
            obtain ⟨N, T, g1, g2, g3⟩ := H8.out.hp
            exact g2.len
          have MI : Hid (Calls Try.prog 22 #[.agg #[.pointer (some ⟨hb, 0, none⟩), .pointer (some ⟨ob, 0, none⟩)], .slice a1 L1 c1, .slice a2 L2 c2, .int .i64 (n : Int)] W8 fun e w' => e = .returned (.bool true) ∧ Below W0.heap.size W0 w') := by
            obtain ⟨N, T, g1, g2, g3⟩ := H8.out.hp
            exact mixed_any W0 W8 a1 a2 L1 c1 L2 c2 n (n + n) hb ob N md tur xs ys H8.out.bel HK.out.1 HK.out.2 n1 n2 g2.od H8.out.ge.2 g1 (by omega)
          rw [← hW8]
          clear HS PM H8 hW8 c0 c1'
          go_wp2_with (first | (go_at_call 17; refine Calls.mono LN.out ?_; rintro e w8 ⟨rfl, rfl⟩) | (go_at_call 22; refine Calls.mono MI.out ?_; rintro e w9 ⟨rfl, hB9⟩))
          go_ret
          exact ⟨rfl, hB9⟩
end Go.Proofs.Ytjnfcihichaonaa
