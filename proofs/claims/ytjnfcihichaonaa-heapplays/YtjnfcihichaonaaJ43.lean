/- Contracts of the program's functions, part 43: own work, joined in build order. -/
import Derived.Test.YtjnfcihichaonaaJ42
import Derived.Deep.Grids
import Derived.ChangeSlices
import Derived.ProofKit
import Derived.Deep.Slices
namespace Go.Proofs.Ytjnfcihichaonaa
open Go.RowKit
set_option maxRecDepth 100000
set_option linter.unusedVariables false
theorem HsI.kept2 {W W' : World} {base hb ob : Nat} {a : Option Addr} {n cap mb nn : Nat} {pu : Int} {f : Nat → Nat} {it ke va : Nat → Int} (h : HsI W base hb ob a n cap mb nn pu f it ke va) (hk : ∀ k, (k = hb ∨ k = mb ∨ k = ob ∨ (Value.slice a n cap).ownBlock = some k ∨ Img n f n k) → W'.heap[k]? = W.heap[k]?) : HsI W' base hb ob a n cap mb nn pu f it ke va := by
  refine { h with hd := (hk _ (.inl rfl)).trans h.hd, row := own_kept h.row fun k hk2 => hk k (.inr (.inr (.inr (.inl hk2)))), pl := fun i hi => (hk _ (.inr (.inr (.inr (.inr ⟨i, hi, by omega, rfl⟩))))).trans (h.pl i hi), mp := ?_ }
  obtain ⟨g, hm, hg⟩ := h.mp
  exact ⟨g, hm.kept (hk _ (.inr (.inl rfl))), hg⟩
theorem HsI.weak {W : World} {base b2 hb ob : Nat} {a : Option Addr} {n cap mb nn : Nat} {pu : Int} {f : Nat → Nat} {it ke va : Nat → Int} (h : HsI W base hb ob a n cap mb nn pu f it ke va) (hb2 : b2 ≤ base) : HsI W b2 hb ob a n cap mb nn pu f it ke va := by
  refine { h with row := ⟨h.row.1, h.row.2.imp id ?_⟩, ge := ⟨Nat.le_trans hb2 h.ge.1, Nat.le_trans hb2 h.ge.2.1, Nat.le_trans hb2 h.ge.2.2.1, fun i hi => Nat.le_trans hb2 (h.ge.2.2.2 i hi)⟩ }
  rintro ⟨g, cap', cur, e, h1, rest⟩
  exact ⟨g, cap', cur, e, Nat.le_trans hb2 h1, rest⟩
section
variable {base : Nat} {W W' : World} {hb ob : Nat} {lv : Value} {nx md : Int} {tur : Bool} {lies : Int} {N n : Nat} {pu : Int} {T : Int → Option (Int × Int)}
theorem Hp.weakB (h : Hp base W hb ob lv nx md tur lies N n pu T) {b2 : Nat} (hb2 : b2 ≤ base) : Hp b2 W hb ob lv nx md tur lies N n pu T := by
  obtain ⟨a, cap, mb, nn, f, it, ke, va, h1, h2, h3⟩ := h.ex
  exact ⟨⟨a, cap, mb, nn, f, it, ke, va, h1.weak hb2, h2, h3⟩, h.od, Nat.le_trans hb2 h.le⟩
theorem Hp.bk_lt (h : Hp base W hb ob lv nx md tur lies N n pu T) {k : Nat} (hk : Bk W hb ob k) : base ≤ k ∧ k < W.heap.size := by
  obtain ⟨a, cap, mb, nn, f, it, ke, va, h1, h2, h3⟩ := h.ex
  have hk' := (h1.bk k).1 hk
  refine ⟨hs_ge h1 k hk', ?_⟩
  rcases hk' with e | e | e | e | ⟨i, hi, _, rfl⟩
  · subst e
    exact (Array.getElem?_eq_some_iff.1 h1.hd).1
  · subst e
    obtain ⟨g, hm, _⟩ := h1.map
    obtain ⟨es, ck, hmb⟩ := hm.block
    exact (Array.getElem?_eq_some_iff.1 hmb).1
  · subst e
    exact h.od.lt
  · obtain ⟨_, cs, e2⟩ := h1.own e
    exact (Array.getElem?_eq_some_iff.1 e2).1
  · exact (Array.getElem?_eq_some_iff.1 (h1.pl i hi)).1
theorem Hp.kept2 (h : Hp base W hb ob lv nx md tur lies N n pu T) (hk : ∀ k, Bk W hb ob k → W'.heap[k]? = W.heap[k]?) (hz : W.heap.size ≤ W'.heap.size) : Hp base W' hb ob lv nx md tur lies N n pu T ∧ ∀ k, Bk W' hb ob k ↔ Bk W hb ob k := by
  obtain ⟨a, cap, mb, nn, f, it, ke, va, h1, h2, h3⟩ := h.ex
  have h1' := h1.kept2 (W' := W') fun k e => hk k ((h1.bk k).2 e)
  exact ⟨⟨⟨a, cap, mb, nn, f, it, ke, va, h1', h2, h3⟩, h.od.kept (hk _ (.inr (.inl rfl))), Nat.le_trans h.le hz⟩, fun k => (h1'.bk k).trans (h1.bk k).symm⟩
end
/-- The one stays what it is while the other is used. -/
theorem Lz.beside {W0 W W' : World} {h0 o0 hb ob : Nat} {md : Int} {tur : Bool} {lies : Int} {N n : Nat} {pu : Int} {T : Int → Option (Int × Int)} {nx : Int} {lv : Value} {L : List Th} (h : Lz W0 W hb ob md tur lies N n pu T nx lv L) (hF : Fr h0 o0 W0.heap.size W W') (hd : ∀ k, Bk W h0 o0 k → ¬ Bk W hb ob k) : Lz W0 W' hb ob md tur lies N n pu T nx lv L ∧ ∀ k, Bk W' h0 o0 k → ¬ Bk W' hb ob k := by
  obtain ⟨q1, q2⟩ := h.hp.kept2 (W' := W') (fun k hk => hF.own k (h.hp.bk_lt hk).2 fun e => hd k e hk) hF.bel.size
  refine ⟨⟨q1, h.tr.kept fun k hk => ?_, h.bel.trans hF.bel, h.ge⟩, fun k hk hk2 => ?_⟩
  · obtain ⟨_, cs, e⟩ := h.tr.own hk
    exact (hF.oth _ _ e (oth_th _)).trans e.symm
  · have hk3 := (q2 k).1 hk2
    rcases hF.new k hk with h1 | h1
    · exact hd k h1 hk3
    · have := (h.hp.bk_lt hk3).2
      omega
/-- One of the two, at a time. -/
def Hal (W0 W : World) (hb ob : Nat) (md : Int) (tur : Bool) (c : Nat) : Prop := ∃ N n nx T lv L, Lz W0 W hb ob md tur 0 N n nx T nx lv L ∧ Syn T L n ∧ n ≤ c ∧ nx ≤ (c : Int)
def prF (h0 o0 h1 o1 : Nat) (j : Nat) : Value := if j = 0 then .pointer (some ⟨h0, 0, none⟩) else if j = 1 then .pointer (some ⟨o0, 0, none⟩) else if j = 2 then .pointer (some ⟨h1, 0, none⟩) else .pointer (some ⟨o1, 0, none⟩)
structure Two (W0 W : World) (lb h0 o0 h1 o1 : Nat) (md0 md1 : Int) (t0 t1 : Bool) (c : Nat) : Prop where
  row : W.rowIs lb 26 4 (prF h0 o0 h1 o1)
  a : Hal W0 W h0 o0 md0 t0 c
  b : Hal W0 W h1 o1 md1 t1 c
  dis : ∀ k, Bk W h0 o0 k → ¬ Bk W h1 o1 k
theorem Two.bel {W0 W : World} {lb h0 o0 h1 o1 : Nat} {md0 md1 : Int} {t0 t1 : Bool} {c : Nat} (h : Two W0 W lb h0 o0 h1 o1 md0 md1 t0 t1 c) : Below W0.heap.size W0 W := by
  obtain ⟨_, _, _, _, _, _, h1, _⟩ := h.a
  exact h1.bel
theorem Two.mono {W0 W W' : World} {lb h0 o0 h1 o1 : Nat} {md0 md1 : Int} {t0 t1 : Bool} {c : Nat} (h : Two W0 W lb h0 o0 h1 o1 md0 md1 t0 t1 c) (hB : Below W.heap.size W W') : Two W0 W' lb h0 o0 h1 o1 md0 md1 t0 t1 c := by
  obtain ⟨N, n, nx, T, lv, L, a1, a2, a3, a4⟩ := h.a
  obtain ⟨N', n', nx', T', lv', L', b1, b2, b3, b4⟩ := h.b
  have F := Fr.of_below hB a1.hp
  obtain ⟨q1, q2⟩ := b1.beside F h.dis
  exact ⟨h.row.of_block (hB.block _ h.row.lt), ⟨N, n, nx, T, lv, L, a1.mono hB, a2, a3, a4⟩, ⟨N', n', nx', T', lv', L', q1, b2, b3, b4⟩, q2⟩
theorem rowPair_fr {h9 o9 base : Nat} {W W' : World} {b m : Nat} {f : Nat → Value} (h : W.rowIs b 26 m f) (hF : Fr h9 o9 base W W') : W'.rowIs b 26 m f := by
  obtain ⟨cs, e, r⟩ := h
  exact ⟨cs, hF.oth _ _ e (oth_pair _), r⟩
theorem Hal.up {W0 W : World} {hb ob : Nat} {md : Int} {tur : Bool} {c : Nat} (h : Hal W0 W hb ob md tur c) : Hal W0 W hb ob md tur (c + 1) := by
  obtain ⟨N, n, nx, T, lv, L, a1, a2, a3, a4⟩ := h
  exact ⟨N, n, nx, T, lv, L, a1, a2, by omega, by omega⟩
theorem Two.play0 {W0 W : World} {lb h0 o0 h1 o1 : Nat} {md0 md1 : Int} {t0 t1 : Bool} {c : Nat} (h : Two W0 W lb h0 o0 h1 o1 md0 md1 t0 t1 c) (oj kd K V It : Int) (hc : c ≤ 400) (rK : -9223372036854775808 ≤ K ∧ K ≤ 9223372036854775807) (rI : -9223372036854775808 ≤ It ∧ It ≤ 9223372036854775807) :
    Calls Try.prog 11 #[.agg #[.pointer (some ⟨h0, 0, none⟩), .pointer (some ⟨o0, 0, none⟩)], .agg #[.int .i64 oj, .int .i64 kd, .int .i64 K, .int .i64 V, .int .i64 It]] W fun e w' => e = .returned (.bool true) ∧ Two W0 w' lb h0 o0 h1 o1 md0 md1 t0 t1 (c + 1) := by
  obtain ⟨N, n, nx, T, lv, L, a1, a2, a3, a4⟩ := h.a
  refine (plays_any oj kd K V It a1 a2 a3 a4 hc rK rI).mono ?_
  rintro e w' ⟨rfl, N2, n2, nx2, T2, lv2, L2, q1, q2, q3, q4, q5⟩
  obtain ⟨N', n', nx', T', lv', L', b1, b2, b3, b4⟩ := h.b.up
  obtain ⟨r1, r2⟩ := b1.beside q5 h.dis
  exact ⟨rfl, rowPair_fr h.row q5, ⟨N2, n2, nx2, T2, lv2, L2, q1, q2, q3, q4⟩, ⟨N', n', nx', T', lv', L', r1, b2, b3, b4⟩, r2⟩
theorem Two.play1 {W0 W : World} {lb h0 o0 h1 o1 : Nat} {md0 md1 : Int} {t0 t1 : Bool} {c : Nat} (h : Two W0 W lb h0 o0 h1 o1 md0 md1 t0 t1 c) (oj kd K V It : Int) (hc : c ≤ 400) (rK : -9223372036854775808 ≤ K ∧ K ≤ 9223372036854775807) (rI : -9223372036854775808 ≤ It ∧ It ≤ 9223372036854775807) :
    Calls Try.prog 11 #[.agg #[.pointer (some ⟨h1, 0, none⟩), .pointer (some ⟨o1, 0, none⟩)], .agg #[.int .i64 oj, .int .i64 kd, .int .i64 K, .int .i64 V, .int .i64 It]] W fun e w' => e = .returned (.bool true) ∧ Two W0 w' lb h0 o0 h1 o1 md0 md1 t0 t1 (c + 1) := by
  obtain ⟨N, n, nx, T, lv, L, a1, a2, a3, a4⟩ := h.b
  refine (plays_any oj kd K V It a1 a2 a3 a4 hc rK rI).mono ?_
  rintro e w' ⟨rfl, N2, n2, nx2, T2, lv2, L2, q1, q2, q3, q4, q5⟩
  obtain ⟨N', n', nx', T', lv', L', b1, b2, b3, b4⟩ := h.a.up
  obtain ⟨r1, r2⟩ := b1.beside q5 (fun k hk hk2 => h.dis k hk2 hk)
  exact ⟨rfl, rowPair_fr h.row q5, ⟨N', n', nx', T', lv', L', r1, b2, b3, b4⟩, ⟨N2, n2, nx2, T2, lv2, L2, q1, q2, q3, q4⟩, fun k hk hk2 => r2 k hk2 hk⟩
theorem newNil (w : World) : Calls Try.prog 10 #[.nilFunc] w fun e w' => e = .returned (.pointer none) ∧ w' = w := by
  have hfn : (binOp .eql 66 .nilFunc .nilFunc).run Try.prog w = .ok (.bool true) w := by kernel_rfl
  go_enter Try.func10, Try.ntmps10
  go_wp2_with fail
  go_ret
  exact ⟨rfl, rfl⟩
end Go.Proofs.Ytjnfcihichaonaa
namespace Go.Proofs.Ytjnfcihichaonaa
open Go.RowKit
set_option linter.unusedVariables false
theorem wf_i64 {n : Int} (h : (Lit.int .i64 n).wf = true) : -9223372036854775808 ≤ n ∧ n ≤ 9223372036854775807 := by
  have hmin : IntKind.i64.min = -9223372036854775808 := rfl
  have hmax : IntKind.i64.max = 9223372036854775807 := rfl
  have h2 : IntKind.i64.min ≤ n ∧ n ≤ IntKind.i64.max := by simpa [Lit.wf] using h
  rw [hmin, hmax] at h2
  exact h2
theorem isl_none (w : World) : ISl w none 0 0 (fun _ => 0) := ⟨Nat.le_refl _, by omega, fun i hi => by omega, .inl rfl⟩
theorem isl_of {w : World} {a : Addr} {len cap : Nat} {zs : List Int} (hl : len ≤ cap) (hm : cap ≤ maxLen) (hz : zs.length = cap) (h : ∀ i, i < zs.length → w.cell? (a.add i) = some (.int .i64 (zs.getD i 0))) (hw : ∀ n ∈ zs, (Lit.int .i64 n).wf = true) : ISl w (some a) len cap (fun i => zs.getD i 0) := by
  refine ⟨hl, by simp only [maxLen] at hm; omega, fun i hi => ?_, ?_⟩
  · have : zs.getD i 0 ∈ zs := by
      rw [List.getD_eq_getElem?_getD, List.getElem?_eq_getElem (by omega)]
      exact List.getElem_mem _
    exact wf_i64 (hw _ this)
  · rcases Nat.eq_zero_or_pos len with e | e
    · exact .inl e
    · obtain ⟨b, off, spot⟩ := a
      have hc := h 0 (by omega)
      have hspot : spot = none := by simpa [Addr.add] using World.cell?_spot hc
      subst hspot
      refine .inr ⟨b, off, rfl, fun i hi => ?_⟩
      have h1 := h i (by omega)
      rw [addr_add] at h1
      exact h1
theorem bsl_none (w : World) : BSl w none 0 0 (fun _ => false) := ⟨Nat.le_refl _, by omega, .inl rfl⟩
theorem bsl_of {w : World} {a : Addr} {len cap : Nat} {B : Nat → Bool} (hl : len ≤ cap) (hm : cap ≤ maxLen) (h : ∀ i, i < cap → w.cell? (a.add i) = some (.bool (B i))) : BSl w (some a) len cap B := by
  refine ⟨hl, by simp only [maxLen] at hm; omega, ?_⟩
  rcases Nat.eq_zero_or_pos len with e | e
  · exact .inl e
  · obtain ⟨b, off, spot⟩ := a
    have hc := h 0 (by omega)
    have hspot : spot = none := by simpa [Addr.add] using World.cell?_spot hc
    subst hspot
    refine .inr ⟨b, off, rfl, fun i hi => ?_⟩
    have h1 := h i (by omega)
    rw [addr_add] at h1
    exact h1
end Go.Proofs.Ytjnfcihichaonaa
namespace Go.Proofs.Ytjnfcihichaonaa
open Go.RowKit
set_option linter.unusedVariables false
theorem add_more (a : Addr) (m j : Nat) : (a.add m).add j = a.add (m + j) := by
  unfold Addr.add
  rcases Nat.eq_zero_or_pos m with e | e
  · subst e; simp
  · rcases Nat.eq_zero_or_pos j with e2 | e2
    · subst e2; simp
    · rw [if_neg (by omega), if_neg (by omega), if_neg (by omega)]
      simp [Nat.add_assoc]
theorem steps5_of {H : Type} {enc : TypeId × Value → H} {P : Program} {w : World} {base : Nat} {spare : Nat → Bool} {held : Bool} {t e : TypeId} {fuel : Nat} {cs : List Value} {x : DataW H × List MemPlace} {fs : Array Field}
    (ht : P.underlying t = some (.slice e)) (he : P.underlying e = some (.struct fs)) (ce : P.cellsOf e = 5) (hsz : fs.size = 5)
    (hf : ∀ j, j < 5 → ∃ f, fs[j]? = some f ∧ f.offset = j ∧ P.cellsOf f.type = 1 ∧ P.underlying f.type = some (.int .i64)) (h : DataW.trod enc P w base spare held fuel t cs = some x) :
    cs = [.slice none 0 0] ∨ ∃ (a : Addr) (len cap : Nat), cs = [.slice (some a) len cap] ∧ len ≤ cap ∧ cap ≤ maxLen ∧ ∀ i j, i < len → j < 5 → ∃ v, w.cell? (a.add (i * 5 + j)) = some (.int .i64 v) ∧ (Lit.int .i64 v).wf = true := by
  rcases Deep.open_slice ht h with ⟨h0, _⟩ | ⟨a, len, cap, m, n, D, Pl, rfl, hb, hl, hm, hmm, _, hx⟩
  · exact .inl h0
  · refine .inr ⟨a, len, cap, rfl, hl, hm, fun i j hi hj => ?_⟩
    have hlm : len ≤ m := by rw [hmm]; split <;> omega
    obtain ⟨cs', h1, h2⟩ := hx i (by omega)
    rw [ce] at h1
    obtain ⟨_, hlen, hcell⟩ := World.cells?_some h1
    obtain ⟨xs, k, _, _, _, hxl, hff⟩ := DataW.trod_struct he h2
    obtain ⟨f, f1, f2, f3, f4⟩ := hf j hj
    have g := hff j f f1
    rw [f2, f3] at g
    have hxj : ∃ y, xs[j]? = some y := ⟨_, List.getElem?_eq_getElem (by omega)⟩
    obtain ⟨y, hy⟩ := hxj
    rw [hy] at g
    obtain ⟨v, hv, _, hw⟩ := DataW.trod_int f4 g
    refine ⟨v, ?_, hw⟩
    have e1 := hcell j hj
    rw [add_more] at e1
    rw [e1]
    have e2 := congrArg (fun l => l[0]?) hv
    simpa using e2
theorem osl_of {w : World} {a : Addr} {len cap : Nat} (hl : len ≤ cap) (hm : cap ≤ maxLen) (h : ∀ i j, i < len → j < 5 → ∃ v, w.cell? (a.add (i * 5 + j)) = some (.int .i64 v) ∧ (Lit.int .i64 v).wf = true) :
    ∃ F, OSl w (some a) len cap F := by
  refine ⟨fun i j => intOf ((w.cell? (a.add (i * 5 + j))).getD undef), hl, by simp only [maxLen] at hm; omega, fun i j hi hj => ?_, ?_⟩
  · obtain ⟨v, hv, hw⟩ := h i j hi hj
    show -9223372036854775808 ≤ intOf ((w.cell? (a.add (i * 5 + j))).getD undef) ∧ _
    rw [hv]
    exact wf_i64 hw
  · rcases Nat.eq_zero_or_pos len with e | e
    · exact .inl e
    · obtain ⟨b, off, spot⟩ := a
      obtain ⟨v, hc, _⟩ := h 0 0 e (by omega)
      have hspot : spot = none := by simpa [Addr.add] using World.cell?_spot hc
      subst hspot
      refine .inr ⟨b, off, rfl, fun i j hi hj => ?_⟩
      obtain ⟨v, hv, _⟩ := h i j hi hj
      rw [addr_add] at hv
      have e3 : off + i * 5 + j = off + (i * 5 + j) := by omega
      rw [e3, hv, addr_add, hv]
      rfl
theorem ops_of {H : Type} {enc : TypeId × Value → H} {w : World} {base : Nat} {spare : Nat → Bool} {held : Bool} {fuel : Nat} {a : Option Addr} {len cap : Nat} {x : DataW H × List MemPlace} (h : DataW.trod enc Try.prog w base spare held fuel 22 (Value.slice a len cap).cells.toList = some x) : ∃ F, OSl w a len cap F := by
  have h' := steps5_of Try.underlying22 Try.underlying32 (by kernel_rfl) rfl (fun j hj => match j, hj with
    | 0, _ => ⟨_, rfl, rfl, by kernel_rfl, by kernel_rfl⟩
    | 1, _ => ⟨_, rfl, rfl, by kernel_rfl, by kernel_rfl⟩
    | 2, _ => ⟨_, rfl, rfl, by kernel_rfl, by kernel_rfl⟩
    | 3, _ => ⟨_, rfl, rfl, by kernel_rfl, by kernel_rfl⟩
    | 4, _ => ⟨_, rfl, rfl, by kernel_rfl, by kernel_rfl⟩) h
  rcases h' with hcs | ⟨y, l, c, hcs, hl, hm, hcell⟩
  · simp [Value.cells] at hcs
    obtain ⟨rfl, rfl, rfl⟩ := hcs
    exact ⟨fun _ _ => 0, Nat.le_refl _, by omega, fun i j hi _ => by omega, .inl rfl⟩
  · simp [Value.cells] at hcs
    obtain ⟨rfl, rfl, rfl⟩ := hcs
    exact osl_of hl hm hcell
end Go.Proofs.Ytjnfcihichaonaa
