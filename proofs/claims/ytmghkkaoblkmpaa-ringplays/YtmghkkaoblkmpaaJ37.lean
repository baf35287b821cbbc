/- Contracts of the program's functions, part 37: own work, joined in build order. -/
import Derived.Test.YtmghkkaoblkmpaaJ36
namespace Go.Proofs.Ytmghkkaoblkmpaa
open Go.RowKit Go.Shelf
set_option maxRecDepth 100000
set_option linter.unusedVariables false
attribute [local go_sem] Oper.semAt_some
theorem Try.infoL : (Try.prog.info? 27).map (fun i => (i.zero, i.size, i.bytes)) = some (some (.slice none 0 0), 1, 24) := by kernel_rfl
theorem wp_appL {F : Fence} {nF : Nat} {w : World} {ops : Array Oper} {rest : List Oper} {o : Oper} {a : Act} {Q : Exit → Act → World → Prop} (hgd : o.guard = none) (s x : Operand)
    (ho : o.op = .call { callee := .builtin .append, args := #[s, x], argTypes := #[32, 32] }) (base : Nat) (v : Value) (Vs : List Value) (hs : a.eval s = v) (hown : w.ownsRow base 27 1 v Vs.length Vs)
    (u : Value) (hu : ∃ a n c, u = .slice a n c) (b : Nat) (hx : a.eval x = .slice (some ⟨b, 0, none⟩) 1 1) (hc : w.cell? ⟨b, 0, none⟩ = some u) (hlim : Vs.length ≤ 1000000) (hb : base ≤ w.heap.size)
    (h : ∀ v' w', Hid (w'.ownsRow base 27 1 v' (Vs.length + 1) (Vs ++ [u]) ∧ w.grownBy w' v.ownBlock ∧ (v'.ownBlock = v.ownBlock ∨ v'.ownBlock = some w.heap.size)) → wpListIn F nF Try.prog ops Q rest (a.put o.dst v') w') : wpListIn F nF Try.prog ops Q (o :: rest) a w := by
  obtain ⟨i, hi, hz, hsz, hby⟩ := info_parts Try.infoL
  refine wpListIn_append_own_at w hgd s x 32 ho base 27 i _ 1 24 Try.underlying32 hi hz hsz hby rfl (by omega) v _ _ hs hown ⟨b, 0, none⟩ 1 1 [u] hx rfl (fun j u' hj => ?_) (fun u' hu' => ?_) (by simp only [maxLen]; omega) (by omega) hb ?_
  · rcases j with _ | j
    · simp at hj
      subst hj
      rw [addr_add]
      exact hc
    · simp at hj
  · simp at hu'
    subst hu'
    obtain ⟨a, n, c, rfl⟩ := hu
    rfl
  · intro v' w' h1 h2 _ h4
    exact h v' w' ⟨h1, h2, h4⟩
/-- A block that nothing of the round's state lies in. -/
structure Out (bR bL : Nat) (r g : Nat → Nat) (v : Nat → Value) (hb : Nat) (vl : Value) (Vs : List Value) (sb x : Nat) : Prop where
  nR : x ≠ bR
  nL : x ≠ bL
  nH : x ≠ hb
  ns : x ≠ sb
  nr : ∀ o, o < 2 → x ≠ r o ∧ x ≠ g o
  nv : vl.ownBlock ≠ some x
  nl : ∀ o, o < 2 → ∀ b p n c, v o = .slice (some ⟨b, p, none⟩) n c → b ≠ x
  ne : ∀ j, j < Vs.length → (Vs.getD j undef).ownBlock ≠ some x
structure Ly (w W : World) (bR bL : Nat) (r g : Nat → Nat) (v : Nat → Value) (ys : Nat → List Int) (hb of : Nat) (vl : Value) (Vs : List Value) (M sb : Nat) (S : Nat → Value) (Ds : List Nat) : Prop where
  pl : Pl w W bR bL r g v ys hb of vl Vs M
  mks : Mk w.heap.size W Ds
  st : W.rowIs sb 34 4 S
  ns : vl.ownBlock ≠ some sb
theorem Ly.mono {w W W' : World} {bR bL : Nat} {r g : Nat → Nat} {v : Nat → Value} {ys : Nat → List Int} {hb of : Nat} {vl : Value} {Vs : List Value} {M sb : Nat} {S : Nat → Value} {Ds : List Nat} (h : Ly w W bR bL r g v ys hb of vl Vs M sb S Ds) (hB : Below W.heap.size W W') : Ly w W' bR bL r g v ys hb of vl Vs M sb S Ds :=
  ⟨h.pl.mono hB, h.mks.mono hB, h.st.of_block (hB.block _ h.st.lt), h.ns⟩
theorem Ly.out {w W : World} {bR bL : Nat} {r g : Nat → Nat} {v : Nat → Value} {ys : Nat → List Int} {hb of : Nat} {vl : Value} {Vs : List Value} {M sb : Nat} {S : Nat → Value} {Ds : List Nat} (h : Ly w W bR bL r g v ys hb of vl Vs M sb S Ds) {x : Nat} (hx : W.heap.size ≤ x) : Out bR bL r g v hb vl Vs sb x := by
  have h1 := h.pl.freR.lt
  have h2 := h.pl.okL.1
  have h3 := h.pl.freH.lt
  have h4 := h.st.lt
  refine ⟨by omega, by omega, by omega, by omega, fun o ho => ?_, fun e => by have := (h.pl.okV x e).1; omega, fun o ho b p n c e e2 => ?_, fun j hj e => ?_⟩
  · obtain ⟨N, f, hR⟩ := h.pl.ring o ho
    have h5 := hR.rlt
    have h6 := hR.glt
    omega
  · obtain ⟨a, cap, e3, hx3, hf⟩ := h.pl.lst o ho
    rw [e] at e3
    injection e3 with e4
    have := (hf b p e4.symm).lt
    omega
  · obtain ⟨n, h5, h6⟩ := h.pl.each j hj
    have := (h6 x e).lt
    omega
theorem Ly.turn {w W W' : World} {bR bL : Nat} {r g : Nat → Nat} {v : Nat → Value} {ys : Nat → List Int} {hb of : Nat} {vl : Value} {Vs : List Value} {M sb : Nat} {S : Nat → Value} {Ds : List Nat} (h : Ly w W bR bL r g v ys hb of vl Vs M sb S Ds) {x : Nat} (hx : Out bR bL r g v hb vl Vs sb x) (hg : W.grownBy W' (some x)) (hc : ∃ cs t z, W.heap[x]? = some (.cells cs t z)) (hw : w.heap.size ≤ x) : Ly w W' bR bL r g v ys hb of vl Vs M sb S Ds := by
  have hz := hg.size
  have kept : ∀ k, k < W.heap.size → x ≠ k → W'.heap[k]? = W.heap[k]? := fun k h1 h2 => hg.block k h1 (fun e => h2 (by injection e with e; exact e.symm))
  refine ⟨?_, h.mks.keep fun k o hk ho => kept k (Array.getElem?_eq_some_iff.1 hk).1 ?_, h.st.of_block (kept _ h.st.lt hx.ns), h.ns⟩
  · have P := h.pl
    refine { rows := P.rows.of_block (kept _ P.freR.lt hx.nR), lsts := P.lsts.of_block (kept _ P.okL.1 hx.nL), ring := fun o ho => ?_, apart := P.apart, lst := fun o ho => ?_, held := (kept _ P.freH.lt hx.nH).trans P.held, ofl := P.ofl, lists := rows_kept P.lists fun k hk => kept k (P.okV k hk).1 (fun e => hx.nv (by rw [hk, e])), each := fun j hj => ?_, freR := P.freR.mono hz, freH := P.freH.mono hz, okL := ⟨Nat.lt_of_lt_of_le P.okL.1 hz, P.okL.2⟩, okV := fun k hk => ⟨Nat.lt_of_lt_of_le (P.okV k hk).1 hz, (P.okV k hk).2⟩, base := P.base, bel := ?_, lim := P.lim }
    · obtain ⟨N, f, hR⟩ := P.ring o ho
      exact ⟨N, f, hR.of_blocks (kept _ hR.rlt (hx.nr o ho).1) (kept _ hR.glt (hx.nr o ho).2)⟩
    · obtain ⟨a, cap, e, hi, hf⟩ := P.lst o ho
      exact ⟨a, cap, e, isx_kept hi fun b p e2 => kept b (hf b p e2).lt (fun e3 => hx.nl o ho b p _ _ (by rw [e, e2]) e3.symm), fun b p e => (hf b p e).mono hz⟩
    · obtain ⟨n, h1, h2⟩ := P.each j hj
      exact ⟨n, rows_kept h1 fun k hk => kept k (h2 k hk).lt (fun e => hx.ne j hj (by rw [hk, e])), fun k hk => (h2 k hk).mono hz⟩
    · have hs := P.bel.size
      exact ⟨hg.os.trans P.bel.os, hg.tape.trans P.bel.tape, hg.output.trans P.bel.output, by omega, fun k hk => (kept k (by omega) (by omega)).trans (P.bel.block k hk)⟩
  · rintro rfl
    obtain ⟨cs, t, z, e⟩ := hc
    rw [e] at hk
    cases hk
    cases ho
/-- filled: only the list's own block turns. -/
theorem Ly.filled {w W W' : World} {bR bL : Nat} {r g : Nat → Nat} {v : Nat → Value} {ys : Nat → List Int} {hb of : Nat} {vl : Value} {Vs : List Value} {M sb : Nat} {S : Nat → Value} {Ds : List Nat} (h : Ly w W bR bL r g v ys hb of vl Vs M sb S Ds) {x n : Nat} {xs : List Int} {mark : Int} {e : Ending} (hx : Out bR bL r g v hb vl Vs sb x) (hO : Ow w.heap.size W (.slice (some ⟨x, 0, none⟩) n n) xs) (hF : Fills w.heap.size W (.slice (some ⟨x, 0, none⟩) n n) xs mark e W') :
    ∃ u, e = .returned u ∧ (∃ a n c, u = .slice a n c) ∧ Ly w W' bR bL r g v ys hb of vl Vs M sb S Ds ∧ Ow w.heap.size W' u (List.replicate (xs.length + 2) mark) ∧ (∀ k, u.ownBlock = some k → k = x ∨ W.heap.size ≤ k) ∧ W.grownBy W' (some x) ∧ ∀ k, u.ownBlock = some k → Out bR bL r g v hb vl Vs sb k := by
  obtain ⟨u, rfl, h1, h2, h3⟩ := hF
  have hc : (∃ cs t z, W.heap[x]? = some (.cells cs t z)) ∧ w.heap.size ≤ x := by
    rcases hO.2 with ⟨e, _⟩ | ⟨g9, cap, cur, e, hb9, hg9, _⟩
    · cases e
    · cases e
      exact ⟨⟨_, _, _, hg9⟩, hb9⟩
  have hk : ∀ k, u.ownBlock = some k → k = x ∨ W.heap.size ≤ k := fun k hk => by
    rcases h3 with e | ⟨k2, e, h4⟩
    · rw [hk] at e
      injection e with e
      exact .inl e
    · rw [hk] at e
      injection e with e
      exact .inr (by omega)
  obtain ⟨a, c, e, _⟩ := h1.isx
  refine ⟨u, rfl, ⟨_, _, _, e⟩, h.turn hx h2 hc.1 hc.2, h1, hk, h2, fun k hk2 => ?_⟩
  rcases hk k hk2 with rfl | h4
  · exact hx
  · exact h.out h4
theorem Ly.appended {w W W2 : World} {bR bL : Nat} {r g : Nat → Nat} {v : Nat → Value} {ys : Nat → List Int} {hb of : Nat} {vl vl' : Value} {Vs : List Value} {M sb : Nat} {S : Nat → Value} {Ds : List Nat} (h : Ly w W bR bL r g v ys hb of vl Vs M sb S Ds) {u : Value} {n : Nat} (hO : Ow w.heap.size W u (List.replicate n (-7 - (Vs.length : Int)))) (hu : ∀ k, u.ownBlock = some k → Out bR bL r g v hb vl Vs sb k)
    (hg : (W.alloc (.cells #[u] 27)).grownBy W2 vl.ownBlock) (hr : W2.ownsRow w.heap.size 27 1 vl' (Vs.length + 1) (Vs ++ [u])) (hat : vl'.ownBlock = vl.ownBlock ∨ vl'.ownBlock = some (W.alloc (.cells #[u] 27)).heap.size) :
    Ly w W2 bR bL r g v ys hb of vl' (Vs ++ [u]) M sb S Ds ∧ (∀ k, k < W.heap.size → vl.ownBlock ≠ some k → W2.heap[k]? = W.heap[k]?) ∧ ∀ x, x < W.heap.size → Out bR bL r g v hb vl Vs sb x → u.ownBlock ≠ some x → Out bR bL r g v hb vl' (Vs ++ [u]) sb x := by
  have P := h.pl
  have ha : (W.alloc (.cells #[u] 27)).heap.size = W.heap.size + 1 := by simp
  rw [ha] at hat
  have hz := hg.size
  rw [ha] at hz
  have kept : ∀ k, k < W.heap.size → vl.ownBlock ≠ some k → W2.heap[k]? = W.heap[k]? := fun k h1 h2 => (hg.block k (by omega) (fun e => h2 e.symm)).trans (Below.heap_alloc _ _ _ h1)
  have own' : ∀ k, vl'.ownBlock = some k → vl.ownBlock = some k ∨ k = W.heap.size + 1 := fun k hk => by
    rcases hat with e | e
    · exact .inl (e.symm.trans hk)
    · rw [hk] at e
      injection e with e
      exact .inr e
  have nv' : ∀ k, k < W.heap.size → vl.ownBlock ≠ some k → vl'.ownBlock ≠ some k := fun k h1 h2 e => by
    rcases own' k e with h3 | h3
    · exact h2 h3
    · omega
  have fre : ∀ k, Fre W bL r g vl k → Fre W2 bL r g vl' k := fun k hk => ⟨by have := hk.lt; omega, hk.nr, hk.nl, nv' k hk.lt hk.nv⟩
  have hVl : ∀ j, j < Vs.length → (Vs ++ [u]).getD j undef = Vs.getD j undef := fun j hj => by
    simp only [List.getD_eq_getElem?_getD, List.getElem?_append_left hj]
  have hVu : (Vs ++ [u]).getD Vs.length undef = u := by
    simp [List.getD_eq_getElem?_getD]
  have hlt : ∀ k, u.ownBlock = some k → k < W.heap.size := fun k hk => by
    rcases hO.2 with ⟨e, _⟩ | ⟨g9, cap, cur, e, hb9, hg9, _⟩
    · rw [e] at hk
      cases hk
    · rw [e] at hk
      cases hk
      exact (Array.getElem?_eq_some_iff.1 hg9).1
  refine ⟨⟨?_, h.mks.keep fun k o hk ho => kept k (Array.getElem?_eq_some_iff.1 hk).1 fun e => ?_, h.st.of_block (kept _ h.st.lt h.ns), nv' sb h.st.lt h.ns⟩, kept, fun x hx0 hx hux => ⟨hx.nR, hx.nL, hx.nH, hx.ns, hx.nr, nv' x hx0 hx.nv, hx.nl, fun j hj => ?_⟩⟩
  · refine { rows := P.rows.of_block (kept _ P.freR.lt P.freR.nv), lsts := P.lsts.of_block (kept _ P.okL.1 fun e => (P.okV _ e).2.1 rfl), ring := fun o ho => ?_, apart := P.apart, lst := fun o ho => ?_, held := (kept _ P.freH.lt P.freH.nv).trans P.held, ofl := P.ofl, lists := ?_, each := fun j hj => ?_, freR := fre _ P.freR, freH := fre _ P.freH, okL := ⟨by have := P.okL.1; omega, P.okL.2⟩, okV := fun k hk => ?_, base := P.base, bel := ?_, lim := P.lim }
    · obtain ⟨N, f, hR⟩ := P.ring o ho
      exact ⟨N, f, hR.of_blocks (kept _ hR.rlt fun e => ((P.okV _ e).2.2 o ho).1 rfl) (kept _ hR.glt fun e => ((P.okV _ e).2.2 o ho).2 rfl)⟩
    · obtain ⟨a, cap, e, hi, hf⟩ := P.lst o ho
      exact ⟨a, cap, e, isx_kept hi fun b p e2 => kept b (hf b p e2).lt (hf b p e2).nv, fun b p e => fre _ (hf b p e)⟩
    · rw [List.length_append, List.length_singleton]
      exact hr
    · rw [List.length_append, List.length_singleton] at hj
      rcases Nat.lt_or_ge j Vs.length with h1 | h1
      · rw [hVl j h1]
        obtain ⟨n, h2, h3⟩ := P.each j h1
        exact ⟨n, rows_kept h2 fun k hk => kept k (h3 k hk).lt (h3 k hk).nv, fun k hk => fre _ (h3 k hk)⟩
      · obtain rfl : j = Vs.length := by omega
        rw [hVu]
        exact ⟨n, rows_kept hO fun k hk => kept k (hlt k hk) (hu k hk).nv, fun k hk => fre _ ⟨hlt k hk, (hu k hk).nr, (hu k hk).nL, (hu k hk).nv⟩⟩
    · rcases own' k hk with h1 | h1
      · have h2 := P.okV k h1
        exact ⟨by omega, h2.2⟩
      · have h2 : k < W2.heap.size := by
          rcases hr.2 with ⟨e, _⟩ | ⟨g9, cap, cur, e, hb9, hg9, _⟩
          · rw [e] at hk
            cases hk
          · rw [e] at hk
            cases hk
            exact (Array.getElem?_eq_some_iff.1 hg9).1
        have h3 := P.okL.1
        refine ⟨h2, by omega, fun o ho => ?_⟩
        obtain ⟨N, f, hR⟩ := P.ring o ho
        have h5 := hR.rlt
        have h6 := hR.glt
        omega
    · have hs := P.bel.size
      refine ⟨hg.os.trans P.bel.os, hg.tape.trans P.bel.tape, hg.output.trans P.bel.output, by omega, fun k hk => (kept k (by omega) fun e => ?_).trans (P.bel.block k hk)⟩
      rcases P.lists.2 with ⟨e2, _⟩ | ⟨g9, cap, cur, e2, hb9, hg9, _⟩
      · rw [e2] at e
        cases e
      · rw [e2] at e
        cases e
        have hk' : g9 < w.heap.size := hk
        omega
  · rcases P.lists.2 with ⟨e2, _⟩ | ⟨g9, cap, cur, e2, hb9, hg9, _⟩
    · rw [e2] at e
      cases e
    · rw [e2] at e
      cases e
      rw [hg9] at hk
      cases hk
      cases ho
  · rw [List.length_append, List.length_singleton] at hj
    rcases Nat.lt_or_ge j Vs.length with h1 | h1
    · rw [hVl j h1]
      exact hx.ne j h1
    · obtain rfl : j = Vs.length := by omega
      rw [hVu]
      exact hux
theorem Ly.nx {w W : World} {bR bL : Nat} {r g : Nat → Nat} {v : Nat → Value} {ys : Nat → List Int} {hb of : Nat} {vl : Value} {Vs : List Value} {M sb : Nat} {S : Nat → Value} {Ds : List Nat} (h : Ly w W bR bL r g v ys hb of vl Vs M sb S Ds) : Nx w bR bL r hb of vl Vs (M + 3) sb S Ds W :=
  ⟨⟨_, _, _, h.pl.weak (by omega)⟩, h.mks, h.st⟩
theorem wrap7 (k : Nat) (h : k ≤ 100000) : IntKind.i64.wrap (-7 - (k : Int)) = -7 - (k : Int) := by rw [IntKind.wrap_i64]; omega
theorem Ly.beside {w W : World} {bR bL : Nat} {r g : Nat → Nat} {v : Nat → Value} {ys : Nat → List Int} {hb of : Nat} {vl : Value} {Vs : List Value} {M sb : Nat} {S : Nat → Value} {Ds : List Nat} (h : Ly w W bR bL r g v ys hb of vl Vs M sb S Ds) {o : Nat} (ho : o < 2) {a : Option Addr} {cap : Nat} (e : v o = .slice a (ys o).length cap) :
    W.cell? ⟨bL, o, none⟩ = some (.slice a (ys o).length cap) ∧ ISl W a (ys o).length cap (ys o) := by
  obtain ⟨a2, cap2, e2, hx, _⟩ := h.pl.lst o ho
  rw [e] at e2
  injection e2 with e3 _ e4
  subst e3 e4
  exact ⟨by rw [← e]; exact h.pl.lsts.cell ho, hx.sl⟩
theorem ow_isl {base : Nat} {W : World} {G n c : Nat} {xs : List Int} (h : Ow base W (.slice (some ⟨G, 0, none⟩) n c) xs) : ISl W (some ⟨G, 0, none⟩) n c xs := by
  obtain ⟨a, cap, e, hx, _⟩ := h.isx
  injection e with e1 e2 e3
  subst e1 e2 e3
  exact hx.sl
/-- One list that is told: written full, and kept. -/
theorem Ly.one {w W W8 : World} {bR bL : Nat} {r g : Nat → Nat} {v : Nat → Value} {ys : Nat → List Int} {hb of : Nat} {vl : Value} {Vs : List Value} {M sb : Nat} {S : Nat → Value} {Ds : List Nat} (h : Ly w W bR bL r g v ys hb of vl Vs M sb S Ds) {x n : Nat} {xs : List Int} {e : Ending} (hx : Out bR bL r g v hb vl Vs sb x) (hO : Ow w.heap.size W (.slice (some ⟨x, 0, none⟩) n n) xs) (hF : Fills w.heap.size W (.slice (some ⟨x, 0, none⟩) n n) xs (-7 - (Vs.length : Int)) e W8) :
    ∃ ua un uc, e = .returned (.slice ua un uc) ∧ w.heap.size ≤ (W8.alloc (.cells #[.slice ua un uc] 27)).heap.size ∧ (W8.alloc (.cells #[.slice ua un uc] 27)).ownsRow w.heap.size 27 1 vl Vs.length Vs ∧
      ∀ vl' W9, W9.ownsRow w.heap.size 27 1 vl' (Vs.length + 1) (Vs ++ [.slice ua un uc]) → (W8.alloc (.cells #[.slice ua un uc] 27)).grownBy W9 vl.ownBlock → (vl'.ownBlock = vl.ownBlock ∨ vl'.ownBlock = some (W8.alloc (.cells #[.slice ua un uc] 27)).heap.size) →
        Ly w W9 bR bL r g v ys hb of vl' (Vs ++ [.slice ua un uc]) M sb S Ds ∧ (∃ G c, vl' = .slice (some ⟨G, 0, none⟩) (Vs ++ [Value.slice ua un uc]).length c) ∧
        ∀ G2 n2 c2 zs, G2 ≠ x → Out bR bL r g v hb vl Vs sb G2 → Ow w.heap.size W (.slice (some ⟨G2, 0, none⟩) n2 c2) zs → Out bR bL r g v hb vl' (Vs ++ [.slice ua un uc]) sb G2 ∧ Ow w.heap.size W9 (.slice (some ⟨G2, 0, none⟩) n2 c2) zs := by
  obtain ⟨u, rfl, ⟨ua, un, uc, rfl⟩, L8, O8, hk8, hg8, X8⟩ := h.filled hx hO hF
  have hs := L8.pl.bel.size
  have hz := hg8.size
  refine ⟨ua, un, uc, rfl, by simp; omega, rows_kept L8.pl.lists fun k hk => Below.heap_alloc _ _ _ (L8.pl.okV k hk).1, fun vl' W9 h1 h2 h3 => ?_⟩
  obtain ⟨L9, kept, out⟩ := L8.appended O8 X8 h2 h1 h3
  refine ⟨L9, ?_, fun G2 n2 c2 zs hne hX hO2 => ?_⟩
  · rw [List.length_append, List.length_singleton]
    exact ownsRow_succ h1
  · have hl2 : G2 < W.heap.size := by
      rcases hO2.2 with ⟨e, _⟩ | ⟨g9, cap, cur, e, hb9, hg9, _⟩
      · cases e
      · cases e
        exact (Array.getElem?_eq_some_iff.1 hg9).1
    refine ⟨out G2 (by omega) hX fun e => ?_, rows_kept hO2 fun k hk => ?_⟩
    · rcases hk8 G2 e with h4 | h4
      · exact hne h4
      · omega
    · have hk2 : k = G2 := by
        simp [Value.ownBlock] at hk
        exact hk.symm
      subst hk2
      exact (kept k (by omega) hX.nv).trans (hg8.block k hl2 (fun e => hne (by injection e)))
end Go.Proofs.Ytmghkkaoblkmpaa
