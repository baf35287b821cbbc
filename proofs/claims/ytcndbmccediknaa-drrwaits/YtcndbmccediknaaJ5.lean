/- Contracts of the program's functions, part 5: own work, joined in build order. -/
import Derived.Test.YtcndbmccediknaaJ4
import Derived.Scope
namespace Go.Proofs.Ytcndbmccediknaa
open Go.RowKit
set_option maxRecDepth 100000
set_option linter.unusedVariables false
def adrs (R : List Nat) : List (Option Addr) := R.map fun b => some ⟨b, 0, none⟩
theorem adrs_len (R : List Nat) : (adrs R).length = R.length := by simp [adrs]
def updN {α : Type} (g : Nat → α) (b : Nat) (x : α) : Nat → α := fun c => if c = b then x else g c
theorem updN_eq {α : Type} (g : Nat → α) (b : Nat) (x : α) : updN g b x b = x := if_pos rfl
theorem updN_ne {α : Type} (g : Nat → α) {b c : Nat} (x : α) (h : c ≠ b) : updN g b x c = g c := if_neg h
structure Sd where
  x : Dv
  nn : Nat
  g : Nat
  R : List Nat
  F : Int → Option Nat
  Y : Nat → Fw
  Q : Nat → List Pk
  G : Nat → Nat
structure DSM (M : Int → Option Nat) (w : World) (d : Nat) (s : Sd) : Prop where
  dr : Dr w d s.x
  mp : Mp w s.x.flows s.nn M
  rg : ∃ N f, RF w s.x.ring s.g N f (adrs s.R).length (adrs s.R)
  fl : ∀ i b, s.F i = some b → Fl w b (s.Y b)
  sl : ∀ i b, s.F i = some b → (s.Y b).slot = i
  qu : ∀ i b, s.F i = some b → ∃ N f, RP w (s.Y b).queue (s.G b) N f (s.Q b).length (s.Q b)
  ap : ∀ i j b c, s.F i = some b → s.F j = some c → b ≠ c → (s.Y b).queue ≠ (s.Y c).queue ∧ s.G b ≠ s.G c
  inr : ∀ b, b ∈ s.R → ∃ i, s.F i = some b
abbrev DS (w : World) (d : Nat) (s : Sd) : Prop := DSM s.F w d s
def cls (w : World) (k : Nat) : Nat := match w.heap[k]? with
  | some (.cells _ t _) => if t = 69 then 0 else if t = 92 ∨ t = 71 then 2 else if t = 74 then 3 else if t = 95 ∨ t = 49 then 4 else 5
  | _ => 1
theorem ne_cls {w : World} {a b m n : Nat} (h1 : cls w a = m) (h2 : cls w b = n) (h : m ≠ n) : a ≠ b := by
  rintro rfl
  exact h (h1.symm.trans h2)
theorem cls_row {w : World} {k n : Nat} {t : TypeId} {f : Nat → Value} (h : w.rowIs k t n f) : cls w k = if t = 69 then 0 else if t = 92 ∨ t = 71 then 2 else if t = 74 then 3 else if t = 95 ∨ t = 49 then 4 else 5 := by
  obtain ⟨c, e, _⟩ := h
  simp only [cls, e]
section
variable {M : Int → Option Nat} {w w' : World} {d : Nat} {s s' : Sd} {i : Int} {b : Nat}
theorem DSM.cd (h : DSM M w d s) : cls w d = 0 := (cls_row h.dr).trans (by decide)
theorem DSM.cm (h : DSM M w d s) : cls w s.x.flows = 1 := by
  obtain ⟨es, ck, e⟩ := h.mp.block
  simp only [cls, e]
theorem DSM.cr (h : DSM M w d s) : cls w s.x.ring = 2 := by
  obtain ⟨N, f, hr⟩ := h.rg
  exact (cls_row hr.hd).trans (by decide)
theorem DSM.cg (h : DSM M w d s) : cls w s.g = 2 := by
  obtain ⟨N, f, hr⟩ := h.rg
  rcases Nat.eq_zero_or_pos N with e | e
  · rw [(hr.zr e).1]
    exact h.cr
  exact (cls_row (hr.row e)).trans (by decide)
theorem DSM.cb (h : DSM M w d s) (hF : s.F i = some b) : cls w b = 3 := (cls_row (h.fl i b hF)).trans (by decide)
theorem DSM.cq (h : DSM M w d s) (hF : s.F i = some b) : cls w (s.Y b).queue = 4 := by
  obtain ⟨N, f, hr⟩ := h.qu i b hF
  exact (cls_row hr.hd).trans (by decide)
theorem DSM.cG (h : DSM M w d s) (hF : s.F i = some b) : cls w (s.G b) = 4 := by
  obtain ⟨N, f, hr⟩ := h.qu i b hF
  rcases Nat.eq_zero_or_pos N with e | e
  · rw [(hr.zr e).1]
    exact h.cq hF
  exact (cls_row (hr.row e)).trans (by decide)
theorem DSM.ml (h : DSM M w d s) : s.x.flows < w.heap.size := by
  obtain ⟨es, ck, e⟩ := h.mp.block
  exact (Array.getElem?_eq_some_iff.1 e).1
theorem DSM.dl (h : DSM M w d s) : d < w.heap.size := World.rowIs.lt h.dr
theorem DSM.rl (h : DSM M w d s) : s.x.ring < w.heap.size := by obtain ⟨N, f, hr⟩ := h.rg; exact hr.rlt
theorem DSM.gl (h : DSM M w d s) : s.g < w.heap.size := by obtain ⟨N, f, hr⟩ := h.rg; exact hr.glt
theorem DSM.bl (h : DSM M w d s) (hF : s.F i = some b) : b < w.heap.size := World.rowIs.lt (h.fl i b hF)
theorem DSM.ql (h : DSM M w d s) (hF : s.F i = some b) : (s.Y b).queue < w.heap.size := by obtain ⟨N, f, hr⟩ := h.qu i b hF; exact hr.rlt
theorem DSM.Gl (h : DSM M w d s) (hF : s.F i = some b) : s.G b < w.heap.size := by obtain ⟨N, f, hr⟩ := h.qu i b hF; exact hr.glt
def Mine (d : Nat) (s : Sd) (k : Nat) : Prop := k = d ∨ k = s.x.flows ∨ k = s.x.ring ∨ k = s.g ∨ ∃ i b, s.F i = some b ∧ (k = b ∨ k = (s.Y b).queue ∨ k = s.G b)
theorem DSM.same (h : DSM M w d s) (e : ∀ k, k < w.heap.size → Mine d s k → w'.heap[k]? = w.heap[k]?) : DSM M w' d s :=
  ⟨World.rowIs.of_block h.dr (e d h.dl (.inl rfl)), h.mp.kept (e _ h.ml (.inr (.inl rfl))),
   by obtain ⟨N, f, hr⟩ := h.rg; exact ⟨N, f, hr.of_blocks (e _ h.rl (.inr (.inr (.inl rfl)))) (e _ h.gl (.inr (.inr (.inr (.inl rfl)))))⟩,
   fun i b hF => World.rowIs.of_block (h.fl i b hF) (e _ (h.bl hF) (.inr (.inr (.inr (.inr ⟨i, b, hF, .inl rfl⟩))))),
   h.sl,
   fun i b hF => by obtain ⟨N, f, hr⟩ := h.qu i b hF; exact ⟨N, f, hr.of_blocks (e _ (h.ql hF) (.inr (.inr (.inr (.inr ⟨i, b, hF, .inr (.inl rfl)⟩))))) (e _ (h.Gl hF) (.inr (.inr (.inr (.inr ⟨i, b, hF, .inr (.inr rfl)⟩)))))⟩,
   h.ap, h.inr⟩
structure Fm (d : Nat) (s s' : Sd) (w w' : World) : Prop where
  os : w'.os = w.os
  tape : w'.tape = w.tape
  output : w'.output = w.output
  size : w.heap.size ≤ w'.heap.size
  block : ∀ k, k < w.heap.size → ¬ Mine d s k → w'.heap[k]? = w.heap[k]?
  mine : ∀ k, Mine d s' k → Mine d s k ∨ w.heap.size ≤ k
theorem Fm.refl (d : Nat) (s : Sd) (w : World) : Fm d s s w w := ⟨rfl, rfl, rfl, Nat.le_refl _, fun _ _ _ => rfl, fun _ h => .inl h⟩
theorem Fm.trans {s1 s2 : Sd} {w1 w2 : World} (h : Fm d s s1 w w1) (k : Fm d s1 s2 w1 w2) : Fm d s s2 w w2 :=
  ⟨k.os.trans h.os, k.tape.trans h.tape, k.output.trans h.output, Nat.le_trans h.size k.size,
   fun j hj hm => (k.block j (Nat.lt_of_lt_of_le hj h.size) fun m1 => by rcases h.mine j m1 with e | e; exact hm e; omega).trans (h.block j hj hm),
   fun j hj => by
     rcases k.mine j hj with e | e
     · exact h.mine j e
     exact .inr (Nat.le_trans h.size e)⟩
def DFM (M : Int → Option Nat) (d : Nat) (s s' : Sd) (w w' : World) : Prop := DSM M w' d s' ∧ Fm d s s' w w'
abbrev DF (d : Nat) (s s' : Sd) (w w' : World) : Prop := DFM s'.F d s s' w w'
theorem DSM.df (h : DSM M w d s) : DFM M d s s w w := ⟨h, Fm.refl d s w⟩
theorem DFM.trans {M' : Int → Option Nat} {s1 s2 : Sd} {w1 w2 : World} (h : DFM M d s s1 w w1) (k : DFM M' d s1 s2 w1 w2) : DFM M' d s s2 w w2 := ⟨k.1, h.2.trans k.2⟩
theorem DFM.below {s1 : Sd} {w1 w2 : World} (h : DFM M d s s1 w w1) (hb : Below w1.heap.size w1 w2) : DFM M d s s1 w w2 :=
  h.trans ⟨h.1.same fun k hk _ => hb.block k hk, ⟨hb.os, hb.tape, hb.output, hb.size, fun k hk _ => hb.block k hk, fun _ h => .inl h⟩⟩
theorem DFM.drewN {s1 : Sd} {w1 : World} (h : DFM M d s s1 w w1) (n : Nat) : DFM M d s s1 w (w1.drewN n) := h.below (bel_drewN (Below.refl _ _) n)
theorem DFM.alloc {s1 : Sd} {w1 : World} (h : DFM M d s s1 w w1) (o : Obj) : DFM M d s s1 w (w1.alloc o) := h.below ((Below.refl _ _).alloc (Nat.le_refl _) o)
theorem DFM.cellV {s1 : Sd} {w1 : World} (h : DFM M d s s1 w w1) {v : Nat} (hv : w.heap.size ≤ v) (hn : ¬ Mine d s1 v) (i : Nat) (u : Value) : DFM M d s s1 w (w1.setCell ⟨v, i, none⟩ u) :=
  ⟨h.1.same fun k _ hm => Below.heap_setCell _ _ _ k (by rintro rfl; exact hn hm),
   ⟨h.2.os, h.2.tape, h.2.output, by simpa using h.2.size, fun k hk hm => (Below.heap_setCell _ _ _ k (by show k ≠ v; omega)).trans (h.2.block k hk hm), h.2.mine⟩⟩
theorem DSM.putD (h : DSM M w d s) {x' : Dv} (hd : Dr w' d x') (e1 : x'.flows = s.x.flows) (e2 : x'.ring = s.x.ring) (he : ∀ k, k < w.heap.size → k ≠ d → w'.heap[k]? = w.heap[k]?) : DSM M w' d { s with x := x' } := by
  refine ⟨hd, ?_, ?_, fun i b hF => ?_, h.sl, fun i b hF => ?_, h.ap, h.inr⟩
  · show Mp w' x'.flows _ _
    rw [e1]
    exact h.mp.kept (he _ h.ml (ne_cls h.cm h.cd (by decide)))
  · obtain ⟨N, f, hr⟩ := h.rg
    refine ⟨N, f, ?_⟩
    show RF w' x'.ring _ _ _ _ _
    rw [e2]
    exact hr.of_blocks (he _ h.rl (ne_cls h.cr h.cd (by decide))) (he _ h.gl (ne_cls h.cg h.cd (by decide)))
  · exact World.rowIs.of_block (h.fl i b hF) (he _ (h.bl hF) (ne_cls (h.cb hF) h.cd (by decide)))
  obtain ⟨N, f, hr⟩ := h.qu i b hF
  exact ⟨N, f, hr.of_blocks (he _ (h.ql hF) (ne_cls (h.cq hF) h.cd (by decide))) (he _ (h.Gl hF) (ne_cls (h.cG hF) h.cd (by decide)))⟩
theorem DFM.setD {s1 : Sd} {w1 : World} (h : DFM M d s s1 w w1) (k : Nat) (v : Value) (x' : Dv) (hx : ∀ j, j < 7 → (if j = k then v else s1.x.cell j) = x'.cell j) (e1 : x'.flows = s1.x.flows) (e2 : x'.ring = s1.x.ring) : DFM M d s { s1 with x := x' } w (w1.setCell ⟨d, k, none⟩ v) :=
  h.trans ⟨h.1.putD ((World.rowIs.set h.1.dr k v).congr hx) e1 e2 fun j _ hj => Below.heap_setCell _ _ _ j hj,
    ⟨rfl, rfl, rfl, by simp, fun j _ hm => Below.heap_setCell _ _ _ j (by rintro rfl; exact hm (.inl rfl)), fun j hm => .inl (by
      unfold Mine at hm ⊢
      rw [show ({ s1 with x := x' } : Sd).x.flows = s1.x.flows from e1, show ({ s1 with x := x' } : Sd).x.ring = s1.x.ring from e2] at hm
      exact hm)⟩⟩
theorem DSM.putF (h : DSM M w d s) (hF : s.F i = some b) {y' : Fw} (hf : Fl w' b y') (e1 : y'.slot = (s.Y b).slot) (e2 : y'.queue = (s.Y b).queue) (he : ∀ k, k < w.heap.size → k ≠ b → w'.heap[k]? = w.heap[k]?) : DSM M w' d { s with Y := updN s.Y b y' } := by
  have q : ∀ c, (updN s.Y b y' c).queue = (s.Y c).queue := fun c => by
    unfold updN
    split
    · rename_i e; rw [e]; exact e2
    rfl
  refine ⟨World.rowIs.of_block h.dr (he _ h.dl (ne_cls h.cd (h.cb hF) (by decide))), h.mp.kept (he _ h.ml (ne_cls h.cm (h.cb hF) (by decide))), ?_, fun j c hc => ?_, fun j c hc => ?_, fun j c hc => ?_, fun j k c e hc hk hn => ?_, h.inr⟩
  · obtain ⟨N, f, hr⟩ := h.rg
    exact ⟨N, f, hr.of_blocks (he _ h.rl (ne_cls h.cr (h.cb hF) (by decide))) (he _ h.gl (ne_cls h.cg (h.cb hF) (by decide)))⟩
  · show Fl w' c (updN s.Y b y' c)
    by_cases e : c = b
    · rw [e, updN_eq]; exact hf
    rw [updN_ne _ _ e]
    exact World.rowIs.of_block (h.fl j c hc) (he _ (h.bl hc) e)
  · show (updN s.Y b y' c).slot = j
    by_cases e : c = b
    · subst e; rw [updN_eq, e1]; exact h.sl j c hc
    rw [updN_ne _ _ e]; exact h.sl j c hc
  · obtain ⟨N, f, hr⟩ := h.qu j c hc
    refine ⟨N, f, ?_⟩
    show RP w' (updN s.Y b y' c).queue _ _ _ _ _
    rw [q]
    exact hr.of_blocks (he _ (h.ql hc) (ne_cls (h.cq hc) (h.cb hF) (by decide))) (he _ (h.Gl hc) (ne_cls (h.cG hc) (h.cb hF) (by decide)))
  show (updN s.Y b y' c).queue ≠ (updN s.Y b y' e).queue ∧ _
  rw [q, q]
  exact h.ap j k c e hc hk hn
theorem mine_q {s s' : Sd} {d k : Nat} (e0 : s'.x = s.x) (e1 : s'.g = s.g) (e2 : s'.F = s.F) (e3 : ∀ c, (s'.Y c).queue = (s.Y c).queue) (e4 : s'.G = s.G) (h : Mine d s' k) : Mine d s k := by
  unfold Mine at h ⊢
  rw [e0, e1, e2, e4] at h
  rcases h with h | h | h | h | ⟨i, b, hF, h⟩
  · exact .inl h
  · exact .inr (.inl h)
  · exact .inr (.inr (.inl h))
  · exact .inr (.inr (.inr (.inl h)))
  rw [e3] at h
  exact .inr (.inr (.inr (.inr ⟨i, b, hF, h⟩)))
theorem DFM.setF {s1 : Sd} {w1 : World} (h : DFM M d s s1 w w1) (hF : s1.F i = some b) (k : Nat) (v : Value) (y' : Fw) (hy : ∀ j, j < 7 → (if j = k then v else (s1.Y b).cell j) = y'.cell j) (e1 : y'.slot = (s1.Y b).slot) (e2 : y'.queue = (s1.Y b).queue) : DFM M d s { s1 with Y := updN s1.Y b y' } w (w1.setCell ⟨b, k, none⟩ v) :=
  h.trans ⟨h.1.putF hF ((World.rowIs.set (h.1.fl i b hF) k v).congr hy) e1 e2 fun j _ hj => Below.heap_setCell _ _ _ j hj,
    ⟨rfl, rfl, rfl, by simp, fun j _ hm => Below.heap_setCell _ _ _ j (by rintro rfl; exact hm (.inr (.inr (.inr (.inr ⟨i, _, hF, .inl rfl⟩))))), fun j hm => .inl (mine_q (s := s1) (s' := { s1 with Y := updN s1.Y b y' }) rfl rfl rfl (fun c => by
      show (updN s1.Y b y' c).queue = _
      unfold updN
      split
      · rename_i e; rw [e]; exact e2
      rfl) rfl hm)⟩⟩
theorem DSM.putQ (h : DSM M w d s) (hF : s.F i = some b) {xs : List Pk} (hR : RingsP w (s.Y b).queue (s.G b) xs w') : ∃ g', DFM M d s { s with Q := updN s.Q b xs, G := updN s.G b g' } w w' := by
  obtain ⟨g', N', f', h1, hc, hg⟩ := hR
  have hq := h.cq hF
  have hG := h.cG hF
  have k0 : ∀ k n, k < w.heap.size → cls w k = n → n ≠ 4 → w'.heap[k]? = w.heap[k]? := fun k n hk hn h4 => hc.block k hk (ne_cls hn hq h4) (ne_cls hn hG h4)
  have oth : ∀ j c, s.F j = some c → c ≠ b → (s.Y c).queue ≠ (s.Y b).queue ∧ (s.Y c).queue ≠ s.G b ∧ s.G c ≠ (s.Y b).queue ∧ s.G c ≠ s.G b := by
    intro j c hj hcb
    obtain ⟨a1, a2⟩ := h.ap j i c b hj hF hcb
    obtain ⟨N1, f1, r1⟩ := h.qu j c hj
    obtain ⟨N2, f2, r2⟩ := h.qu i b hF
    refine ⟨a1, ?_, ?_, a2⟩
    · rcases Nat.eq_zero_or_pos N2 with e | e
      · rw [(r2.zr e).1]; exact a1
      intro e9
      have t1 := r1.hd
      have t2 := r2.row e
      rw [e9] at t1
      obtain ⟨_, e1, _⟩ := t1
      obtain ⟨_, e2, _⟩ := t2
      rw [e1] at e2
      cases e2
    rcases Nat.eq_zero_or_pos N1 with e | e
    · rw [(r1.zr e).1]; exact a1
    intro e9
    have t1 := r2.hd
    have t2 := r1.row e
    rw [e9] at t2
    obtain ⟨_, e1, _⟩ := t1
    obtain ⟨_, e2, _⟩ := t2
    rw [e1] at e2
    cases e2
  refine ⟨g', ⟨World.rowIs.of_block h.dr (k0 _ 0 h.dl h.cd (by decide)), h.mp.kept (k0 _ 1 h.ml h.cm (by decide)), ?_, fun j c hj => World.rowIs.of_block (h.fl j c hj) (k0 _ 3 (h.bl hj) (h.cb hj) (by decide)), h.sl, fun j c hj => ?_, fun j k c e hj hk hn => ?_, h.inr⟩, ⟨hc.os, hc.tape, hc.output, hc.size, fun k hk hm => hc.block k hk ?_ ?_, fun k hm => ?_⟩⟩
  · obtain ⟨N, f, hr⟩ := h.rg
    exact ⟨N, f, hr.of_blocks (k0 _ 2 h.rl h.cr (by decide)) (k0 _ 2 h.gl h.cg (by decide))⟩
  · show ∃ N f, RP w' (s.Y c).queue (updN s.G b g' c) N f (updN s.Q b xs c).length (updN s.Q b xs c)
    by_cases e : c = b
    · subst e
      rw [updN_eq, updN_eq]
      exact ⟨N', f', h1⟩
    rw [updN_ne _ _ e, updN_ne _ _ e]
    obtain ⟨N, f, hr⟩ := h.qu j c hj
    obtain ⟨a1, a2, a3, a4⟩ := oth j c hj e
    exact ⟨N, f, hr.of_blocks (hc.block _ hr.rlt a1 a2) (hc.block _ hr.glt a3 a4)⟩
  · show _ ∧ updN s.G b g' c ≠ updN s.G b g' e
    refine ⟨(h.ap j k c e hj hk hn).1, ?_⟩
    by_cases e1 : c = b
    · subst e1
      have e2 : e ≠ c := fun x => hn x.symm
      rw [updN_eq, updN_ne _ _ e2]
      obtain ⟨a1, a2, a3, a4⟩ := oth k e hk e2
      rcases hg with e9 | e9 | e9
      · rw [e9]; exact Ne.symm a4
      · rw [e9]; exact Ne.symm a3
      have := h.Gl hk
      omega
    rw [updN_ne _ _ e1]
    by_cases e2 : e = b
    · subst e2
      rw [updN_eq]
      obtain ⟨a1, a2, a3, a4⟩ := oth j c hj e1
      rcases hg with e9 | e9 | e9
      · rw [e9]; exact a4
      · rw [e9]; exact a3
      have := h.Gl hj
      omega
    rw [updN_ne _ _ e2]
    exact (h.ap j k c e hj hk hn).2
  · rintro rfl
    exact hm (.inr (.inr (.inr (.inr ⟨i, b, hF, .inr (.inl rfl)⟩))))
  · rintro rfl
    exact hm (.inr (.inr (.inr (.inr ⟨i, b, hF, .inr (.inr rfl)⟩))))
  rcases hm with e | e | e | e | ⟨j, c, hj, e⟩
  · exact .inl (.inl e)
  · exact .inl (.inr (.inl e))
  · exact .inl (.inr (.inr (.inl e)))
  · exact .inl (.inr (.inr (.inr (.inl e))))
  rcases e with e | e | e
  · exact .inl (.inr (.inr (.inr (.inr ⟨j, c, hj, .inl e⟩))))
  · exact .inl (.inr (.inr (.inr (.inr ⟨j, c, hj, .inr (.inl e)⟩))))
  have e' : k = updN s.G b g' c := e
  by_cases e1 : c = b
  · subst e1
    rw [updN_eq] at e'
    rcases hg with e9 | e9 | e9
    · exact .inl (.inr (.inr (.inr (.inr ⟨j, c, hj, .inr (.inr (e'.trans e9))⟩))))
    · exact .inl (.inr (.inr (.inr (.inr ⟨j, c, hj, .inr (.inl (e'.trans e9))⟩))))
    exact .inr (by omega)
  rw [updN_ne _ _ e1] at e'
  exact .inl (.inr (.inr (.inr (.inr ⟨j, c, hj, .inr (.inr e')⟩))))
theorem DFM.putQ {s1 : Sd} {w1 w2 : World} (h : DFM M d s s1 w w1) (hF : s1.F i = some b) {xs : List Pk} (hR : RingsP w1 (s1.Y b).queue (s1.G b) xs w2) : ∃ g', DFM M d s { s1 with Q := updN s1.Q b xs, G := updN s1.G b g' } w w2 := by
  obtain ⟨g', k⟩ := h.1.putQ hF hR
  exact ⟨g', h.trans k⟩
theorem DSM.putR (h : DSM M w d s) {R' : List Nat} (hR : RingsF w s.x.ring s.g (adrs R') w') (hi : ∀ b, b ∈ R' → ∃ i, s.F i = some b) : ∃ g', DFM M d s { s with R := R', g := g' } w w' := by
  obtain ⟨g', N', f', h1, hc, hg⟩ := hR
  have k0 : ∀ k n, k < w.heap.size → cls w k = n → n ≠ 2 → w'.heap[k]? = w.heap[k]? := fun k n hk hn h4 => hc.block k hk (ne_cls hn h.cr h4) (ne_cls hn h.cg h4)
  refine ⟨g', ⟨World.rowIs.of_block h.dr (k0 _ 0 h.dl h.cd (by decide)), h.mp.kept (k0 _ 1 h.ml h.cm (by decide)), ⟨N', f', h1⟩, fun j c hj => World.rowIs.of_block (h.fl j c hj) (k0 _ 3 (h.bl hj) (h.cb hj) (by decide)), h.sl, fun j c hj => ?_, h.ap, hi⟩, ⟨hc.os, hc.tape, hc.output, hc.size, fun k hk hm => hc.block k hk ?_ ?_, fun k hm => ?_⟩⟩
  · obtain ⟨N, f, hr⟩ := h.qu j c hj
    exact ⟨N, f, hr.of_blocks (k0 _ 4 (h.ql hj) (h.cq hj) (by decide)) (k0 _ 4 (h.Gl hj) (h.cG hj) (by decide))⟩
  · rintro rfl
    exact hm (.inr (.inr (.inl rfl)))
  · rintro rfl
    exact hm (.inr (.inr (.inr (.inl rfl))))
  rcases hm with e | e | e | e | e
  · exact .inl (.inl e)
  · exact .inl (.inr (.inl e))
  · exact .inl (.inr (.inr (.inl e)))
  · have e' : k = g' := e
    rcases hg with e9 | e9 | e9
    · exact .inl (.inr (.inr (.inr (.inl (e'.trans e9)))))
    · exact .inl (.inr (.inr (.inl (e'.trans e9))))
    exact .inr (by omega)
  exact .inl (.inr (.inr (.inr (.inr e))))
theorem DFM.putR {s1 : Sd} {w1 w2 : World} (h : DFM M d s s1 w w1) {R' : List Nat} (hR : RingsF w1 s1.x.ring s1.g (adrs R') w2) (hi : ∀ b, b ∈ R' → ∃ i, s1.F i = some b) : ∃ g', DFM M d s { s1 with R := R', g := g' } w w2 := by
  obtain ⟨g', k⟩ := h.1.putR hR hi
  exact ⟨g', h.trans k⟩
end
end Go.Proofs.Ytcndbmccediknaa
namespace Go.Proofs.Ytcndbmccediknaa
open Go.RowKit
set_option maxRecDepth 100000
set_option linter.unusedVariables false
theorem noGoto_ret {Q : Exit → Act → World → Prop} {a : Act} {w : World} : Exit.noGoto Q .ret a w = Q .ret a w := rfl
def hdP (s : Sd) (b : Nat) : Pk := (s.Q b).headD Pk.zero
def Sd.nth (s : Sd) (i : Nat) : Nat := s.R.getD i 0
def va (s : Sd) (i : Nat) : Int := Int.tdiv ((hdP s (s.nth i)).size - (s.Y (s.nth i)).kept - 1) (s.Y (s.nth i)).quantum
def Sd.Good (s : Sd) : Prop := ∀ b, b ∈ s.R → s.Q b ≠ [] ∧ 1 ≤ (s.Y b).quantum ∧ (s.Y b).quantum ≤ 1073741824 ∧ 0 ≤ (hdP s b).size ∧ (hdP s b).size ≤ 65536 ∧ -1073741824 ≤ (s.Y b).kept ∧ (s.Y b).kept ≤ 1073741824
structure Pas (s : Sd) (r : Int) (k : Nat) : Prop where
  r0 : 0 ≤ r
  kn : k < s.R.length
  yes : va s k ≤ r
  no : ∀ j, j < k → r < va s j
  least : r = 0 ∨ ∀ j, j < s.R.length → r ≤ va s j
theorem nth_mem {s : Sd} {i : Nat} (h : i < s.R.length) : s.nth i ∈ s.R := by
  unfold Sd.nth
  rw [List.getD_eq_getElem?_getD, List.getElem?_eq_getElem h]
  exact List.getElem_mem h
theorem adrs_getD {s : Sd} {i : Nat} (h : i < s.R.length) : (adrs s.R).getD i (none : Option Addr) = some ⟨s.nth i, 0, none⟩ := by
  unfold adrs Sd.nth
  simp [List.getD_eq_getElem?_getD, h]
theorem va_le {s : Sd} (hg : s.Good) {i : Nat} (h : i < s.R.length) : va s i ≤ 2147483648 := by
  obtain ⟨_, q1, q2, z1, z2, k1, k2⟩ := hg _ (nth_mem h)
  unfold va
  generalize hx : (hdP s (s.nth i)).size - (s.Y (s.nth i)).kept - 1 = x
  generalize (s.Y (s.nth i)).quantum = q at *
  rcases Int.lt_or_le x 0 with e | e
  · have h1 : 0 ≤ (-x).tdiv q := Int.tdiv_nonneg (by omega) (by omega)
    rw [Int.neg_tdiv] at h1
    omega
  have := Int.tdiv_le_self q e
  omega
theorem vain_s {d : Nat} {s : Sd} {w : World} (h : DS w d s) (hg : s.Good) {i : Nat} (hi : i < s.R.length) : Calls Try.prog 48 #[.pointer (some ⟨s.nth i, 0, none⟩)] w fun e w' => e = .returned (.int .i64 (va s i)) ∧ Below w.heap.size w w' := by
  obtain ⟨hQ, q1, q2, z1, z2, k1, k2⟩ := hg _ (nth_mem hi)
  obtain ⟨j, hF⟩ := h.inr _ (nth_mem hi)
  obtain ⟨N, f, hr⟩ := h.qu j _ hF
  unfold va
  unfold hdP at z1 z2 ⊢
  rcases hq : s.Q (s.nth i) with _ | ⟨x, xs⟩
  · exact absurd hq hQ
  rw [hq] at hr z1 z2
  change 0 ≤ x.size at z1
  change x.size ≤ 65536 at z2
  have h1 : -2147483648 ≤ x.size := by omega
  have h2 : x.size ≤ 2147483648 := by omega
  exact vain_any (s.nth i) (s.Y (s.nth i)) _ N f x xs w (h.fl j _ hF) hr (by omega) h1 h2 (by omega) (by omega)
set_option maxHeartbeats 4000000 in
theorem passingD_any (d : Nat) (s : Sd) (w : World) (h : DS w d s) (hg : s.Good) (hR : s.R ≠ []) (hn : s.R.length ≤ 1073741824) :
    Calls Try.prog 32 #[.pointer (some ⟨d, 0, none⟩)] w fun e w' => (∃ (r : Int) (k : Nat), e = .returned (.int .i64 (r * (s.R.length : Int) + (k : Int))) ∧ Pas s r k) ∧ DF d s s w w' := by
  obtain ⟨n, en⟩ : ∃ n, n = s.R.length := ⟨_, rfl⟩
  have hn0 : 0 < n := by rw [en]; exact List.length_pos_iff.2 hR
  have hn1 : n ≤ 1073741824 := by omega
  have HH : Hid (s.Good ∧ n = s.R.length) := ⟨hg, en⟩
  have HD : Hid (DF d s s w w) := h.df
  obtain ⟨rg, erg⟩ : ∃ rg, rg = s.x.ring := ⟨_, rfl⟩
  have CR : Hid (∀ w1, DF d s s w w1 → w1.cell? ⟨d, 1, none⟩ = some (.pointer (some ⟨rg, 0, none⟩)) ∧ (Calls Try.prog 46 #[.pointer (some ⟨rg, 0, none⟩)] w1 fun e w' => e = .returned (.int .i64 (n : Int)) ∧ w' = w1) ∧ ∀ i, i < n → Calls Try.prog 41 #[.pointer (some ⟨rg, 0, none⟩), .int .i64 (i : Int)] w1 fun e w' => e = .returned (.tuple #[.pointer (some ⟨s.nth i, 0, none⟩), .bool true]) ∧ DF d s s w w') := fun w1 h1 => by
    obtain ⟨N, f, hr⟩ := h1.1.rg
    rw [← erg] at hr
    refine ⟨by rw [erg]; exact World.rowIs.cell h1.1.dr (i := 1) (by omega), ?_, fun i hi => ?_⟩
    · have := lenF_any rg s.g N f _ _ w1 hr
      rw [adrs_len, ← en] at this
      exact this
    refine (atF_yes rg s.g N f _ _ i i w1 hr rfl (by rw [adrs_len]; omega)).mono ?_
    rintro e w2 ⟨rfl, m, rfl⟩
    refine ⟨?_, h1.drewN m⟩
    rw [adrs_getD (by omega)]
  have CV : Hid (∀ w1 i, i < n → DF d s s w w1 → Calls Try.prog 48 #[.pointer (some ⟨s.nth i, 0, none⟩)] w1 fun e w' => e = .returned (.int .i64 (va s i)) ∧ DF d s s w w') := fun w1 i hi h1 => by
    refine (vain_s h1.1 hg (by omega)).mono ?_
    rintro e w2 ⟨rfl, hb⟩
    exact ⟨rfl, h1.below hb⟩
  clear h hg hR hn en erg
  go_enter Try.func32, Try.ntmps32
  go_wp2_with fail
  refine wp_scope_straight ?_
  go_wp2_with (refine wp_label ?_)
  go_loopw [3, 4] (fun q3 q4 wr => ∃ r k : Int, q3 = .int .i64 r ∧ q4 = .int .i64 k ∧ DF d s s w wr ∧ (r = 0 ∨ (0 < r ∧ (∀ j, j < n → r ≤ va s j) ∧ ∃ j, j < n ∧ va s j = r))) (fun q3 q4 _ => if intOf q3 = 0 then 1 else 0)
  case atStart => exact ⟨0, 0, rfl, rfl, HD.out, .inl rfl⟩
  case round =>
    obtain ⟨r, k, rfl, rfl, hd, hr⟩ := hrel
    obtain ⟨c1, CL, CA⟩ := CR.out wr hd
    have HL : Hid (Calls Try.prog 46 #[.pointer (some ⟨rg, 0, none⟩)] wr fun e w' => e = .returned (.int .i64 (n : Int)) ∧ w' = wr) := CL
    have HO : Hid (DF d s s w wr ∧ (r = 0 ∨ (0 < r ∧ (∀ j, j < n → r ≤ va s j) ∧ ∃ j, j < n ∧ va s j = r))) := ⟨hd, hr⟩
    clear CL CA hd hr
    go_wp2_with fail
    refine HL.out.mono ?_
    rintro e w9 ⟨rfl, e9⟩
    rw [e9]
    clear e9 w9 HL c1
    go_wp2_with fail
    go_loopw [4, 5, 14] (fun q4 q5 q14 wi => ∃ (k l : Int) (i : Nat), q4 = .int .i64 k ∧ q5 = .int .i64 l ∧ q14 = .int .i64 (i : Int) ∧ i ≤ n ∧ DF d s s w wi ∧ (∀ j, j < i → r < va s j ∧ l ≤ va s j) ∧ (i = 0 ∨ ∃ j, j < i ∧ va s j = l) ∧ (i = 0 → l = 9223372036854775807)) (fun _ _ q14 _ => n - (intOf q14).toNat)
    case atStart => exact ⟨k, _, 0, rfl, rfl, rfl, Nat.zero_le _, HO.out.1, fun j hj => by omega, .inl rfl, fun _ => rfl⟩
    case round =>
      obtain ⟨k, l, i, rfl, rfl, rfl, hi, hd, hA, hB, hC⟩ := hrel
      by_cases hin : i < n
      · obtain ⟨c1, CL, CA⟩ := CR.out wr hd
        have HA := (⟨CA i hin⟩ : PLift (Calls Try.prog 41 #[.pointer (some ⟨rg, 0, none⟩), .int .i64 (i : Int)] wr fun e w' => e = .returned (.tuple #[.pointer (some ⟨s.nth i, 0, none⟩), .bool true]) ∧ DF d s s w w'))
        have HI : Hid ((∀ j, j < i → r < va s j ∧ l ≤ va s j) ∧ (i = 0 ∨ ∃ j, j < i ∧ va s j = l) ∧ (i = 0 → l = 9223372036854775807)) := ⟨hA, hB, hC⟩
        have wi : IntKind.i64.wrap ((i : Int) + 1) = (i : Int) + 1 := by rw [IntKind.wrap_i64]; omega
        clear CL CA hd hA hB hC hi
        go_wp2_with fail
        refine HA.down.mono ?_
        rintro e w1 ⟨rfl, D1⟩
        clear HA c1
        have HD1 : Hid (DF d s s w w1) := D1
        clear D1
        go_wp2_with fail
        refine (CV.out w1 i hin HD1.out).mono ?_
        rintro e w2 ⟨rfl, D2⟩
        obtain ⟨c1, CL, _⟩ := CR.out w2 D2
        have HL2 : Hid (Calls Try.prog 46 #[.pointer (some ⟨rg, 0, none⟩)] w2 fun e w' => e = .returned (.int .i64 (n : Int)) ∧ w' = w2) := CL
        have HD2 : Hid (DF d s s w w2) := D2
        obtain ⟨x, ex⟩ : ∃ x, x = va s i := ⟨_, rfl⟩
        rw [← ex]
        have HX : Hid (x = va s i) := ex
        clear D2 CL ex HD1
        by_cases hv : x ≤ r
        · have HP : Hid (Pas s r i) := by
            have hn := HH.out.2
            have hr0 : 0 ≤ r := by
              rcases HO.out.2 with e | e
              · omega
              omega
            refine ⟨hr0, by omega, by rw [← HX.out]; exact hv, fun j hj => (HI.out.1 j hj).1, ?_⟩
            rcases HO.out.2 with e | e
            · exact .inl e
            exact .inr fun j hj => e.2.1 j (by omega)
          have hr2 : 0 ≤ r ∧ r ≤ 2147483648 := by
            refine ⟨HP.out.r0, ?_⟩
            rcases HO.out.2 with e | ⟨_, _, j, hj, e⟩
            · omega
            rw [← e]
            exact va_le HH.out.1 (by have := HH.out.2; omega)
          have hm : r * (n : Int) ≤ 2147483648 * 1073741824 := Int.mul_le_mul hr2.2 (by omega) (by omega) (by omega)
          have hm0 : 0 ≤ r * (n : Int) := Int.mul_nonneg hr2.1 (by omega)
          have w1' : IntKind.i64.wrap (r * (n : Int)) = r * (n : Int) := by rw [IntKind.wrap_i64]; omega
          have w2' : IntKind.i64.wrap (r * (n : Int) + (i : Int)) = r * (n : Int) + (i : Int) := by rw [IntKind.wrap_i64]; omega
          have HN : Hid (n = s.R.length) := HH.out.2
          clear hm hm0 hr2
          go_wp2_with fail
          refine HL2.out.mono ?_
          rintro e w9 ⟨rfl, e9⟩
          rw [e9]
          clear e9 w9 HL2 c1
          go_wp2_with fail
          rw [noGoto_ret]
          refine bodyPost_ret (v := .int .i64 (r * (n : Int) + (i : Int))) (by simp [results, Try.results32, go_sem]) rfl ⟨⟨r, i, ?_, HP.out⟩, HD2.out⟩
          rw [HN.out]
        have hv2 : r < x := by omega
        clear HL2 c1
        go_wp2_with fail
        go_roundw
        case rel =>
          refine ⟨_, _, i + 1, rfl, rfl, by go_num, by omega, HD2.out, ?_, .inr ?_, fun e => by omega⟩
          · intro j hj
            rcases Nat.lt_succ_iff_lt_or_eq.1 hj with e | e
            · have := HI.out.1 j e
              refine ⟨this.1, ?_⟩
              split
              · omega
              exact this.2
            subst e
            rw [← HX.out]
            refine ⟨hv2, ?_⟩
            split <;> omega
          split
          · exact ⟨i, by omega, HX.out.symm⟩
          rename_i hl
          rcases HI.out.2.1 with e | ⟨j, hj, e⟩
          · have e2 := HI.out.2.2 e
            have e3 := va_le HH.out.1 (i := i) (by have := HH.out.2; omega)
            rw [← HX.out] at e3
            omega
          exact ⟨j, by omega, e⟩
        case measure =>
          simp only [intOf]
          omega
      obtain rfl : i = n := by omega
      have hnot : ¬ ((i : Int) < (i : Int)) := by omega
      have HI : Hid (DF d s s w wr ∧ (∀ j, j < i → r < va s j ∧ l ≤ va s j) ∧ (i = 0 ∨ ∃ j, j < i ∧ va s j = l)) := ⟨hd, hA, hB⟩
      clear hd hA hB hC hi
      go_wp2_with fail
      have HM : Hid (0 < l ∧ r = 0) := by
        have hr0 : 0 ≤ r := by
          rcases HO.out.2 with e | e <;> omega
        have h1 := HI.out.2.1
        rcases HI.out.2.2 with e | ⟨j, hj, e⟩
        · omega
        have h2 := h1 j hj
        refine ⟨by omega, ?_⟩
        rcases HO.out.2 with e2 | ⟨_, _, j2, hj2, e3⟩
        · exact e2
        have := h1 j2 hj2
        omega
      go_roundw
      case rel =>
        refine ⟨_, _, rfl, rfl, HI.out.1, .inr ⟨HM.out.1, fun j hj => (HI.out.2.1 j hj).2, ?_⟩⟩
        rcases HI.out.2.2 with e | e
        · omega
        exact e
      case measure =>
        have h2 : ¬ intOf (Value.int .i64 l) = 0 := by
          show ¬ l = 0
          have := HM.out.1
          omega
        have h3 : intOf (Value.int .i64 r) = 0 := HM.out.2
        rw [if_neg h2, if_pos h3]
        omega
def Sd.admitted (s : Sd) (b : Nat) (p : Pk) (R' : List Nat) (g1 g2 : Nat) : Sd := { s with x := { s.x with count := s.x.count + 1, seq := p.seq, came := p.came }, g := g1, R := R', Y := updN s.Y b { s.Y b with bytes := (s.Y b).bytes + p.size }, Q := updN s.Q b (s.Q b ++ [p]), G := updN s.G b g2 }
theorem adrs_snoc (R : List Nat) (b : Nat) : adrs R ++ [some ⟨b, 0, none⟩] = adrs (R ++ [b]) := by simp [adrs]
theorem DSM.fresh {M : Int → Option Nat} {w : World} {d : Nat} {s : Sd} (h : DSM M w d s) {k : Nat} (hk : w.heap.size ≤ k) : ¬ Mine d s k := by
  rintro (e | e | e | e | ⟨j, c, hj, e⟩)
  · have := h.dl; omega
  · have := h.ml; omega
  · have := h.rl; omega
  · have := h.gl; omega
  have := h.bl hj
  have := h.ql hj
  have := h.Gl hj
  omega
theorem DFM.drew {M : Int → Option Nat} {w w1 : World} {d : Nat} {s s1 : Sd} (h : DFM M d s s1 w w1) : DFM M d s s1 w w1.drew := h.below (bel_drew (Below.refl _ _))
set_option maxHeartbeats 4000000 in
theorem admitD_first (d : Nat) (s : Sd) (p : Pk) (b : Nat) (w : World) (h : DS w d s) (h1 : -9223372036854775808 ≤ p.slot) (h2 : p.slot ≤ 9223372036854775807) (hF : s.F p.slot = some b) (hg : (s.Y b).gen = p.gen) (s1 : 1 ≤ p.size) (s2 : p.size ≤ 65536) (q1 : s.x.seq < p.seq) (t1 : s.x.came ≤ p.came) (t2 : p.came ≤ 4611686018427387904) (hb1 : 0 ≤ (s.Y b).bytes) (hb2 : (s.Y b).bytes ≤ 4611686018427387904) (hc1 : 0 ≤ s.x.count) (hc2 : s.x.count ≤ 4611686018427387904) (hl : (s.Q b).length ≤ 4294967296) (hr : s.R.length ≤ 4294967296) (he : s.Q b = []) :
    Calls Try.prog 16 #[.pointer (some ⟨d, 0, none⟩), p.val] w fun e w' => e = .returned (.int .i64 0) ∧ ∃ g1 g2, DF d s (s.admitted b p (s.R ++ [b]) g1 g2) w w' := by
  obtain ⟨a0, a1, a2, a3, a4, a5⟩ := p
  obtain ⟨W, hW⟩ : ∃ W, W = w.alloc (.cells #[.int .i64 a0, .int .i64 a1, .int .i64 a2, .int .i64 a3, .int .i64 a4, .int .i64 a5] 49) := ⟨_, rfl⟩
  obtain ⟨v, ev⟩ : ∃ v, v = w.heap.size := ⟨_, rfl⟩
  have B0 : Below w.heap.size w W := by rw [hW]; exact (Below.refl _ _).alloc (Nat.le_refl _) _
  have hB : W.heap[v]? = some (.cells #[.int .i64 a0, .int .i64 a1, .int .i64 a2, .int .i64 a3, .int .i64 a4, .int .i64 a5] 49) := by rw [hW, ev]; exact (MapKept.heap_alloc _ _).1
  have hvl : v < W.heap.size := (Array.getElem?_eq_some_iff.1 hB).1
  have D0 : DF d s s w W := h.df.below B0
  have HT : Hid (Calls Try.prog 27 #[.pointer (some ⟨d, 0, none⟩), .agg #[.int .i64 a0, .int .i64 a1, .int .i64 a2, .int .i64 a3, .int .i64 a4, .int .i64 a5]] W fun e w' => e = .returned (.tuple #[.pointer (some ⟨b, 0, none⟩), .int .i64 0]) ∧ Below W.heap.size W w') := takerD_yes d s.x s.nn s.F ⟨a0, a1, a2, a3, a4, a5⟩ W D0.1.dr D0.1.mp h1 h2 b (s.Y b) hF (D0.1.fl _ _ hF) (D0.1.sl _ _ hF) hg s1 s2 q1 t1 t2
  have hnv : ¬ Mine d s v := h.fresh (by omega)
  obtain ⟨q, eq⟩ : ∃ q, q = (s.Y b).queue := ⟨_, rfl⟩
  have HW : Hid (w.alloc (.cells #[.int .i64 a0, .int .i64 a1, .int .i64 a2, .int .i64 a3, .int .i64 a4, .int .i64 a5] 49) = W ∧ w.heap.size = v) := ⟨hW.symm, ev.symm⟩
  have HH : Hid (True ∧ s.F a0 = some b ∧ q = (s.Y b).queue ∧ ¬ Mine d s v ∧ W.heap[v]? = some (.cells #[.int .i64 a0, .int .i64 a1, .int .i64 a2, .int .i64 a3, .int .i64 a4, .int .i64 a5] 49) ∧ v < W.heap.size ∧ w.heap.size = v ∧ (s.Q b).length ≤ 4294967296 ∧ s.R.length ≤ 4294967296) := ⟨trivial, hF, eq, hnv, hB, hvl, ev.symm, hl, hr⟩
  have HD0 : Hid (DF d s s w W) := D0
  have hbv : b ≠ v := by have := h.bl hF; omega
  have hdv : d ≠ v := by have := h.dl; omega
  have hbd : b ≠ d := ne_cls (h.cb hF) h.cd (by decide)
  have hbv' := Ne.symm hbv
  have hdv' := Ne.symm hdv
  have hbd' := Ne.symm hbd
  obtain ⟨by0, eby⟩ : ∃ y, y = (s.Y b).bytes := ⟨_, rfl⟩
  obtain ⟨ct, ect⟩ : ∃ y, y = s.x.count := ⟨_, rfl⟩
  have hw1 : IntKind.i64.wrap (by0 + a3) = by0 + a3 := by rw [IntKind.wrap_i64, eby]; simp only at s1 s2; omega
  have hw2 : IntKind.i64.wrap (ct + 1) = ct + 1 := by rw [IntKind.wrap_i64, ect]; omega
  have HE : Hid (by0 = (s.Y b).bytes ∧ ct = s.x.count) := ⟨eby, ect⟩
  have HQ : Hid (s.Q b = []) := he
  show Calls Try.prog 16 #[.pointer (some ⟨d, 0, none⟩), .agg #[.int .i64 a0, .int .i64 a1, .int .i64 a2, .int .i64 a3, .int .i64 a4, .int .i64 a5]] w _
  clear h h1 h2 hF hg s1 s2 q1 t1 t2 hb1 hb2 hc1 hc2 hl hr he D0 B0 hB hvl hW ev hnv eq eby ect
  go_enter Try.func16, Try.ntmps16
  go_wp2_with fail
  rw [HW.out.1, HW.out.2]
  refine HT.out.mono ?_
  rintro e w1 ⟨rfl, hb⟩
  have D1 := HD0.out.below hb
  have hv1 : w1.heap[v]? = some (.cells #[.int .i64 a0, .int .i64 a1, .int .i64 a2, .int .i64 a3, .int .i64 a4, .int .i64 a5] 49) := (hb.block v HH.out.2.2.2.2.2.1).trans HH.out.2.2.2.2.1
  have k4 : w1.cell? ⟨b, 4, none⟩ = some (.pointer (some ⟨q, 0, none⟩)) := by rw [HH.out.2.2.1]; exact World.rowIs.cell (D1.1.fl _ _ HH.out.2.1) (i := 4) (by omega)
  have kr : w1.cell? ⟨d, 1, none⟩ = some (.pointer (some ⟨s.x.ring, 0, none⟩)) := World.rowIs.cell D1.1.dr (i := 1) (by omega)
  have LP : Hid (Calls Try.prog 28 #[.pointer (some ⟨q, 0, none⟩)] w1 fun e w' => e = .returned (.int .i64 (0 : Int)) ∧ w' = w1) := by
    obtain ⟨N, f, hq⟩ := D1.1.qu _ _ HH.out.2.1
    rw [← HH.out.2.2.1] at hq
    have := lenP_any q (s.G b) N f _ _ w1 hq
    rw [HQ.out] at this
    exact this
  have HD1 : Hid (DF d s s w w1 ∧ w1.heap[v]? = some (.cells #[.int .i64 a0, .int .i64 a1, .int .i64 a2, .int .i64 a3, .int .i64 a4, .int .i64 a5] 49)) := ⟨D1, hv1⟩
  clear hb D1 hv1
  go_wp2_with fail
  refine LP.out.mono ?_
  rintro e w9 ⟨rfl, e9⟩
  rw [e9]
  clear LP e9 w9
  go_wp2_with fail
  rename_i hz
  have PF : Hid (Calls Try.prog 29 #[.pointer (some ⟨s.x.ring, 0, none⟩), .pointer (some ⟨b, 0, none⟩)] w1 fun e w' => e = .returned (.tuple #[]) ∧ ∃ g1, DF d s { s with R := s.R ++ [b], g := g1 } w w' ∧ w'.heap[v]? = some (.cells #[.int .i64 a0, .int .i64 a1, .int .i64 a2, .int .i64 a3, .int .i64 a4, .int .i64 a5] 49)) := by
    obtain ⟨N, f, hq⟩ := HD1.out.1.1.rg
    refine (pushBackF_any s.x.ring s.g N f _ (some ⟨b, 0, none⟩) w1 hq (by rw [adrs_len]; exact HH.out.2.2.2.2.2.2.2.2)).mono ?_
    rintro e w2 ⟨rfl, hR⟩
    rw [adrs_snoc] at hR
    obtain ⟨g1, D2⟩ := HD1.out.1.1.putR hR (fun c hc => by
      rcases List.mem_append.1 hc with e | e
      · exact HD1.out.1.1.inr c e
      rw [List.mem_singleton.1 e]; exact ⟨a0, HH.out.2.1⟩)
    refine ⟨rfl, g1, HD1.out.1.trans D2, ?_⟩
    rw [D2.2.block v (Array.getElem?_eq_some_iff.1 HD1.out.2).1 HH.out.2.2.2.1]
    exact HD1.out.2
  refine PF.out.mono ?_
  rintro e w2 ⟨rfl, g1, D2, hv2⟩
  clear PF kr k4
  have HD2 : Hid (DF d s { s with R := s.R ++ [b], g := g1 } w w2 ∧ w2.heap[v]? = some (.cells #[.int .i64 a0, .int .i64 a1, .int .i64 a2, .int .i64 a3, .int .i64 a4, .int .i64 a5] 49)) := ⟨D2, hv2⟩
  clear D2 hv2 HD1
  have k4 : w2.cell? ⟨b, 4, none⟩ = some (.pointer (some ⟨q, 0, none⟩)) := by rw [HH.out.2.2.1]; exact World.rowIs.cell (HD2.out.1.1.fl _ _ HH.out.2.1) (i := 4) (by omega)
  have v0 : w2.cell? ⟨v, 0, none⟩ = some (.int .i64 a0) := by simp [World.cell?, HD2.out.2]
  have v1 : w2.cell? ⟨v, 1, none⟩ = some (.int .i64 a1) := by simp [World.cell?, HD2.out.2]
  have v2 : w2.cell? ⟨v, 2, none⟩ = some (.int .i64 a2) := by simp [World.cell?, HD2.out.2]
  have v3 : w2.cell? ⟨v, 3, none⟩ = some (.int .i64 a3) := by simp [World.cell?, HD2.out.2]
  have v4 : w2.cell? ⟨v, 4, none⟩ = some (.int .i64 a4) := by simp [World.cell?, HD2.out.2]
  have v5 : w2.cell? ⟨v, 5, none⟩ = some (.int .i64 a5) := by simp [World.cell?, HD2.out.2]
  have PQ : Hid (∀ nd, Calls Try.prog 30 #[.pointer (some ⟨q, 0, none⟩), .agg #[.int .i64 a0, .int .i64 a1, .int .i64 a2, .int .i64 a3, .int .i64 a4, .int .i64 a5]] (w2.drewN nd) fun e w' => e = .returned (.tuple #[]) ∧ ∃ g2, DF d s { s with R := (s.R ++ [b]), g := g1, Q := updN s.Q b (s.Q b ++ [⟨a0, a1, a2, a3, a4, a5⟩]), G := updN s.G b g2 } w w' ∧ w'.heap[v]? = some (.cells #[.int .i64 a0, .int .i64 a1, .int .i64 a2, .int .i64 a3, .int .i64 a4, .int .i64 a5] 49) ∧ w'.cell? ⟨b, 4, none⟩ = some (.pointer (some ⟨q, 0, none⟩)) ∧ w'.cell? ⟨v, 0, none⟩ = some (.int .i64 a0) ∧ w'.cell? ⟨v, 1, none⟩ = some (.int .i64 a1) ∧ w'.cell? ⟨v, 2, none⟩ = some (.int .i64 a2) ∧ w'.cell? ⟨v, 3, none⟩ = some (.int .i64 a3) ∧ w'.cell? ⟨v, 4, none⟩ = some (.int .i64 a4) ∧ w'.cell? ⟨v, 5, none⟩ = some (.int .i64 a5)) := fun nd => by
    have D3 := HD2.out.1.drewN nd
    obtain ⟨N, f, hq⟩ := D3.1.qu _ _ HH.out.2.1
    have hq' : RP (w2.drewN nd) q (s.G b) N f (s.Q b).length (s.Q b) := by rw [HH.out.2.2.1]; exact hq
    refine (pushBackP_any q (s.G b) N f _ ⟨a0, a1, a2, a3, a4, a5⟩ (w2.drewN nd) hq' HH.out.2.2.2.2.2.2.2.1).mono ?_
    rintro e w3 ⟨rfl, hR⟩
    obtain ⟨g2, D4⟩ := D3.putQ HH.out.2.1 (xs := s.Q b ++ [⟨a0, a1, a2, a3, a4, a5⟩]) (by show RingsP (w2.drewN nd) (s.Y b).queue (s.G b) _ _; rw [← HH.out.2.2.1]; exact hR)
    have hv3 : w3.heap[v]? = some (.cells #[.int .i64 a0, .int .i64 a1, .int .i64 a2, .int .i64 a3, .int .i64 a4, .int .i64 a5] 49) := by
      rw [← HD2.out.2]
      have hs : w.heap.size = v := HH.out.2.2.2.2.2.2.1
      obtain ⟨g9, N9, f9, r9, c9, _⟩ := hR
      refine c9.block v (Array.getElem?_eq_some_iff.1 HD2.out.2).1 ?_ ?_
      · rintro rfl
        have := D3.1.fl _ _ HH.out.2.1
        exact HH.out.2.2.2.1 (.inr (.inr (.inr (.inr ⟨_, _, HH.out.2.1, .inr (.inl HH.out.2.2.1)⟩))))
      rintro rfl
      exact HH.out.2.2.2.1 (.inr (.inr (.inr (.inr ⟨_, _, HH.out.2.1, .inr (.inr rfl)⟩))))
    refine ⟨rfl, g2, D4, hv3, ?_, by simp [World.cell?, hv3], by simp [World.cell?, hv3], by simp [World.cell?, hv3], by simp [World.cell?, hv3], by simp [World.cell?, hv3], by simp [World.cell?, hv3]⟩
    have := World.rowIs.cell (D4.1.fl _ _ HH.out.2.1) (i := 4) (by omega)
    rw [HH.out.2.2.1]
    exact this
  clear HD0
  go_wp2_with fail
  rename_i hz
  go_region_held3 (fun w9 => w9.cell? ⟨b, 4, none⟩ = some (.pointer (some ⟨q, 0, none⟩)) ∧ w9.cell? ⟨v, 0, none⟩ = some (.int .i64 a0) ∧ w9.cell? ⟨v, 1, none⟩ = some (.int .i64 a1) ∧ w9.cell? ⟨v, 2, none⟩ = some (.int .i64 a2) ∧ w9.cell? ⟨v, 3, none⟩ = some (.int .i64 a3) ∧ w9.cell? ⟨v, 4, none⟩ = some (.int .i64 a4) ∧ w9.cell? ⟨v, 5, none⟩ = some (.int .i64 a5)) (first | (simp [go_sem, *]; done) | (trace_state; fail))
    (first
      | (go_at_call 30; refine Calls.mono (PQ.out _) ?_; rintro e w3 ⟨rfl, g2, D3, hv3, z4, z0, z1, z2, z3, z5, z6⟩))
  refine hz _ _ ?_
  clear hz PQ
  have c5 : w3.cell? ⟨b, 5, none⟩ = some (.int .i64 by0) := by
    have := World.rowIs.cell (D3.1.fl _ _ HH.out.2.1) (i := 5) (by omega)
    rw [HE.out.1]
    exact this
  have f5 : w3.frozen? ⟨b, 5, none⟩ = false := World.rowIs.frozen (D3.1.fl _ _ HH.out.2.1) 5
  have c4 : w3.cell? ⟨d, 4, none⟩ = some (.int .i64 ct) := by rw [HE.out.2]; exact World.rowIs.cell D3.1.dr (i := 4) (by omega)
  have e4 : w3.frozen? ⟨d, 4, none⟩ = false := World.rowIs.frozen D3.1.dr 4
  have e5 : w3.frozen? ⟨d, 5, none⟩ = false := World.rowIs.frozen D3.1.dr 5
  have e6 : w3.frozen? ⟨d, 6, none⟩ = false := World.rowIs.frozen D3.1.dr 6
  have HD3 : Hid (DF d s { s with R := (s.R ++ [b]), g := g1, Q := updN s.Q b (s.Q b ++ [⟨a0, a1, a2, a3, a4, a5⟩]), G := updN s.G b g2 } w w3) := D3
  obtain ⟨cm, ecm⟩ : ∃ c, w3.cell? ⟨d, 6, none⟩ = some c := ⟨_, World.rowIs.cell D3.1.dr (i := 6) (by omega)⟩
  obtain ⟨sq, esq⟩ : ∃ c, w3.cell? ⟨d, 5, none⟩ = some c := ⟨_, World.rowIs.cell D3.1.dr (i := 5) (by omega)⟩
  clear D3 hv3 v0 v1 v2 v3 v4 v5 k4
  go_wp2_with fail
  go_region
  go_wp2_with fail
  go_region
  go_wp2_with fail
  have X := HD3.out.setF HH.out.2.1 5 (.int .i64 (by0 + a3)) { s.Y b with bytes := by0 + a3 } (by
    intro j hj
    rcases j with _ | _ | _ | _ | _ | _ | _ | j <;> first | rfl | omega) rfl rfl
  have X2 := X.setD 4 (.int .i64 (ct + 1)) { s.x with count := ct + 1 } (by
    intro j hj
    rcases j with _ | _ | _ | _ | _ | _ | _ | j <;> first | rfl | omega) rfl rfl
  have X3 := X2.setD 5 (.int .i64 a4) { s.x with count := ct + 1, seq := a4 } (by
    intro j hj
    rcases j with _ | _ | _ | _ | _ | _ | _ | j <;> first | rfl | omega) rfl rfl
  have X4 := X3.setD 6 (.int .i64 a5) { s.x with count := ct + 1, seq := a4, came := a5 } (by
    intro j hj
    rcases j with _ | _ | _ | _ | _ | _ | _ | j <;> first | rfl | omega) rfl rfl
  have X5 := X4.drew.drew
  refine bodyPost_ret (v := .int .i64 0) (by simp [results, Try.results16, go_sem]) rfl ⟨rfl, g1, g2, ?_⟩
  obtain ⟨e1, e2⟩ := HE.out
  subst e1
  subst e2
  exact X5
set_option maxHeartbeats 4000000 in
theorem admitD_more (d : Nat) (s : Sd) (p : Pk) (b : Nat) (w : World) (h : DS w d s) (h1 : -9223372036854775808 ≤ p.slot) (h2 : p.slot ≤ 9223372036854775807) (hF : s.F p.slot = some b) (hg : (s.Y b).gen = p.gen) (s1 : 1 ≤ p.size) (s2 : p.size ≤ 65536) (q1 : s.x.seq < p.seq) (t1 : s.x.came ≤ p.came) (t2 : p.came ≤ 4611686018427387904) (hb1 : 0 ≤ (s.Y b).bytes) (hb2 : (s.Y b).bytes ≤ 4611686018427387904) (hc1 : 0 ≤ s.x.count) (hc2 : s.x.count ≤ 4611686018427387904) (hl : (s.Q b).length ≤ 4294967296) (hr : s.R.length ≤ 4294967296) (he : s.Q b ≠ []) :
    Calls Try.prog 16 #[.pointer (some ⟨d, 0, none⟩), p.val] w fun e w' => e = .returned (.int .i64 0) ∧ ∃ g1 g2, DF d s (s.admitted b p s.R g1 g2) w w' := by
  obtain ⟨a0, a1, a2, a3, a4, a5⟩ := p
  obtain ⟨W, hW⟩ : ∃ W, W = w.alloc (.cells #[.int .i64 a0, .int .i64 a1, .int .i64 a2, .int .i64 a3, .int .i64 a4, .int .i64 a5] 49) := ⟨_, rfl⟩
  obtain ⟨v, ev⟩ : ∃ v, v = w.heap.size := ⟨_, rfl⟩
  have B0 : Below w.heap.size w W := by rw [hW]; exact (Below.refl _ _).alloc (Nat.le_refl _) _
  have hB : W.heap[v]? = some (.cells #[.int .i64 a0, .int .i64 a1, .int .i64 a2, .int .i64 a3, .int .i64 a4, .int .i64 a5] 49) := by rw [hW, ev]; exact (MapKept.heap_alloc _ _).1
  have hvl : v < W.heap.size := (Array.getElem?_eq_some_iff.1 hB).1
  have D0 : DF d s s w W := h.df.below B0
  have HT : Hid (Calls Try.prog 27 #[.pointer (some ⟨d, 0, none⟩), .agg #[.int .i64 a0, .int .i64 a1, .int .i64 a2, .int .i64 a3, .int .i64 a4, .int .i64 a5]] W fun e w' => e = .returned (.tuple #[.pointer (some ⟨b, 0, none⟩), .int .i64 0]) ∧ Below W.heap.size W w') := takerD_yes d s.x s.nn s.F ⟨a0, a1, a2, a3, a4, a5⟩ W D0.1.dr D0.1.mp h1 h2 b (s.Y b) hF (D0.1.fl _ _ hF) (D0.1.sl _ _ hF) hg s1 s2 q1 t1 t2
  have hnv : ¬ Mine d s v := h.fresh (by omega)
  obtain ⟨q, eq⟩ : ∃ q, q = (s.Y b).queue := ⟨_, rfl⟩
  have HW : Hid (w.alloc (.cells #[.int .i64 a0, .int .i64 a1, .int .i64 a2, .int .i64 a3, .int .i64 a4, .int .i64 a5] 49) = W ∧ w.heap.size = v) := ⟨hW.symm, ev.symm⟩
  have HH : Hid (True ∧ s.F a0 = some b ∧ q = (s.Y b).queue ∧ ¬ Mine d s v ∧ W.heap[v]? = some (.cells #[.int .i64 a0, .int .i64 a1, .int .i64 a2, .int .i64 a3, .int .i64 a4, .int .i64 a5] 49) ∧ v < W.heap.size ∧ w.heap.size = v ∧ (s.Q b).length ≤ 4294967296 ∧ s.R.length ≤ 4294967296) := ⟨trivial, hF, eq, hnv, hB, hvl, ev.symm, hl, hr⟩
  have HD0 : Hid (DF d s s w W) := D0
  have hbv : b ≠ v := by have := h.bl hF; omega
  have hdv : d ≠ v := by have := h.dl; omega
  have hbd : b ≠ d := ne_cls (h.cb hF) h.cd (by decide)
  have hbv' := Ne.symm hbv
  have hdv' := Ne.symm hdv
  have hbd' := Ne.symm hbd
  obtain ⟨by0, eby⟩ : ∃ y, y = (s.Y b).bytes := ⟨_, rfl⟩
  obtain ⟨ct, ect⟩ : ∃ y, y = s.x.count := ⟨_, rfl⟩
  have hw1 : IntKind.i64.wrap (by0 + a3) = by0 + a3 := by rw [IntKind.wrap_i64, eby]; simp only at s1 s2; omega
  have hw2 : IntKind.i64.wrap (ct + 1) = ct + 1 := by rw [IntKind.wrap_i64, ect]; omega
  have HE : Hid (by0 = (s.Y b).bytes ∧ ct = s.x.count) := ⟨eby, ect⟩
  have HQ : Hid (s.Q b ≠ []) := he
  obtain ⟨n, en⟩ : ∃ n, n = (s.Q b).length := ⟨_, rfl⟩
  have hn0 : ¬ ((n : Int) = 0) := by
    have := List.length_pos_iff.2 he
    omega
  have HN : Hid (n = (s.Q b).length) := en
  clear en
  show Calls Try.prog 16 #[.pointer (some ⟨d, 0, none⟩), .agg #[.int .i64 a0, .int .i64 a1, .int .i64 a2, .int .i64 a3, .int .i64 a4, .int .i64 a5]] w _
  clear h h1 h2 hF hg s1 s2 q1 t1 t2 hb1 hb2 hc1 hc2 hl hr he D0 B0 hB hvl hW ev hnv eq eby ect
  go_enter Try.func16, Try.ntmps16
  go_wp2_with fail
  rw [HW.out.1, HW.out.2]
  refine HT.out.mono ?_
  rintro e w1 ⟨rfl, hb⟩
  have D1 := HD0.out.below hb
  have hv1 : w1.heap[v]? = some (.cells #[.int .i64 a0, .int .i64 a1, .int .i64 a2, .int .i64 a3, .int .i64 a4, .int .i64 a5] 49) := (hb.block v HH.out.2.2.2.2.2.1).trans HH.out.2.2.2.2.1
  have k4 : w1.cell? ⟨b, 4, none⟩ = some (.pointer (some ⟨q, 0, none⟩)) := by rw [HH.out.2.2.1]; exact World.rowIs.cell (D1.1.fl _ _ HH.out.2.1) (i := 4) (by omega)
  have kr : w1.cell? ⟨d, 1, none⟩ = some (.pointer (some ⟨s.x.ring, 0, none⟩)) := World.rowIs.cell D1.1.dr (i := 1) (by omega)
  have LP : Hid (Calls Try.prog 28 #[.pointer (some ⟨q, 0, none⟩)] w1 fun e w' => e = .returned (.int .i64 (n : Int)) ∧ w' = w1) := by
    obtain ⟨N, f, hq⟩ := D1.1.qu _ _ HH.out.2.1
    rw [← HH.out.2.2.1] at hq
    have := lenP_any q (s.G b) N f _ _ w1 hq
    rw [← HN.out] at this
    exact this
  have HD1 : Hid (DF d s s w w1 ∧ w1.heap[v]? = some (.cells #[.int .i64 a0, .int .i64 a1, .int .i64 a2, .int .i64 a3, .int .i64 a4, .int .i64 a5] 49)) := ⟨D1, hv1⟩
  clear hb D1 hv1
  go_wp2_with fail
  refine LP.out.mono ?_
  rintro e w9 ⟨rfl, e9⟩
  rw [e9]
  clear LP e9 w9
  go_wp2_with fail
  obtain ⟨w2, ew2⟩ : ∃ w2, w2 = w1 := ⟨_, rfl⟩
  obtain ⟨g1, eg1⟩ : ∃ g1, g1 = s.g := ⟨_, rfl⟩
  have HD2 : Hid (DF d s { s with R := s.R, g := g1 } w w2 ∧ w2.heap[v]? = some (.cells #[.int .i64 a0, .int .i64 a1, .int .i64 a2, .int .i64 a3, .int .i64 a4, .int .i64 a5] 49)) := by rw [ew2, eg1]; exact HD1.out
  rw [← ew2]
  clear ew2 eg1 kr k4 HD1
  have k4 : w2.cell? ⟨b, 4, none⟩ = some (.pointer (some ⟨q, 0, none⟩)) := by rw [HH.out.2.2.1]; exact World.rowIs.cell (HD2.out.1.1.fl _ _ HH.out.2.1) (i := 4) (by omega)
  have v0 : w2.cell? ⟨v, 0, none⟩ = some (.int .i64 a0) := by simp [World.cell?, HD2.out.2]
  have v1 : w2.cell? ⟨v, 1, none⟩ = some (.int .i64 a1) := by simp [World.cell?, HD2.out.2]
  have v2 : w2.cell? ⟨v, 2, none⟩ = some (.int .i64 a2) := by simp [World.cell?, HD2.out.2]
  have v3 : w2.cell? ⟨v, 3, none⟩ = some (.int .i64 a3) := by simp [World.cell?, HD2.out.2]
  have v4 : w2.cell? ⟨v, 4, none⟩ = some (.int .i64 a4) := by simp [World.cell?, HD2.out.2]
  have v5 : w2.cell? ⟨v, 5, none⟩ = some (.int .i64 a5) := by simp [World.cell?, HD2.out.2]
  have PQ : Hid (∀ nd, Calls Try.prog 30 #[.pointer (some ⟨q, 0, none⟩), .agg #[.int .i64 a0, .int .i64 a1, .int .i64 a2, .int .i64 a3, .int .i64 a4, .int .i64 a5]] (w2.drewN nd) fun e w' => e = .returned (.tuple #[]) ∧ ∃ g2, DF d s { s with R := s.R, g := g1, Q := updN s.Q b (s.Q b ++ [⟨a0, a1, a2, a3, a4, a5⟩]), G := updN s.G b g2 } w w' ∧ w'.heap[v]? = some (.cells #[.int .i64 a0, .int .i64 a1, .int .i64 a2, .int .i64 a3, .int .i64 a4, .int .i64 a5] 49) ∧ w'.cell? ⟨b, 4, none⟩ = some (.pointer (some ⟨q, 0, none⟩)) ∧ w'.cell? ⟨v, 0, none⟩ = some (.int .i64 a0) ∧ w'.cell? ⟨v, 1, none⟩ = some (.int .i64 a1) ∧ w'.cell? ⟨v, 2, none⟩ = some (.int .i64 a2) ∧ w'.cell? ⟨v, 3, none⟩ = some (.int .i64 a3) ∧ w'.cell? ⟨v, 4, none⟩ = some (.int .i64 a4) ∧ w'.cell? ⟨v, 5, none⟩ = some (.int .i64 a5)) := fun nd => by
    have D3 := HD2.out.1.drewN nd
    obtain ⟨N, f, hq⟩ := D3.1.qu _ _ HH.out.2.1
    have hq' : RP (w2.drewN nd) q (s.G b) N f (s.Q b).length (s.Q b) := by rw [HH.out.2.2.1]; exact hq
    refine (pushBackP_any q (s.G b) N f _ ⟨a0, a1, a2, a3, a4, a5⟩ (w2.drewN nd) hq' HH.out.2.2.2.2.2.2.2.1).mono ?_
    rintro e w3 ⟨rfl, hR⟩
    obtain ⟨g2, D4⟩ := D3.putQ HH.out.2.1 (xs := s.Q b ++ [⟨a0, a1, a2, a3, a4, a5⟩]) (by show RingsP (w2.drewN nd) (s.Y b).queue (s.G b) _ _; rw [← HH.out.2.2.1]; exact hR)
    have hv3 : w3.heap[v]? = some (.cells #[.int .i64 a0, .int .i64 a1, .int .i64 a2, .int .i64 a3, .int .i64 a4, .int .i64 a5] 49) := by
      rw [← HD2.out.2]
      have hs : w.heap.size = v := HH.out.2.2.2.2.2.2.1
      obtain ⟨g9, N9, f9, r9, c9, _⟩ := hR
      refine c9.block v (Array.getElem?_eq_some_iff.1 HD2.out.2).1 ?_ ?_
      · rintro rfl
        have := D3.1.fl _ _ HH.out.2.1
        exact HH.out.2.2.2.1 (.inr (.inr (.inr (.inr ⟨_, _, HH.out.2.1, .inr (.inl HH.out.2.2.1)⟩))))
      rintro rfl
      exact HH.out.2.2.2.1 (.inr (.inr (.inr (.inr ⟨_, _, HH.out.2.1, .inr (.inr rfl)⟩))))
    refine ⟨rfl, g2, D4, hv3, ?_, by simp [World.cell?, hv3], by simp [World.cell?, hv3], by simp [World.cell?, hv3], by simp [World.cell?, hv3], by simp [World.cell?, hv3], by simp [World.cell?, hv3]⟩
    have := World.rowIs.cell (D4.1.fl _ _ HH.out.2.1) (i := 4) (by omega)
    rw [HH.out.2.2.1]
    exact this
  clear HD0
  go_wp2_with fail
  rename_i hz
  go_region_held3 (fun w9 => w9.cell? ⟨b, 4, none⟩ = some (.pointer (some ⟨q, 0, none⟩)) ∧ w9.cell? ⟨v, 0, none⟩ = some (.int .i64 a0) ∧ w9.cell? ⟨v, 1, none⟩ = some (.int .i64 a1) ∧ w9.cell? ⟨v, 2, none⟩ = some (.int .i64 a2) ∧ w9.cell? ⟨v, 3, none⟩ = some (.int .i64 a3) ∧ w9.cell? ⟨v, 4, none⟩ = some (.int .i64 a4) ∧ w9.cell? ⟨v, 5, none⟩ = some (.int .i64 a5)) (first | (simp [go_sem, *]; done) | (trace_state; fail))
    (first
      | (go_at_call 30; refine Calls.mono (PQ.out _) ?_; rintro e w3 ⟨rfl, g2, D3, hv3, z4, z0, z1, z2, z3, z5, z6⟩))
  refine hz _ _ ?_
  clear hz PQ
  have c5 : w3.cell? ⟨b, 5, none⟩ = some (.int .i64 by0) := by
    have := World.rowIs.cell (D3.1.fl _ _ HH.out.2.1) (i := 5) (by omega)
    rw [HE.out.1]
    exact this
  have f5 : w3.frozen? ⟨b, 5, none⟩ = false := World.rowIs.frozen (D3.1.fl _ _ HH.out.2.1) 5
  have c4 : w3.cell? ⟨d, 4, none⟩ = some (.int .i64 ct) := by rw [HE.out.2]; exact World.rowIs.cell D3.1.dr (i := 4) (by omega)
  have e4 : w3.frozen? ⟨d, 4, none⟩ = false := World.rowIs.frozen D3.1.dr 4
  have e5 : w3.frozen? ⟨d, 5, none⟩ = false := World.rowIs.frozen D3.1.dr 5
  have e6 : w3.frozen? ⟨d, 6, none⟩ = false := World.rowIs.frozen D3.1.dr 6
  have HD3 : Hid (DF d s { s with R := s.R, g := g1, Q := updN s.Q b (s.Q b ++ [⟨a0, a1, a2, a3, a4, a5⟩]), G := updN s.G b g2 } w w3) := D3
  obtain ⟨cm, ecm⟩ : ∃ c, w3.cell? ⟨d, 6, none⟩ = some c := ⟨_, World.rowIs.cell D3.1.dr (i := 6) (by omega)⟩
  obtain ⟨sq, esq⟩ : ∃ c, w3.cell? ⟨d, 5, none⟩ = some c := ⟨_, World.rowIs.cell D3.1.dr (i := 5) (by omega)⟩
  clear D3 hv3 v0 v1 v2 v3 v4 v5 k4
  go_wp2_with fail
  go_region
  go_wp2_with fail
  go_region
  go_wp2_with fail
  have X := HD3.out.setF HH.out.2.1 5 (.int .i64 (by0 + a3)) { s.Y b with bytes := by0 + a3 } (by
    intro j hj
    rcases j with _ | _ | _ | _ | _ | _ | _ | j <;> first | rfl | omega) rfl rfl
  have X2 := X.setD 4 (.int .i64 (ct + 1)) { s.x with count := ct + 1 } (by
    intro j hj
    rcases j with _ | _ | _ | _ | _ | _ | _ | j <;> first | rfl | omega) rfl rfl
  have X3 := X2.setD 5 (.int .i64 a4) { s.x with count := ct + 1, seq := a4 } (by
    intro j hj
    rcases j with _ | _ | _ | _ | _ | _ | _ | j <;> first | rfl | omega) rfl rfl
  have X4 := X3.setD 6 (.int .i64 a5) { s.x with count := ct + 1, seq := a4, came := a5 } (by
    intro j hj
    rcases j with _ | _ | _ | _ | _ | _ | _ | j <;> first | rfl | omega) rfl rfl
  have X5 := X4.drew.drew
  refine bodyPost_ret (v := .int .i64 0) (by simp [results, Try.results16, go_sem]) rfl ⟨rfl, g1, g2, ?_⟩
  obtain ⟨e1, e2⟩ := HE.out
  subst e1
  subst e2
  exact X5
end Go.Proofs.Ytcndbmccediknaa
namespace Go.Proofs.Ytcndbmccediknaa
open Go.RowKit
set_option linter.unusedVariables false
section
variable {α β : Type}
theorem rt_map (f : α → β) (n : Int) (xs : List α) : rt n (xs.map f) = (rt n xs).map f := by
  unfold rt rl
  simp
end
end Go.Proofs.Ytcndbmccediknaa
