/- Contracts of the program's functions, part 13: own work, joined in build order. -/
import Derived.Test.YtcndbmccediknaaJ12
namespace Go.Proofs.Ytcndbmccediknaa
set_option maxRecDepth 100000
set_option linter.unusedVariables false
theorem mem_rl {R : List Nat} {k b : Nat} : b ∈ rl k R ↔ b ∈ R := by
  unfold rl
  rw [List.mem_append]
  have e := List.take_append_drop k R
  constructor
  · rintro (h | h)
    · exact List.mem_of_mem_drop h
    exact List.mem_of_mem_take h
  intro h
  rw [← e, List.mem_append] at h
  exact h.symm
theorem mem_erase {R : List Nat} (hd : R.Nodup) {c : Nat} (hc : c < R.length) {b : Nat} : b ∈ R.eraseIdx c ↔ b ∈ R ∧ b ≠ R.getD c 0 := by
  have hl : (R.eraseIdx c).length = R.length - 1 := by rw [List.length_eraseIdx, if_pos hc]
  constructor
  · intro hb
    obtain ⟨i, hi, rfl⟩ := at_mem hb
    rw [hl] at hi
    by_cases e : i < c
    · have := eraseIdx_at R (c := c) (i := i) (by omega) (by omega)
      rw [if_pos e] at this
      rw [this]
      exact ⟨getD_mem (by omega), getD_ne hd (by omega) hc (by omega)⟩
    have := eraseIdx_at R (c := c) (i := i + 1) (by omega) (by omega)
    rw [if_neg (by omega), show i + 1 - 1 = i by omega] at this
    rw [this]
    exact ⟨getD_mem (by omega), getD_ne hd (by omega) hc (by omega)⟩
  rintro ⟨hb, hne⟩
  obtain ⟨i, hi, rfl⟩ := at_mem hb
  have hic : i ≠ c := by rintro rfl; exact hne rfl
  rw [← eraseIdx_at R hic hi]
  exact getD_mem (by rw [hl]; split <;> omega)
def Fw.same (y z : Fw) : Prop := y.slot = z.slot ∧ y.gen = z.gen ∧ y.weight = z.weight ∧ y.quantum = z.quantum
structure NxF (m : Int) (s : Sd) (c : Nat) (p : Pk) (xs : List Pk) (s' : Sd) : Prop where
  cm : c ∈ s.R
  F : s'.F = s.F
  nn : s'.nn = s.nn
  ct : s'.x.count = s.x.count - 1
  wt : s'.x.weight = s.x.weight
  sq : s'.x.seq = s.x.seq
  cam : s'.x.came = s.x.came
  Q : s'.Q = updN s.Q c xs
  sm : ∀ b, (s'.Y b).same (s.Y b)
  by0 : ∀ b, b ≠ c → (s'.Y b).bytes = (s.Y b).bytes
  by1 : (s'.Y c).bytes = (s.Y c).bytes - p.size
  ko : ∀ b, b ∉ s.R → (s'.Y b).kept = (s.Y b).kept
  kc : xs = [] → (s'.Y c).kept = 0
  len : s'.R.length ≤ s.R.length
  mem : ∀ b, b ∈ s'.R ↔ b ∈ s.R ∧ (b ≠ c ∨ xs ≠ [])
  kp : Kp m s'.R s'.Y s'.Q s'.x.turn
  tw : ∀ a b, a ∈ s'.R → b ∈ s'.R → a ≠ b → tw s'.R s'.Y a b = tw s.R s.Y a b + (if a = c then p.size * (s.Y b).quantum else 0) - (if b = c then p.size * (s.Y a).quantum else 0)
def Sd.holds (s : Sd) (b : Nat) : Prop := s.x.turn = true ∧ s.nth 0 = b
theorem nx_hold {s s' : Sd} {r : Int} {k : Nat} {p : Pk} {xs : List Pk} {Y1 : Nat → Fw} (hx : NxP s r k p xs Y1 s') {b : Nat} (hh : s'.holds b) : b = s.nth k := by
  have hhd : (rl k s.R).getD 0 0 = s.nth k := rl_zero hx.pas.kn
  obtain ⟨g1, g2, ⟨hxs, e⟩ | ⟨hxs, g3, e⟩⟩ := hx.st
  · rw [e] at hh
    exact hh.2.symm.trans hhd
  rw [e] at hh
  have h1 : (true && decide (0 < 0)) = true := hh.1
  exact absurd h1 (by decide)
theorem up_same {s : Sd} {r : Int} {k : Nat} {Y1 : Nat → Fw} (hu : Up s r k s.R.length Y1) (b : Nat) : (Y1 b).same (s.Y b) ∧ (Y1 b).bytes = (s.Y b).bytes ∧ (b ∉ s.R → Y1 b = s.Y b) := by
  refine ⟨?_, ?_, hu.out b⟩ <;>
  · by_cases hb : b ∈ s.R
    · obtain ⟨i, hi, rfl⟩ := at_mem hb
      have := hu.inn i hi
      rw [if_pos hi] at this
      unfold Sd.nth at this
      rw [this]
      try first | exact ⟨rfl, rfl, rfl, rfl⟩ | rfl
    rw [hu.out b hb]
    try first | exact ⟨rfl, rfl, rfl, rfl⟩ | rfl
theorem nx_f {m r : Int} {s s' : Sd} {k : Nat} {p : Pk} {xs : List Pk} {Y1 : Nat → Fw} (h : Kp m s.R s.Y s.Q s.x.turn) (hx : NxP s r k p xs Y1 s') : NxF m s (s.nth k) p xs s' := by
  obtain ⟨K1, K2, K3⟩ := h.pass hx.pas hx.up
  have hk := hx.pas.kn
  have U := up_same hx.up
  have hcm : s.nth k ∈ s.R := nth_mem hk
  have hl : (rl k s.R).length = s.R.length := rl_len _ _
  have hhd : (rl k s.R).getD 0 0 = s.nth k := rl_zero hk
  have hque := hx.que
  have hT := fun a b ha hb => tw_pass h.nd hk hx.up (a := a) (b := b) ha hb
  have hps : (hdP s (s.nth k)).size = p.size := by unfold hdP; rw [hque]; rfl
  rw [hps] at K2
  have hp1 := h.sz _ hcm p (by rw [hque]; simp)
  have hcR : s.nth k ∈ rl k s.R := mem_rl.2 hcm
  have hlt := K1.hi _ hcR
  have hst := hx.st
  clear hx
  generalize s.nth k = c at *
  obtain ⟨g1, g2, ⟨hxs, rfl⟩ | ⟨hxs, g3, rfl⟩⟩ := hst
  · have Yc : ∀ (b : Nat), b ≠ c → (((s.mid c k g1 g2 Y1 xs p.size).lessOf c p.size).Y b) = Y1 b := fun b hb => by
      simp only [Sd.mid, Sd.lessOf, updN, if_neg hb]
    have Yk : ((s.mid c k g1 g2 Y1 xs p.size).lessOf c p.size).Y c = { Y1 c with kept := (Y1 c).kept - p.size, bytes := (Y1 c).bytes - p.size } := by
      simp only [Sd.mid, Sd.lessOf, updN, if_true]
    have hq : ∀ b, (((s.mid c k g1 g2 Y1 xs p.size).lessOf c p.size).Y b).quantum = (Y1 b).quantum := fun b => by
      by_cases e : b = c
      · rw [e, Yk]
      rw [Yc b e]
    refine ⟨hcm, rfl, rfl, rfl, rfl, rfl, rfl, rfl, fun b => ?_, fun b hb => ?_, ?_, fun b hb => ?_, fun e => absurd e hxs, by show (rl k s.R).length ≤ _; omega, fun b => ?_, ?_, fun a b ha hb hab => ?_⟩
    · by_cases e : b = c
      · subst e; rw [Yk]; exact (U b).1
      rw [Yc b e]; exact (U b).1
    · rw [Yc b hb]; exact (U b).2.1
    · rw [Yk, ← (U c).2.1]
    · rw [Yc b (by rintro rfl; exact hb hcm), (U b).2.2 hb]
    · show b ∈ rl k s.R ↔ _
      rw [mem_rl]
      exact ⟨fun e => ⟨e, .inr hxs⟩, fun e => e.1⟩
    · refine K1.head (by omega) hq (fun b hb => ?_) (fun b hb => ?_) ?_ ?_ ?_ ?_
      · rw [hhd] at hb; rw [Yc b hb]
      · rw [hhd] at hb
        exact updN_ne _ _ hb
      · rw [hhd]
        show updN s.Q c xs c ≠ []
        rw [updN_eq]; exact hxs
      · rw [hhd]
        intro q hq'
        have : q ∈ updN s.Q c xs c := hq'
        rw [updN_eq] at this
        rw [hque]
        exact List.mem_cons_of_mem _ this
      · rw [hhd, Yk]
        show (Y1 c).kept - p.size < m
        omega
      rw [hhd, Yk]
      show -(Y1 c).quantum ≤ (Y1 c).kept - p.size
      omega
    have ha' : a ∈ s.R := mem_rl.1 ha
    have hb' : b ∈ s.R := mem_rl.1 hb
    show Go.Proofs.Ytcndbmccediknaa.tw (rl k s.R) _ a b = _
    rw [← hT a b ha' hb']
    by_cases e1 : a = c
    · subst e1
      rw [if_pos rfl, if_neg (fun e => hab e.symm), tw_sentA (Y := Y1) (x := p.size) hq (by rw [Yk]) (by rw [Yc b (fun e => hab e.symm)]), K3 b]
      omega
    rw [if_neg e1]
    by_cases e2 : b = c
    · subst e2
      rw [if_pos rfl, tw_sentB (Y := Y1) (x := p.size) hq (by rw [Yc a e1]) (by rw [Yk]), K3 a]
      omega
    rw [if_neg e2, tw_congr (Y := Y1) (hq a) (hq b) (by rw [Yc a e1]) (by rw [Yc b e2])]
    omega
  subst hxs
  have Yc : ∀ (b : Nat), b ≠ c → ((((s.mid c k g1 g2 Y1 [] p.size).lessOf c p.size).outOf c 0 g3).Y b) = Y1 b := fun b hb => by
    simp only [Sd.mid, Sd.lessOf, Sd.outOf, updN, if_neg hb]
  have Yk : (((s.mid c k g1 g2 Y1 [] p.size).lessOf c p.size).outOf c 0 g3).Y c = { Y1 c with kept := 0, bytes := (Y1 c).bytes - p.size } := by
    simp only [Sd.mid, Sd.lessOf, Sd.outOf, updN, if_true]
  have hq : ∀ b, ((((s.mid c k g1 g2 Y1 [] p.size).lessOf c p.size).outOf c 0 g3).Y b).quantum = (Y1 b).quantum := fun b => by
    by_cases e : b = c
    · rw [e, Yk]
    rw [Yc b e]
  have hm : ∀ b, b ∈ (rl k s.R).eraseIdx 0 ↔ b ∈ s.R ∧ b ≠ c := fun b => by
    rw [mem_erase K1.nd (by omega), hhd, mem_rl]
  refine ⟨hcm, rfl, rfl, rfl, rfl, rfl, rfl, rfl, fun b => ?_, fun b hb => ?_, ?_, fun b hb => ?_, fun _ => by rw [Yk], ?_, fun b => ?_, ?_, fun a b ha hb hab => ?_⟩
  · by_cases e : b = c
    · subst e; rw [Yk]; exact (U b).1
    rw [Yc b e]; exact (U b).1
  · rw [Yc b hb]; exact (U b).2.1
  · rw [Yk, ← (U c).2.1]
  · rw [Yc b (by rintro rfl; exact hb hcm), (U b).2.2 hb]
  · show ((rl k s.R).eraseIdx 0).length ≤ _
    rw [List.length_eraseIdx, if_pos (by omega)]
    omega
  · show b ∈ (rl k s.R).eraseIdx 0 ↔ _
    rw [hm]
    exact ⟨fun e => ⟨e.1, .inl e.2⟩, fun e => ⟨e.1, e.2.resolve_right (fun f => f rfl)⟩⟩
  · exact K1.out (c := 0) (by omega) hq (fun b hb => by rw [hhd] at hb; rw [Yc b hb]) (fun b hb => by rw [hhd] at hb; exact updN_ne _ _ hb)
  obtain ⟨ha1, ha2⟩ := (hm a).1 ha
  obtain ⟨hb1, hb2⟩ := (hm b).1 hb
  show Go.Proofs.Ytcndbmccediknaa.tw ((rl k s.R).eraseIdx 0) _ a b = _
  rw [if_neg ha2, if_neg hb2, tw_out K1.nd (by omega) (mem_rl.2 ha1) (mem_rl.2 hb1) (by rw [hhd]; exact ha2) (by rw [hhd]; exact hb2), tw_congr (Y := Y1) (hq a) (hq b) (by rw [Yc a ha2]) (by rw [Yc b hb2]), hT a b ha1 hb1]
  omega
def lens (P : Nat → List Pk) : Nat := (P 0).length + (P 1).length + (P 2).length + (P 3).length
theorem lens_upd (P : Nat → List Pk) {f : Nat} (hf : f < 4) (L : List Pk) : lens (updN P f L) + (P f).length = lens P + L.length := by
  unfold lens
  have h : f = 0 ∨ f = 1 ∨ f = 2 ∨ f = 3 := by omega
  rcases h with rfl | rfl | rfl | rfl <;> simp [updN] <;> omega
def szs (L : List Pk) : Int := (L.map (·.size)).sum
theorem szs_cons (p : Pk) (L : List Pk) : szs (p :: L) = p.size + szs L := by simp [szs]
theorem szs_app (p : Pk) (L : List Pk) : szs (L ++ [p]) = szs L + p.size := by
  induction L with
  | nil => simp [szs]
  | cons x L ih => rw [List.cons_append, szs_cons, szs_cons, ih]; omega
structure Iv (m : Int) (n : Nat) (x : Wv) (s : Sd) (P : Nat → List Pk) (c : Nat → Nat) : Prop where
  op : ∀ f : Nat, f < 4 → s.F (f : Int) = some (c f)
  ij : ∀ f g, f < 4 → g < 4 → c f = c g → f = g
  qe : ∀ f, f < 4 → s.Q (c f) = P f
  ge : ∀ f, f < 4 → (s.Y (c f)).gen = x.Gen f
  gb : ∀ f, f < 4 → 0 ≤ x.Gen f ∧ x.Gen f ≤ (n : Int) + 1
  sl : ∀ f, f < 4 → ∀ p, p ∈ P f → p.slot = (f : Int) ∧ p.gen = x.Gen f
  qn : ∀ f, f < 4 → (s.Y (c f)).quantum = x.Q f ∧ 1 ≤ x.Q f ∧ x.Q f ≤ 1000
  kp : Kp m s.R s.Y s.Q s.x.turn
  ir : ∀ b, b ∈ s.R → ∃ f, f < 4 ∧ b = c f
  ri : ∀ f, f < 4 → (c f ∈ s.R ↔ P f ≠ [])
  ko : ∀ f, f < 4 → P f = [] → (s.Y (c f)).kept = 0
  ct : s.x.count = (lens P : Int)
  by' : ∀ f, f < 4 → (s.Y (c f)).bytes = szs (P f)
  we : ∀ f, f < 4 → (s.Y (c f)).weight = 1
  wt : s.x.weight = 4
  nn : s.nn ≤ n + 4
  sq : s.x.seq ≤ x.seq ∧ 0 ≤ x.seq ∧ x.seq ≤ n
  cm : s.x.came = 0
  sb : ∀ f, f < 4 → 0 ≤ x.Sent f ∧ x.Sent f ≤ 1024 * n
  tb : 0 ≤ x.told ∧ x.told ≤ n
  lb : ∀ f, f < 4 → (P f).length ≤ n
  rb : s.R.length ≤ n
def Dt (x : Wv) (s : Sd) (c : Nat → Nat) (f g : Nat) : Int := tw s.R s.Y (c f) (c g) - (x.Sent f * x.Q g - x.Sent g * x.Q f)
def Stay (x : Wv) (s : Sd) (P : Nat → List Pk) (c : Nat → Nat) (x' : Wv) (s' : Sd) (P' : Nat → List Pk) (c' : Nat → Nat) : Prop :=
  ∀ f g, f < 4 → g < 4 → f ≠ g → P f ≠ [] → P g ≠ [] → P' f ≠ [] → P' g ≠ [] → Dt x' s' c' f g = Dt x s c f g
theorem szs_nonneg {L : List Pk} (h : ∀ p, p ∈ L → 0 ≤ p.size) : 0 ≤ szs L := by
  induction L with
  | nil => exact Int.le_refl _
  | cons x L ih =>
    rw [szs_cons]
    have h1 := h x (by simp)
    have h2 := ih (fun p hp => h p (by simp [hp]))
    omega
theorem szs_le {L : List Pk} {m : Int} (h : ∀ p, p ∈ L → p.size ≤ m) : szs L ≤ m * L.length := by
  induction L with
  | nil => simp [szs]
  | cons x L ih =>
    rw [szs_cons, List.length_cons]
    have h1 := h x (by simp)
    have h2 := ih (fun p hp => h p (by simp [hp]))
    have h3 : m * ((L.length + 1 : Nat) : Int) = m * L.length + m := by rw [Int.natCast_add, Int.mul_add]; simp
    omega
theorem Iv.size {m : Int} {n : Nat} {x : Wv} {s : Sd} {P : Nat → List Pk} {c : Nat → Nat} (h : Iv m n x s P c) {f : Nat} (hf : f < 4) : ∀ p, p ∈ P f → 1 ≤ p.size ∧ p.size ≤ m := fun p hp => by
  have hne : P f ≠ [] := by intro e; rw [e] at hp; simp at hp
  exact h.kp.sz _ ((h.ri f hf).2 hne) p (by rw [h.qe f hf]; exact hp)
theorem Iv.next {m : Int} {n : Nat} {x x' : Wv} {s s' : Sd} {P : Nat → List Pk} {c : Nat → Nat} (h : Iv m n x s P c) (hm : m ≤ 1024) {r : Int} {k : Nat} {p : Pk} {xs : List Pk} {Y1 : Nat → Fw} (hx : NxP s r k p xs Y1 s') {f : Nat} (hf : f < 4) (hP : P f = p :: xs) (hQ : s.Q (s.nth k) = p :: xs)
    (e1 : x'.Gen = x.Gen) (e2 : x'.Q = x.Q) (e3 : x'.seq = x.seq) (e4 : x'.told = x.told + 1) (e5 : x'.Sent = updN x.Sent f (x.Sent f + p.size)) : Iv m (n + 1) x' s' (updN P f xs) c ∧ Stay x s P c x' s' (updN P f xs) c := by
  have N := nx_f h.kp hx
  have hkb : s.nth k = c f := by
    obtain ⟨g, hg, e⟩ := h.ir _ N.cm
    have h1 := h.qe g hg
    rw [← e, hQ] at h1
    have h2 := (h.sl g hg p (by rw [← h1]; simp)).1
    have h3 := (h.sl f hf p (by rw [hP]; simp)).1
    have : g = f := by omega
    rw [e, this]
  rw [hkb] at N
  have hps := h.size hf p (by rw [hP]; simp)
  have hsame := N.sm
  have PU : ∀ g, g ≠ f → updN P f xs g = P g := fun g hg => updN_ne _ _ hg
  have PF : updN P f xs f = xs := updN_eq _ _ _
  have CN : ∀ g, g < 4 → g ≠ f → c g ≠ c f := fun g hg hgf e => hgf (h.ij g f hg hf e)
  refine ⟨⟨fun g hg => by rw [N.F]; exact h.op g hg, h.ij, fun g hg => ?_, fun g hg => by rw [e1, (hsame _).2.1]; exact h.ge g hg, fun g hg => ?_, fun g hg q hq => ?_, fun g hg => by rw [e2, (hsame _).2.2.2]; exact h.qn g hg, N.kp, fun b hb => h.ir b ((N.mem b).1 hb).1, fun g hg => ?_, fun g hg e => ?_, ?_, fun g hg => ?_, fun g hg => by rw [(hsame _).2.2.1]; exact h.we g hg, by rw [N.wt]; exact h.wt, ?_, ?_, by rw [N.cam]; exact h.cm, fun g hg => ?_, ?_, fun g hg => ?_, ?_⟩, ?_⟩
  · rw [N.Q]
    by_cases e : g = f
    · subst e; rw [PF, updN_eq]
    rw [PU g e, updN_ne _ _ (CN g hg e)]; exact h.qe g hg
  · have := h.gb g hg
    rw [e1]; omega
  · rw [e1]
    by_cases e : g = f
    · subst e
      rw [PF] at hq
      exact h.sl g hg q (by rw [hP]; simp [hq])
    rw [PU g e] at hq; exact h.sl g hg q hq
  · rw [N.mem]
    by_cases e : g = f
    · subst e
      rw [PF, h.ri g hg, hP]
      simp
    rw [PU g e, h.ri g hg]
    exact ⟨fun a => a.1, fun a => ⟨a, .inl (CN g hg e)⟩⟩
  · by_cases e' : g = f
    · subst e'
      rw [PF] at e
      exact N.kc e
    rw [PU g e'] at e
    rw [N.ko _ (fun a => (h.ri g hg).1 a e)]
    exact h.ko g hg e
  · have := lens_upd P hf xs
    rw [hP, List.length_cons] at this
    rw [N.ct, h.ct]
    omega
  · by_cases e : g = f
    · subst e
      have := h.by' g hg
      rw [PF, N.by1, this, hP, szs_cons]
      omega
    rw [PU g e, N.by0 _ (CN g hg e)]; exact h.by' g hg
  · have := h.nn
    rw [N.nn]; omega
  · have := h.sq
    rw [N.sq, e3]; omega
  · have := h.sb g hg
    have := h.sb f hf
    rw [e5]
    by_cases e : g = f
    · subst e; rw [updN_eq]; omega
    rw [updN_ne _ _ e]; omega
  · have := h.tb
    rw [e4]; omega
  · by_cases e : g = f
    · subst e
      have := h.lb g hg
      rw [hP, List.length_cons] at this
      rw [PF]; omega
    have := h.lb g hg
    rw [PU g e]; omega
  · have := h.rb
    have := N.len
    omega
  intro a b ha hb hab a1 b1 a2 b2
  have Hmem : ∀ g, g < 4 → P g ≠ [] → updN P f xs g ≠ [] → c g ∈ s'.R := fun g hg g1 g2 => by
    rw [N.mem]
    refine ⟨(h.ri g hg).2 g1, ?_⟩
    by_cases e : g = f
    · subst e; rw [PF] at g2; exact .inr g2
    exact .inl (CN g hg e)
  have ht := N.tw (c a) (c b) (Hmem a ha a1 a2) (Hmem b hb b1 b2) (fun e => hab (h.ij a b ha hb e))
  unfold Dt
  rw [ht, e2, e5, (h.qn a ha).1, (h.qn b hb).1]
  by_cases e : a = f
  · subst e
    rw [if_pos rfl, if_neg (CN b hb (fun e => hab e.symm)), updN_eq, updN_ne _ _ (fun e => hab e.symm), Int.add_mul]
    omega
  rw [if_neg (CN a ha e), updN_ne _ _ e]
  by_cases e' : b = f
  · subst e'
    rw [if_pos rfl, updN_eq, Int.add_mul]
    omega
  rw [if_neg (CN b hb e'), updN_ne _ _ e']
  omega
structure ChF (m : Int) (s : Sd) (c : Nat) (L : List Pk) (s' : Sd) : Prop where
  F : s'.F = s.F
  nn : s'.nn = s.nn
  wt : s'.x.weight = s.x.weight
  Q : s'.Q = updN s.Q c L
  sm : ∀ b, (s'.Y b).same (s.Y b)
  by0 : ∀ b, b ≠ c → (s'.Y b).bytes = (s.Y b).bytes
  ko : ∀ b, b ≠ c → (s'.Y b).kept = (s.Y b).kept
  kc : L = [] → (s'.Y c).kept = 0
  len : s'.R.length ≤ s.R.length + 1
  mem : ∀ b, b ∈ s'.R ↔ b ∈ s.R ∧ b ≠ c ∨ b = c ∧ L ≠ []
  kp : Kp m s'.R s'.Y s'.Q s'.x.turn
  tw : ∀ a b, a ∈ s.R → b ∈ s.R → a ∈ s'.R → b ∈ s'.R → tw s'.R s'.Y a b = tw s.R s.Y a b
theorem Iv.ch {m : Int} {n : Nat} {x x' : Wv} {s s' : Sd} {P : Nat → List Pk} {c : Nat → Nat} (h : Iv m n x s P c) {f : Nat} (hf : f < 4) {L : List Pk} (N : ChF m s (c f) L s') (hct : s'.x.count + ((P f).length : Int) = s.x.count + (L.length : Int)) (hby : (s'.Y (c f)).bytes = szs L) (hsl : ∀ p, p ∈ L → p.slot = (f : Int) ∧ p.gen = x.Gen f) (hlen : L.length ≤ n + 1)
    (hsq : s'.x.seq ≤ x'.seq ∧ 0 ≤ x'.seq ∧ x'.seq ≤ (n : Int) + 1) (hcm : s'.x.came = 0) (e1 : x'.Gen = x.Gen) (e2 : x'.Q = x.Q) (e4 : x'.told = x.told) (e5 : x'.Sent = x.Sent) : Iv m (n + 1) x' s' (updN P f L) c ∧ Stay x s P c x' s' (updN P f L) c := by
  have hsame := N.sm
  have PU : ∀ g, g ≠ f → updN P f L g = P g := fun g hg => updN_ne _ _ hg
  have PF : updN P f L f = L := updN_eq _ _ _
  have CN : ∀ g, g < 4 → g ≠ f → c g ≠ c f := fun g hg hgf e => hgf (h.ij g f hg hf e)
  have RI : ∀ g, g < 4 → (c g ∈ s'.R ↔ updN P f L g ≠ []) := fun g hg => by
    rw [N.mem]
    by_cases e : g = f
    · subst e
      rw [PF]
      simp
    rw [PU g e, h.ri g hg]
    exact ⟨fun a => a.elim (fun a => a.1) (fun a => absurd a.1 (CN g hg e)), fun a => .inl ⟨a, CN g hg e⟩⟩
  refine ⟨⟨fun g hg => by rw [N.F]; exact h.op g hg, h.ij, fun g hg => ?_, fun g hg => by rw [e1, (hsame _).2.1]; exact h.ge g hg, fun g hg => ?_, fun g hg q hq => ?_, fun g hg => by rw [e2, (hsame _).2.2.2]; exact h.qn g hg, N.kp, fun b hb => ?_, RI, fun g hg e => ?_, ?_, fun g hg => ?_, fun g hg => by rw [(hsame _).2.2.1]; exact h.we g hg, by rw [N.wt]; exact h.wt, ?_, ?_, hcm, fun g hg => ?_, ?_, fun g hg => ?_, ?_⟩, ?_⟩
  · rw [N.Q]
    by_cases e : g = f
    · subst e; rw [PF, updN_eq]
    rw [PU g e, updN_ne _ _ (CN g hg e)]; exact h.qe g hg
  · have := h.gb g hg
    rw [e1]; omega
  · rw [e1]
    by_cases e : g = f
    · subst e
      rw [PF] at hq
      exact hsl q hq
    rw [PU g e] at hq; exact h.sl g hg q hq
  · rcases (N.mem b).1 hb with e | e
    · exact h.ir b e.1
    exact ⟨f, hf, e.1⟩
  · by_cases e' : g = f
    · subst e'
      rw [PF] at e
      exact N.kc e
    rw [PU g e'] at e
    rw [N.ko _ (CN g hg e')]
    exact h.ko g hg e
  · have := lens_upd P hf L
    have := h.ct
    omega
  · by_cases e : g = f
    · subst e
      rw [PF]
      exact hby
    rw [PU g e, N.by0 _ (CN g hg e)]; exact h.by' g hg
  · have := h.nn
    rw [N.nn]; omega
  · exact ⟨hsq.1, hsq.2.1, by have := hsq.2.2; omega⟩
  · have := h.sb g hg
    rw [e5]; omega
  · have := h.tb
    rw [e4]; omega
  · by_cases e : g = f
    · subst e
      rw [PF]; omega
    have := h.lb g hg
    rw [PU g e]; omega
  · have := h.rb
    have := N.len
    omega
  intro a b ha hb hab a1 b1 a2 b2
  unfold Dt
  rw [N.tw (c a) (c b) ((h.ri a ha).2 a1) ((h.ri b hb).2 b1) ((RI a ha).2 a2) ((RI b hb).2 b2), e2, e5]
theorem evict_f {m : Int} {s : Sd} {c k : Nat} {p : Pk} {xs : List Pk} (h : Kp m s.R s.Y s.Q s.x.turn) (hk : k < s.R.length) (hc : s.nth k = c) (hQ : s.Q c = xs ++ [p]) {s' : Sd} {g2 : Nat} (hs : (xs ≠ [] ∧ s' = (s.queued c xs g2).lessOf c p.size) ∨ (xs = [] ∧ ∃ g3, s' = ((s.queued c xs g2).lessOf c p.size).outOf c k g3)) :
    ChF m s c xs s' ∧ s'.x.count = s.x.count - 1 ∧ (s'.Y c).bytes = (s.Y c).bytes - p.size ∧ s'.x.seq = s.x.seq ∧ s'.x.came = s.x.came := by
  have hcm : c ∈ s.R := by rw [← hc]; exact nth_mem hk
  rcases hs with ⟨hxs, rfl⟩ | ⟨rfl, g3, rfl⟩
  · have Yc : ∀ (b : Nat), b ≠ c → ((s.queued c xs g2).lessOf c p.size).Y b = s.Y b := fun b hb => by
      simp only [Sd.queued, Sd.lessOf, updN, if_neg hb]
    have Yk : ((s.queued c xs g2).lessOf c p.size).Y c = { s.Y c with bytes := (s.Y c).bytes - p.size } := by
      simp only [Sd.queued, Sd.lessOf, updN, if_true]
    have hq : ∀ b, (((s.queued c xs g2).lessOf c p.size).Y b).quantum = (s.Y b).quantum := fun b => by
      by_cases e : b = c
      · rw [e, Yk]
      rw [Yc b e]
    have hkk : ∀ b, (((s.queued c xs g2).lessOf c p.size).Y b).kept = (s.Y b).kept := fun b => by
      by_cases e : b = c
      · rw [e, Yk]
      rw [Yc b e]
    refine ⟨⟨rfl, rfl, rfl, rfl, fun b => ?_, fun b hb => by rw [Yc b hb], fun b _ => hkk b, fun e => absurd e hxs, by show s.R.length ≤ _; omega, fun b => ?_, ?_, fun a b _ _ _ _ => tw_congr (hq a) (hq b) (hkk a) (hkk b)⟩, rfl, by rw [Yk], rfl, rfl⟩
    · by_cases e : b = c
      · subst e; rw [Yk]; exact ⟨rfl, rfl, rfl, rfl⟩
      rw [Yc b e]; exact ⟨rfl, rfl, rfl, rfl⟩
    · show b ∈ s.R ↔ _
      by_cases e : b = c
      · subst e
        simp [hcm, hxs]
      simp [e]
    refine h.keep (fun b _ => hq b) (fun b _ => hkk b) (fun b hb => ?_) (fun b hb => ?_) (fun b hb q hq' => ?_)
    · show updN s.Q c xs b ≠ []
      by_cases e : b = c
      · subst e; rw [updN_eq]; exact hxs
      rw [updN_ne _ _ e]; exact h.ne b hb
    · show (updN s.Q c xs b).headD Pk.zero = _
      by_cases e : b = c
      · subst e
        rw [updN_eq, hQ]
        cases xs with
        | nil => exact absurd rfl hxs
        | cons y ys => rfl
      rw [updN_ne _ _ e]
    have hq2 : q ∈ updN s.Q c xs b := hq'
    by_cases e : b = c
    · subst e
      rw [updN_eq] at hq2
      exact h.sz _ hb q (by rw [hQ]; simp [hq2])
    rw [updN_ne _ _ e] at hq2
    exact h.sz b hb q hq2
  have Yc : ∀ (b : Nat), b ≠ c → (((s.queued c [] g2).lessOf c p.size).outOf c k g3).Y b = s.Y b := fun b hb => by
    simp only [Sd.queued, Sd.lessOf, Sd.outOf, updN, if_neg hb]
  have Yk : (((s.queued c [] g2).lessOf c p.size).outOf c k g3).Y c = { s.Y c with bytes := (s.Y c).bytes - p.size, kept := 0 } := by
    simp only [Sd.queued, Sd.lessOf, Sd.outOf, updN, if_true]
  have hq : ∀ b, ((((s.queued c [] g2).lessOf c p.size).outOf c k g3).Y b).quantum = (s.Y b).quantum := fun b => by
    by_cases e : b = c
    · rw [e, Yk]
    rw [Yc b e]
  have hcd : s.R.getD k 0 = c := hc
  have hm : ∀ b, b ∈ s.R.eraseIdx k ↔ b ∈ s.R ∧ b ≠ c := fun b => by
    rw [mem_erase h.nd hk, hcd]
  refine ⟨⟨rfl, rfl, rfl, rfl, fun b => ?_, fun b hb => by rw [Yc b hb], fun b hb => by rw [Yc b hb], fun _ => by rw [Yk], ?_, fun b => ?_, ?_, fun a b ha hb ha' hb' => ?_⟩, rfl, by rw [Yk], rfl, rfl⟩
  · by_cases e : b = c
    · subst e; rw [Yk]; exact ⟨rfl, rfl, rfl, rfl⟩
    rw [Yc b e]; exact ⟨rfl, rfl, rfl, rfl⟩
  · show (s.R.eraseIdx k).length ≤ _
    rw [List.length_eraseIdx, if_pos hk]
    omega
  · show b ∈ s.R.eraseIdx k ↔ _
    rw [hm]
    simp
  · exact h.out (c := k) hk hq (fun b hb => by rw [hcd] at hb; rw [Yc b hb]) (fun b hb => by rw [hcd] at hb; exact updN_ne _ _ hb)
  obtain ⟨_, ha2⟩ := (hm a).1 ha'
  obtain ⟨_, hb2⟩ := (hm b).1 hb'
  show Go.Proofs.Ytcndbmccediknaa.tw (s.R.eraseIdx k) _ a b = _
  rw [tw_out h.nd hk ha hb (by rw [hcd]; exact ha2) (by rw [hcd]; exact hb2), tw_congr (Y := s.Y) (hq a) (hq b) (by rw [Yc a ha2]) (by rw [Yc b hb2])]
theorem admit_f {m : Int} {s : Sd} {c : Nat} {p : Pk} (h : Kp m s.R s.Y s.Q s.x.turn) (hr : c ∈ s.R ↔ s.Q c ≠ []) (hk0 : s.Q c = [] → (s.Y c).kept = 0) (hqu : 1 ≤ (s.Y c).quantum ∧ (s.Y c).quantum ≤ 1000) (hp : 1 ≤ p.size ∧ p.size ≤ m) {R' : List Nat} {g1 g2 : Nat} (hR : (s.Q c = [] ∧ R' = s.R ++ [c]) ∨ (s.Q c ≠ [] ∧ R' = s.R)) :
    ChF m s c (s.Q c ++ [p]) (s.admitted c p R' g1 g2) ∧ (s.admitted c p R' g1 g2).x.count = s.x.count + 1 ∧ ((s.admitted c p R' g1 g2).Y c).bytes = (s.Y c).bytes + p.size ∧ (s.admitted c p R' g1 g2).x.seq = p.seq ∧ (s.admitted c p R' g1 g2).x.came = p.came := by
  have Yc : ∀ (b : Nat), b ≠ c → (s.admitted c p R' g1 g2).Y b = s.Y b := fun b hb => by
    simp only [Sd.admitted, updN, if_neg hb]
  have Yk : (s.admitted c p R' g1 g2).Y c = { s.Y c with bytes := (s.Y c).bytes + p.size } := by
    simp only [Sd.admitted, updN, if_true]
  have hq : ∀ b, ((s.admitted c p R' g1 g2).Y b).quantum = (s.Y b).quantum := fun b => by
    by_cases e : b = c
    · rw [e, Yk]
    rw [Yc b e]
  have hkk : ∀ b, ((s.admitted c p R' g1 g2).Y b).kept = (s.Y b).kept := fun b => by
    by_cases e : b = c
    · rw [e, Yk]
    rw [Yc b e]
  refine ⟨⟨rfl, rfl, rfl, rfl, fun b => ?_, fun b hb => by rw [Yc b hb], fun b _ => hkk b, fun e => absurd e (by simp), ?_, fun b => ?_, ?_, fun a b ha hb _ _ => ?_⟩, rfl, by rw [Yk], rfl, rfl⟩
  · by_cases e : b = c
    · subst e; rw [Yk]; exact ⟨rfl, rfl, rfl, rfl⟩
    rw [Yc b e]; exact ⟨rfl, rfl, rfl, rfl⟩
  · show R'.length ≤ _
    rcases hR with ⟨_, rfl⟩ | ⟨_, rfl⟩
    · simp
    omega
  · show b ∈ R' ↔ _
    rcases hR with ⟨h0, rfl⟩ | ⟨h0, rfl⟩
    · have hc : c ∉ s.R := fun e => (hr.1 e) h0
      rw [List.mem_append, List.mem_singleton]
      by_cases e : b = c
      · subst e; simp
      simp [e]
    have hc := hr.2 h0
    by_cases e : b = c
    · subst e; simp [hc]
    simp [e]
  · show Kp m R' (s.admitted c p R' g1 g2).Y (updN s.Q c (s.Q c ++ [p])) s.x.turn
    rcases hR with ⟨h0, rfl⟩ | ⟨h0, rfl⟩
    · have hc : c ∉ s.R := fun e => (hr.1 e) h0
      exact h.push (p := p) hc (fun b _ => hq b) (fun b _ => hkk b) (fun b hb => updN_ne _ _ (fun e => hc (e ▸ hb))) (by rw [hq]; exact hqu) (by rw [hkk]; exact hk0 h0) (by rw [updN_eq, h0]; rfl) hp
    refine h.keep (fun b _ => hq b) (fun b _ => hkk b) (fun b hb => ?_) (fun b hb => ?_) (fun b hb q hq' => ?_)
    · by_cases e : b = c
      · subst e; rw [updN_eq]; simp
      rw [updN_ne _ _ e]; exact h.ne b hb
    · by_cases e : b = c
      · subst e
        rw [updN_eq]
        revert h0
        cases s.Q b with
        | nil => exact fun h0 => absurd rfl h0
        | cons y ys => exact fun _ => rfl
      rw [updN_ne _ _ e]
    by_cases e : b = c
    · subst e
      rw [updN_eq, List.mem_append, List.mem_singleton] at hq'
      rcases hq' with e | rfl
      · exact h.sz _ hb q e
      exact hp
    rw [updN_ne _ _ e] at hq'
    exact h.sz b hb q hq'
  show Go.Proofs.Ytcndbmccediknaa.tw R' _ a b = _
  rcases hR with ⟨h0, rfl⟩ | ⟨h0, rfl⟩
  · rw [tw_push ha hb]
    exact tw_congr (hq a) (hq b) (hkk a) (hkk b)
  exact tw_congr (hq a) (hq b) (hkk a) (hkk b)
structure GoF (m : Int) (s : Sd) (c : Nat) (f : Int) (s1 : Sd) : Prop where
  F : s1.F = updI s.F f none
  nn : s1.nn = s.nn
  wt : s1.x.weight = s.x.weight - (s.Y c).weight
  sq : s1.x.seq = s.x.seq
  cam : s1.x.came = s.x.came
  Q : s1.Q = s.Q
  Y : ∀ b, b ≠ c → s1.Y b = s.Y b
  mem : ∀ b, b ∈ s1.R ↔ b ∈ s.R ∧ b ≠ c
  len : s1.R.length ≤ s.R.length
  kp : Kp m s1.R s1.Y s1.Q s1.x.turn
  tw : ∀ a b, a ∈ s1.R → b ∈ s1.R → tw s1.R s1.Y a b = tw s.R s.Y a b
theorem gone0_f {m : Int} {s : Sd} {c : Nat} {f : Int} {s1 : Sd} (h : Kp m s.R s.Y s.Q s.x.turn) (hc : c ∉ s.R) (hg : Gone0 s c f s1) : GoF m s c f s1 ∧ s1.x.count = s.x.count := by
  unfold Gone0 at hg
  subst hg
  exact ⟨⟨rfl, rfl, rfl, rfl, rfl, rfl, fun _ _ => rfl, fun b => ⟨fun e => ⟨e, fun e' => hc (e' ▸ e)⟩, fun e => e.1⟩, Nat.le_refl _, h, fun _ _ _ _ => rfl⟩, rfl⟩
theorem gone1_f {m : Int} {s : Sd} {c k n : Nat} {f : Int} {s1 : Sd} (h : Kp m s.R s.Y s.Q s.x.turn) (hk : k < s.R.length) (hc : s.nth k = c) (hg : Gone1 s c k n f s1) : GoF m s c f s1 ∧ s1.x.count = s.x.count - (n : Int) := by
  obtain ⟨g', rfl⟩ := hg
  have hcd : s.R.getD k 0 = c := hc
  have Yc : ∀ (b : Nat), b ≠ c → ((({ s with x := { s.x with weight := s.x.weight - (s.Y c).weight, count := s.x.count - (n : Int) } } : Sd).outOf c k g').shut f).Y b = s.Y b := fun b hb => by
    simp only [Sd.outOf, Sd.shut, updN, if_neg hb]
  have hq : ∀ b, (((({ s with x := { s.x with weight := s.x.weight - (s.Y c).weight, count := s.x.count - (n : Int) } } : Sd).outOf c k g').shut f).Y b).quantum = (s.Y b).quantum := fun b => by
    by_cases e : b = c
    · subst e
      simp only [Sd.outOf, Sd.shut, updN, if_true]
    rw [Yc b e]
  have hm : ∀ b, b ∈ s.R.eraseIdx k ↔ b ∈ s.R ∧ b ≠ c := fun b => by
    rw [mem_erase h.nd hk, hcd]
  refine ⟨⟨rfl, rfl, rfl, rfl, rfl, rfl, Yc, hm, ?_, ?_, fun a b ha hb => ?_⟩, rfl⟩
  · show (s.R.eraseIdx k).length ≤ _
    rw [List.length_eraseIdx, if_pos hk]
    omega
  · exact h.out (c := k) hk hq (fun b hb => by rw [hcd] at hb; rw [Yc b hb]) (fun b hb => rfl)
  obtain ⟨ha1, ha2⟩ := (hm a).1 ha
  obtain ⟨hb1, hb2⟩ := (hm b).1 hb
  show Go.Proofs.Ytcndbmccediknaa.tw (s.R.eraseIdx k) _ a b = _
  rw [tw_out h.nd hk ha1 hb1 (by rw [hcd]; exact ha2) (by rw [hcd]; exact hb2), tw_congr (Y := s.Y) (hq a) (hq b) (by rw [Yc a ha2]) (by rw [Yc b hb2])]
theorem Iv.leave {m : Int} {n : Nat} {x x' : Wv} {s s1 : Sd} {P : Nat → List Pk} {c : Nat → Nat} (h : Iv m n x s P c) {f : Nat} (hf : f < 4) (N : GoF m s (c f) (f : Int) s1) (hct : s1.x.count + ((P f).length : Int) = s.x.count) {b' q : Nat} (hb' : ∀ j d, s1.F j = some d → d ≠ b')
    (e1 : x'.Gen = updN x.Gen f (x.Gen f + 1)) (e2 : x'.Q = x.Q) (e3 : x'.seq = x.seq) (e4 : x'.told = x.told) (e5 : x'.Sent = x.Sent) :
    Iv m (n + 1) x' { s1.joined (f : Int) b' ⟨(f : Int), x.Gen f + 1, 1, qOf (x.Q f), q, 0, 0⟩ with x := { s1.x with weight := s1.x.weight + 1 } } (updN P f []) (updN c f b') ∧ Stay x s P c x' { s1.joined (f : Int) b' ⟨(f : Int), x.Gen f + 1, 1, qOf (x.Q f), q, 0, 0⟩ with x := { s1.x with weight := s1.x.weight + 1 } } (updN P f []) (updN c f b') := by
  have PU : ∀ g, g ≠ f → updN P f [] g = P g := fun g hg => updN_ne _ _ hg
  have PF : updN P f [] f = [] := updN_eq _ _ _
  have CU : ∀ g, g ≠ f → updN c f b' g = c g := fun g hg => updN_ne _ _ hg
  have CF : updN c f b' f = b' := updN_eq _ _ _
  have CN : ∀ g, g < 4 → g ≠ f → c g ≠ c f := fun g hg hgf e => hgf (h.ij g f hg hf e)
  have FN : ∀ g, g < 4 → g ≠ f → s1.F (g : Int) = some (c g) := fun g hg e => by
    rw [N.F]
    unfold updI
    rw [if_neg (by omega)]
    exact h.op g hg
  have BN : ∀ g, g < 4 → g ≠ f → c g ≠ b' := fun g hg e => hb' _ _ (FN g hg e)
  have hR : ∀ b, b ∈ s1.R → ∃ g, g < 4 ∧ g ≠ f ∧ b = c g := fun b hb => by
    obtain ⟨b1, b2⟩ := (N.mem b).1 hb
    obtain ⟨g, hg, rfl⟩ := h.ir b b1
    exact ⟨g, hg, fun e => b2 (by rw [e]), rfl⟩
  have hnR : b' ∉ s1.R := fun hb => by
    obtain ⟨g, hg, e, e'⟩ := hR _ hb
    exact BN g hg e e'.symm
  generalize hs2 : ({ s1.joined (f : Int) b' ⟨(f : Int), x.Gen f + 1, 1, qOf (x.Q f), q, 0, 0⟩ with x := { s1.x with weight := s1.x.weight + 1 } } : Sd) = s2
  have YB : s2.Y b' = ⟨(f : Int), x.Gen f + 1, 1, qOf (x.Q f), q, 0, 0⟩ := by rw [← hs2]; exact updN_eq _ _ _
  have Y2 : ∀ b, b ≠ b' → s2.Y b = s1.Y b := fun b hb => by rw [← hs2]; exact updN_ne _ _ hb
  have YG : ∀ g, g < 4 → g ≠ f → s2.Y (c g) = s.Y (c g) := fun g hg e => by rw [Y2 _ (BN g hg e), N.Y _ (CN g hg e)]
  have QB : s2.Q b' = [] := by rw [← hs2]; exact updN_eq _ _ _
  have Q2 : ∀ b, b ≠ b' → s2.Q b = s.Q b := fun b hb => by rw [← N.Q, ← hs2]; exact updN_ne _ _ hb
  have R2 : s2.R = s1.R := by rw [← hs2]; rfl
  have F2 : s2.F = updI s1.F (f : Int) (some b') := by rw [← hs2]; rfl
  have n2 : s2.nn = s1.nn + 1 := by rw [← hs2]; rfl
  have w2 : s2.x.weight = s1.x.weight + 1 := by rw [← hs2]
  have c2 : s2.x.count = s1.x.count := by rw [← hs2]
  have q2 : s2.x.seq = s1.x.seq := by rw [← hs2]
  have m2 : s2.x.came = s1.x.came := by rw [← hs2]
  have t2 : s2.x.turn = s1.x.turn := by rw [← hs2]
  clear hs2
  have hne : ∀ b, b ∈ s1.R → b ≠ b' := fun b hb e => hnR (e ▸ hb)
  refine ⟨⟨fun g hg => ?_, fun a b ha hb e => ?_, fun g hg => ?_, fun g hg => ?_, fun g hg => ?_, fun g hg p hp => ?_, fun g hg => ?_, ?_, fun b hb => ?_, fun g hg => ?_, fun g hg e => ?_, ?_, fun g hg => ?_, fun g hg => ?_, ?_, ?_, ?_, by rw [m2, N.cam]; exact h.cm, fun g hg => ?_, ?_, fun g hg => ?_, ?_⟩, ?_⟩
  · rw [F2]
    unfold updI
    by_cases e : g = f
    · subst e; rw [if_pos rfl, CF]
    rw [if_neg (by omega), CU g e]; exact FN g hg e
  · by_cases e1 : a = f
    · by_cases e2 : b = f
      · omega
      rw [e1, CF, CU b e2] at e
      exact absurd e.symm (BN b hb e2)
    by_cases e2 : b = f
    · rw [e2, CF, CU a e1] at e
      exact absurd e (BN a ha e1)
    rw [CU a e1, CU b e2] at e
    exact h.ij a b ha hb e
  · by_cases e : g = f
    · subst e; rw [CF, QB, PF]
    rw [CU g e, PU g e, Q2 _ (BN g hg e)]; exact h.qe g hg
  · rw [e1]
    by_cases e : g = f
    · subst e; rw [CF, YB, updN_eq]
    rw [CU g e, YG g hg e, updN_ne _ _ e]; exact h.ge g hg
  · rw [e1]
    have := h.gb g hg
    by_cases e : g = f
    · subst e; rw [updN_eq]; omega
    rw [updN_ne _ _ e]; omega
  · rw [e1]
    by_cases e : g = f
    · subst e; rw [PF] at hp; simp at hp
    rw [PU g e] at hp
    rw [updN_ne _ _ e]; exact h.sl g hg p hp
  · rw [e2]
    have hq := h.qn g hg
    by_cases e : g = f
    · subst e
      rw [CF, YB]
      refine ⟨?_, hq.2⟩
      show qOf (x.Q g) = x.Q g
      unfold qOf
      omega
    rw [CU g e, YG g hg e]; exact hq
  · rw [R2, t2]
    exact N.kp.keep (fun b hb => by rw [Y2 b (hne b hb)]) (fun b hb => by rw [Y2 b (hne b hb)]) (fun b hb => by rw [Q2 b (hne b hb), ← N.Q]; exact N.kp.ne b hb) (fun b hb => by rw [Q2 b (hne b hb), N.Q]) (fun b hb => by rw [Q2 b (hne b hb), ← N.Q]; exact N.kp.sz b hb)
  · rw [R2] at hb
    obtain ⟨g, hg, e, rfl⟩ := hR b hb
    exact ⟨g, hg, (CU g e).symm⟩
  · rw [R2]
    by_cases e : g = f
    · subst e
      rw [CF, PF]
      exact ⟨fun a => absurd a hnR, fun a => absurd rfl a⟩
    rw [CU g e, PU g e, N.mem, h.ri g hg]
    exact ⟨fun a => a.1, fun a => ⟨a, CN g hg e⟩⟩
  · by_cases e' : g = f
    · subst e'; rw [CF, YB]
    rw [PU g e'] at e
    rw [CU g e', YG g hg e']
    exact h.ko g hg e
  · have := lens_upd P hf []
    have := h.ct
    rw [c2]
    simp only [List.length_nil] at *
    omega
  · by_cases e : g = f
    · subst e; rw [CF, YB, PF]; rfl
    rw [CU g e, YG g hg e, PU g e]; exact h.by' g hg
  · by_cases e : g = f
    · subst e; rw [CF, YB]
    rw [CU g e, YG g hg e]; exact h.we g hg
  · have := h.we f hf
    have := h.wt
    rw [w2, N.wt]; omega
  · have := h.nn
    rw [n2, N.nn]; omega
  · have := h.sq
    rw [q2, N.sq, e3]; omega
  · have := h.sb g hg
    rw [e5]; omega
  · have := h.tb
    rw [e4]; omega
  · by_cases e : g = f
    · subst e; rw [PF]; simp
    have := h.lb g hg
    rw [PU g e]; omega
  · have := h.rb
    have := N.len
    rw [R2]; omega
  intro a b ha hb hab a1 b1 a2 b2
  have hA : a ≠ f := by rintro rfl; exact a2 PF
  have hB : b ≠ f := by rintro rfl; exact b2 PF
  have A1 : c a ∈ s1.R := (N.mem _).2 ⟨(h.ri a ha).2 a1, CN a ha hA⟩
  have B1 : c b ∈ s1.R := (N.mem _).2 ⟨(h.ri b hb).2 b1, CN b hb hB⟩
  unfold Dt
  rw [CU a hA, CU b hB, e2, e5, R2, ← N.tw _ _ A1 B1, tw_congr (Y := s1.Y) (by rw [Y2 _ (BN a ha hA)]) (by rw [Y2 _ (BN b hb hB)]) (by rw [Y2 _ (BN a ha hA)]) (by rw [Y2 _ (BN b hb hB)])]
theorem Iv.up {m : Int} {n : Nat} {x : Wv} {s : Sd} {P : Nat → List Pk} {c : Nat → Nat} (h : Iv m n x s P c) : Iv m (n + 1) x s P c :=
  ⟨h.op, h.ij, h.qe, h.ge, fun f hf => by have := h.gb f hf; omega, h.sl, h.qn, h.kp, h.ir, h.ri, h.ko, h.ct, h.by', h.we, h.wt, by have := h.nn; omega, by have := h.sq; omega, h.cm, fun f hf => by have := h.sb f hf; omega, by have := h.tb; omega, fun f hf => by have := h.lb f hf; omega, by have := h.rb; omega⟩
theorem Stay.refl (x : Wv) (s : Sd) (P : Nat → List Pk) (c : Nat → Nat) : Stay x s P c x s P c := fun _ _ _ _ _ _ _ _ _ => rfl
theorem Iv.range {m : Int} {n : Nat} {x : Wv} {s : Sd} {P : Nat → List Pk} {c : Nat → Nat} (h : Iv m n x s P c) {f g : Nat} (hf : f < 4) (hg : g < 4) (hfg : f ≠ g) (pf : P f ≠ []) (pg : P g ≠ []) :
    -(x.Q g * m) ≤ tw s.R s.Y (c f) (c g) ∧ tw s.R s.Y (c f) (c g) ≤ x.Q f * x.Q g + x.Q f * m := by
  have mf := (h.ri f hf).2 pf
  have mg := (h.ri g hg).2 pg
  have qf := h.qn f hf
  have qg := h.qn g hg
  have hif := h.kp.hi _ mf
  have hig := h.kp.hi _ mg
  have lof := h.kp.lo _ mf
  have log := h.kp.lo _ mg
  rw [qf.1] at lof
  rw [qg.1] at log
  have hm : 1 ≤ m := by
    have := h.kp.size mf
    omega
  have hne : c f ≠ c g := fun e => hfg (h.ij f g hf hg e)
  have P0 : ∀ i, i < s.R.length → 0 < i → 0 ≤ (s.Y (s.R.getD i 0)).kept := fun i hi h0 => (h.kp.own i hi (.inl h0)).1
  obtain ⟨i, hi, ei⟩ := at_mem mf
  obtain ⟨j, hj, ej⟩ := at_mem mg
  have xi := ix_at _ h.kp.nd i hi
  have xj := ix_at _ h.kp.nd j hj
  have pi := P0 i hi
  have pj := P0 j hj
  rw [ei] at xi pi
  rw [ej] at xj pj
  have hij : i ≠ j := by rintro rfl; exact hne (ei.symm.trans ej)
  unfold tw
  rw [xi, xj, qf.1, qg.1]
  generalize (s.Y (c f)).kept = kf at *
  generalize (s.Y (c g)).kept = kg at *
  have hq1 := qf.2.1
  have hq2 := qg.2.1
  generalize x.Q f = a at *
  generalize x.Q g = b at *
  have u1 : b * kf ≤ b * m := Int.mul_le_mul_of_nonneg_left (by omega) (by omega)
  have u2 : a * kg ≤ a * m := Int.mul_le_mul_of_nonneg_left (by omega) (by omega)
  have u3 : b * (-a) ≤ b * kf := Int.mul_le_mul_of_nonneg_left lof (by omega)
  have u4 : a * (-b) ≤ a * kg := Int.mul_le_mul_of_nonneg_left log (by omega)
  rw [Int.mul_neg] at u3 u4
  rw [Int.mul_comm b a] at u3
  rcases Nat.lt_or_ge j i with e | e
  · rw [if_pos e]
    have v1 : 0 ≤ b * kf := Int.mul_nonneg (by omega) (pi (by omega))
    constructor <;> omega
  rw [if_neg (by omega)]
  have v1 : 0 ≤ a * kg := Int.mul_nonneg (by omega) (pj (by omega))
  constructor <;> omega
end Go.Proofs.Ytcndbmccediknaa
namespace Go.Proofs.Ytcndbmccediknaa
open Go.RowKit
set_option maxRecDepth 100000
set_option linter.unusedVariables false
def Ev1 (x : Wv) (P : Nat → List Pk) (x' : Wv) (s' : Sd) (P' : Nat → List Pk) (c' : Nat → Nat) : Prop :=
  x'.seq = x.seq ∧ (((∀ f, f < 4 → P f = []) ∧ P' = P ∧ x'.Sent = x.Sent) ∨ ∃ g p xs, g < 4 ∧ P g = p :: xs ∧ P' = updN P g xs ∧ x'.Sent = updN x.Sent g (x.Sent g + p.size) ∧ ∀ f, f < 4 → f ≠ g → ¬ s'.holds (c' f))
def Ev2 (x : Wv) (P : Nat → List Pk) (x' : Wv) (s' : Sd) (P' : Nat → List Pk) (c' : Nat → Nat) : Prop :=
  x'.seq = x.seq ∧ ∀ f, f < 4 → (P' f).Sublist (P f)
def Ev0 (f : Nat) (x : Wv) (P : Nat → List Pk) (x' : Wv) (s' : Sd) (P' : Nat → List Pk) (c' : Nat → Nat) : Prop :=
  x'.seq = x.seq + 1 ∧ x'.Sent = x.Sent ∧ ∃ pk : Pk, pk.seq = x.seq + 1 ∧ P' = updN P f (P f ++ [pk])
theorem upd_sub {P : Nat → List Pk} {f : Nat} {L : List Pk} (h : L.Sublist (P f)) : ∀ g, g < 4 → (updN P f L g).Sublist (P g) := fun g _ => by
  by_cases e : g = f
  · subst e; rw [updN_eq]; exact h
  rw [updN_ne _ _ e]; exact List.Sublist.refl _
def Mvd (b : Nat) (m : Int) (n : Nat) (x : Wv) (s : Sd) (P : Nat → List Pk) (c : Nat → Nat) (M : Int) (E : Wv → Sd → (Nat → List Pk) → (Nat → Nat) → Prop) (w w' : World) : Prop :=
  ∃ x' s' P' c', x'.Q = x.Q ∧ x'.most = M ∧ E x' s' P' c' ∧ Iv m (n + 1) x' s' P' c' ∧ Stay x s P c x' s' P' c' ∧ WF b x.d s w x' s' P' w'
theorem Iv.pos {m : Int} {n : Nat} {x : Wv} {s : Sd} {P : Nat → List Pk} {c : Nat → Nat} (h : Iv m n x s P c) {f : Nat} (hf : f < 4) : 0 ≤ szs (P f) ∧ szs (P f) ≤ 1024 * n ∨ 1024 < m := by
  rcases Int.lt_or_le 1024 m with e | e
  · exact .inr e
  refine .inl ⟨szs_nonneg (fun p hp => by have := h.size hf p hp; omega), ?_⟩
  have h1 := szs_le (L := P f) (m := 1024) (fun p hp => by have := h.size hf p hp; omega)
  have h2 := h.lb f hf
  omega
theorem lens_le {m : Int} {n : Nat} {x : Wv} {s : Sd} {P : Nat → List Pk} {c : Nat → Nat} (h : Iv m n x s P c) : lens P ≤ 4 * n := by
  have h0 := h.lb 0 (by omega)
  have h1 := h.lb 1 (by omega)
  have h2 := h.lb 2 (by omega)
  have h3 := h.lb 3 (by omega)
  unfold lens
  omega
theorem mv_next {m : Int} {n : Nat} {x : Wv} {s : Sd} {P : Nat → List Pk} {c : Nat → Nat} (b : Nat) (fl sz : Int) (w : World) (h : Iv m n x s P c) (hw : WS w b x s P) (hm : m ≤ 1024) (hn : n ≤ 100000) :
    Calls Try.prog 9 #[.pointer (some ⟨b, 0, none⟩), .agg #[.int .i64 1, .int .i64 fl, .int .i64 sz]] w fun e w' => e = .returned (.bool true) ∧ Mvd b m n x s P c x.most (Ev1 x P) w w' := by
  have hl := lens_le h
  have hc := h.ct
  rcases Nat.eq_zero_or_pos (lens P) with e0 | e0
  · have hP : ∀ f, f < 4 → P f = [] := fun f hf => by
      unfold lens at e0
      have h4 : f = 0 ∨ f = 1 ∨ f = 2 ∨ f = 3 := by omega
      rcases h4 with rfl | rfl | rfl | rfl <;> exact List.eq_nil_of_length_eq_zero (by omega)
    refine (wmove_none b x s P fl sz w hw (by omega) hP).mono ?_
    rintro e w' ⟨rfl, hwf⟩
    exact ⟨rfl, x, s, P, c, rfl, rfl, ⟨rfl, .inl ⟨hP, rfl, rfl⟩⟩, h.up, .refl _ _ _ _, hwf⟩
  have hR : s.R ≠ [] := by
    have : ∃ f, f < 4 ∧ P f ≠ [] := by
      unfold lens at e0
      by_cases a0 : P 0 = []
      · by_cases a1 : P 1 = []
        · by_cases a2 : P 2 = []
          · refine ⟨3, by omega, fun a3 => ?_⟩
            rw [a0, a1, a2, a3] at e0
            simp at e0
          exact ⟨2, by omega, a2⟩
        exact ⟨1, by omega, a1⟩
      exact ⟨0, by omega, a0⟩
    obtain ⟨f, hf, hp⟩ := this
    intro e
    have := (h.ri f hf).2 hp
    rw [e] at this
    simp at this
  have hrb := h.rb
  refine (wmove_next b x s P fl sz w hw (h.kp.good (by omega)) hR (by omega) h.kp.nd (by omega) (by omega) (fun d hd => ?_) (fun d hd => ?_) (fun f hf => ?_) ?_).mono ?_
  · obtain ⟨f, hf, rfl⟩ := h.ir d hd
    rw [h.by' f hf]
    have := h.pos hf
    omega
  · obtain ⟨f, hf, rfl⟩ := h.ir d hd
    refine ⟨f, hf, fun p hp => ?_, (h.qe f hf).symm⟩
    rw [h.qe f hf] at hp
    exact (h.sl f hf p hp).1
  · have := h.sb f hf
    omega
  · have := h.tb
    omega
  rintro e w' ⟨rfl, r, k, p, xs, Y1, s', f, v, hf, hP, hQ, hx, hwf⟩
  obtain ⟨I, S⟩ := h.next (x' := { x with L := updN x.L f v, Sent := updN x.Sent f (x.Sent f + p.size), told := x.told + 1 }) hm hx hf hP hQ rfl rfl rfl rfl rfl
  have hkb : s.nth k = c f := by
    obtain ⟨g, hg, e⟩ := h.ir _ (nth_mem hx.pas.kn)
    have h1 := h.qe g hg
    rw [← e, hQ] at h1
    have h2 := (h.sl g hg p (by rw [← h1]; simp)).1
    have h3 := (h.sl f hf p (by rw [hP]; simp)).1
    have : g = f := by omega
    rw [e, this]
  exact ⟨rfl, _, _, _, _, (by rfl), (by rfl), (by exact ⟨rfl, .inr ⟨f, p, xs, hf, hP, rfl, rfl, fun g hg hgf hh => hgf (h.ij g f hg hf ((nx_hold hx hh).trans hkb))⟩⟩), I, S, hwf⟩
theorem mv_evict {m : Int} {n : Nat} {x : Wv} {s : Sd} {P : Nat → List Pk} {c : Nat → Nat} (b : Nat) (fl sz : Int) (f : Nat) (hf : f < 4) (hfl : fl % 4 = (f : Int)) (w : World) (h : Iv m n x s P c) (hw : WS w b x s P) (hm : m ≤ 1024) (hn : n ≤ 100000) :
    Calls Try.prog 9 #[.pointer (some ⟨b, 0, none⟩), .agg #[.int .i64 2, .int .i64 fl, .int .i64 sz]] w fun e w' => e = .returned (.bool true) ∧ Mvd b m n x s P c x.most (Ev2 x P) w w' := by
  have hl := lens_le h
  have hc := h.ct
  by_cases hP : P f = []
  · refine (wmove_evict0 b x s P fl sz f hf hfl w hw hP).mono ?_
    rintro e w' ⟨rfl, hwf⟩
    exact ⟨rfl, x, s, P, c, rfl, rfl, ⟨rfl, fun _ _ => List.Sublist.refl _⟩, h.up, .refl _ _ _ _, hwf⟩
  obtain ⟨k, hk, hkc⟩ := at_mem ((h.ri f hf).2 hP)
  obtain ⟨xs, p, hxp⟩ : ∃ xs p, P f = xs ++ [p] := ⟨(P f).dropLast, (P f).getLast hP, (List.dropLast_concat_getLast hP).symm⟩
  have hsl := h.sl f hf p (by rw [hxp]; simp)
  have hps := h.size hf p (by rw [hxp]; simp)
  have hby := h.by' f hf
  have hbp := h.pos hf
  have hrb := h.rb
  have hlb := h.lb f hf
  rw [hxp, List.length_append, List.length_singleton] at hlb
  refine (wmove_evict b x s P fl sz f (c f) k p xs hf hfl w hw hxp (h.qe f hf) (by rw [hsl.1]; exact h.op f hf) (by rw [h.ge f hf, hsl.2]) hsl.1 (by omega) (by omega) (by omega) (by omega) (by omega) (by omega) (by omega) h.kp.nd hk hkc (by omega)).mono ?_
  rintro e w' ⟨rfl, g2, s', v, hs, hwf⟩
  obtain ⟨N, k1, k2, k3, k4⟩ := evict_f h.kp hk hkc ((h.qe f hf).trans hxp) hs
  have hsq := h.sq
  obtain ⟨I, S⟩ := h.ch (x' := { x with L := updN x.L f v }) hf N (by rw [k1, hxp, List.length_append, List.length_singleton]; omega) (by rw [k2, hby, hxp, szs_app]; omega) (fun q hq => h.sl f hf q (by rw [hxp]; simp [hq])) (by omega) ⟨by rw [k3]; exact hsq.1, hsq.2.1, by show x.seq ≤ _; omega⟩ (by rw [k4]; exact h.cm) rfl rfl rfl rfl
  exact ⟨rfl, _, _, _, _, (by rfl), (by rfl), (by exact ⟨rfl, upd_sub (by rw [hxp]; exact List.sublist_append_left _ _)⟩), I, S, hwf⟩
theorem mv_leave {m : Int} {n : Nat} {x : Wv} {s : Sd} {P : Nat → List Pk} {c : Nat → Nat} (b : Nat) (fl sz : Int) (f : Nat) (hf : f < 4) (hfl : fl % 4 = (f : Int)) (w : World) (h : Iv m n x s P c) (hw : WS w b x s P) (hm : m ≤ 1024) (hn : n ≤ 100000) :
    Calls Try.prog 9 #[.pointer (some ⟨b, 0, none⟩), .agg #[.int .i64 3, .int .i64 fl, .int .i64 sz]] w fun e w' => e = .returned (.bool true) ∧ Mvd b m n x s P c x.most (Ev2 x P) w w' := by
  have hl := lens_le h
  have hc := h.ct
  have hwe := h.we f hf
  have hwt := h.wt
  have hnn := h.nn
  have hgb := h.gb f hf
  have hrb := h.rb
  have hlb := h.lb f hf
  by_cases hP : P f = []
  · have hni : c f ∉ s.R := fun e => (h.ri f hf).1 e hP
    refine (wmove_leave0 b x s P fl sz f (c f) hf hfl w hw hP ((h.qe f hf).trans hP) (h.op f hf) (h.ge f hf) hni (by omega) (by omega) (by omega) (by omega)).mono ?_
    rintro e w' ⟨rfl, s1, b', q, hg, hb', hwf⟩
    obtain ⟨N, k1⟩ := gone0_f h.kp hni hg
    obtain ⟨I, S⟩ := h.leave (x' := { x with L := updN x.L f (.slice none 0 0), Gen := updN x.Gen f (x.Gen f + 1) }) hf N (by rw [k1, hP]; simp) (q := q) hb' rfl rfl rfl rfl rfl
    exact ⟨rfl, _, _, _, _, (by rfl), (by rfl), (by exact ⟨rfl, upd_sub (List.nil_sublist _)⟩), I, S, hwf⟩
  obtain ⟨k, hk, hkc⟩ := at_mem ((h.ri f hf).2 hP)
  refine (wmove_leave1 b x s P fl sz f (c f) k hf hfl w hw hP (h.qe f hf) (h.op f hf) (h.ge f hf) (by omega) (by omega) (by omega) (by omega) (by omega) (by omega) (by omega) (by omega) h.kp.nd hk hkc).mono ?_
  rintro e w' ⟨rfl, s1, b', q, hg, hb', hwf⟩
  obtain ⟨N, k1⟩ := gone1_f h.kp hk hkc hg
  obtain ⟨I, S⟩ := h.leave (x' := { x with L := updN x.L f (.slice none 0 0), Gen := updN x.Gen f (x.Gen f + 1) }) hf N (by rw [k1]; omega) (q := q) hb' rfl rfl rfl rfl rfl
  exact ⟨rfl, _, _, _, _, (by rfl), (by rfl), (by exact ⟨rfl, upd_sub (List.nil_sublist _)⟩), I, S, hwf⟩
theorem Iv.admit {m : Int} {n : Nat} {x x' : Wv} {s : Sd} {P : Nat → List Pk} {c : Nat → Nat} (h : Iv m n x s P c) {f : Nat} (hf : f < 4) {p : Pk} (p1 : p.slot = (f : Int)) (p2 : p.gen = x.Gen f) (p3 : 1 ≤ p.size ∧ p.size ≤ m) (p4 : p.seq = x.seq + 1) (p5 : p.came = 0) {R' : List Nat} {g1 g2 : Nat} (hR : (P f = [] ∧ R' = s.R ++ [c f]) ∨ (P f ≠ [] ∧ R' = s.R))
    (e1 : x'.Gen = x.Gen) (e2 : x'.Q = x.Q) (e3 : x'.seq = x.seq + 1) (e4 : x'.told = x.told) (e5 : x'.Sent = x.Sent) : Iv m (n + 1) x' (s.admitted (c f) p R' g1 g2) (updN P f (P f ++ [p])) c ∧ Stay x s P c x' (s.admitted (c f) p R' g1 g2) (updN P f (P f ++ [p])) c := by
  have hQ := h.qe f hf
  have hq := h.qn f hf
  obtain ⟨N, k1, k2, k3, k4⟩ := admit_f (g1 := g1) (g2 := g2) (R' := R') h.kp (by rw [hQ]; exact h.ri f hf) (fun e => h.ko f hf (by rw [← hQ]; exact e)) (by rw [hq.1]; exact hq.2) p3 (by rw [hQ]; exact hR)
  have hlb := h.lb f hf
  have hsq := h.sq
  rw [hQ] at N
  refine h.ch hf N (by rw [k1, List.length_append, List.length_singleton]; omega) (by rw [k2, h.by' f hf, szs_app]) (fun q hq' => ?_) (by rw [List.length_append, List.length_singleton]; omega) ⟨by rw [k3, e3]; omega, by rw [e3]; omega, by rw [e3]; omega⟩ (by rw [k4]; exact p5) e1 e2 e4 e5
  rcases List.mem_append.1 hq' with e | e
  · exact h.sl f hf q e
  rw [List.mem_singleton.1 e]
  exact ⟨p1, p2⟩
theorem admit_iv {m : Int} {n : Nat} {x x' : Wv} {s : Sd} {P : Nat → List Pk} {c : Nat → Nat} (b : Nat) {w W8 : World} (h : Iv m n x s P c) (hm : m ≤ 1024) (hn : n ≤ 100000) {f : Nat} (hf : f < 4) {p : Pk} (p1 : p.slot = (f : Int)) (p2 : p.gen = x.Gen f) (p3 : 1 ≤ p.size ∧ p.size ≤ m) (p4 : p.seq = x.seq + 1) (p5 : p.came = 0) (hw : WF b x.d s w x' s (updN P f (P f ++ [p])) W8)
    (e1 : x'.Gen = x.Gen) (e2 : x'.Q = x.Q) (e3 : x'.seq = x.seq + 1) (e4 : x'.told = x.told) (e5 : x'.Sent = x.Sent) :
    Calls Try.prog 16 #[.pointer (some ⟨x.d, 0, none⟩), p.val] W8 fun e w' => e = .returned (.int .i64 0) ∧ Mvd b m n x s P c x'.most (Ev0 f x P) w w' := by
  have hl := lens_le h
  have hc := h.ct
  have hby := h.by' f hf
  have hbp := h.pos hf
  have hrb := h.rb
  have hlb := h.lb f hf
  have hsq := h.sq
  have hcm := h.cm
  have hQ := h.qe f hf
  have hds : DS W8 x.d s := by have := hw.ws.ds; rw [hw.dd] at this; exact this
  by_cases hP : P f = []
  · refine (admitD_first x.d s p (c f) W8 hds (by omega) (by omega) (by rw [p1]; exact h.op f hf) (by rw [h.ge f hf, p2]) p3.1 (by omega) (by omega) (by omega) (by omega) (by omega) (by omega) (by omega) (by omega) (by rw [hQ]; omega) (by omega) (hQ.trans hP)).mono ?_
    rintro e w' ⟨rfl, g1, g2, X⟩
    obtain ⟨I, S⟩ := h.admit (x' := x') hf p1 p2 p3 p4 p5 (R' := s.R ++ [c f]) (g1 := g1) (g2 := g2) (.inl ⟨hP, rfl⟩) e1 e2 e3 e4 e5
    exact ⟨rfl, x', _, _, c, e2, rfl, ⟨e3, e5, p, p4, rfl⟩, I, S, hw.go X⟩
  refine (admitD_more x.d s p (c f) W8 hds (by omega) (by omega) (by rw [p1]; exact h.op f hf) (by rw [h.ge f hf, p2]) p3.1 (by omega) (by omega) (by omega) (by omega) (by omega) (by omega) (by omega) (by omega) (by rw [hQ]; omega) (by omega) (by rw [hQ]; exact hP)).mono ?_
  rintro e w' ⟨rfl, g1, g2, X⟩
  obtain ⟨I, S⟩ := h.admit (x' := x') hf p1 p2 p3 p4 p5 (R' := s.R) (g1 := g1) (g2 := g2) (.inr ⟨hP, rfl⟩) e1 e2 e3 e4 e5
  exact ⟨rfl, x', _, _, c, e2, rfl, ⟨e3, e5, p, p4, rfl⟩, I, S, hw.go X⟩
theorem i64_and1023 (n : Int) : bits .and .i64 n 1023 = n % 1024 := by
  have h127 : (BitVec.ofInt 64 1023).toNat = 2 ^ 10 - 1 := by decide
  have key : (BitVec.ofInt 64 n &&& BitVec.ofInt 64 1023).toNat = (n % ((2 ^ 64 : Nat) : Int)).toNat % 2 ^ 10 := by
    rw [BitVec.toNat_and, BitVec.toNat_ofInt, h127, Nat.and_two_pow_sub_one_eq_mod]
  show IntKind.i64.wrap ((BitVec.ofInt 64 n &&& BitVec.ofInt 64 1023).toNat : Nat) = n % 1024
  rw [key, IntKind.wrap_i64]
  omega
theorem i64_and40 (n : Int) : bits .and .i64 n 1099511627775 = n % 1099511627776 := by
  have h127 : (BitVec.ofInt 64 1099511627775).toNat = 2 ^ 40 - 1 := by decide
  have key : (BitVec.ofInt 64 n &&& BitVec.ofInt 64 1099511627775).toNat = (n % ((2 ^ 64 : Nat) : Int)).toNat % 2 ^ 40 := by
    rw [BitVec.toNat_and, BitVec.toNat_ofInt, h127, Nat.and_two_pow_sub_one_eq_mod]
  show IntKind.i64.wrap ((BitVec.ofInt 64 n &&& BitVec.ofInt 64 1099511627775).toNat : Nat) = n % 1099511627776
  rw [key, IntKind.wrap_i64]
  omega
def szOf (z : Int) : Int := z % 1024 + 1
theorem szOf_le (z : Int) : 1 ≤ szOf z ∧ szOf z ≤ 1024 := by unfold szOf; omega
def mostOf (mo kd sz : Int) : Int := if kd = 1 ∨ kd = 2 ∨ kd = 3 then mo else if mo < szOf sz then szOf sz else mo
def Kj (b v : Nat) (x : Wv) (s : Sd) (P : Nat → List Pk) (kd fl sz : Int) (w w1 : World) (x1 : Wv) : Prop :=
  WF b x.d s w x1 s P w1 ∧ w1.heap[v]? = some (.cells #[.int .i64 kd, .int .i64 fl, .int .i64 sz] 28)
theorem Kj.below {b v : Nat} {x x1 : Wv} {s : Sd} {P : Nat → List Pk} {kd fl sz : Int} {w w1 w2 : World} (h : Kj b v x s P kd fl sz w w1 x1) (hb : Below w1.heap.size w1 w2) : Kj b v x s P kd fl sz w w2 x1 :=
  ⟨h.1.below hb, (hb.block v (Array.getElem?_eq_some_iff.1 h.2).1).trans h.2⟩
theorem Kj.cells {b v : Nat} {x x1 : Wv} {s : Sd} {P : Nat → List Pk} {kd fl sz : Int} {w w1 : World} (h : Kj b v x s P kd fl sz w w1 x1) : w1.cell? ⟨b, 17, none⟩ = some (.int .i64 x1.seq) ∧ w1.cell? ⟨v, 2, none⟩ = some (.int .i64 sz) ∧ b < w1.heap.size ∧ v < w1.heap.size :=
  ⟨h.1.ws.wr.c17, by simp [World.cell?, h.2], World.rowIs.lt h.1.ws.wr, (Array.getElem?_eq_some_iff.1 h.2).1⟩
theorem six_cells (w : World) (u : Nat) (a0 a1 a2 a3 a4 a5 : Int) (h : w.heap[u]? = some (.cells #[.int .i64 0, .int .i64 0, .int .i64 0, .int .i64 0, .int .i64 0, .int .i64 0] 49)) : ((((((w.setCell ⟨u, 0, none⟩ (.int .i64 a0)).setCell ⟨u, 1, none⟩ (.int .i64 a1)).setCell ⟨u, 2, none⟩ (.int .i64 a2)).setCell ⟨u, 3, none⟩ (.int .i64 a3)).setCell ⟨u, 4, none⟩ (.int .i64 a4)).setCell ⟨u, 5, none⟩ (.int .i64 a5)).heap[u]? = some (.cells #[.int .i64 a0, .int .i64 a1, .int .i64 a2, .int .i64 a3, .int .i64 a4, .int .i64 a5] 49) := by
  have h1 := heap_setCell_same _ u 0 _ _ (.int .i64 a0) h
  have h2 := heap_setCell_same _ u 1 _ _ (.int .i64 a1) h1
  have h3 := heap_setCell_same _ u 2 _ _ (.int .i64 a2) h2
  have h4 := heap_setCell_same _ u 3 _ _ (.int .i64 a3) h3
  have h5 := heap_setCell_same _ u 4 _ _ (.int .i64 a4) h4
  have h6 := heap_setCell_same _ u 5 _ _ (.int .i64 a5) h5
  simpa using h6
theorem six_below {B : Nat} {a w : World} (u : Nat) (a0 a1 a2 a3 a4 a5 : Int) (h : Below B a w) (hu : B ≤ u) : Below B a ((((((w.setCell ⟨u, 0, none⟩ (.int .i64 a0)).setCell ⟨u, 1, none⟩ (.int .i64 a1)).setCell ⟨u, 2, none⟩ (.int .i64 a2)).setCell ⟨u, 3, none⟩ (.int .i64 a3)).setCell ⟨u, 4, none⟩ (.int .i64 a4)).setCell ⟨u, 5, none⟩ (.int .i64 a5)) :=
  (((((h.setCell hu _).setCell hu _).setCell hu _).setCell hu _).setCell hu _).setCell hu _
def Jx (b : Nat) (x : Wv) (s : Sd) (P : Nat → List Pk) (w : World) (x1 : Wv) (f : Nat) (z q : Int) (u : Nat) (W3 : World) : Prop :=
  WF b x.d s w x1 s P W3 ∧ W3.heap[u]? = some (.cells #[.int .i64 (f : Int), .int .i64 (x1.Gen f), .int .i64 0, .int .i64 z, .int .i64 q, .int .i64 0] 49) ∧ ¬ Mine x.d s u ∧ ¬ u = b
end Go.Proofs.Ytcndbmccediknaa
