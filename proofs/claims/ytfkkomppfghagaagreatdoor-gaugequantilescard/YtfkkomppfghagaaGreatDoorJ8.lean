/- Contracts of the program's functions, part 8: own work, joined in build order. -/
import Derived.Test.YtfkkomppfghagaaGreatDoorJ7
namespace Go.Proofs.YtfkkomppfghagaaGreatDoor
open Go.RowKit
set_option maxRecDepth 100000
set_option linter.unusedVariables false
def updB (L : Nat → Bool) (i : Nat) : Nat → Bool := fun j => if j = i then true else L j
def updV (vs : Nat → Value) (i : Nat) (v : Value) : Nat → Value := fun j => if j = i then v else vs j
structure Fr (ops : Array Oper) (a0 : Act) (L : Nat → Bool) (vs : Nat → Value) (a : Act) : Prop where
  size : a.tmps.size = a0.tmps.size
  defers : a.defers = a0.defers
  out : ∀ t, (∀ (j : Nat) o, ops[j]? = some o → L j = true → o.dst ≠ some t) → a.tmps.getD t undef = a0.tmps.getD t undef
  inn : ∀ (j : Nat) o t, ops[j]? = some o → L j = true → o.dst = some t → a.tmps.getD t undef = vs j
structure Good (ops : Array Oper) (a0 : Act) : Prop where
  once : ∀ (i j : Nat) oi oj t, ops[i]? = some oi → ops[j]? = some oj → oi.dst = some t → oj.dst = some t → i = j
  lt : ∀ (i : Nat) oi t, ops[i]? = some oi → oi.dst = some t → t < a0.tmps.size
theorem put_getD_same (a : Act) (t : Nat) (v : Value) (h : t < a.tmps.size) : (a.put (some t) v).tmps.getD t undef = v := by
  simp [Act.put, h]
theorem put_getD_other (a : Act) (d : Option Nat) (t : Nat) (v : Value) (h : d ≠ some t) : (a.put d v).tmps.getD t undef = a.tmps.getD t undef := by
  cases d with
  | none => rfl
  | some d =>
    have hne : d ≠ t := fun e => h (by rw [e])
    simp [Act.put, Array.getElem?_setIfInBounds_ne hne]
theorem put_size (a : Act) (d : Option Nat) (v : Value) : (a.put d v).tmps.size = a.tmps.size := by cases d <;> simp [Act.put]
theorem put_defers' (a : Act) (d : Option Nat) (v : Value) : (a.put d v).defers = a.defers := by cases d <;> rfl
theorem Fr.step {ops : Array Oper} {a0 a : Act} {L : Nat → Bool} {vs : Nat → Value} (h : Fr ops a0 L vs a) (hg : Good ops a0) {i : Nat} {o : Oper} (hi : ops[i]? = some o) (hL : L i = false) (v : Value) :
    Fr ops a0 (updB L i) (updV vs i v) (a.put o.dst v) := by
  refine ⟨by rw [put_size, h.size], by rw [put_defers', h.defers], fun t ht => ?_, fun j oj t hj hLj ht => ?_⟩
  · have h1 : o.dst ≠ some t := ht i o hi (by simp [updB])
    rw [put_getD_other _ _ _ _ h1]
    refine h.out t fun j oj hj hLj => ?_
    have := ht j oj hj (by unfold updB; split <;> simp_all)
    exact this
  by_cases e : j = i
  · subst e
    rw [hi] at hj
    cases hj
    rw [ht]
    have := hg.lt j o t hi ht
    rw [put_getD_same _ _ _ (by rw [h.size]; exact this)]
    simp [updV]
  have h1 : o.dst ≠ some t := fun e2 => e (hg.once j i oj o t hj hi ht e2)
  rw [put_getD_other _ _ _ _ h1, h.inn j oj t hj (by simpa [updB, e] using hLj) ht]
  simp [updV, e]
def Owes (P : Program) (ops : Array Oper) (Q : Exit → Act → World → Prop) (a0 : Act) (J : (Nat → Bool) → (Nat → Value) → World → Prop) (i : Nat) (o : Oper) : Prop :=
  ∀ L vs a w, J L vs w → Fr ops a0 L vs a → (∀ e ∈ o.after, Region.binds .any e = true → L e.on = true) → L i = false →
    if Region.wanted o (yielded ops a.tmps) then o.wp P a w (fun a' w' => ∃ v, a' = a.put o.dst v ∧ J (updB L i) (updV vs i v) w') Q else J (updB L i) (updV vs i undef) w
def OwesAll (Φ : Nat → Oper → Prop) : Nat → List Oper → Prop
  | _, [] => True
  | k, o :: l => Φ k o ∧ OwesAll Φ (k + 1) l
theorem OwesAll.at {Φ : Nat → Oper → Prop} : ∀ {k : Nat} {l : List Oper}, OwesAll Φ k l → ∀ i o, l[i]? = some o → Φ (k + i) o
  | k, [], _, i, o, h => by simp at h
  | k, x :: l, h, i, o, hi => by
    cases i with
    | zero => simp at hi; subst hi; exact h.1
    | succ i =>
      have := OwesAll.at h.2 i o (by simpa using hi)
      rw [show k + (i + 1) = k + 1 + i by omega]
      exact this
def left (n : Nat) (L : Nat → Bool) : Nat := ((List.range n).filter fun i => !L i).length
theorem left_upd {n : Nat} {L : Nat → Bool} {i : Nat} (hi : i < n) (h : L i = false) : left n (updB L i) + 1 = left n L := by
  unfold left
  induction n with
  | zero => omega
  | succ n ih =>
    rw [List.range_succ, List.filter_append, List.filter_append, List.length_append, List.length_append]
    by_cases e : i = n
    · subst e
      have h1 : ((List.range i).filter fun j => !updB L i j) = (List.range i).filter fun j => !L j := List.filter_congr fun j hj => by
        have : j ≠ i := by have := List.mem_range.1 hj; omega
        simp [updB, this]
      rw [h1]
      simp [updB, h]
    have h2 := ih (by omega)
    have h3 : ([n].filter fun j => !updB L i j) = [n].filter fun j => !L j := by simp [updB, Ne.symm e, List.filter_cons]
    rw [h3]
    omega
theorem wpAny_inv {P : Program} {ops : Array Oper} {Q : Exit → Act → World → Prop} {a0 : Act} {J : (Nat → Bool) → (Nat → Value) → World → Prop} (hg : Good ops a0) (hback : ∀ (i : Nat) o, ops[i]? = some o → ∀ e ∈ o.after, Region.binds .any e = true → e.on < i)
    (hop : ∀ (i : Nat) o, ops[i]? = some o → Owes P ops Q a0 J i o) (hfin : ∀ L vs a w, (∀ i, i < ops.size → L i = true) → Fr ops a0 L vs a → J L vs w → Q .normal a w) :
    ∀ (fuel : Nat) (listed : Array Bool) (L : Nat → Bool) (vs : Nat → Value) (a : Act) (w : World), listed.size = ops.size → (∀ i, i < ops.size → listed.getD i true = L i) → left ops.size L = fuel → Fr ops a0 L vs a → J L vs w → wpAny P .any ops Q fuel listed a w
  | fuel, listed, L, vs, a, w, hsz, hL, hf, hF, hJ => by
    have hall : left ops.size L = 0 → ∀ i, i < ops.size → L i = true := fun h0 i hi => by
      cases hLi : L i
      · have := left_upd hi hLi
        omega
      rfl
    have hnone : left ops.size L ≠ 0 → Region.ready .any ops listed ≠ [] := fun hne hr => by
      have hex : ∃ i, i < ops.size ∧ L i = false := by
        rcases Classical.em (∃ i, i < ops.size ∧ L i = false) with h | h
        · exact h
        exfalso
        apply hne
        unfold left
        rw [List.length_eq_zero_iff, List.filter_eq_nil_iff]
        intro i hi
        have := List.mem_range.1 hi
        cases hLi : L i
        · exact absurd ⟨i, this, hLi⟩ h
        simp
      obtain ⟨i, hi, hmin⟩ := exists_least hex
      have ho : ops[i]? = some (ops[i]'hi.1) := Array.getElem?_eq_getElem hi.1
      have hmem : i ∈ Region.ready .any ops listed := mem_ready.2 ⟨(hL i hi.1).trans hi.2, _, ho, fun e he hb => by
        have hlt := hback i _ ho e he hb
        have h1 : L e.on = true := by
          cases hLe : L e.on
          · have := hmin e.on ⟨by omega, hLe⟩
            omega
          rfl
        have h2 := hL e.on (by omega)
        rw [h1] at h2
        have h3 : e.on < listed.size := by omega
        simpa [h3] using h2⟩
      rw [hr] at hmem
      cases hmem
    match fuel with
    | 0 =>
      refine ⟨?_, hfin L vs a w (hall hf) hF hJ⟩
      refine List.eq_nil_iff_forall_not_mem.2 fun i hi => ?_
      obtain ⟨h1, o, ho, _⟩ := mem_ready.1 hi
      have hlt : i < ops.size := (Array.getElem?_eq_some_iff.1 ho).1
      rw [hL i hlt, hall hf i hlt] at h1
      cases h1
    | fuel + 1 =>
      refine ⟨fun hr => absurd hr (hnone (by omega)), fun i hi => ?_⟩
      obtain ⟨h1, o, ho, hedges⟩ := mem_ready.1 hi
      have hlt : i < ops.size := (Array.getElem?_eq_some_iff.1 ho).1
      have hLi : L i = false := (hL i hlt).symm.trans h1
      have hP : ∀ e ∈ o.after, Region.binds .any e = true → L e.on = true := fun e he hb => by
        have h2 := hedges e he hb
        have h3 := hback i o ho e he hb
        have h4 : e.on < listed.size := by omega
        rw [← hL e.on (by omega)]
        simpa [h4] using h2
      have key := hop i o ho L vs a w hJ hF hP hLi
      have go : ∀ v w', J (updB L i) (updV vs i v) w' → wpAny P .any ops Q fuel (listed.setIfInBounds i true) (a.put o.dst v) w' := fun v w' hJ' =>
        wpAny_inv hg hback hop hfin fuel _ (updB L i) (updV vs i v) _ w' (by simpa using hsz) (fun j hj => by
          by_cases e : j = i
          · subst e
            have : j < listed.size := by omega
            simp [updB, this]
          rw [getD_set_ne true (Ne.symm e), hL j hj]
          simp [updB, e]) (by have := left_upd hlt hLi; omega) (hF.step hg ho hLi v) hJ'
      unfold wpOp
      simp only [ho]
      split
      · rename_i hw
        rw [if_pos hw] at key
        exact .inl (Oper.wp_mono (fun a' w' ⟨v, e, hj⟩ => by subst e; exact go v w' hj) key)
      rename_i hw
      rw [if_neg hw] at key
      exact go undef w key
def putL : List Oper → (Nat → Value) → Nat → Act → Act
  | [], _, _, a => a
  | o :: l, vs, k, a => putL l vs (k + 1) (a.put o.dst (vs k))
theorem Fr.congr {ops : Array Oper} {a0 a : Act} {L L' : Nat → Bool} {vs vs' : Nat → Value} (h : Fr ops a0 L vs a) (hL : ∀ j, L j = L' j) (hv : ∀ j, vs j = vs' j) : Fr ops a0 L' vs' a := by
  rw [← show L = L' from funext hL, ← show vs = vs' from funext hv]
  exact h
theorem putL_fr {ops : Array Oper} {a0 : Act} {vs : Nat → Value} (hg : Good ops a0) : ∀ (l : List Oper) (k : Nat) (b : Act), ops.toList.drop k = l → Fr ops a0 (fun j => decide (j < k)) vs b → ∃ m, ops.size ≤ m ∧ Fr ops a0 (fun j => decide (j < m)) vs (putL l vs k b)
  | [], k, b, hl, h => ⟨k, by have := List.drop_eq_nil_iff.1 hl; simpa using this, h⟩
  | o :: l, k, b, hl, h => by
    have hk : ops[k]? = some o := by
      have : (ops.toList.drop k)[0]? = some o := by rw [hl]; rfl
      simpa using this
    have hl2 : ops.toList.drop (k + 1) = l := by
      have : (ops.toList.drop k).drop 1 = l := by rw [hl]; rfl
      simpa [List.drop_drop, Nat.add_comm] using this
    have h2 := (h.step hg hk (by simp) (vs k)).congr (L' := fun j => decide (j < k + 1)) (vs' := vs) (fun j => by unfold updB; by_cases e : j = k <;> simp [e] <;> omega) (fun j => by unfold updV; split <;> simp_all)
    exact putL_fr hg l (k + 1) _ hl2 h2
theorem Fr.start (ops : Array Oper) (a0 : Act) (vs : Nat → Value) : Fr ops a0 (fun _ => false) vs a0 := ⟨rfl, rfl, fun _ _ => rfl, fun _ _ _ _ h => by cases h⟩
theorem Fr.ext {ops : Array Oper} {a0 a b : Act} {L L' : Nat → Bool} {vs : Nat → Value} (h : Fr ops a0 L vs a) (k : Fr ops a0 L' vs b) (hL : ∀ i, i < ops.size → L i = true) (hL' : ∀ i, i < ops.size → L' i = true) : a = b := by
  have key : ∀ t, a.tmps.getD t undef = b.tmps.getD t undef := fun t => by
    rcases Classical.em (∃ (j : Nat) (o : Oper), ops[j]? = some o ∧ o.dst = some t) with ⟨j, o, hj, ht⟩ | hne
    · have hlt : j < ops.size := (Array.getElem?_eq_some_iff.1 hj).1
      rw [h.inn j o t hj (hL j hlt) ht, k.inn j o t hj (hL' j hlt) ht]
    rw [h.out t fun j o hj _ ht => hne ⟨j, o, hj, ht⟩, k.out t fun j o hj _ ht => hne ⟨j, o, hj, ht⟩]
  obtain ⟨at', ad⟩ := a
  obtain ⟨bt, bd⟩ := b
  have hs : at'.size = bt.size := h.size.trans k.size.symm
  have hd : ad = bd := h.defers.trans k.defers.symm
  have ht : at' = bt := Array.ext hs fun i h1 h2 => by
    have := key i
    simpa [h1, h2] using this
  rw [hd, ht]
theorem Fr.all {ops : Array Oper} {a0 a : Act} {L : Nat → Bool} {vs : Nat → Value} (hg : Good ops a0) (h : Fr ops a0 L vs a) (hL : ∀ i, i < ops.size → L i = true) : a = putL ops.toList vs 0 a0 := by
  obtain ⟨m, hm, hF⟩ := putL_fr (vs := vs) hg ops.toList 0 a0 rfl ((Fr.start ops a0 vs).congr (fun j => by simp) (fun _ => rfl))
  exact h.ext hF hL fun i hi => by simp; omega
def goodB (l : List Oper) (n : Nat) : Bool :=
  (l.filterMap (·.dst)).all (fun t => decide (t < n)) && ((List.range l.length).all fun i => (List.range l.length).all fun j => i == j || (match (l[i]?).bind (·.dst), (l[j]?).bind (·.dst) with | some t, some u => t != u | _, _ => true)) &&
  ((List.range l.length).all fun i => ((l[i]?).map fun o => o.after.toList.all fun e => !Region.binds .any e || decide (e.on < i)).getD true)
theorem good_of {ops : Array Oper} {a0 : Act} (h : goodB ops.toList a0.tmps.size = true) : Good ops a0 ∧ ∀ (i : Nat) o, ops[i]? = some o → ∀ e ∈ o.after, Region.binds .any e = true → e.on < i := by
  unfold goodB at h
  rw [Bool.and_eq_true, Bool.and_eq_true] at h
  obtain ⟨⟨h1, h2⟩, h3⟩ := h
  refine ⟨⟨fun i j oi oj t hi hj hti htj => ?_, fun i oi t hi ht => ?_⟩, fun i o hi e he hb => ?_⟩
  · have li : i < ops.toList.length := by have := (Array.getElem?_eq_some_iff.1 hi).1; simpa using this
    have lj : j < ops.toList.length := by have := (Array.getElem?_eq_some_iff.1 hj).1; simpa using this
    have := List.all_eq_true.1 (List.all_eq_true.1 h2 i (List.mem_range.2 li)) j (List.mem_range.2 lj)
    have ei : ops.toList[i]? = some oi := by simpa using hi
    have ej : ops.toList[j]? = some oj := by simpa using hj
    rw [ei, ej] at this
    simpa [hti, htj] using this
  · have := List.all_eq_true.1 h1 t (List.mem_filterMap.2 ⟨oi, by have := Array.mem_of_getElem? hi; simpa using this, ht⟩)
    simpa using this
  have li : i < ops.toList.length := by have := (Array.getElem?_eq_some_iff.1 hi).1; simpa using this
  have h4 := List.all_eq_true.1 h3 i (List.mem_range.2 li)
  have ei : ops.toList[i]? = some o := by simpa using hi
  rw [ei] at h4
  simp only [Option.map_some, Option.getD_some] at h4
  have := List.all_eq_true.1 h4 e (by simpa using he)
  simpa [hb] using this
theorem wp_region_inv {P : Program} {id : Nat} {ops : Array Oper} {Q : Exit → Act → World → Prop} {a0 : Act} {w : World} (J : (Nat → Bool) → (Nat → Value) → World → Prop) (n : Nat) (hm : P.follows .mixedOrders = true) (hn : a0.tmps.size = n) (hg : goodB ops.toList n = true)
    (h0 : J (fun _ => false) (fun _ => undef) w.drew) (hop : goodB ops.toList n = true → a0.tmps.size = n → OwesAll (Owes P ops Q a0 J) 0 ops.toList) (hfin : ∀ L vs w', (∀ i, i < ops.size → L i = true) → J L vs w' → Q .normal (putL ops.toList vs 0 a0) w') :
    (Code.region id ops true).wp P Q a0 w := by
  subst hn
  obtain ⟨g1, g2⟩ := good_of hg
  refine wp_region_any hm (wpAny_inv g1 g2 (fun i o hi => ?_) (fun L vs a w' hL hF hJ => ?_) ops.size _ (fun _ => false) (fun _ => undef) a0 _ (by simp) (fun i hi => by simp [hi]) ?_ (Fr.start _ _ _) h0)
  · have := (hop hg rfl).at i o (by simpa using hi)
    rw [Nat.zero_add] at this
    exact this
  · rw [hF.all g1 hL]
    exact hfin L vs w' hL hJ
  unfold left
  rw [List.filter_eq_self.2 (by simp)]
  simp
structure Stab (R : World → Value → Prop) : Prop where
  mono : ∀ {w w' : World} {v : Value}, R w v → Below w.heap.size w w' → R w' v
  set : ∀ {w : World} {v : Value} {p : Addr}, R w v → (∀ k q, w.cell? p ≠ some (.int k q)) → ∀ u, R (w.setCell p u) v
def Spec : Type := { R : World → Value → Prop // Stab R }
def sAny : Spec := ⟨fun _ _ => True, ⟨fun _ _ => trivial, fun _ _ _ => trivial⟩⟩
def sEq (u : Value) : Spec := ⟨fun _ v => v = u, ⟨fun h _ => h, fun h _ _ => h⟩⟩
def sNat (x : Nat) : Spec := ⟨fun w v => IsNat w v x, ⟨fun h hb => h.mono hb, fun h hp u => h.setCell hp u⟩⟩
def BoxIs (w0 : World) (L : Nat → Bool) (vs : Nat → Value) (w : World) (b : Nat × Nat × Nat) : Prop :=
  ∃ bk, vs b.1 = .pointer (some ⟨bk, 0, none⟩) ∧ w0.heap.size ≤ bk ∧ bk < w.heap.size ∧ w.frozen? ⟨bk, 0, none⟩ = false ∧ (L b.2.1 = false → w.cell? ⟨bk, 0, none⟩ = some (.slice none 0 0)) ∧ (L b.2.1 = true → L b.2.2 = true ∧ ∃ u, vs b.2.2 = .agg #[u] ∧ w.cell? ⟨bk, 0, none⟩ = some u)
structure JB (w0 : World) (specs : List Spec) (bxs : List (Nat × Nat × Nat)) (L : Nat → Bool) (vs : Nat → Value) (w : World) : Prop where
  bel : Below w0.heap.size w0 w
  sp : ∀ i, L i = true → (specs.getD i sAny).1 w (vs i)
  bx : ∀ b ∈ bxs, L b.1 = true → BoxIs w0 L vs w b
  dj : ∀ b ∈ bxs, ∀ b' ∈ bxs, L b.1 = true → L b'.1 = true → b.1 ≠ b'.1 → vs b.1 ≠ vs b'.1
  cl : ∀ b ∈ bxs, L b.2.1 = true → L b.1 = true
theorem JB.start (w : World) (specs : List Spec) (bxs : List (Nat × Nat × Nat)) : JB w specs bxs (fun _ => false) (fun _ => undef) w.drew :=
  ⟨bel_dr (Below.refl _ _), (fun _ h => by cases h), (fun _ _ h => by cases h), (fun _ _ _ _ h => by cases h), (fun _ _ h => by cases h)⟩
def freeB (bxs : List (Nat × Nat × Nat)) (i : Nat) : Bool := bxs.all fun b => b.1 != i && b.2.1 != i
theorem JB.step {w0 : World} {specs : List Spec} {bxs : List (Nat × Nat × Nat)} {L : Nat → Bool} {vs : Nat → Value} {w w' : World} (h : JB w0 specs bxs L vs w) {i : Nat} (hL : L i = false) (hf : freeB bxs i = true) (hb : Below w.heap.size w w') {v : Value} (hs : (specs.getD i sAny).1 w' v) : JB w0 specs bxs (updB L i) (updV vs i v) w' := by
  have hne : ∀ b ∈ bxs, b.1 ≠ i ∧ b.2.1 ≠ i := fun b hb' => by
    have := List.all_eq_true.1 hf b hb'
    simpa using this
  have oldV : ∀ j, L j = true → updV vs i v j = vs j := fun j hj => by
    have : j ≠ i := fun e => by rw [e, hL] at hj; cases hj
    simp [updV, this]
  refine ⟨bel_go h.bel hb, fun j hj => ?_, fun b hbm hLb => ?_, fun b hbm b' hbm' h1 h2 h3 => ?_, fun b hbm hs' => ?_⟩
  · by_cases e : j = i
    · subst e
      simpa [updV] using hs
    have hj' : L j = true := by simpa [updB, e] using hj
    rw [oldV j hj']
    exact (specs.getD j sAny).2.mono (h.sp j hj') hb
  · obtain ⟨n1, n2⟩ := hne b hbm
    have hLb' : L b.1 = true := by simpa [updB, n1] using hLb
    obtain ⟨bk, e1, e2, e3, e4, e5, e6⟩ := h.bx b hbm hLb'
    have hcell : w'.cell? ⟨bk, 0, none⟩ = w.cell? ⟨bk, 0, none⟩ := hb.cell (p := ⟨bk, 0, none⟩) e3
    refine ⟨bk, by rw [oldV _ hLb']; exact e1, e2, Nat.lt_of_lt_of_le e3 hb.size, (hb.frozen (p := ⟨bk, 0, none⟩) e3).trans e4, fun hs' => ?_, fun hs' => ?_⟩
    · rw [hcell]
      exact e5 (by simpa [updB, n2] using hs')
    obtain ⟨q1, u, q2, q3⟩ := e6 (by simpa [updB, n2] using hs')
    refine ⟨by unfold updB; split <;> simp_all, u, ?_, by rw [hcell]; exact q3⟩
    rw [oldV _ q1]
    exact q2
  · have m1 : L b.1 = true := by simpa [updB, (hne b hbm).1] using h1
    have m2 : L b'.1 = true := by simpa [updB, (hne b' hbm').1] using h2
    rw [oldV _ m1, oldV _ m2]
    exact h.dj b hbm b' hbm' m1 m2 h3
  have := h.cl b hbm (by simpa [updB, (hne b hbm).2] using hs')
  unfold updB; split <;> simp_all
theorem JB.alloc {w0 : World} {specs : List Spec} {bxs : List (Nat × Nat × Nat)} {L : Nat → Bool} {vs : Nat → Value} {w : World} (h : JB w0 specs bxs L vs w) {i : Nat} (hL : L i = false) (hns : bxs.all (fun b => b.2.1 != i) = true) (hsp : specs.getD i sAny = sAny) (t : TypeId) :
    JB w0 specs bxs (updB L i) (updV vs i (.pointer (some ⟨w.heap.size, 0, none⟩))) (w.alloc (.cells #[.slice none 0 0] t)) := by
  have hb : Below w.heap.size w (w.alloc (.cells #[.slice none 0 0] t)) := (Below.refl _ _).alloc (Nat.le_refl _) _
  have hst : ∀ b ∈ bxs, b.1 = i → L b.2.1 = false := fun b hbm e => by
    cases hs' : L b.2.1
    · rfl
    have := h.cl b hbm hs'
    rw [e, hL] at this
    cases this
  have ns : ∀ b ∈ bxs, b.2.1 ≠ i := fun b hb' => by
    have := List.all_eq_true.1 hns b hb'
    simpa using this
  have oldV : ∀ j, L j = true → updV vs i (.pointer (some ⟨w.heap.size, 0, none⟩)) j = vs j := fun j hj => by
    have : j ≠ i := fun e => by rw [e, hL] at hj; cases hj
    simp [updV, this]
  have hnew : ∀ b ∈ bxs, L b.1 = true → vs b.1 ≠ .pointer (some ⟨w.heap.size, 0, none⟩) := fun b hbm hLb e => by
    obtain ⟨bk, e1, _, e3, _⟩ := h.bx b hbm hLb
    rw [e1] at e
    cases e
    omega
  refine ⟨bel_go h.bel hb, fun j hj => ?_, fun b hbm hLb => ?_, fun b hbm b' hbm' h1 h2 h3 => ?_, fun b hbm hs' => ?_⟩
  · by_cases e : j = i
    · subst e
      rw [hsp]
      trivial
    have hj' : L j = true := by simpa [updB, e] using hj
    rw [oldV j hj']
    exact (specs.getD j sAny).2.mono (h.sp j hj') hb
  · by_cases e : b.1 = i
    · refine ⟨w.heap.size, by rw [e]; simp [updV], h.bel.size, by simp, by simp [go_sem], fun _ => by simp [go_sem], fun hs' => ?_⟩
      have := hst b hbm e
      have n2 := ns b hbm
      simp [updB, n2, this] at hs'
    have hLb' : L b.1 = true := by simpa [updB, e] using hLb
    obtain ⟨bk, e1, e2, e3, e4, e5, e6⟩ := h.bx b hbm hLb'
    have hcell : (w.alloc (.cells #[.slice none 0 0] t)).cell? ⟨bk, 0, none⟩ = w.cell? ⟨bk, 0, none⟩ := hb.cell (p := ⟨bk, 0, none⟩) e3
    have n2 := ns b hbm
    refine ⟨bk, by rw [oldV _ hLb']; exact e1, e2, Nat.lt_of_lt_of_le e3 hb.size, (hb.frozen (p := ⟨bk, 0, none⟩) e3).trans e4, fun hs' => ?_, fun hs' => ?_⟩
    · rw [hcell]
      exact e5 (by simpa [updB, n2] using hs')
    obtain ⟨q1, u, q2, q3⟩ := e6 (by simpa [updB, n2] using hs')
    refine ⟨by unfold updB; split <;> simp_all, u, ?_, by rw [hcell]; exact q3⟩
    rw [oldV _ q1]
    exact q2
  · by_cases e : b.1 = i
    · have e' : b'.1 ≠ i := fun e2 => h3 (e.trans e2.symm)
      have m2 : L b'.1 = true := by simpa [updB, e'] using h2
      rw [oldV _ m2, e]
      simp only [updV, if_true]
      exact fun e3 => hnew b' hbm' m2 e3.symm
    have m1 : L b.1 = true := by simpa [updB, e] using h1
    by_cases e' : b'.1 = i
    · rw [oldV _ m1, e']
      simp only [updV, if_true]
      exact hnew b hbm m1
    have m2 : L b'.1 = true := by simpa [updB, e'] using h2
    rw [oldV _ m1, oldV _ m2]
    exact h.dj b hbm b' hbm' m1 m2 h3
  have := h.cl b hbm (by simpa [updB, ns b hbm] using hs')
  unfold updB; split <;> simp_all
theorem JB.store {w0 : World} {specs : List Spec} {bxs : List (Nat × Nat × Nat)} {L : Nat → Bool} {vs : Nat → Value} {w : World} (h : JB w0 specs bxs L vs w) {b : Nat × Nat × Nat} (hbm : b ∈ bxs) (hL : L b.2.1 = false) (hA : L b.1 = true) (hV : L b.2.2 = true) (hone : ∀ b' ∈ bxs, b'.1 ≠ b.2.1 ∧ (b'.2.1 = b.2.1 → b' = b) ∧ (b'.1 = b.1 → b' = b)) (hsp : specs.getD b.2.1 sAny = sAny) {bk : Nat} {u : Value} (hp : vs b.1 = .pointer (some ⟨bk, 0, none⟩)) (hu : vs b.2.2 = .agg #[u]) :
    JB w0 specs bxs (updB L b.2.1) (updV vs b.2.1 undef) (w.setCell ⟨bk, 0, none⟩ u) := by
  have oldV : ∀ j, L j = true → updV vs b.2.1 undef j = vs j := fun j hj => by
    have : j ≠ b.2.1 := fun e => by rw [e, hL] at hj; cases hj
    simp [updV, this]
  obtain ⟨bk', e1, e2, e3, e4, e5, e6⟩ := h.bx b hbm hA
  obtain rfl : bk' = bk := by rw [e1] at hp; cases hp; rfl
  have hc0 := e5 hL
  have hno : ∀ k q, w.cell? ⟨bk', 0, none⟩ ≠ some (.int k q) := no_int_slice hc0
  refine ⟨h.bel.setCell (p := ⟨bk', 0, none⟩) e2 u, fun j hj => ?_, fun b' hbm' hLb => ?_, fun b1 hm1 b2 hm2 h1 h2 h3 => ?_, fun b1 hm1 hs' => ?_⟩
  · by_cases e : j = b.2.1
    · subst e
      rw [hsp]
      trivial
    have hj' : L j = true := by simpa [updB, e] using hj
    rw [oldV j hj']
    exact (specs.getD j sAny).2.set (h.sp j hj') hno u
  · obtain ⟨n1, n2, n3⟩ := hone b' hbm'
    have hLb' : L b'.1 = true := by simpa [updB, n1] using hLb
    by_cases e : b' = b
    · subst e
      refine ⟨bk', by rw [oldV _ hA]; exact e1, e2, by simpa [World.setCell] using e3, by simp [World.frozen?_setCell, e4], fun hs' => ?_, fun _ => ⟨?_, u, ?_, ?_⟩⟩
      · simp [updB] at hs'
      · unfold updB; split <;> simp_all
      · rw [oldV _ hV]; exact hu
      simp [go_sem, hc0]
    obtain ⟨bk2, q1, q2, q3, q4, q5, q6⟩ := h.bx b' hbm' hLb'
    have hne : bk2 ≠ bk' := fun e7 => h.dj b' hbm' b hbm hLb' hA (fun e8 => e (n3 e8)) (by rw [q1, e1, e7])
    have hcell : (w.setCell ⟨bk', 0, none⟩ u).cell? ⟨bk2, 0, none⟩ = w.cell? ⟨bk2, 0, none⟩ := World.cell?_setCell_far _ _ _ _ (by simpa using Ne.symm hne)
    refine ⟨bk2, by rw [oldV _ hLb']; exact q1, q2, by simpa [World.setCell] using q3, by simp [World.frozen?_setCell, q4], fun hs' => ?_, fun hs' => ?_⟩
    · rw [hcell]
      exact q5 (by
        have : b'.2.1 ≠ b.2.1 := fun e9 => e (n2 e9)
        simpa [updB, this] using hs')
    have n4 : b'.2.1 ≠ b.2.1 := fun e9 => e (n2 e9)
    obtain ⟨r1, u2, r2, r3⟩ := q6 (by simpa [updB, n4] using hs')
    refine ⟨by unfold updB; split <;> simp_all, u2, ?_, by rw [hcell]; exact r3⟩
    rw [oldV _ r1]
    exact r2
  · have m1 : L b1.1 = true := by simpa [updB, (hone b1 hm1).1] using h1
    have m2 : L b2.1 = true := by simpa [updB, (hone b2 hm2).1] using h2
    rw [oldV _ m1, oldV _ m2]
    exact h.dj b1 hm1 b2 hm2 m1 m2 h3
  have m1 : L b1.1 = true := by
    by_cases e : b1.2.1 = b.2.1
    · rw [(hone b1 hm1).2.1 e]
      exact hA
    exact h.cl b1 hm1 (by simpa [updB, e] using hs')
  simp [updB, (hone b1 hm1).1, m1]
theorem run_val {P : Program} {ops : Array Oper} {Q : Exit → Act → World → Prop} {K : Act → World → Prop} {o : Oper} {a : Act} {w w' : World} {X : Prop} {v : Value} (hw : Region.wanted o (yielded ops a.tmps) = true) (hr : (execOp a.eval o).run P w = .ok (.value v) w') (h : K (a.put o.dst v) w') : if Region.wanted o (yielded ops a.tmps) then o.wp P a w K Q else X := by
  rw [if_pos hw]
  unfold Oper.wp
  rw [hr]
  exact h
theorem run_unit {P : Program} {ops : Array Oper} {Q : Exit → Act → World → Prop} {K : Act → World → Prop} {o : Oper} {a : Act} {w w' : World} {X : Prop} (hw : Region.wanted o (yielded ops a.tmps) = true) (hr : (execOp a.eval o).run P w = .ok .skip w') (h : K (a.put o.dst undef) w') : if Region.wanted o (yielded ops a.tmps) then o.wp P a w K Q else X := by
  rw [if_pos hw]
  unfold Oper.wp
  rw [hr]
  exact h
theorem run_call {P : Program} {ops : Array Oper} {Q : Exit → Act → World → Prop} {K : Act → World → Prop} {o : Oper} {a : Act} {w : World} {X : Prop} {f : FuncId} {args : Array Value} {R : Ending → World → Prop} (hw : Region.wanted o (yielded ops a.tmps) = true) (hr : (execOp a.eval o).run P w = .ok (.enter f args) w) (hc : Calls P f args w R) (h : ∀ e w', R e w' → ∃ v, e = .returned v ∧ K (a.put o.dst v) w') : if Region.wanted o (yielded ops a.tmps) then o.wp P a w K Q else X := by
  rw [if_pos hw]
  unfold Oper.wp
  rw [hr]
  refine hc.mono fun e w'' he => ?_
  obtain ⟨v, rfl, hk⟩ := h e w'' he
  exact hk
theorem Fr.slot {ops : Array Oper} {a0 a : Act} {L : Nat → Bool} {vs : Nat → Value} (h : Fr ops a0 L vs a) (j t : Nat) (hd : (ops[j]?).bind (·.dst) = some t) (hL : L j = true) : (a.tmps[t]?).getD undef = vs j := by
  cases ho : ops[j]? with
  | none => rw [ho] at hd; cases hd
  | some o =>
    rw [ho] at hd
    have := h.inn j o t ho hL hd
    simpa using this
theorem Fr.old {ops : Array Oper} {a0 a : Act} {L : Nat → Bool} {vs : Nat → Value} (h : Fr ops a0 L vs a) (t : Nat) (hd : ops.toList.all (fun o => o.dst != some t) = true) : (a.tmps[t]?).getD undef = a0.eval (.tmp t) := by
  have e : (a.tmps[t]?).getD undef = a.tmps.getD t undef := by simp
  rw [e]
  refine h.out t fun j o ho _ e => ?_
  have := List.all_eq_true.1 hd o (by have := Array.mem_of_getElem? ho; simpa using this)
  rw [e] at this
  simp at this
theorem Fr.wants {ops : Array Oper} {a0 a : Act} {L : Nat → Bool} {vs : Nat → Value} (h : Fr ops a0 L vs a) (n : Nat) (hn : a0.tmps.size = n) (hg : goodB ops.toList n = true) (o : Oper) (g : Nat) (b c : Bool) (ho : o.guard = some (g, b)) (hd : ((ops[g]?).bind (·.dst)).isSome = true) (hL : L g = true) (hv : vs g = .bool c) : Region.wanted o (yielded ops a.tmps) = (c == b) := by
  subst hn
  cases hg' : ops[g]? with
  | none => rw [hg'] at hd; cases hd
  | some og =>
    rw [hg'] at hd
    cases hdst : og.dst with
    | none => rw [show (some og).bind (·.dst) = og.dst from rfl, hdst] at hd; cases hd
    | some t =>
      have h1 := h.inn g og t hg' hL hdst
      have h2 := (good_of hg).1.lt g og t hg' hdst
      have h3 : t < a.tmps.size := by rw [h.size]; exact h2
      have h4 : a.tmps[t]? = some (.bool c) := by
        rw [Array.getElem?_eq_getElem h3]
        have : a.tmps.getD t undef = a.tmps[t] := by simp [h3]
        rw [← this, h1, hv]
      unfold Region.wanted
      rw [ho]
      simp only [yielded, hg', Option.bind_some, hdst, h4]
      cases b <;> cases c <;> rfl
def B (n : Nat) : Nat := 4294967296 ^ n
def U (F : Nat → Nat) : Nat → Nat
  | 0 => 0
  | n + 1 => U F n + F n * B n
def Dg (F : Nat → Nat) (n : Nat) : Prop := ∀ i, i < n → F i < 4294967296
theorem Dg.mono {F : Nat → Nat} {m n : Nat} (h : Dg F n) (hm : m ≤ n) : Dg F m := fun i hi => h i (by omega)
def RNat (w : World) (v : Value) (x : Nat) : Prop :=
  ∃ a n cap F, v = .agg #[.slice a n cap] ∧ Sl w a n cap F ∧ Dg F n ∧ (0 < n → F (n - 1) ≠ 0) ∧ U F n = x
theorem RNat.mono {w w' : World} {v : Value} {x : Nat} (h : RNat w v x) (hb : Below w.heap.size w w') : RNat w' v x := by
  obtain ⟨a, n, cap, F, e, hs, hd, h1, hv⟩ := h
  exact ⟨a, n, cap, F, e, hs.mono hb, hd, h1, hv⟩
theorem RNat.setCell {w : World} {v : Value} {x : Nat} (h : RNat w v x) {p : Addr} (hp : ∀ k q, w.cell? p ≠ some (.int k q)) (u : Value) : RNat (w.setCell p u) v x := by
  obtain ⟨a, n, cap, F, e, hs, hd, h1, hv⟩ := h
  exact ⟨a, n, cap, F, e, hs.setCell hp u, hd, h1, hv⟩
theorem RNat.isAgg {w : World} {v : Value} {x : Nat} (h : RNat w v x) : ∃ a n cap, v = .agg #[.slice a n cap] := by
  obtain ⟨a, n, cap, F, e, _⟩ := h
  exact ⟨a, n, cap, e⟩
theorem RNat.open {w : World} {a : Option Addr} {n cap : Nat} {x : Nat} (h : RNat w (.agg #[.slice a n cap]) x) : ∃ F, Sl w a n cap F ∧ Dg F n ∧ (0 < n → F (n - 1) ≠ 0) ∧ U F n = x := by
  obtain ⟨a', n', cap', F, e, h2⟩ := h
  cases e
  exact ⟨F, h2⟩
def two (x y : Nat) (i : Nat) : Nat := if i = 0 then x else y
theorem fits_P {x n : Nat} (h : x < P n) (hn : n ≤ 4294967296) : Fits x := ⟨Nat.lt_of_lt_of_le h (P_le (show n ≤ lim from hn))⟩
structure SR (w0 w : World) (N M : List (Value × Nat)) (C : List (Nat × Value)) : Prop where
  nats : ∀ p ∈ N, IsNat w p.1 p.2
  rnats : ∀ p ∈ M, RNat w p.1 p.2
  cells : ∀ p ∈ C, w.cell? ⟨p.1, 0, none⟩ = some p.2
  bel : Below w0.heap.size w0 w
theorem SR.go {w0 w w' : World} {N M : List (Value × Nat)} {C : List (Nat × Value)} (h : SR w0 w N M C) (hb : Below w.heap.size w w') : SR w0 w' N M C :=
  ⟨fun p hp => (h.nats p hp).mono hb, fun p hp => (h.rnats p hp).mono hb, fun p hp => cell_later hb (h.cells p hp), bel_go h.bel hb⟩
theorem SR.at {w0 w : World} {N M : List (Value × Nat)} {C : List (Nat × Value)} (h : SR w0 w N M C) (v : Value) (x : Nat) (hm : (v, x) ∈ N := by simp) : IsNat w v x := h.nats _ hm
theorem SR.rat {w0 w : World} {N M : List (Value × Nat)} {C : List (Nat × Value)} (h : SR w0 w N M C) (v : Value) (x : Nat) (hm : (v, x) ∈ M := by simp) : RNat w v x := h.rnats _ hm
theorem SR.cell {w0 w : World} {N M : List (Value × Nat)} {C : List (Nat × Value)} (h : SR w0 w N M C) (b : Nat) (u : Value) (hm : (b, u) ∈ C := by simp) : w.cell? ⟨b, 0, none⟩ = some u := h.cells _ hm
theorem SR.nat {w0 w : World} {N M : List (Value × Nat)} {C : List (Nat × Value)} (h : SR w0 w N M C) {v : Value} {x : Nat} (hp : IsNat w v x) : SR w0 w ((v, x) :: N) M C :=
  ⟨fun p hp' => by
    rcases List.mem_cons.1 hp' with e | e
    · subst e; exact hp
    exact h.nats p e, h.rnats, h.cells, h.bel⟩
theorem SR.box {w0 w : World} {N M : List (Value × Nat)} {C : List (Nat × Value)} (h : SR w0 w N M C) (u : Value) (t : TypeId) (g : Nat) (hg : g = w.heap.size) : SR w0 (w.alloc (.cells #[u] t)) N M ((g, u) :: C) := by
  subst hg
  have h' := h.go (w' := w.alloc (.cells #[u] t)) (bel_al (Below.refl _ _))
  refine ⟨h'.nats, h'.rnats, fun p hp => ?_, h'.bel⟩
  rcases List.mem_cons.1 hp with e | e
  · subst e
    simp
  exact h'.cells p e
theorem sr_start (w : World) : SR w w [] [] [] := ⟨(fun _ h => by cases h), (fun _ h => by cases h), (fun _ h => by cases h), Below.refl _ _⟩
def IsRat (w : World) (v : Value) (p q : Nat) : Prop := ∃ a n c a' n' c', v = .agg #[.slice a n c, .slice a' n' c'] ∧ IsNat w (.agg #[.slice a n c]) p ∧ IsNat w (.agg #[.slice a' n' c']) q
theorem IsRat.mono {w w' : World} {v : Value} {p q : Nat} (h : IsRat w v p q) (hb : Below w.heap.size w w') : IsRat w' v p q := by
  obtain ⟨a, n, c, a', n', c', e, h1, h2⟩ := h
  exact ⟨a, n, c, a', n', c', e, h1.mono hb, h2.mono hb⟩
theorem IsRat.setCell {w : World} {v : Value} {p q : Nat} (h : IsRat w v p q) {x : Addr} (hp : ∀ k q, w.cell? x ≠ some (.int k q)) (u : Value) : IsRat (w.setCell x u) v p q := by
  obtain ⟨a, n, c, a', n', c', e, h1, h2⟩ := h
  exact ⟨a, n, c, a', n', c', e, h1.setCell hp u, h2.setCell hp u⟩
structure Rt (w : World) (v : Value) (p q : Nat) : Prop where
  raw : IsRat w v p (if p = 0 then 0 else q)
  pos : 0 < q
  low : Nat.gcd p q = 1
theorem Rt.mono {w w' : World} {v : Value} {p q : Nat} (h : Rt w v p q) (hb : Below w.heap.size w w') : Rt w' v p q := ⟨h.raw.mono hb, h.pos, h.low⟩
theorem Rt.setCell {w : World} {v : Value} {p q : Nat} (h : Rt w v p q) {x : Addr} (hp : ∀ k q, w.cell? x ≠ some (.int k q)) (u : Value) : Rt (w.setCell x u) v p q := ⟨h.raw.setCell hp u, h.pos, h.low⟩
theorem isRat_zero (w : World) : IsRat w (.agg #[.slice none 0 0, .slice none 0 0]) 0 0 := ⟨_, _, _, _, _, _, rfl, isNat_zero w, isNat_zero w⟩
theorem rt_zero (w : World) : Rt w (.agg #[.slice none 0 0, .slice none 0 0]) 0 1 := ⟨by rw [if_pos rfl]; exact isRat_zero w, by omega, by simp⟩
theorem len_zero {x : Nat} : bitLen x = 0 ↔ x = 0 := by
  constructor
  · intro h
    have := bitLen_lt x
    rw [h] at this
    simpa using this
  intro h
  rw [h]
  exact bitLen_zero
theorem len_one {x : Nat} : bitLen x = 1 ↔ x = 1 := by
  constructor
  · intro h
    have h1 := bitLen_lt x
    rw [h] at h1
    have h2 : x ≠ 0 := fun e => by rw [e, bitLen_zero] at h; omega
    omega
  intro h
  rw [h]
  decide
set_option maxHeartbeats 1000000 in
theorem isZero_any (v : Value) (x : Nat) (w : World) (h : IsNat w v x) (hx : Fits x) :
    Calls Tryz.prog 72 #[v] w fun e w' => e = .returned (.bool (decide (x = 0))) ∧ Below w.heap.size w w' := by
  obtain ⟨a, n, c, rfl⟩ := h.isAgg
  have HH : Hid (IsNat w (.agg #[.slice a n c]) x ∧ Fits x) := ⟨h, hx⟩
  clear h hx
  go_enter Tryz.func72, Tryz.ntmps72
  go_wp2_with fail
  refine (len_any _ x _ (HH.out.1.mono (bel_al (bel_refl w))) HH.out.2).mono ?_
  rintro e w1 ⟨rfl, hb1⟩
  have B1 : Hid (Below w.heap.size w w1) := bel_go (bel_al (bel_refl w)) hb1
  obtain ⟨L, eL⟩ : ∃ L, L = bitLen x := ⟨_, rfl⟩
  rw [← eL]
  by_cases h0 : x = 0
  · have hL : ((L : Int) == 0) = true := by rw [eL, len_zero.2 h0]; rfl
    have HD : Hid (decide (x = 0) = true) := decide_eq_true h0
    clear hb1 eL h0
    go_wp2_with fail
    go_ret
    exact ⟨by rw [HD.out]; rfl, B1.out⟩
  have hL : ((L : Int) == 0) = false := by
    have : L ≠ 0 := fun e => h0 (len_zero.1 (eL ▸ e))
    simp; omega
  have HD : Hid (decide (x = 0) = false) := decide_eq_false h0
  clear hb1 eL h0
  go_wp2_with fail
  go_ret
  exact ⟨by rw [HD.out]; rfl, B1.out⟩
set_option maxHeartbeats 1000000 in
theorem isOne_any (v : Value) (x : Nat) (w : World) (h : IsNat w v x) (hx : Fits x) :
    Calls Tryz.prog 99 #[v] w fun e w' => e = .returned (.bool (decide (x = 1))) ∧ Below w.heap.size w w' := by
  obtain ⟨a, n, c, rfl⟩ := h.isAgg
  have HH : Hid (IsNat w (.agg #[.slice a n c]) x ∧ Fits x) := ⟨h, hx⟩
  clear h hx
  go_enter Tryz.func99, Tryz.ntmps99
  go_wp2_with fail
  refine (len_any _ x _ (HH.out.1.mono (bel_al (bel_refl w))) HH.out.2).mono ?_
  rintro e w1 ⟨rfl, hb1⟩
  have B1 : Hid (Below w.heap.size w w1) := bel_go (bel_al (bel_refl w)) hb1
  obtain ⟨L, eL⟩ : ∃ L, L = bitLen x := ⟨_, rfl⟩
  rw [← eL]
  by_cases h0 : x = 1
  · have hL : ((L : Int) == 1) = true := by rw [eL, len_one.2 h0]; rfl
    have HD : Hid (decide (x = 1) = true) := decide_eq_true h0
    clear hb1 eL h0
    go_wp2_with fail
    go_ret
    exact ⟨by rw [HD.out]; rfl, B1.out⟩
  have hL : ((L : Int) == 1) = false := by
    have : L ≠ 1 := fun e => h0 (len_one.1 (eL ▸ e))
    simp; omega
  have HD : Hid (decide (x = 1) = false) := decide_eq_false h0
  clear hb1 eL h0
  go_wp2_with fail
  go_ret
  exact ⟨by rw [HD.out]; rfl, B1.out⟩
set_option maxHeartbeats 2000000 in
theorem over_any (v u : Value) (x d : Nat) (w : World) (h : IsNat w v x) (k : IsNat w u d) (hx : x < P 198) (hd : d < P 198) (hd0 : 0 < d) :
    Calls Tryz.prog 70 #[v, u] w (Makes w (x / d)) := by
  obtain ⟨a, n, c, rfl⟩ := h.isAgg
  obtain ⟨a', n', c', rfl⟩ := k.isAgg
  have HH : Hid (IsNat w (.agg #[.slice a n c]) x ∧ IsNat w (.agg #[.slice a' n' c']) d ∧ x < P 198 ∧ d < P 198) := ⟨h, k, hx, hd⟩
  have ba : Hid (Below w.heap.size w (((w.alloc (.cells #[.slice a n c] 45)).alloc (.cells #[.slice a' n' c'] 45)).alloc (.cells #[.slice none 0 0] 45))) := bel_al (bel_al (bel_al (bel_refl w)))
  clear h k hx hd
  go_enter Tryz.func70, Tryz.ntmps70
  go_wp2_with fail
  refine (isOne_any _ d _ (HH.out.2.1.mono ba.out) (small_198 HH.out.2.2.2).fits).mono ?_
  rintro e w1 ⟨rfl, hb1⟩
  have c0 : w1.cell? ⟨w.heap.size, 0, none⟩ = some (.slice a n c) := cell_later hb1 (by simp [go_sem])
  have c1 : w1.cell? ⟨w.heap.size + 1, 0, none⟩ = some (.slice a' n' c') := cell_later hb1 (by simp [go_sem])
  have c2 : w1.cell? ⟨w.heap.size + 1 + 1, 0, none⟩ = some (.slice none 0 0) := cell_later hb1 (by simp [go_sem])
  have f2 : w1.frozen? ⟨w.heap.size + 1 + 1, 0, none⟩ = false := (hb1.frozen (by simp)).trans (by simp [go_sem])
  have B1 : Hid (Below w.heap.size w w1) := bel_go ba.out hb1
  clear hb1 ba
  by_cases h1 : d = 1
  · have d1 : decide (d = 1) = true := decide_eq_true h1
    have HD : Hid (x / d = x) := by show _ = _; rw [h1, Nat.div_one]
    clear h1
    go_wp2_with fail
    refine bodyPost_ret (v := .agg #[.slice a n c]) (by simp [results, Tryz.results70, go_sem, c2]) rfl ⟨_, rfl, by rw [HD.out]; exact (HH.out.1.mono B1.out).setCell (no_int_slice c2) _, B1.out.setCell (by show _ ≤ _ + 1 + 1; omega) _⟩
  have d1 : decide (d = 1) = false := decide_eq_false h1
  clear h1
  go_wp2_with fail
  refine (divMod_198 _ _ x d _ (HH.out.1.mono B1.out) (HH.out.2.1.mono B1.out) (small_198 HH.out.2.2.2) hd0 HH.out.2.2.1 (small_198 HH.out.2.2.1)).mono ?_
  rintro e w2 ⟨v2, u2, rfl, hv2, hu2, hb2⟩
  obtain ⟨a2, n2, c2', rfl⟩ := hv2.isAgg
  obtain ⟨a3, n3, c3, rfl⟩ := hu2.isAgg
  have ba : Below w2.heap.size w2 ((w2.alloc (.cells #[.slice a2 n2 c2'] 45)).alloc (.cells #[.slice a3 n3 c3] 45)) := bel_al (bel_al (bel_refl w2))
  have d2 : ((w2.alloc (.cells #[.slice a2 n2 c2'] 45)).alloc (.cells #[.slice a3 n3 c3] 45)).cell? ⟨w.heap.size + 1 + 1, 0, none⟩ = some (.slice none 0 0) := cell_later ba (cell_later hb2 c2)
  have g2 : ((w2.alloc (.cells #[.slice a2 n2 c2'] 45)).alloc (.cells #[.slice a3 n3 c3] 45)).frozen? ⟨w.heap.size + 1 + 1, 0, none⟩ = false := ((ba.frozen (World.block_lt_of_cell? _ _ (cell_later hb2 c2))).trans ((hb2.frozen (World.block_lt_of_cell? _ _ c2)).trans f2))
  have d3 : ((w2.alloc (.cells #[.slice a2 n2 c2'] 45)).alloc (.cells #[.slice a3 n3 c3] 45)).cell? ⟨w2.heap.size, 0, none⟩ = some (.slice a2 n2 c2') := by simp [go_sem]
  have HV : Hid (IsNat ((w2.alloc (.cells #[.slice a2 n2 c2'] 45)).alloc (.cells #[.slice a3 n3 c3] 45)) (.agg #[.slice a2 n2 c2']) (x / d) ∧ Below w.heap.size w ((w2.alloc (.cells #[.slice a2 n2 c2'] 45)).alloc (.cells #[.slice a3 n3 c3] 45))) := ⟨hv2.mono ba, bel_go B1.out (bel_go hb2 ba)⟩
  clear hv2 hu2 hb2 ba c0 c1
  go_wp2_with fail
  refine bodyPost_ret (v := .agg #[.slice a2 n2 c2']) (by simp [results, Tryz.results70, go_sem, d2]) rfl ⟨_, rfl, HV.out.1.setCell (no_int_slice d2) _, HV.out.2.setCell (by show _ ≤ _ + 1 + 1; omega) _⟩
theorem two_set {w : World} {r : Nat} {a1 a2 : Option Addr} {n1 k1 n2 k2 : Nat} (c0 : w.cell? ⟨r, 0, none⟩ = some (.slice a1 n1 k1)) (c1 : w.cell? ⟨r, 1, none⟩ = some (.slice a2 n2 k2)) (u : Value) :
    (∀ k q, w.cell? ⟨r, 0, none⟩ ≠ some (.int k q)) ∧ ∀ k q, (w.setCell ⟨r, 0, none⟩ u).cell? ⟨r, 1, none⟩ ≠ some (.int k q) := by
  refine ⟨no_int_slice c0, ?_⟩
  rw [World.cell?_setCell_other (h := by simp), c1]
  intro k q e
  cases e
theorem rat_put {w0 w : World} {r : Nat} {a1 a2 : Option Addr} {n1 k1 n2 k2 : Nat} (c0 : w.cell? ⟨r, 0, none⟩ = some (.slice a1 n1 k1)) (c1 : w.cell? ⟨r, 1, none⟩ = some (.slice a2 n2 k2)) {v u : Value} {p q : Nat} {V : Value} (h : Rt w V p q) (hb : Below w0.heap.size w0 w) (hr : w0.heap.size ≤ r) :
    Rt ((w.setCell ⟨r, 0, none⟩ v).setCell ⟨r, 1, none⟩ u) V p q ∧ Below w0.heap.size w0 ((w.setCell ⟨r, 0, none⟩ v).setCell ⟨r, 1, none⟩ u) := by
  obtain ⟨n1, n2⟩ := two_set c0 c1 v
  exact ⟨(h.setCell n1 _).setCell n2 _, (hb.setCell hr _).setCell hr _⟩
theorem nat_put2 {w0 w : World} {r : Nat} {a1 a2 : Option Addr} {n1 k1 n2 k2 : Nat} (c1 : w.cell? ⟨r, 0, none⟩ = some (.slice a1 n1 k1)) (c2 : w.cell? ⟨r + 1, 0, none⟩ = some (.slice a2 n2 k2)) {v u x y : Value} {p q : Nat} (h1 : IsNat w v p) (h2 : IsNat w u q) (hb : Below w0.heap.size w0 w) (hr : w0.heap.size ≤ r) :
    IsNat ((w.setCell ⟨r, 0, none⟩ x).setCell ⟨r + 1, 0, none⟩ y) v p ∧ IsNat ((w.setCell ⟨r, 0, none⟩ x).setCell ⟨r + 1, 0, none⟩ y) u q ∧ Below w0.heap.size w0 ((w.setCell ⟨r, 0, none⟩ x).setCell ⟨r + 1, 0, none⟩ y) := by
  have m1 := no_int_slice c1
  have m2 : ∀ k q, (w.setCell ⟨r, 0, none⟩ x).cell? ⟨r + 1, 0, none⟩ ≠ some (.int k q) := by
    rw [World.cell?_setCell_far _ _ _ _ (by show r ≠ r + 1; omega), c2]
    intro k q e
    cases e
  exact ⟨(h1.setCell m1 _).setCell m2 _, (h2.setCell m1 _).setCell m2 _, (hb.setCell hr _).setCell (by show _ ≤ r + 1; omega) _⟩
def MakesR (w : World) (p q : Nat) (e : Ending) (w' : World) : Prop := ∃ v, e = .returned v ∧ Rt w' v p q ∧ Below w.heap.size w w'
set_option maxHeartbeats 2000000 in
theorem inLowest_any (v u : Value) (p q : Nat) (w : World) (h : IsNat w v p) (k : IsNat w u q) (hp : Fits p) (hq0 : 0 < q) (hg : Nat.gcd p q = 1) :
    Calls Tryz.prog 71 #[v, u] w (MakesR w p q) := by
  obtain ⟨a, n, c, rfl⟩ := h.isAgg
  obtain ⟨a', n', c', rfl⟩ := k.isAgg
  have HH : Hid (IsNat w (.agg #[.slice a n c]) p ∧ IsNat w (.agg #[.slice a' n' c']) q ∧ Fits p ∧ 0 < q ∧ Nat.gcd p q = 1) := ⟨h, k, hp, hq0, hg⟩
  have ba : Hid (Below w.heap.size w (((w.alloc (.cells #[.slice a n c] 45)).alloc (.cells #[.slice a' n' c'] 45)).alloc (.cells #[.slice none 0 0, .slice none 0 0] 47))) := bel_al (bel_al (bel_al (bel_refl w)))
  clear h k hp hq0 hg
  go_enter Tryz.func71, Tryz.ntmps71
  go_wp2_with fail
  refine (isZero_any _ p _ (HH.out.1.mono ba.out) HH.out.2.2.1).mono ?_
  rintro e w1 ⟨rfl, hb1⟩
  have c0 : w1.cell? ⟨w.heap.size, 0, none⟩ = some (.slice a n c) := cell_later hb1 (by simp [go_sem])
  have c1 : w1.cell? ⟨w.heap.size + 1, 0, none⟩ = some (.slice a' n' c') := cell_later hb1 (by simp [go_sem])
  have c2 : w1.cell? ⟨w.heap.size + 1 + 1, 0, none⟩ = some (.slice none 0 0) := cell_later hb1 (by simp [go_sem])
  have c3 : w1.cell? ⟨w.heap.size + 1 + 1, 1, none⟩ = some (.slice none 0 0) := cell_later hb1 (by simp [go_sem])
  have f2 : w1.frozen? ⟨w.heap.size + 1 + 1, 0, none⟩ = false := (hb1.frozen (by simp)).trans (by simp [go_sem])
  have f3 : w1.frozen? ⟨w.heap.size + 1 + 1, 1, none⟩ = false := (hb1.frozen (by simp)).trans (by simp [go_sem])
  have B1 : Hid (Below w.heap.size w w1) := bel_go ba.out hb1
  clear hb1 ba
  by_cases h1 : p = 0
  · have d1 : decide (p = 0) = true := decide_eq_true h1
    have HQ : Hid (p = 0 ∧ q = 1) := ⟨h1, by have := HH.out.2.2.2.2; rw [h1, Nat.gcd_zero_left] at this; exact this⟩
    clear h1
    go_wp2_with fail
    refine bodyPost_ret (v := .agg #[.slice none 0 0, .slice none 0 0]) (by simp [results, Tryz.results71, go_sem, c2, c3]) rfl ⟨_, rfl, ?_⟩
    rw [HQ.out.1, HQ.out.2]
    exact rat_put c2 c3 (rt_zero w1) B1.out (by omega)
  have d1 : decide (p = 0) = false := decide_eq_false h1
  have R1 : Hid (Rt w1 (.agg #[.slice a n c, .slice a' n' c']) p q) := ⟨by rw [if_neg h1]; exact ⟨_, _, _, _, _, _, rfl, HH.out.1.mono B1.out, HH.out.2.1.mono B1.out⟩, HH.out.2.2.2.1, HH.out.2.2.2.2⟩
  clear h1
  go_wp2_with fail
  refine bodyPost_ret (v := .agg #[.slice a n c, .slice a' n' c']) (by simp [results, Tryz.results71, go_sem, c2, c3]) rfl ⟨_, rfl, ?_⟩
  exact rat_put c2 c3 R1.out B1.out (by omega)
def Makes2N (w : World) (p q : Nat) (e : Ending) (w' : World) : Prop := ∃ v u, e = .returned (.tuple #[v, u]) ∧ IsNat w' v p ∧ IsNat w' u q ∧ Below w.heap.size w w'
set_option maxHeartbeats 2000000 in
theorem parts_any (v : Value) (p q : Nat) (w : World) (h : Rt w v p q) (hq : Fits q) :
    Calls Tryz.prog 45 #[v] w (Makes2N w p q) := by
  obtain ⟨a, n, c, a', n', c', rfl, h1, h2⟩ := h.raw
  have HH : Hid (IsNat w (.agg #[.slice a n c]) p ∧ IsNat w (.agg #[.slice a' n' c']) (if p = 0 then 0 else q)) := ⟨h1, h2⟩
  have ba : Hid (Below w.heap.size w (((w.alloc (.cells #[.slice a n c, .slice a' n' c'] 47)).alloc (.cells #[.slice none 0 0] 45)).alloc (.cells #[.slice none 0 0] 45))) := bel_al (bel_al (bel_al (bel_refl w)))
  have hf : Fits (if p = 0 then 0 else q) := by
    split
    · exact (tx_word (by omega)).fits
    exact hq
  have hd : (if p = 0 then 0 else q) = 0 ↔ p = 0 := by
    have := h.pos
    split
    · rename_i e; exact ⟨fun _ => e, fun _ => rfl⟩
    rename_i e; exact ⟨fun e2 => by omega, fun e2 => absurd e2 e⟩
  have HL : Hid (0 < q ∧ Nat.gcd p q = 1) := ⟨h.pos, h.low⟩
  clear h h1 h2
  go_enter Tryz.func45, Tryz.ntmps45
  go_wp2_with fail
  refine (isZero_any _ _ _ (HH.out.2.mono ba.out) hf).mono ?_
  rintro e w1 ⟨rfl, hb1⟩
  have c0 : w1.cell? ⟨w.heap.size, 0, none⟩ = some (.slice a n c) := cell_later hb1 (by simp [go_sem])
  have c0' : w1.cell? ⟨w.heap.size, 1, none⟩ = some (.slice a' n' c') := cell_later hb1 (by simp [go_sem])
  have c1 : w1.cell? ⟨w.heap.size + 1, 0, none⟩ = some (.slice none 0 0) := cell_later hb1 (by simp [go_sem])
  have c2 : w1.cell? ⟨w.heap.size + 1 + 1, 0, none⟩ = some (.slice none 0 0) := cell_later hb1 (by simp [go_sem])
  have f1 : w1.frozen? ⟨w.heap.size + 1, 0, none⟩ = false := (hb1.frozen (by simp)).trans (by simp [go_sem])
  have f2 : w1.frozen? ⟨w.heap.size + 1 + 1, 0, none⟩ = false := (hb1.frozen (by simp)).trans (by simp [go_sem])
  have B1 : Hid (Below w.heap.size w w1) := bel_go ba.out hb1
  obtain ⟨zb, hzb⟩ : ∃ zb, zb = decide ((if p = 0 then 0 else q) = 0) := ⟨_, rfl⟩
  rw [← hzb]
  clear hb1 ba
  by_cases h0 : p = 0
  · have d1 : zb = true := by rw [hzb]; exact decide_eq_true (hd.2 h0)
    have HQ : Hid (p = 0 ∧ q = 1) := ⟨h0, by have := HL.out.2; rw [h0, Nat.gcd_zero_left] at this; exact this⟩
    subst d1
    clear h0 hzb hd hf
    go_wp2_with fail
    refine (of_any 1 _ (by omega)).mono ?_
    rintro e w2 ⟨v2, rfl, hv2, hb2⟩
    obtain ⟨a2, n2, k2, rfl⟩ := hv2.isAgg
    have d1 := cell_later hb2 c1
    have d2 := cell_later hb2 c2
    have g1 : w2.frozen? ⟨w.heap.size + 1, 0, none⟩ = false := (hb2.frozen (World.block_lt_of_cell? _ _ c1)).trans f1
    have g2 : w2.frozen? ⟨w.heap.size + 1 + 1, 0, none⟩ = false := (hb2.frozen (World.block_lt_of_cell? _ _ c2)).trans f2
    have HV : Hid (IsNat w2 (.agg #[.slice a2 n2 k2]) 1 ∧ Below w.heap.size w w2) := ⟨hv2, bel_go B1.out hb2⟩
    clear hv2 hb2 c0 c0' c1 c2 f1 f2
    go_wp2_with fail
    have m1 := no_int_slice d1
    have m2 : ∀ k q, (w2.setCell ⟨w.heap.size + 1, 0, none⟩ (.slice none 0 0)).cell? ⟨w.heap.size + 1 + 1, 0, none⟩ ≠ some (.int k q) := by
      rw [World.cell?_setCell_far _ _ _ _ (by show w.heap.size + 1 ≠ w.heap.size + 1 + 1; omega), d2]
      intro k q e
      cases e
    refine bodyPost_ret (v := .tuple #[.agg #[.slice none 0 0], .agg #[.slice a2 n2 k2]]) (by simp [results, Tryz.results45, go_sem, d1, d2]) rfl ⟨_, _, rfl, by rw [HQ.out.1]; exact isNat_zero _, by rw [HQ.out.2]; exact (HV.out.1.setCell m1 _).setCell m2 _, ?_⟩
    exact (HV.out.2.setCell (by show _ ≤ _ + 1; omega) _).setCell (by show _ ≤ _ + 1 + 1; omega) _
  have d1 : zb = false := by rw [hzb]; exact decide_eq_false (fun e => h0 (hd.1 e))
  have HV : Hid (IsNat w1 (.agg #[.slice a n c]) p ∧ IsNat w1 (.agg #[.slice a' n' c']) q) := ⟨HH.out.1.mono B1.out, by have := HH.out.2.mono B1.out; rw [if_neg h0] at this; exact this⟩
  subst d1
  clear h0 hzb hd hf
  go_wp2_with fail
  go_region
  go_wp2_with fail
  have Z : Hid _ := nat_put2 (x := .slice a n c) (y := .slice a' n' c') c1 c2 HV.out.1 HV.out.2 B1.out (by omega)
  exact bodyPost_ret (v := .tuple #[.agg #[.slice a n c], .agg #[.slice a' n' c']]) (by simp [results, Tryz.results45, go_sem, c1, c2]) rfl ⟨_, _, rfl, Z.out.1.mono (bel_dr (bel_refl _)), Z.out.2.1.mono (bel_dr (bel_refl _)), bel_dr Z.out.2.2⟩
structure RS (x : Nat) : Prop where
  lt : x < P 90
theorem RS.p198 {x : Nat} (h : RS x) : x < P 198 := Nat.lt_trans h.lt (P_lt (by omega))
theorem RS.p99 {x : Nat} (h : RS x) : x < P 99 := Nat.lt_trans h.lt (P_lt (by omega))
theorem RS.small {x : Nat} (h : RS x) : Small x := small_198 h.p198
theorem RS.fits {x : Nat} (h : RS x) : Fits x := h.small.fits
theorem RS.le {x y : Nat} (h : RS x) (hy : y ≤ x) : RS y := ⟨Nat.lt_of_le_of_lt hy h.lt⟩
end Go.Proofs.YtfkkomppfghagaaGreatDoor
